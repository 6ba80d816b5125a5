/- Tags read. -/
import Derived.Test.YtdjibpjdgfhcoaaTag
namespace Go.Proofs.Ytdjibpjdgfhcoaa
open Go.RowKit
set_option linter.unusedVariables false
def upto (s : ByteArray) (i : Nat) : List UInt8 := (s.data.toList.drop 1).take (i - 1)
theorem upto_snoc (s : ByteArray) (i : Nat) (h1 : 1 ≤ i) (h : i < s.size) : upto s (i + 1) = upto s i ++ [s[i]] := by
  unfold upto
  have hl : s.data.toList.length = s.size := (Lib.size_eq s).symm
  rw [show i + 1 - 1 = (i - 1) + 1 by omega, List.take_succ_eq_append_getElem (by rw [List.length_drop]; omega)]
  congr 2
  rw [List.getElem_drop]
  simp only [show 1 + (i - 1) = i by omega]
  rfl
theorem upto_mid (s : ByteArray) (h : 4 ≤ s.size) (i : Nat) (h1 : 1 ≤ i) (h2 : ¬ i < s.size - 2) (h3 : i ≤ s.size - 2) : upto s i = mid s.data.toList := by
  unfold upto mid
  have hl : s.data.toList.length = s.size := (Lib.size_eq s).symm
  rw [hl, show i - 1 = s.size - 3 by omega]
theorem upto_cut (s : ByteArray) (i : Nat) (h1 : 1 ≤ i) (h2 : i ≤ s.size - 2) (h : rds (upto s i) = none) : rds (mid s.data.toList) = none := by
  have hl : s.data.toList.length = s.size := (Lib.size_eq s).symm
  have e : mid s.data.toList = upto s i ++ ((s.data.toList.drop 1).take (s.size - 3)).drop (i - 1) := by
    unfold mid upto
    rw [hl]
    have := List.take_append_drop (i - 1) ((s.data.toList.drop 1).take (s.size - 3))
    rw [List.take_take, show min (i - 1) (s.size - 3) = i - 1 by omega] at this
    exact this.symm
  rw [e]
  exact rds_cut _ _ h
theorem prs_short {s : ByteArray} (h : s.size < 4) : prs s = (0, false) := by unfold prs; rw [if_pos h]
theorem prs_none {s : ByteArray} (h : rds (mid s.data.toList) = none) : prs s = (0, false) := by
  unfold prs
  split
  · rfl
  · rw [h]
theorem prs_bad {s : ByteArray} {v : Int} (h : rds (mid s.data.toList) = some v) (hv : v < 1 ∨ shw v ≠ s) : prs s = (0, false) := by
  unfold prs
  split
  · rfl
  · rw [h]; simp only []; rw [if_pos hv]
theorem prs_ok {s : ByteArray} {v : Int} (h4 : ¬ s.size < 4) (h : rds (mid s.data.toList) = some v) (hv : ¬ v < 1) (hs : shw v = s) : prs s = (v, true) := by
  unfold prs
  rw [if_neg h4, h]
  simp only []
  rw [if_neg (by intro h; rcases h with h | h; exact hv h; exact h hs)]
theorem ret_prs {a b : Int} {c d : Bool} (h : (a, c) = (b, d)) : Ending.returned (.tuple #[.int .i64 b, .bool d]) = Ending.returned (.tuple #[.int .i64 a, .bool c]) := by
  injection h with h1 h2; subst h1 h2; rfl
theorem ne_str {a b : ByteArray} (h : a ≠ b) : (a.toList == b.toList) = false := by
  rw [ByteArray.toList_eq, ByteArray.toList_eq, beq_eq_false_iff_ne]
  exact fun e => h (WideShapes.bytes_inj e)
theorem ne_str' {a b : ByteArray} (h : a ≠ b) : (a.toList != b.toList) = true := by
  have := ne_str h
  simp only [bne, this]; rfl
theorem digs_len13 (n : Nat) (h : n < 9223372036854775808) : (digs n).length ≤ 13 := by
  have h1 : n < 32 ^ 13 := by
    have : (9223372036854775808 : Nat) < 32 ^ 13 := by decide
    omega
  show (digsF (13 + 1) n).length ≤ 13
  rw [digsF_more 13 n h1]
  exact digsF_len _ _
theorem shw_size (v : Int) (h : v ≤ 9223372036854775807) : (shw v).size ≤ 16 := by
  unfold shw
  split
  · decide
  · rw [Lib.size_eq]
    show (shL _).length ≤ 16
    rw [shL_len]
    have := digs_len13 v.toNat (by omega)
    omega
theorem prs_long {s : ByteArray} (h : 16 < s.size) : prs s = (0, false) := by
  match e : rds (mid s.data.toList) with
  | none => exact prs_none e
  | some v =>
    refine prs_bad e (.inr fun he => ?_)
    have h1 := shw_size v (rds_rng _ _ e).2
    rw [he] at h1
    omega
set_option maxHeartbeats 1600000 in
theorem parse_any (s : ByteArray) (w : World) (hs : s.size ≤ 1000) :
    Calls Try.prog 8 #[.string s] w fun e w' => e = .returned (.tuple #[.int .i64 (prs s).1, .bool (prs s).2]) ∧ w = w' := by
  by_cases h4 : s.size < 4
  · have HP := Lib.hid (prs_short h4)
    go_enter Try.func8, Try.ntmps8
    go_wp2
    go_ret2
    exact ⟨ret_prs HP.out, rfl⟩
  · go_enter Try.func8, Try.ntmps8
    go_wp2
    go_loop [4, 5] (fun v i => ∃ (k : Nat) (x : Int), 1 ≤ k ∧ k ≤ s.size - 2 ∧ i = .int .i64 k ∧ v = .int .i64 x ∧ Hid (rds (upto s k) = some x)) (fun _ i => s.size - (intOf i).toNat)
    case atStart => exact ⟨1, 0, by omega, by omega, rfl, rfl, by show _ = _; simp [upto, rds]⟩
    case round =>
      obtain ⟨k, x, hk1, hk2, rfl, rfl, hr⟩ := hrel
      obtain ⟨x0, x1⟩ := rds_rng _ _ hr.out
      by_cases hlt : k < s.size - 2
      · have i1 := ix_lt s[k]
        have i2 := ix_ge s[k]
        have HS := Lib.hid (show rds (upto s (k + 1)) = rd (some x) s[k] by rw [upto_snoc s k hk1 (by omega), rds_snoc, hr.out])
        have g1 : (k : Int) < (s.size : Int) - 2 := by omega
        by_cases hb : ix s[k] < 0 ∨ (9223372036854775807 - ix s[k]) / 32 < x
        · have HP := Lib.hid (prs_none (upto_cut s (k + 1) (by omega) (by omega) (by rw [HS.out]; simp only [rd]; rw [if_pos hb])))
          rcases hb with hb | hb
          · go_wp2_with fail
            refine (idx_any s[k] _).mono ?_; rintro e w' ⟨rfl, rfl⟩
            go_wp2
            go_ret2
            exact ⟨ret_prs HP.out, rfl⟩
          · by_cases hb0 : ix s[k] < 0
            all_goals
              go_wp2_with fail
              refine (idx_any s[k] _).mono ?_; rintro e w' ⟨rfl, rfl⟩
              go_wp2
              go_ret2
              exact ⟨ret_prs HP.out, rfl⟩
        · have HV : Hid (rds (upto s (k + 1)) = some (x * 32 + ix s[k])) := by show _ = _; rw [HS.out]; simp only [rd]; rw [if_neg hb]
          have hb1 : 0 ≤ ix s[k] := by omega
          have hb2 : x ≤ (9223372036854775807 - ix s[k]) / 32 := by omega
          clear hb
          go_wp2_with fail
          refine (idx_any s[k] _).mono ?_; rintro e w' ⟨rfl, rfl⟩
          go_wp2
          exact ⟨⟨k + 1, _, by omega, by omega, by go_num, rfl, HV⟩, by simp [intOf]; omega⟩
      · have HM : Hid (rds (mid s.data.toList) = some x) := by have := hr.out; rw [upto_mid s (by omega) k hk1 hlt hk2] at this; exact this
        have g1 : (s.size : Int) - 2 ≤ (k : Int) := by omega
        by_cases he : shw x = s
        · have hx : ¬ x < 1 := by
            intro hx
            rw [shw_lt hx] at he
            have := congrArg ByteArray.size he
            have e0 : (ByteArray.mk #[]).size = 0 := rfl
            omega
          have HP := Lib.hid (prs_ok h4 HM.out hx he)
          have HE := Lib.hid he
          clear he
          go_wp2_with fail
          refine (show_any x _ (by omega) x1).mono ?_; rintro e w' ⟨rfl, rfl⟩
          rw [HE.out]
          go_wp2
          go_ret2
          exact ⟨ret_prs HP.out, rfl⟩
        · have HP := Lib.hid (prs_bad HM.out (.inr he))
          have hne := ne_str he
          clear he
          go_wp2_with fail
          refine (show_any x _ (by omega) x1).mono ?_; rintro e w' ⟨rfl, rfl⟩
          go_wp2
          go_ret2
          exact ⟨ret_prs HP.out, rfl⟩
set_option maxHeartbeats 1600000 in
theorem version_any (s : ByteArray) (w : World) (hs : s.size ≤ 1000) :
    Calls Try.prog 9 #[.string s] w fun e w' => e = .returned (.tuple #[.int .i64 (prs s).1, .bool (prs s).2]) ∧ w = w' := by
  by_cases h4 : s.size < 4
  · have HP := Lib.hid (prs_short h4)
    go_enter Try.func9, Try.ntmps9
    go_wp2
    go_ret2
    exact ⟨ret_prs HP.out, rfl⟩
  by_cases h16 : 16 < s.size
  · have HP := Lib.hid (prs_long h16)
    go_enter Try.func9, Try.ntmps9
    go_wp2
    go_ret2
    exact ⟨ret_prs HP.out, rfl⟩
  · go_enter Try.func9, Try.ntmps9
    go_wp2
    go_loop [4, 5] (fun v i => ∃ (k : Nat) (x : Int), 1 ≤ k ∧ k ≤ s.size - 2 ∧ i = .int .i64 k ∧ v = .int .i64 x ∧ Hid (rds (upto s k) = some x)) (fun _ i => s.size - (intOf i).toNat)
    case atStart => exact ⟨1, 0, by omega, by omega, rfl, rfl, by show _ = _; simp [upto, rds]⟩
    case round =>
      obtain ⟨k, x, hk1, hk2, rfl, rfl, hr⟩ := hrel
      obtain ⟨x0, x1⟩ := rds_rng _ _ hr.out
      by_cases hlt : k < s.size - 2
      · have i1 := ix_lt s[k]
        have i2 := ix_ge s[k]
        have HS := Lib.hid (show rds (upto s (k + 1)) = rd (some x) s[k] by rw [upto_snoc s k hk1 (by omega), rds_snoc, hr.out])
        have g1 : (k : Int) < (s.size : Int) - 2 := by omega
        by_cases hb : ix s[k] < 0 ∨ (9223372036854775807 - ix s[k]) / 32 < x
        · have HP := Lib.hid (prs_none (upto_cut s (k + 1) (by omega) (by omega) (by rw [HS.out]; simp only [rd]; rw [if_pos hb])))
          rcases hb with hb | hb
          · go_wp2_with fail
            refine (place_any s[k] _).mono ?_; rintro e w' ⟨rfl, rfl⟩
            go_wp2
            go_ret2
            exact ⟨ret_prs HP.out, rfl⟩
          · by_cases hb0 : ix s[k] < 0
            all_goals
              go_wp2_with fail
              refine (place_any s[k] _).mono ?_; rintro e w' ⟨rfl, rfl⟩
              go_wp2
              go_ret2
              exact ⟨ret_prs HP.out, rfl⟩
        · have HV : Hid (rds (upto s (k + 1)) = some (x * 32 + ix s[k])) := by show _ = _; rw [HS.out]; simp only [rd]; rw [if_neg hb]
          have hb1 : 0 ≤ ix s[k] := by omega
          have hb2 : x ≤ (9223372036854775807 - ix s[k]) / 32 := by omega
          clear hb
          go_wp2_with fail
          refine (place_any s[k] _).mono ?_; rintro e w' ⟨rfl, rfl⟩
          go_wp2
          exact ⟨⟨k + 1, _, by omega, by omega, by go_num, rfl, by have h := HV.out; rw [Int.mul_comm x 32] at h; exact h⟩, by simp [intOf]; omega⟩
      · have HM : Hid (rds (mid s.data.toList) = some x) := by have := hr.out; rw [upto_mid s (by omega) k hk1 hlt hk2] at this; exact this
        have g1 : (s.size : Int) - 2 ≤ (k : Int) := by omega
        by_cases hx : x < 1
        · have HP := Lib.hid (prs_bad HM.out (.inl hx))
          go_wp2
          go_ret2
          exact ⟨ret_prs HP.out, rfl⟩
        by_cases he : shw x = s
        · have HP := Lib.hid (prs_ok h4 HM.out hx he)
          have HE := Lib.hid he
          clear he
          go_wp2_with fail
          refine (tag_any x _ (by omega) x1).mono ?_; rintro e w' ⟨rfl, rfl⟩
          rw [HE.out]
          go_wp2
          go_ret2
          exact ⟨ret_prs HP.out, rfl⟩
        · have HP := Lib.hid (prs_bad HM.out (.inr he))
          have hne := ne_str he
          clear he
          go_wp2_with fail
          refine (tag_any x _ (by omega) x1).mono ?_; rintro e w' ⟨rfl, rfl⟩
          go_wp2
          go_ret2
          exact ⟨ret_prs HP.out, rfl⟩
end Go.Proofs.Ytdjibpjdgfhcoaa
