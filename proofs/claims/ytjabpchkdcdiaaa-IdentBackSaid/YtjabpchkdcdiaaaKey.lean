/- Split of the document; the keys. -/
import Derived.Test.YtjabpchkdcdiaaaSpl
namespace Go.Proofs.Ytjabpchkdcdiaaa
open Go.RowKit
set_option linter.unusedVariables false
set_option maxHeartbeats 800000 in
theorem rsplit_any (s : ByteArray) (w : World) (hs : s.size ≤ maxLen) :
    Calls Try.prog 8 #[.string s] w fun e w' => e = .returned (.tuple #[.string (spl s).1, .string (spl s).2.1, .bool (spl s).2.2]) ∧ ∃ n, w' = w.drewN n := by
  have hs' := hs
  unfold maxLen at hs
  go_enter Try.func8, Try.ntmps8
  go_wp2
  go_loop [5] (fun i => ∃ k : Nat, k ≤ s.size ∧ i = .int .i64 k ∧ Hid (∀ j (hj : j < s.size), j < k → s[j] ≠ 47)) (fun i => s.size - (intOf i).toNat)
  case atStart => exact ⟨0, Nat.zero_le _, rfl, fun j _ h => absurd h (by omega)⟩
  case round =>
    obtain ⟨k, hk, rfl, hno⟩ := hrel
    by_cases hlt : k < s.size
    · by_cases h47 : s[k] = 47
      · have hb : ((s[k].toNat : Int) == 47) = true := by rw [h47]; rfl
        have HS := Lib.hid (spl_at (ix_some s k hlt hno.out h47))
        have z1 := Lib.hid (ext_size (a := 0) (b := k) hs')
        have z2 := Lib.hid (ext_size (a := k + 1) (b := s.size) hs')
        clear hno h47
        have g1 : (0 : Int) ≤ (k : Int) := by omega
        have g2 : (k : Int) ≤ (s.size : Int) := by omega
        have g3 : (0 : Int) ≤ (k : Int) + 1 := by omega
        have g4 : (k : Int) + 1 ≤ (s.size : Int) := by omega
        cases h1 : nameB (s.extract 0 k).data.toList
        · have HS2 := Lib.hid (HS.out.trans (by rw [h1]))
          have H1 := Lib.hid h1
          clear h1
          go_wp2_with (go_at_call 10; refine (rname_any _ _ z1.out).mono ?_; rintro e w' ⟨rfl, rfl⟩; rw [H1.out])
          go_ret3
          exact ⟨ret_spl HS2.out, 0, rfl⟩
        cases h2 : nameB (s.extract (k + 1) s.size).data.toList
        all_goals
          have HS2 := Lib.hid (HS.out.trans (by rw [h1, h2]))
          have H1 := Lib.hid h1
          have H2 := Lib.hid h2
          clear h1 h2
          go_wp2_with fail
          refine (rname_any _ _ z1.out).mono ?_; rintro e w' ⟨rfl, rfl⟩
          rw [H1.out]
          go_wp2_with fail
          refine (rname_any _ _ z2.out).mono ?_; rintro e w' ⟨rfl, rfl⟩
          rw [H2.out]
          go_wp2
          try (go_quiet (fail); go_wp2)
          go_ret3
          first
          | exact ⟨ret_spl HS2.out, 0, rfl⟩
          | exact ⟨ret_spl HS2.out, _, rfl⟩
      · have hb : ((s[k].toNat : Int) == 47) = false := by
          rw [beq_eq_false_iff_ne]
          intro h
          exact h47 (UInt8.toNat_inj.1 (by show s[k].toNat = 47; omega))
        have HN : Hid (∀ j (hj : j < s.size), j < k + 1 → s[j] ≠ 47) := fun j hj hjk => by
          rcases Nat.lt_or_ge j k with c | c
          · exact hno.out j hj c
          · obtain rfl : j = k := by omega
            exact h47
        clear h47 hno
        go_wp2
        go_round
        case rel => exact ⟨k + 1, by omega, by go_num, HN⟩
        case measure => simp [intOf]; omega
    · have HS := Lib.hid (spl_no (show ixS s < 0 by rw [ix_none s fun j hj => hno.out j hj (by omega)]; omega))
      clear hno
      go_wp2
      go_ret3
      exact ⟨ret_spl HS.out, 0, rfl⟩
def keyB (a b : ByteArray) : ByteArray := if nameB a.data.toList && nameB b.data.toList then (a ++ ⟨#[47]⟩) ++ b else ⟨#[]⟩
theorem keyB_no1 {a b : ByteArray} (h : nameB a.data.toList = false) : keyB a b = ⟨#[]⟩ := by unfold keyB; rw [h]; rfl
theorem keyB_no2 {a b : ByteArray} (h : nameB b.data.toList = false) : keyB a b = ⟨#[]⟩ := by unfold keyB; rw [h, Bool.and_false]; rfl
theorem keyB_yes {a b : ByteArray} (h : nameB a.data.toList = true) (h2 : nameB b.data.toList = true) : keyB a b = (a ++ ⟨#[47]⟩) ++ b := by unfold keyB; rw [h, h2]; rfl
theorem ret_str {a b : ByteArray} (h : a = b) : Ending.returned (Value.string a) = .returned (.string b) := by rw [h]
theorem name_len {a : ByteArray} (h : nameB a.data.toList = true) : 1 ≤ a.size ∧ a.size ≤ 16 := by
  simp only [nameB, Bool.and_eq_true, decide_eq_true_eq] at h
  rw [Lib.size_eq]
  exact ⟨h.1.1.1.1, h.1.1.1.2⟩
theorem key_any (a b : ByteArray) (w : World) (ha : a.size ≤ maxLen) (hb : b.size ≤ maxLen) :
    Calls Try.prog 13 #[.string a, .string b] w fun e w' => e = .returned (.string (keyB a b)) ∧ w = w' := by
  cases h1 : nameB a.data.toList
  · have HK := Lib.hid (keyB_no1 (b := b) h1)
    go_enter Try.func13, Try.ntmps13
    go_wp2_with (go_at_call 9; refine (name_any _ _ ha).mono ?_; rintro e w' ⟨rfl, rfl⟩)
    go_ret
    exact ⟨ret_str HK.out.symm, rfl⟩
  cases h2 : nameB b.data.toList
  · have HK := Lib.hid (keyB_no2 (a := a) h2)
    go_enter Try.func13, Try.ntmps13
    go_wp2_with fail
    refine (name_any _ _ ha).mono ?_; rintro e w' ⟨rfl, rfl⟩
    go_wp2_with fail
    refine (name_any _ _ hb).mono ?_; rintro e w' ⟨rfl, rfl⟩
    go_wp2
    go_ret
    exact ⟨ret_str HK.out.symm, rfl⟩
  · have HK := Lib.hid (keyB_yes h1 h2)
    have l1 := (name_len h1).2
    have l2 := (name_len h2).2
    have z1 : a.size + 1 ≤ 9223372036854775807 := by omega
    have z2 : (a ++ ByteArray.mk #[47]).size = a.size + 1 := by rw [ByteArray.size_append]; rfl
    have z3 : ¬ ((a ++ ByteArray.mk #[47]).size + b.size > 9223372036854775807) := by rw [z2]; omega
    have Z2 := Lib.hid z2
    clear z2
    go_enter Try.func13, Try.ntmps13
    go_wp2_with fail
    refine (name_any _ _ ha).mono ?_; rintro e w' ⟨rfl, rfl⟩
    go_wp2_with fail
    refine (name_any _ _ hb).mono ?_; rintro e w' ⟨rfl, rfl⟩
    go_wp2
    go_ret
    exact ⟨ret_str HK.out.symm, rfl⟩
theorem rkey_any (a b : ByteArray) (w : World) (ha : a.size ≤ maxLen) (hb : b.size ≤ maxLen) :
    Calls Try.prog 14 #[.string a, .string b] w fun e w' => e = .returned (.string (keyB a b)) ∧ w = w' := by
  cases h1 : nameB a.data.toList
  · have HK := Lib.hid (keyB_no1 (b := b) h1)
    go_enter Try.func14, Try.ntmps14
    go_wp2_with (go_at_call 10; refine (rname_any _ _ ha).mono ?_; rintro e w' ⟨rfl, rfl⟩)
    go_ret
    exact ⟨ret_str HK.out.symm, rfl⟩
  cases h2 : nameB b.data.toList
  · have HK := Lib.hid (keyB_no2 (a := a) h2)
    go_enter Try.func14, Try.ntmps14
    go_wp2_with fail
    refine (rname_any _ _ ha).mono ?_; rintro e w' ⟨rfl, rfl⟩
    go_wp2_with fail
    refine (rname_any _ _ hb).mono ?_; rintro e w' ⟨rfl, rfl⟩
    go_wp2
    go_ret
    exact ⟨ret_str HK.out.symm, rfl⟩
  · have HK := Lib.hid (keyB_yes h1 h2)
    have l1 := (name_len h1).2
    have l2 := (name_len h2).2
    have z1 : a.size + 1 ≤ 9223372036854775807 := by omega
    have z2 : (a ++ ByteArray.mk #[47]).size = a.size + 1 := by rw [ByteArray.size_append]; rfl
    have z3 : ¬ ((a ++ ByteArray.mk #[47]).size + b.size > 9223372036854775807) := by rw [z2]; omega
    have Z2 := Lib.hid z2
    clear z2
    go_enter Try.func14, Try.ntmps14
    go_wp2_with fail
    refine (rname_any _ _ ha).mono ?_; rintro e w' ⟨rfl, rfl⟩
    go_wp2_with fail
    refine (rname_any _ _ hb).mono ?_; rintro e w' ⟨rfl, rfl⟩
    go_wp2
    go_ret
    exact ⟨ret_str HK.out.symm, rfl⟩
end Go.Proofs.Ytjabpchkdcdiaaa
