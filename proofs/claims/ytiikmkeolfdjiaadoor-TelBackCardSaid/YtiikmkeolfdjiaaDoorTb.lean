/- TelBack. -/
import Derived.Test.YtiikmkeolfdjiaaDoorTa
import Derived.Deep.RegionWith
namespace Go.Proofs.YtiikmkeolfdjiaaDoor
open Go.RowKit
open Go.Lib hiding intOf
set_option linter.unusedVariables false
set_option maxRecDepth 100000
set_option maxHeartbeats 2000000 in
theorem back_big (w : World) (hT : Tabs w) (a : ByteArray) (x y : Int) (h : 200 < a.size) : Calls Tryd.prog 4 #[.string a, .int .i64 x, .int .i64 y] w fun e w' => e = .returned (.bool true) ∧ Below w.heap.size w w' := by
  have HF := Lib.hid (first_on hT)
  have HB0 := Lib.hid (Below.refl w.heap.size w)
  have h1 : (a.size : Int) > 200 := by omega
  clear hT h
  go_enter Tryd.func4, Tryd.ntmps4
  go_wp2_with (go_at_call 6; with_reducible refine (HF.out _ HB0.out).mono ?_)
  rintro e v1 ⟨rfl, hb⟩
  have HB1 := Lib.hid hb
  clear hb
  go_wp2_with (go_at_call 6; with_reducible refine (HF.out _ HB1.out).mono ?_)
  rintro e v2 ⟨rfl, hb⟩
  have HB2 := Lib.hid hb
  clear hb
  go_wp2
  go_ret
  exact ⟨rfl, HB2.out⟩
set_option maxHeartbeats 2000000 in
theorem back_none (w : World) (hT : Tabs w) (a : ByteArray) (x y : Int) (h1 : (a.size : Int) ≤ 200) (k : Int) (hk : k ≠ 0) (hs : telS a = (⟨#[]⟩, k)) (hb : telB a.data.toList = false) : Calls Tryd.prog 4 #[.string a, .int .i64 x, .int .i64 y] w fun e w' => e = .returned (.bool true) ∧ Below w.heap.size w w' := by
  have HF := Lib.hid (first_on hT)
  have HB0 := Lib.hid (Below.refl w.heap.size w)
  have HC := Lib.hid (fun v => canon_on (w := w) hT a (by omega) _ _ hs v)
  have HI := Lib.hid (fun v => is_on (w := w) a (by omega) _ hb v)
  have hk' : (k != 0) = true := by simpa using hk
  clear hT hs hb hk
  go_enter Tryd.func4, Tryd.ntmps4
  go_wp2_with (go_at_call 6; with_reducible refine (HF.out _ HB0.out).mono ?_)
  rintro e v1 ⟨rfl, hb⟩
  have HB1 := Lib.hid hb
  clear hb
  go_wp2_with (go_at_call 7; with_reducible refine (HC.out _ HB1.out).mono ?_)
  rintro e v2 ⟨rfl, hb⟩
  have HB2 := Lib.hid hb
  clear hb
  go_wp2_with (go_at_call 9; with_reducible refine (HI.out _ HB2.out).mono ?_)
  rintro e v3 ⟨rfl, hb⟩
  have HB3 := Lib.hid hb
  clear hb
  go_wp2
  go_ret
  exact ⟨rfl, HB3.out⟩
theorem i64_and (a b : Int) (h3 : 0 ≤ b) (h4 : b < 9223372036854775808) : bits .and .i64 a b = (((BitVec.ofInt 64 a).toNat &&& b.toNat : Nat) : Int) := by
  obtain ⟨B, rfl⟩ := Int.eq_ofNat_of_zero_le h3
  have hx : (BitVec.ofInt 64 a).toNat &&& B < 2 ^ 63 := Nat.and_lt_two_pow _ (by omega)
  show IntKind.i64.wrap ((BitVec.ofInt 64 a &&& BitVec.ofInt 64 (B : Int)).toNat : Int) = _
  rw [BitVec.toNat_and, ofInt_u64 B (by omega), IntWalk.i64_in _ (by omega)]
  rfl
theorem i64_low (a : Int) (i : Nat) (hi : i < 63) : bits .and .i64 a (2 ^ i - 1) = a % 2 ^ i := by
  have hp : (2 : Int) ^ i ≤ 2 ^ 62 := by exact_mod_cast Nat.pow_le_pow_right (by omega) (show i ≤ 62 by omega)
  have hq : (0 : Int) < 2 ^ i := by exact_mod_cast Nat.two_pow_pos i
  have e : ((2 : Int) ^ i - 1).toNat = 2 ^ i - 1 := by have : ((2 : Int) ^ i) = ((2 ^ i : Nat) : Int) := by push_cast; rfl
                                                       omega
  rw [i64_and a _ (by omega) (by omega), e, Nat.and_two_pow_sub_one_eq_mod, BitVec.toNat_ofInt]
  have h64 : ((2 : Int) ^ i) ∣ 2 ^ 64 := by exact_mod_cast Int.natCast_dvd_natCast.2 (Nat.pow_dvd_pow 2 (show i ≤ 64 by omega))
  rw [Int.natCast_emod, Int.toNat_of_nonneg (Int.emod_nonneg _ (by decide))]
  rw [show (((2 ^ i : Nat) : Int)) = 2 ^ i by exact_mod_cast rfl]
  exact Int.emod_emod_of_dvd _ h64
/-- The signs that may stand between. -/
def sgn (j : Nat) : UInt8 := [32, 45, 46, 47, 40, 41].getD j 0
theorem sgn_betw : ∀ j, j < 6 → betw (sgn j) = true := by decide
set_option maxHeartbeats 8000000 in
theorem back_some (w : World) (hT : Tabs w) (a : ByteArray) (x y : Int) (h1 : (a.size : Int) ≤ 200) (s S : ByteArray) (hs : telS a = (s, 0)) (hb : telB s.data.toList = true)
    (m k j : Nat) (hm : bits .and .i64 x 65535 = (m : Int)) (hmr : m ≤ 65535) (hk : (m : Int) % ((s.size : Int) + 1) = (k : Int)) (Y : Int) (hy : bits .and .i64 y 255 = Y) (hY0 : 0 ≤ Y) (hY1 : Y % 6 = (j : Int)) (hj6 : j < 6)
    (hks : k ≤ s.size) (hs16 : s.size ≤ 16) (hS : (⟨(showL s.data.toList).toArray⟩ : ByteArray) = S) (hSs : (s.size : Int) ≤ (S.size : Int)) (hS31 : S.size ≤ 31)
    (c1 : telS S = (s, 0)) (c2 : telS ((s.extract 0 k ++ ⟨#[sgn j]⟩) ++ s.extract k s.size) = (s, 0)) (c3 : telS s = (s, 0)) :
    Calls Tryd.prog 4 #[.string a, .int .i64 x, .int .i64 y] w fun e w' => e = .returned (.bool true) ∧ Below w.heap.size w w' := by
  have HF := Lib.hid (first_on hT)
  have HB0 := Lib.hid (Below.refl w.heap.size w)
  have HC := Lib.hid (fun v => canon_on (w := w) hT a (by omega) _ _ hs v)
  have HS := Lib.hid (fun v => show_on (w := w) s (by omega) _ hS v)
  have HC1 := Lib.hid (fun v => canon_on (w := w) hT S (by omega) _ _ c1 v)
  have hcs : ((s.extract 0 k ++ ⟨#[sgn j]⟩) ++ s.extract k s.size).size ≤ 1000 := by
    rw [ByteArray.size_append, ByteArray.size_append, ByteArray.size_extract, ByteArray.size_extract]
    show _ + 1 + _ ≤ _
    omega
  have HC2 := Lib.hid (fun v => canon_on (w := w) hT _ (Nat.le_trans hcs (by decide)) _ _ c2 v)
  have HC3 := Lib.hid (fun v => canon_on (w := w) hT s (by omega) _ _ c3 v)
  have HI := Lib.hid (fun v => is_on (w := w) s (by omega) _ hb v)
  have ess : (s.toList == s.toList) = true := by simp
  have hs16I : (s.size : Int) ≤ 16 := by omega
  clear hT hs hb hS hS31 c1 c2 c3
  go_enter Tryd.func4, Tryd.ntmps4
  go_wp2_with (go_at_call 6; with_reducible refine (HF.out _ HB0.out).mono ?_)
  rintro e v1 ⟨rfl, hb⟩
  have HB1 := Lib.hid hb
  clear hb
  go_wp2_with (go_at_call 7; with_reducible refine (HC.out _ HB1.out).mono ?_)
  rintro e v2 ⟨rfl, hb⟩
  have HB2 := Lib.hid hb
  clear hb
  go_wp2_with (go_at_call 11; with_reducible refine (HS.out _ HB2.out).mono ?_)
  rintro e v3 ⟨rfl, hb⟩
  have HB3 := Lib.hid hb
  clear hb
  go_wp2_with (go_at_call 7; with_reducible refine (HC1.out _ HB3.out).mono ?_)
  rintro e v4 ⟨rfl, hb⟩
  have HB4 := Lib.hid hb
  clear hb
  go_wp2
  have hkI : (k : Int) ≤ (s.size : Int) := by omega
  have hY2 : Y.tmod 6 = (j : Int) := by rw [Int.tmod_eq_emod_of_nonneg hY0]; exact hY1
  rcases (show j = 0 ∨ j = 1 ∨ j = 2 ∨ j = 3 ∨ j = 4 ∨ j = 5 by omega) with rfl | rfl | rfl | rfl | rfl | rfl
  · have HD := Lib.hid (show ∀ v, Below w.heap.size w v → Calls Tryd.prog 7 #[.string ((s.extract 0 k ++ ⟨#[32]⟩) ++ s.extract k s.size)] v (fun e v' => e = .returned (.tuple #[.string s, .int .i64 0]) ∧ Below w.heap.size w v') from HC2.out)
    go_region_with (go_at_call 7; (with_reducible refine (HD.out _ ((HB4.out.alloc HB4.out.size _).drew)).mono ?_); rintro e v5 ⟨rfl, hb⟩; have HB5 := Lib.hid hb; clear hb)
    go_wp2_with (go_at_call 7; with_reducible refine (HC3.out _ HB5.out).mono ?_)
    rintro e v6 ⟨rfl, hb⟩
    have HB6 := Lib.hid hb
    clear hb
    go_wp2_with (go_at_call 9; with_reducible refine (HI.out _ HB6.out).mono ?_)
    rintro e v7 ⟨rfl, hb⟩
    have HB7 := Lib.hid hb
    clear hb
    go_wp2_with (go_at_call 11; with_reducible refine (HS.out _ HB7.out).mono ?_)
    rintro e v8 ⟨rfl, hb⟩
    have HB8 := Lib.hid hb
    clear hb
    go_wp2
    go_ret
    exact ⟨rfl, HB8.out⟩
  · have HD := Lib.hid (show ∀ v, Below w.heap.size w v → Calls Tryd.prog 7 #[.string ((s.extract 0 k ++ ⟨#[45]⟩) ++ s.extract k s.size)] v (fun e v' => e = .returned (.tuple #[.string s, .int .i64 0]) ∧ Below w.heap.size w v') from HC2.out)
    go_region_with (go_at_call 7; (with_reducible refine (HD.out _ ((HB4.out.alloc HB4.out.size _).drew)).mono ?_); rintro e v5 ⟨rfl, hb⟩; have HB5 := Lib.hid hb; clear hb)
    go_wp2_with (go_at_call 7; with_reducible refine (HC3.out _ HB5.out).mono ?_)
    rintro e v6 ⟨rfl, hb⟩
    have HB6 := Lib.hid hb
    clear hb
    go_wp2_with (go_at_call 9; with_reducible refine (HI.out _ HB6.out).mono ?_)
    rintro e v7 ⟨rfl, hb⟩
    have HB7 := Lib.hid hb
    clear hb
    go_wp2_with (go_at_call 11; with_reducible refine (HS.out _ HB7.out).mono ?_)
    rintro e v8 ⟨rfl, hb⟩
    have HB8 := Lib.hid hb
    clear hb
    go_wp2
    go_ret
    exact ⟨rfl, HB8.out⟩
  · have HD := Lib.hid (show ∀ v, Below w.heap.size w v → Calls Tryd.prog 7 #[.string ((s.extract 0 k ++ ⟨#[46]⟩) ++ s.extract k s.size)] v (fun e v' => e = .returned (.tuple #[.string s, .int .i64 0]) ∧ Below w.heap.size w v') from HC2.out)
    go_region_with (go_at_call 7; (with_reducible refine (HD.out _ ((HB4.out.alloc HB4.out.size _).drew)).mono ?_); rintro e v5 ⟨rfl, hb⟩; have HB5 := Lib.hid hb; clear hb)
    go_wp2_with (go_at_call 7; with_reducible refine (HC3.out _ HB5.out).mono ?_)
    rintro e v6 ⟨rfl, hb⟩
    have HB6 := Lib.hid hb
    clear hb
    go_wp2_with (go_at_call 9; with_reducible refine (HI.out _ HB6.out).mono ?_)
    rintro e v7 ⟨rfl, hb⟩
    have HB7 := Lib.hid hb
    clear hb
    go_wp2_with (go_at_call 11; with_reducible refine (HS.out _ HB7.out).mono ?_)
    rintro e v8 ⟨rfl, hb⟩
    have HB8 := Lib.hid hb
    clear hb
    go_wp2
    go_ret
    exact ⟨rfl, HB8.out⟩
  · have HD := Lib.hid (show ∀ v, Below w.heap.size w v → Calls Tryd.prog 7 #[.string ((s.extract 0 k ++ ⟨#[47]⟩) ++ s.extract k s.size)] v (fun e v' => e = .returned (.tuple #[.string s, .int .i64 0]) ∧ Below w.heap.size w v') from HC2.out)
    go_region_with (go_at_call 7; (with_reducible refine (HD.out _ ((HB4.out.alloc HB4.out.size _).drew)).mono ?_); rintro e v5 ⟨rfl, hb⟩; have HB5 := Lib.hid hb; clear hb)
    go_wp2_with (go_at_call 7; with_reducible refine (HC3.out _ HB5.out).mono ?_)
    rintro e v6 ⟨rfl, hb⟩
    have HB6 := Lib.hid hb
    clear hb
    go_wp2_with (go_at_call 9; with_reducible refine (HI.out _ HB6.out).mono ?_)
    rintro e v7 ⟨rfl, hb⟩
    have HB7 := Lib.hid hb
    clear hb
    go_wp2_with (go_at_call 11; with_reducible refine (HS.out _ HB7.out).mono ?_)
    rintro e v8 ⟨rfl, hb⟩
    have HB8 := Lib.hid hb
    clear hb
    go_wp2
    go_ret
    exact ⟨rfl, HB8.out⟩
  · have HD := Lib.hid (show ∀ v, Below w.heap.size w v → Calls Tryd.prog 7 #[.string ((s.extract 0 k ++ ⟨#[40]⟩) ++ s.extract k s.size)] v (fun e v' => e = .returned (.tuple #[.string s, .int .i64 0]) ∧ Below w.heap.size w v') from HC2.out)
    go_region_with (go_at_call 7; (with_reducible refine (HD.out _ ((HB4.out.alloc HB4.out.size _).drew)).mono ?_); rintro e v5 ⟨rfl, hb⟩; have HB5 := Lib.hid hb; clear hb)
    go_wp2_with (go_at_call 7; with_reducible refine (HC3.out _ HB5.out).mono ?_)
    rintro e v6 ⟨rfl, hb⟩
    have HB6 := Lib.hid hb
    clear hb
    go_wp2_with (go_at_call 9; with_reducible refine (HI.out _ HB6.out).mono ?_)
    rintro e v7 ⟨rfl, hb⟩
    have HB7 := Lib.hid hb
    clear hb
    go_wp2_with (go_at_call 11; with_reducible refine (HS.out _ HB7.out).mono ?_)
    rintro e v8 ⟨rfl, hb⟩
    have HB8 := Lib.hid hb
    clear hb
    go_wp2
    go_ret
    exact ⟨rfl, HB8.out⟩
  · have HD := Lib.hid (show ∀ v, Below w.heap.size w v → Calls Tryd.prog 7 #[.string ((s.extract 0 k ++ ⟨#[41]⟩) ++ s.extract k s.size)] v (fun e v' => e = .returned (.tuple #[.string s, .int .i64 0]) ∧ Below w.heap.size w v') from HC2.out)
    go_region_with (go_at_call 7; (with_reducible refine (HD.out _ ((HB4.out.alloc HB4.out.size _).drew)).mono ?_); rintro e v5 ⟨rfl, hb⟩; have HB5 := Lib.hid hb; clear hb)
    go_wp2_with (go_at_call 7; with_reducible refine (HC3.out _ HB5.out).mono ?_)
    rintro e v6 ⟨rfl, hb⟩
    have HB6 := Lib.hid hb
    clear hb
    go_wp2_with (go_at_call 9; with_reducible refine (HI.out _ HB6.out).mono ?_)
    rintro e v7 ⟨rfl, hb⟩
    have HB7 := Lib.hid hb
    clear hb
    go_wp2_with (go_at_call 11; with_reducible refine (HS.out _ HB7.out).mono ?_)
    rintro e v8 ⟨rfl, hb⟩
    have HB8 := Lib.hid hb
    clear hb
    go_wp2
    go_ret
    exact ⟨rfl, HB8.out⟩
theorem telBack_walk (w : World) (hT : Tabs w) (a : ByteArray) (w0 : a.size ≤ maxLen) (x : Int) (w1 : (Lit.int .i64 x).wf = true) (y : Int) (w2 : (Lit.int .i64 y).wf = true) :
    Calls Tryd.prog 4 #[.string a, .int .i64 x, .int .i64 y] w fun e w' => e = .returned (.bool true) ∧ Below w.heap.size w w' := by
  by_cases hbig : 200 < a.size
  · exact back_big w hT a x y hbig
  · rcases tel_cases a with ⟨h1, h2⟩ | ⟨h1, h2, h3⟩
    · obtain ⟨⟨s, k⟩, hs⟩ : ∃ r, telS a = r := ⟨_, rfl⟩
      rw [hs] at h1 h2
      simp only at h1 h2
      subst h1
      have hx := i64_low x 16 (by omega)
      have hy := i64_low y 8 (by omega)
      have p16 := tel_plain h2
      obtain ⟨t1, t2, t3⟩ := tel_show h2
      have hsz : s.data.toList.length = s.size := by simp
      have e1 : (⟨s.data.toList.toArray⟩ : ByteArray) = s := rfl
      obtain ⟨m, hm⟩ : ∃ m : Nat, x % 2 ^ 16 = (m : Int) := ⟨(x % 2 ^ 16).toNat, by omega⟩
      obtain ⟨q, hq⟩ : ∃ q : Nat, (m : Int) % ((s.size : Int) + 1) = (q : Int) := ⟨((m : Int) % ((s.size : Int) + 1)).toNat, (Int.toNat_of_nonneg (Int.emod_nonneg _ (by omega))).symm⟩
      have hq2 : (q : Int) < (s.size : Int) + 1 := by rw [← hq]; exact Int.emod_lt_of_pos _ (by omega)
      obtain ⟨j, hj⟩ : ∃ j : Nat, (y % 2 ^ 8) % 6 = (j : Int) := ⟨((y % 2 ^ 8) % 6).toNat, by omega⟩
      have hS : ((⟨(showL s.data.toList).toArray⟩ : ByteArray)).size = (showL s.data.toList).length := List.size_toArray
      refine back_some w hT a x y (by omega) s _ hs h2 m q j (hx.trans hm) (by omega) hq _ hy (by omega) hj (by omega) (by omega) (by omega) rfl (by omega) (by omega) t1 ?_ (tel_self h2)
      have hb := tel_between h2 q (sgn j) (sgn_betw j (by omega))
      have e2 : (⟨(s.data.toList.take q ++ [sgn j] ++ s.data.toList.drop q).toArray⟩ : ByteArray) = (s.extract 0 q ++ ⟨#[sgn j]⟩) ++ s.extract q s.size := by
        apply bs_ext
        simp [ByteArray.data_append, List.take_of_length_le]
      rw [e2] at hb
      exact hb
    · exact back_none w hT a x y (by omega) _ h1 (Prod.ext h2 rfl) h3
end Go.Proofs.YtiikmkeolfdjiaaDoor
