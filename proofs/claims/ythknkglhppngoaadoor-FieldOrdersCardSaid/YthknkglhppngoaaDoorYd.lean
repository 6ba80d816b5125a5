/- Dates: digits, how a date is shown. -/
import Derived.Test.YthknkglhppngoaaDoorYn
import Derived.Test.YthknkglhppngoaaDoorShelf
import Derived.Lib.AppendIntMem
import Derived.Lib.LaidTab
import Derived.Deep.DrawnRows
import Derived.Deep.RegionHeld3
namespace Go.Proofs.YthknkglhppngoaaDoor.Day
open Go.RowKit
set_option linter.unusedVariables false
set_option maxRecDepth 20000
attribute [local go_sem ↓] Go.wp_at_zero Go.wp_at_succ
abbrev Tab (B : Nat) (w : World) : Prop := Lib.TabBelow Tryd.prog B w "internal/strconv.uint64pow10" .u64 Lib.pow10Tab
def dg (n : Nat) : UInt8 := UInt8.ofNat (48 + n % 10)
def dig2 (n : Nat) : List UInt8 := [dg (n / 10), dg n]
def dig4 (n : Nat) : List UInt8 := [dg (n / 1000), dg (n / 100), dg (n / 10), dg n]
theorem dec1 {n : Nat} (h : n < 10) : Lib.decDigits n = [dg n] := by
  rw [Lib.decDigits, dif_pos h]; unfold dg; rw [Nat.mod_eq_of_lt h]
theorem decS {n : Nat} (h : ¬ n < 10) : Lib.decDigits n = Lib.decDigits (n / 10) ++ [dg n] := by
  rw [Lib.decDigits, dif_neg h]; rfl
theorem pad2 (n : Nat) (h : n < 100) : Lib.repeatL [48] (2 - (Lib.decDigits n).length) ++ Lib.decDigits n = dig2 n := by
  by_cases h1 : n < 10
  · rw [dec1 h1]
    have : n / 10 = 0 := by omega
    simp [dig2, this, Lib.repeatL, dg]
  · rw [decS h1, dec1 (by omega : n / 10 < 10)]
    simp [dig2, Lib.repeatL]
theorem pad4 (n : Nat) (h : n < 10000) : Lib.repeatL [48] (4 - (Lib.decDigits n).length) ++ Lib.decDigits n = dig4 n := by
  by_cases h1 : n < 10
  · rw [dec1 h1]
    have e1 : n / 10 = 0 := by omega
    have e2 : n / 100 = 0 := by omega
    have e3 : n / 1000 = 0 := by omega
    simp [dig4, e1, e2, e3, Lib.repeatL, dg]
  · rw [decS h1]
    by_cases h2 : n / 10 < 10
    · rw [dec1 h2]
      have e2 : n / 100 = 0 := by omega
      have e3 : n / 1000 = 0 := by omega
      simp [dig4, e2, e3, Lib.repeatL, dg]
    · rw [decS h2, Nat.div_div_eq_div_mul]
      by_cases h3 : n / 100 < 10
      · rw [dec1 h3]
        have e3 : n / 1000 = 0 := by omega
        simp [dig4, e3, Lib.repeatL, dg]
      · rw [decS h3, Nat.div_div_eq_div_mul, dec1 (by omega : n / (10 * 10 * 10) < 10)]
        simp [dig4, Lib.repeatL]
theorem decL (n : Nat) : 1 ≤ (Lib.decDigits n).length := by
  by_cases h1 : n < 10
  · rw [dec1 h1]; simp
  · rw [decS h1]; simp
theorem decL2 (n : Nat) (h : n < 100) : (Lib.decDigits n).length ≤ 2 := by
  by_cases h1 : n < 10
  · rw [dec1 h1]; simp
  · rw [decS h1, dec1 (by omega : n / 10 < 10)]; simp
theorem decL4 (n : Nat) (h : n < 10000) : (Lib.decDigits n).length ≤ 4 := by
  by_cases h1 : n < 10
  · rw [dec1 h1]; simp
  · have := decL2 (n / 100) (by omega)
    rw [decS h1]
    by_cases h2 : n / 10 < 10
    · rw [dec1 h2]; simp
    · rw [decS h2, Nat.div_div_eq_div_mul]; simp; omega
set_option maxHeartbeats 1000000 in
theorem digits_any (n wd : Nat) (w : World) (ht : Tab w.heap.size w) (h1 : n < 10000) (h2 : (Lib.decDigits n).length ≤ wd) (h3 : wd ≤ 4) : Calls Tryd.prog 49 #[.int .i64 (n : Int), .int .i64 (wd : Int)] w fun e w' => e = .returned (.string ⟨(Lib.repeatL [48] (wd - (Lib.decDigits n).length) ++ Lib.decDigits n).toArray⟩) ∧ Below w.heap.size w w' := by
  obtain ⟨D, hD⟩ : ∃ D : ByteArray, (⟨(Lib.decDigits n).toArray⟩ : ByteArray) = D := ⟨_, rfl⟩
  have hDs : D.size = (Lib.decDigits n).length := by rw [← hD]; simp [ByteArray.size]
  obtain ⟨q, hq⟩ : ∃ q : Nat, wd - D.size = q := ⟨_, rfl⟩
  have hqi : (wd : Int) - (D.size : Int) = (q : Int) := by omega
  obtain ⟨R, hR⟩ : ∃ R : ByteArray, (⟨(Lib.repeatL [48] q).toArray⟩ : ByteArray) = R := ⟨_, rfl⟩
  have hRs : R.size = q := by rw [← hR]; simp [ByteArray.size, Lib.repeatL_length]
  have HI := Lib.hid (Tryd.strconv_Itoa (n : Int) (by omega) (by omega) w ht.here)
  have HE := Lib.hid (show (⟨(Lib.itoa (n : Int)).toArray⟩ : ByteArray) = D by rw [Lib.itoa_nonneg, hD])
  have HR := Lib.hid hR
  have hno : ¬ (9223372036854775807 < R.size + D.size) := by omega
  have HQ := Lib.hid (show q ≤ 4 by omega)
  have HA := Lib.hid (show (⟨(Lib.repeatL [48] (wd - (Lib.decDigits n).length) ++ Lib.decDigits n).toArray⟩ : ByteArray) = R ++ D by
    apply ByteArray.ext
    apply Array.toList_inj.1
    rw [← hDs, hq, ← hR, ← hD]
    simp)
  rw [HA.out]
  have HRP := Lib.hid (fun W => (show Calls Tryd.prog 59 #[.string ⟨#[48]⟩, .int .i64 (q : Int)] W fun e w' => e = .returned (.string R) ∧ Below W.heap.size W w' by
    rw [← hR]
    exact Tryd.strings_Repeat ⟨#[48]⟩ q W (by omega) (by show 1 * q ≤ _; omega)))
  have HX := Lib.hid hDs
  clear hD hR hq ht hDs hRs
  go_enter Tryd.func49, Tryd.ntmps49
  go_wp2_with (first
    | (go_at_call 58
       refine HI.out.mono ?_
       rintro _ w2 ⟨rfl, kk, os, hw2⟩
       rw [HE.out]
       have hb2 := Lib.hid (show Below w.heap.size w w2 by rw [hw2]; exact Lib.below_grow _ _ (Nat.le_refl _) _ _)
       clear hw2)
    | (go_at_call 59
       refine (HRP.out _).mono ?_
       rintro _ w3 ⟨rfl, hb⟩
       have hb3 := Lib.hid (hb2.out.trans (hb.mono hb2.out.size))
       clear hb)
    | fail)
  go_ret
  exact ⟨rfl, hb3.out⟩
theorem digits2 (n : Nat) (w : World) (ht : Tab w.heap.size w) (h : n < 100) : Calls Tryd.prog 49 #[.int .i64 (n : Int), .int .i64 2] w fun e w' => e = .returned (.string ⟨(dig2 n).toArray⟩) ∧ Below w.heap.size w w' := by
  have := digits_any n 2 w ht (by omega) (decL2 n h) (by omega)
  rwa [pad2 n h] at this
theorem digits4 (n : Nat) (w : World) (ht : Tab w.heap.size w) (h : n < 10000) : Calls Tryd.prog 49 #[.int .i64 (n : Int), .int .i64 4] w fun e w' => e = .returned (.string ⟨(dig4 n).toArray⟩) ∧ Below w.heap.size w w' := by
  have := digits_any n 4 w ht h (decL4 n h) (by omega)
  rwa [pad4 n h] at this
end Go.Proofs.YthknkglhppngoaaDoor.Day
