/- Dates: how a date is shown, and what a text shows. -/
import Derived.Test.YthknkglhppngoaaGreatDoorProg
import Derived.Test.YthknkglhppngoaaGreatDoorZa
import Derived.WalkKit
import Derived.Lib.Hide
import Derived.KernelRfl
import Derived.BigQuiet
import Derived.RegionTactic
import Derived.Deep.QuietTactic
import Derived.Deep.RegionWith
import Derived.IntWalk
import Derived.Test.YthknkglhppngoaaGreatDoorZb
import Derived.Lib.AppendIntMem
import Derived.Lib.LaidTab
import Derived.Deep.DrawnRows
import Derived.Deep.RegionHeld3
/- Dates, as plain numbers; what is said of a year, a month, a day and a date. -/
namespace Go.Proofs.YthknkglhppngoaaGreatDoor.Day
open Go.RowKit
set_option linter.unusedVariables false
set_option maxRecDepth 20000
def leapB (y : Int) : Bool := decide (1 ≤ y ∧ y ≤ 9999 ∧ y % 4 = 0 ∧ (y % 100 ≠ 0 ∨ y % 400 = 0))
def dim (y m : Int) : Int := if m = 2 then (if y = 0 ∨ leapB y = true then 29 else 28) else if m = 4 ∨ m = 6 ∨ m = 9 ∨ m = 11 then 30 else 31
def mayB (y m d : Int) : Bool := decide (0 ≤ y ∧ y ≤ 9999 ∧ 1 ≤ m ∧ m ≤ 12 ∧ 1 ≤ d ∧ d ≤ dim y m)
def cumN (y : Int) : Nat → Int
  | 0 => 0
  | k + 1 => cumN y k + dim y ((k : Int) + 1)
def base (y : Int) : Int := (y - 1) * 365 + (y - 1) / 4 - (y - 1) / 100 + (y - 1) / 400
def cnt (y m d : Int) : Int := if mayB y m d = true ∧ y ≠ 0 then base y + cumN y (m - 1).toNat + d - 1 else -1
theorem dim_bd (y m : Int) : 28 ≤ dim y m ∧ dim y m ≤ 31 := by
  unfold dim; split <;> split <;> omega
theorem cum_bd (y : Int) (k : Nat) : 0 ≤ cumN y k ∧ cumN y k ≤ 31 * k := by
  induction k with
  | zero => simp [cumN]
  | succ k ih => have := dim_bd y ((k : Int) + 1); simp only [cumN]; omega
theorem may_iff {y m d : Int} : mayB y m d = true ↔ 0 ≤ y ∧ y ≤ 9999 ∧ 1 ≤ m ∧ m ≤ 12 ∧ 1 ≤ d ∧ d ≤ dim y m := by unfold mayB; simp
theorem leap_any (y : Int) (w : World) : Calls Tryz.prog 78 #[.int .i64 y] w fun e w' => e = .returned (.bool (leapB y)) ∧ w' = w := by
  by_cases h1 : y < 1
  · go_enter Tryz.func78, Tryz.ntmps78
    go_wp2
    go_ret
    exact ⟨ret_bool (by unfold leapB; simp; omega), rfl⟩
  · by_cases h2 : y > 9999
    · go_enter Tryz.func78, Tryz.ntmps78
      go_wp2
      go_ret
      exact ⟨ret_bool (by unfold leapB; simp; omega), rfl⟩
    · have h0 : 0 ≤ y := by omega
      have e4 : y.tmod 4 = y % 4 := Int.tmod_eq_emod_of_nonneg h0
      have e100 : y.tmod 100 = y % 100 := Int.tmod_eq_emod_of_nonneg h0
      have e400 : y.tmod 400 = y % 400 := Int.tmod_eq_emod_of_nonneg h0
      by_cases c4 : y % 4 = 0
      · by_cases c100 : y % 100 = 0
        · by_cases c400 : y % 400 = 0
          · go_enter Tryz.func78, Tryz.ntmps78
            go_wp2
            go_ret
            exact ⟨ret_bool (by unfold leapB; simp; omega), rfl⟩
          · have d400 : (y % 400 == 0) = false := by simpa using c400
            go_enter Tryz.func78, Tryz.ntmps78
            go_wp2
            go_ret
            exact ⟨ret_bool (by unfold leapB; simp; omega), rfl⟩
        · have d100 : (y % 100 == 0) = false := by simpa using c100
          go_enter Tryz.func78, Tryz.ntmps78
          go_wp2
          go_ret
          exact ⟨ret_bool (by unfold leapB; simp; omega), rfl⟩
      · have d4 : (y % 4 == 0) = false := by simpa using c4
        go_enter Tryz.func78, Tryz.ntmps78
        go_wp2
        go_ret
        exact ⟨ret_bool (by unfold leapB; simp; omega), rfl⟩
theorem length_any (y m : Int) (w : World) : Calls Tryz.prog 64 #[.int .i64 y, .int .i64 m] w fun e w' => e = .returned (.int .i64 (dim y m)) ∧ w' = w := by
  by_cases h2 : m = 2
  · subst h2
    by_cases h0 : y = 0
    · subst h0
      go_enter Tryz.func64, Tryz.ntmps64
      go_wp2_with (first
        | (go_at_call 78; refine (leap_any _ _).mono ?_; rintro _ w2 ⟨rfl, hw⟩; replace hw := hw.symm; subst hw)
        | fail)
      go_ret
      exact ⟨rfl, rfl⟩
    · have d0 : (y == 0) = false := by simpa using h0
      cases hl : leapB y
      all_goals (
        have HL := Lib.hid hl
        clear hl
        go_enter Tryz.func64, Tryz.ntmps64
        go_wp2_with (first
          | (go_at_call 78; refine (leap_any _ _).mono ?_; rintro _ w2 ⟨rfl, hw⟩; replace hw := hw.symm; subst hw; rw [HL.out])
          | fail)
        go_ret
        exact ⟨ret_i64 (by unfold dim; rw [HL.out]; simp [h0]), rfl⟩)
  · have d2 : (m == 2) = false := by simpa using h2
    by_cases h4 : m = 4
    · subst h4
      go_enter Tryz.func64, Tryz.ntmps64
      go_wp2
      go_ret
      exact ⟨ret_i64 (by unfold dim; simp), rfl⟩
    · have d4 : (m == 4) = false := by simpa using h4
      by_cases h6 : m = 6
      · subst h6
        go_enter Tryz.func64, Tryz.ntmps64
        go_wp2
        go_ret
        exact ⟨ret_i64 (by unfold dim; simp), rfl⟩
      · have d6 : (m == 6) = false := by simpa using h6
        by_cases h9 : m = 9
        · subst h9
          go_enter Tryz.func64, Tryz.ntmps64
          go_wp2
          go_ret
          exact ⟨ret_i64 (by unfold dim; simp), rfl⟩
        · have d9 : (m == 9) = false := by simpa using h9
          by_cases h11 : m = 11
          · subst h11
            go_enter Tryz.func64, Tryz.ntmps64
            go_wp2
            go_ret
            exact ⟨ret_i64 (by unfold dim; simp), rfl⟩
          · have d11 : (m == 11) = false := by simpa using h11
            go_enter Tryz.func64, Tryz.ntmps64
            go_wp2
            go_ret
            exact ⟨ret_i64 (by unfold dim; rw [if_neg h2, if_neg (by omega)]), rfl⟩
theorem may_any (y m d : Int) (w : World) : Calls Tryz.prog 47 #[.agg #[.int .i64 y, .int .i64 m, .int .i64 d]] w fun e w' => e = .returned (.bool (mayB y m d)) ∧ Below w.heap.size w w' := by
  by_cases c : 0 ≤ y ∧ y ≤ 9999 ∧ 1 ≤ m ∧ m ≤ 12
  · obtain ⟨c1, c2, c3, c4⟩ := c
    have HM := Lib.hid (⟨c1, c2, c3, c4⟩ : 0 ≤ y ∧ y ≤ 9999 ∧ 1 ≤ m ∧ m ≤ 12)
    have HD := Lib.hid (dim_bd y m)
    by_cases h1 : 1 ≤ d
    · go_enter Tryz.func47, Tryz.ntmps47
      go_wp2
      go_quiet ((go_at_call 64; exact Calls.quiet_of_same (length_any _ _ _)))
      go_wp2
      go_ret
      exact ⟨ret_bool (by have := HM.out; rw [Bool.eq_iff_iff]; simp [mayB, h1, this]), below_drewN ((Below.refl _ _).alloc (Nat.le_refl _) _) _⟩
    · have hd : decide (1 ≤ d) = false := by simpa using h1
      go_enter Tryz.func47, Tryz.ntmps47
      go_wp2
      go_quiet ((go_at_call 64; exact Calls.quiet_of_same (length_any _ _ _)))
      go_wp2
      go_ret
      exact ⟨ret_bool (by unfold mayB; simp; omega), below_drewN ((Below.refl _ _).alloc (Nat.le_refl _) _) _⟩
  · have hf : mayB y m d = false := by unfold mayB; simp; omega
    have HF := Lib.hid hf
    have HC := Lib.hid c
    clear c hf
    rw [HF.out]
    by_cases a1 : y < 0
    · go_enter Tryz.func47, Tryz.ntmps47
      go_wp2
      go_ret
      exact ⟨rfl, (Below.refl _ _).alloc (Nat.le_refl _) _⟩
    · by_cases a2 : y > 9999
      · go_enter Tryz.func47, Tryz.ntmps47
        go_wp2
        go_ret
        exact ⟨rfl, (Below.refl _ _).alloc (Nat.le_refl _) _⟩
      · by_cases a3 : m < 1
        · go_enter Tryz.func47, Tryz.ntmps47
          go_wp2
          go_ret
          exact ⟨rfl, (Below.refl _ _).alloc (Nat.le_refl _) _⟩
        · have a4 : m > 12 := by have := HC.out; omega
          go_enter Tryz.func47, Tryz.ntmps47
          go_wp2
          go_ret
          exact ⟨rfl, (Below.refl _ _).alloc (Nat.le_refl _) _⟩
theorem bcell {W w1 : World} (hb : Below W.heap.size W w1) : (∀ b o, b < W.heap.size → w1.cell? ⟨b, o, none⟩ = W.cell? ⟨b, o, none⟩) ∧ (∀ b o, b < W.heap.size → w1.frozen? ⟨b, o, none⟩ = W.frozen? ⟨b, o, none⟩) :=
  ⟨fun b o h => hb.cell (p := ⟨b, o, none⟩) h, fun b o h => hb.frozen (p := ⟨b, o, none⟩) h⟩
/-- A date in a box of the call's own. -/
theorem Blk3.cells {w w1 : World} {y m d : Int} (h : Blk w1 w.heap.size 39 #[.int .i64 y, .int .i64 m, .int .i64 d]) : w1.cell? ⟨w.heap.size, 0, none⟩ = some (.int .i64 y) ∧ w1.cell? ⟨w.heap.size, 1, none⟩ = some (.int .i64 m) ∧ w1.cell? ⟨w.heap.size, 2, none⟩ = some (.int .i64 d) :=
  ⟨h.cell 0, h.cell 1, h.cell 2⟩
theorem leap_in (y : Int) : (leapB y = true ∧ 1 ≤ y) ∨ leapB y = false := by
  cases h : leapB y
  · exact .inr rfl
  · left; unfold leapB at h; simp at h; exact ⟨rfl, h.1⟩
structure Bx2 (w0 wr : World) (B C : Nat) (y m d ty tm td : Int) : Prop where
  one : Blk wr B 39 #[.int .i64 y, .int .i64 m, .int .i64 d]
  two : Blk wr C 39 #[.int .i64 ty, .int .i64 tm, .int .i64 td]
  bel : Below w0.heap.size w0 wr
theorem Bx2.step {w0 wr w' : World} {B C : Nat} {y m d ty tm td : Int} (h : Bx2 w0 wr B C y m d ty tm td) (hb : Below wr.heap.size wr w') : Bx2 w0 w' B C y m d ty tm td :=
  ⟨h.one.below hb h.one.lt, h.two.below hb h.two.lt, h.bel.trans (hb.mono h.bel.size)⟩
end Go.Proofs.YthknkglhppngoaaGreatDoor.Day
/- Dates: the number that digits show. -/
namespace Go.Proofs.YthknkglhppngoaaGreatDoor.Day
open Go.RowKit
set_option linter.unusedVariables false
set_option maxRecDepth 20000
def isD (c : UInt8) : Bool := decide (48 ≤ (c.toNat : Int) ∧ (c.toNat : Int) ≤ 57)
def valD (l : List UInt8) : Int := l.foldl (fun n c => n * 10 + ((c.toNat : Int) - 48)) 0
def numD (l : List UInt8) : Int := if l.all isD = true then valD l else -1
theorem valD_snoc (l : List UInt8) (c : UInt8) : valD (l ++ [c]) = valD l * 10 + ((c.toNat : Int) - 48) := by
  unfold valD; rw [List.foldl_append]; rfl
theorem fold_bd (l : List UInt8) (a : Int) (h : l.all isD = true) (ha : 0 ≤ a) : 0 ≤ l.foldl (fun n c => n * 10 + ((c.toNat : Int) - 48)) a ∧ l.foldl (fun n c => n * 10 + ((c.toNat : Int) - 48)) a < (a + 1) * 10 ^ l.length := by
  induction l generalizing a with
  | nil => simp; omega
  | cons c l ih =>
    simp only [List.all_cons, Bool.and_eq_true] at h
    obtain ⟨h1, h2⟩ := h
    have hc : 48 ≤ (c.toNat : Int) ∧ (c.toNat : Int) ≤ 57 := by simpa [isD] using h1
    obtain ⟨q1, q2⟩ := ih (a * 10 + ((c.toNat : Int) - 48)) h2 (by omega)
    refine ⟨q1, Int.lt_of_lt_of_le q2 ?_⟩
    rw [List.length_cons, Int.pow_succ, Int.mul_comm (10 ^ l.length) 10, ← Int.mul_assoc]
    exact Int.mul_le_mul_of_nonneg_right (by omega) (Int.pow_nonneg (by decide))
theorem valD_bd (l : List UInt8) (h : l.all isD = true) : 0 ≤ valD l ∧ valD l < 10 ^ l.length := by
  have := fold_bd l 0 h (by decide)
  simpa [valD] using this
theorem take_snoc (s : ByteArray) (k : Nat) (h : k < s.size) : s.data.toList.take (k + 1) = s.data.toList.take k ++ [s[k]] := by
  rw [List.take_succ_eq_append_getElem (by simpa using h)]; rfl
theorem all_take (s : ByteArray) (k : Nat) (h : k < s.size) (hn : isD s[k] = false) : s.data.toList.all isD = false := by
  rw [List.all_eq_false]
  exact ⟨s[k], by rw [show s[k] = s.data.toList[k]'(by simpa using h) from rfl]; exact List.getElem_mem _, by simp [hn]⟩
theorem number_any (s : ByteArray) (hs : s.size ≤ 8) (w : World) : Calls Tryz.prog 46 #[.string s] w fun e w' => e = .returned (.int .i64 (numD s.data.toList)) ∧ w' = w := by
  go_enter Tryz.func46, Tryz.ntmps46
  go_wp2
  go_loop [3, 7] (fun n i => ∃ k : Nat, k ≤ s.size ∧ i = .int .i64 (k : Int) ∧ n = .int .i64 (valD (s.data.toList.take k)) ∧ (s.data.toList.take k).all isD = true) (fun _ i => s.size - (intOf i).toNat)
  case atStart => exact ⟨0, Nat.zero_le _, rfl, rfl, rfl⟩
  case round =>
    obtain ⟨k, hk, rfl, rfl, hall⟩ := hrel
    obtain ⟨v0, v1⟩ := valD_bd _ hall
    have hp : (10 : Int) ^ (s.data.toList.take k).length ≤ 10 ^ 8 := by
      have : (s.data.toList.take k).length ≤ 8 := by have := List.length_take_le k s.data.toList; omega
      exact_mod_cast Nat.pow_le_pow_right (by omega) this
    have v2 : valD (s.data.toList.take k) ≤ 100000000 := by omega
    obtain ⟨v, hv⟩ : ∃ v, valD (s.data.toList.take k) = v := ⟨_, rfl⟩
    rw [hv] at v0 v2 ⊢
    have HV := Lib.hid hv
    have HALL := Lib.hid hall
    clear hv hall v1 hp
    by_cases hlt : k < s.size
    · obtain ⟨c, hc⟩ : ∃ c, s[k] = c := ⟨_, rfl⟩
      have HC := Lib.hid hc
      have hc255 : (c.toNat : Int) ≤ 255 := by have := c.toNat_lt; omega
      by_cases c1 : (c.toNat : Int) < 48
      · go_wp2
        go_ret
        exact ⟨ret_i64 (by unfold numD; rw [if_neg]; rw [all_take s k hlt (by rw [HC.out]; unfold isD; simp; omega)]; simp), rfl⟩
      · by_cases c2 : (c.toNat : Int) > 57
        · go_wp2
          go_ret
          exact ⟨ret_i64 (by unfold numD; rw [if_neg]; rw [all_take s k hlt (by rw [HC.out]; unfold isD; simp; omega)]; simp), rfl⟩
        · have HN := Lib.hid (show valD (s.data.toList.take (k + 1)) = v * 10 + ((c.toNat : Int) - 48) by rw [take_snoc s k hlt, valD_snoc, HV.out, HC.out])
          have HA := Lib.hid (show (s.data.toList.take (k + 1)).all isD = true by rw [take_snoc s k hlt, List.all_append, HALL.out, HC.out]; simp [isD]; omega)
          go_wp2
          go_round
          case rel => exact ⟨k + 1, by omega, by go_num, by rw [HN.out], HA.out⟩
          case measure => simp [intOf]; omega
    · go_wp2
      go_ret
      have hks : k = s.size := by omega
      have ht : s.data.toList.take k = s.data.toList := List.take_of_length_le (by simp; omega)
      exact ⟨ret_i64 (by unfold numD; rw [ht] at HALL HV; rw [if_pos HALL.out, HV.out]), rfl⟩
end Go.Proofs.YthknkglhppngoaaGreatDoor.Day
/- Dates: digits, how a date is shown. -/
namespace Go.Proofs.YthknkglhppngoaaGreatDoor.Day
open Go.RowKit
set_option linter.unusedVariables false
set_option maxRecDepth 20000
attribute [local go_sem ↓] Go.wp_at_zero Go.wp_at_succ
abbrev Tab (B : Nat) (w : World) : Prop := Lib.TabBelow Tryz.prog B w "internal/strconv.uint64pow10" .u64 Lib.pow10Tab
def dg (n : Nat) : UInt8 := UInt8.ofNat (48 + n % 10)
def dig2 (n : Nat) : List UInt8 := [dg (n / 10), dg n]
def dig4 (n : Nat) : List UInt8 := [dg (n / 1000), dg (n / 100), dg (n / 10), dg n]
theorem dec1 {n : Nat} (h : n < 10) : Lib.decDigits n = [dg n] := by
  rw [Lib.decDigits, dif_pos h]; unfold dg; rw [Nat.mod_eq_of_lt h]
theorem decS {n : Nat} (h : ¬ n < 10) : Lib.decDigits n = Lib.decDigits (n / 10) ++ [dg n] := by
  rw [Lib.decDigits, dif_neg h]; rfl
theorem pad2 (n : Nat) (h : n < 100) : Lib.repeatL [48] (2 - (Lib.decDigits n).length) ++ Lib.decDigits n = dig2 n := by
  by_cases h1 : n < 10
  · rw [dec1 h1]
    have : n / 10 = 0 := by omega
    simp [dig2, this, Lib.repeatL, dg]
  · rw [decS h1, dec1 (by omega : n / 10 < 10)]
    simp [dig2, Lib.repeatL]
theorem pad4 (n : Nat) (h : n < 10000) : Lib.repeatL [48] (4 - (Lib.decDigits n).length) ++ Lib.decDigits n = dig4 n := by
  by_cases h1 : n < 10
  · rw [dec1 h1]
    have e1 : n / 10 = 0 := by omega
    have e2 : n / 100 = 0 := by omega
    have e3 : n / 1000 = 0 := by omega
    simp [dig4, e1, e2, e3, Lib.repeatL, dg]
  · rw [decS h1]
    by_cases h2 : n / 10 < 10
    · rw [dec1 h2]
      have e2 : n / 100 = 0 := by omega
      have e3 : n / 1000 = 0 := by omega
      simp [dig4, e2, e3, Lib.repeatL, dg]
    · rw [decS h2, Nat.div_div_eq_div_mul]
      by_cases h3 : n / 100 < 10
      · rw [dec1 h3]
        have e3 : n / 1000 = 0 := by omega
        simp [dig4, e3, Lib.repeatL, dg]
      · rw [decS h3, Nat.div_div_eq_div_mul, dec1 (by omega : n / (10 * 10 * 10) < 10)]
        simp [dig4, Lib.repeatL]
theorem decL (n : Nat) : 1 ≤ (Lib.decDigits n).length := by
  by_cases h1 : n < 10
  · rw [dec1 h1]; simp
  · rw [decS h1]; simp
theorem decL2 (n : Nat) (h : n < 100) : (Lib.decDigits n).length ≤ 2 := by
  by_cases h1 : n < 10
  · rw [dec1 h1]; simp
  · rw [decS h1, dec1 (by omega : n / 10 < 10)]; simp
theorem decL4 (n : Nat) (h : n < 10000) : (Lib.decDigits n).length ≤ 4 := by
  by_cases h1 : n < 10
  · rw [dec1 h1]; simp
  · have := decL2 (n / 100) (by omega)
    rw [decS h1]
    by_cases h2 : n / 10 < 10
    · rw [dec1 h2]; simp
    · rw [decS h2, Nat.div_div_eq_div_mul]; simp; omega
set_option maxHeartbeats 1000000 in
theorem digits_any (n wd : Nat) (w : World) (ht : Tab w.heap.size w) (h1 : n < 10000) (h2 : (Lib.decDigits n).length ≤ wd) (h3 : wd ≤ 4) : Calls Tryz.prog 65 #[.int .i64 (n : Int), .int .i64 (wd : Int)] w fun e w' => e = .returned (.string ⟨(Lib.repeatL [48] (wd - (Lib.decDigits n).length) ++ Lib.decDigits n).toArray⟩) ∧ Below w.heap.size w w' := by
  obtain ⟨D, hD⟩ : ∃ D : ByteArray, (⟨(Lib.decDigits n).toArray⟩ : ByteArray) = D := ⟨_, rfl⟩
  have hDs : D.size = (Lib.decDigits n).length := by rw [← hD]; simp [ByteArray.size]
  obtain ⟨q, hq⟩ : ∃ q : Nat, wd - D.size = q := ⟨_, rfl⟩
  have hqi : (wd : Int) - (D.size : Int) = (q : Int) := by omega
  obtain ⟨R, hR⟩ : ∃ R : ByteArray, (⟨(Lib.repeatL [48] q).toArray⟩ : ByteArray) = R := ⟨_, rfl⟩
  have hRs : R.size = q := by rw [← hR]; simp [ByteArray.size, Lib.repeatL_length]
  have HI := Lib.hid (Tryz.strconv_Itoa (n : Int) (by omega) (by omega) w ht.here)
  have HE := Lib.hid (show (⟨(Lib.itoa (n : Int)).toArray⟩ : ByteArray) = D by rw [Lib.itoa_nonneg, hD])
  have HR := Lib.hid hR
  have hno : ¬ (9223372036854775807 < R.size + D.size) := by omega
  have HQ := Lib.hid (show q ≤ 4 by omega)
  have HA := Lib.hid (show (⟨(Lib.repeatL [48] (wd - (Lib.decDigits n).length) ++ Lib.decDigits n).toArray⟩ : ByteArray) = R ++ D by
    apply ByteArray.ext
    apply Array.toList_inj.1
    rw [← hDs, hq, ← hR, ← hD]
    simp)
  rw [HA.out]
  have HRP := Lib.hid (fun W => (show Calls Tryz.prog 80 #[.string ⟨#[48]⟩, .int .i64 (q : Int)] W fun e w' => e = .returned (.string R) ∧ Below W.heap.size W w' by
    rw [← hR]
    exact Tryz.strings_Repeat ⟨#[48]⟩ q W (by omega) (by show 1 * q ≤ _; omega)))
  have HX := Lib.hid hDs
  clear hD hR hq ht hDs hRs
  go_enter Tryz.func65, Tryz.ntmps65
  go_wp2_with (first
    | (go_at_call 79
       refine HI.out.mono ?_
       rintro _ w2 ⟨rfl, kk, os, hw2⟩
       rw [HE.out]
       have hb2 := Lib.hid (show Below w.heap.size w w2 by rw [hw2]; exact Lib.below_grow _ _ (Nat.le_refl _) _ _)
       clear hw2)
    | (go_at_call 80
       refine (HRP.out _).mono ?_
       rintro _ w3 ⟨rfl, hb⟩
       have hb3 := Lib.hid (hb2.out.trans (hb.mono hb2.out.size))
       clear hb)
    | fail)
  go_ret
  exact ⟨rfl, hb3.out⟩
theorem digits2 (n : Nat) (w : World) (ht : Tab w.heap.size w) (h : n < 100) : Calls Tryz.prog 65 #[.int .i64 (n : Int), .int .i64 2] w fun e w' => e = .returned (.string ⟨(dig2 n).toArray⟩) ∧ Below w.heap.size w w' := by
  have := digits_any n 2 w ht (by omega) (decL2 n h) (by omega)
  rwa [pad2 n h] at this
theorem digits4 (n : Nat) (w : World) (ht : Tab w.heap.size w) (h : n < 10000) : Calls Tryz.prog 65 #[.int .i64 (n : Int), .int .i64 4] w fun e w' => e = .returned (.string ⟨(dig4 n).toArray⟩) ∧ Below w.heap.size w w' := by
  have := digits_any n 4 w ht h (decL4 n h) (by omega)
  rwa [pad4 n h] at this
end Go.Proofs.YthknkglhppngoaaGreatDoor.Day
namespace Go.Proofs.YthknkglhppngoaaGreatDoor.Day
open Go.RowKit
set_option linter.unusedVariables false
set_option maxRecDepth 20000
attribute [local go_sem ↓] Go.wp_at_zero Go.wp_at_succ
def headL (y : Nat) : List UInt8 := if y = 0 then [45, 45] else dig4 y ++ [45]
def showL (y m d : Nat) : List UInt8 := headL y ++ dig2 m ++ [45] ++ dig2 d
def showS (y m d : Int) : ByteArray := if mayB y m d = true then ⟨(showL y.toNat m.toNat d.toNat).toArray⟩ else ⟨#[]⟩
theorem bs_ext {a b : ByteArray} (h : a.data.toList = b.data.toList) : a = b := ByteArray.ext (Array.toList_inj.1 h)
theorem bs_size (a : ByteArray) : a.size = a.data.toList.length := by simp
theorem Lib.TabBelow.mono' {w : World} {B C : Nat} (h : Tab B w) (hBC : B ≤ C) : Tab C w := fun w' hb => h w' (hb.mono hBC)
/-- The table goes on reading so behind a call. -/
theorem tab_on {w w' : World} (h : Tab w.heap.size w) (hb : Below w.heap.size w w') : Tab w'.heap.size w' := Lib.TabBelow.mono' (h.on hb) hb.size
set_option maxHeartbeats 2000000 in
theorem show_any (y m d : Int) (w : World) (ht : Tab w.heap.size w) : Calls Tryz.prog 48 #[.agg #[.int .i64 y, .int .i64 m, .int .i64 d]] w fun e w' => e = .returned (.string (showS y m d)) ∧ Below w.heap.size w w' := by
  cases hm : mayB y m d
  · have HM := Lib.hid hm
    clear hm
    go_enter Tryz.func48, Tryz.ntmps48
    go_wp2_with (first
      | (go_at_call 47; refine (may_any _ _ _ _).mono ?_; rintro _ w2 ⟨rfl, hb⟩; rw [HM.out]; have HB := Lib.hid hb; clear hb)
      | fail)
    go_ret
    exact ⟨by unfold showS; rw [HM.out]; rfl, ((Below.refl _ _).alloc (Nat.le_refl _) _).trans (HB.out.mono (by simp))⟩
  · have HM := Lib.hid hm
    obtain ⟨m1, m2, m3, m4, m5, m6⟩ := may_iff.1 hm
    have m7 := (dim_bd y m).2
    have HSH := Lib.hid (show showS y m d = ⟨(showL y.toNat m.toNat d.toNat).toArray⟩ by unfold showS; rw [if_pos hm])
    rw [HSH.out]
    clear HSH hm
    obtain ⟨Y, rfl⟩ := Int.eq_ofNat_of_zero_le m1
    obtain ⟨M, rfl⟩ := Int.eq_ofNat_of_zero_le (show 0 ≤ m by omega)
    obtain ⟨D, rfl⟩ := Int.eq_ofNat_of_zero_le (show 0 ≤ d by omega)
    simp only [Int.toNat_natCast]
    have HY := Lib.hid (show Y < 10000 by omega)
    have HMM := Lib.hid (show M < 100 by omega)
    have HDD := Lib.hid (show D < 100 by omega)
    clear m2 m3 m4 m5 m6 m7 m1
    have HT0 := Lib.hid (show Tab (w.alloc (.cells #[.int .i64 (Y : Int), .int .i64 (M : Int), .int .i64 (D : Int)] 39)).heap.size (w.alloc (.cells #[.int .i64 (Y : Int), .int .i64 (M : Int), .int .i64 (D : Int)] 39)) from tab_on ht ((Below.refl _ _).alloc (Nat.le_refl _) _))
    obtain ⟨Q, hQ⟩ : ∃ Q : ByteArray, (⟨(dig4 Y).toArray⟩ : ByteArray) = Q := ⟨_, rfl⟩
    obtain ⟨P, hP⟩ : ∃ P : ByteArray, (⟨(dig2 M).toArray⟩ : ByteArray) = P := ⟨_, rfl⟩
    obtain ⟨R, hR⟩ : ∃ R : ByteArray, (⟨(dig2 D).toArray⟩ : ByteArray) = R := ⟨_, rfl⟩
    have hQs : Q.size = 4 := by rw [← hQ]; rfl
    have hPs : P.size = 2 := by rw [← hP]; rfl
    have hRs : R.size = 2 := by rw [← hR]; rfl
    have HQ := Lib.hid hQ
    have HP := Lib.hid hP
    have HR := Lib.hid hR
    clear hQ hP hR
    by_cases h0 : Y = 0
    · have HL := Lib.hid (show (⟨(showL Y M D).toArray⟩ : ByteArray) = ⟨#[45, 45]⟩ ++ P ++ ⟨#[45]⟩ ++ R by
        apply bs_ext
        rw [← HP.out, ← HR.out]
        simp [showL, headL, h0])
      rw [HL.out]
      have h0' : ((Y : Int) == 0) = true := by simp [h0]
      have H0 := Lib.hid h0
      clear h0
      go_enter Tryz.func48, Tryz.ntmps48
      go_wp2_with (first
        | (go_at_call 47; refine (may_any _ _ _ _).mono ?_; rintro _ w2 ⟨rfl, hb⟩; rw [HM.out]; have HX2 := Lib.hid ((Blk.new w 39 #[.int .i64 (Y : Int), .int .i64 (M : Int), .int .i64 (D : Int)]).below hb (by simp)); have HT2 := Lib.hid (tab_on HT0.out hb); have HB := Lib.hid (((Below.refl w.heap.size w).alloc (Nat.le_refl _) _).trans (hb.mono (by simp))); obtain ⟨a0, a1, a2⟩ := Blk3.cells HX2.out; clear hb)
        | fail)
      have b1 : w2.drew.cell? ⟨w.heap.size, 1, none⟩ = some (.int .i64 (M : Int)) := HX2.out.cell 1
      have b2 : w2.drew.cell? ⟨w.heap.size, 2, none⟩ = some (.int .i64 (D : Int)) := HX2.out.cell 2
      have HTD := Lib.hid (show Tab w2.drew.heap.size w2.drew from tab_on HT2.out (Below.refl _ _).drew)
      have HLT := Lib.hid HX2.out.lt
      go_region_held3 (fun w' => w'.cell? ⟨w.heap.size, 1, none⟩ = some (.int .i64 (M : Int)) ∧ w'.cell? ⟨w.heap.size, 2, none⟩ = some (.int .i64 (D : Int))) (refine ⟨?_, ?_⟩ <;> assumption) (first
        | (go_at_call 65
           (with_reducible refine (digits2 M _ HTD.out HMM.out).mono ?_)
           rintro _ w5 ⟨rfl, hb⟩
           rw [HP.out]
           have HX5 := Lib.hid ((HX2.out.drew).below hb HLT.out)
           have c1 : w5.cell? ⟨w.heap.size, 1, none⟩ = some (.int .i64 (M : Int)) := HX5.out.cell 1
           have c2 : w5.cell? ⟨w.heap.size, 2, none⟩ = some (.int .i64 (D : Int)) := HX5.out.cell 2
           have HT5 := Lib.hid (tab_on HTD.out hb)
           have HB5 := Lib.hid (HB.out.drew.trans (hb.mono HB.out.size))
           clear hb HTD)
        | (go_at_call 65
           (with_reducible refine (digits2 D _ HT5.out HDD.out).mono ?_)
           rintro _ w6 ⟨rfl, hb⟩
           rw [HR.out]
           have HX6 := Lib.hid (HX5.out.below hb HX5.out.lt)
           have d1 : w6.cell? ⟨w.heap.size, 1, none⟩ = some (.int .i64 (M : Int)) := HX6.out.cell 1
           have d2 : w6.cell? ⟨w.heap.size, 2, none⟩ = some (.int .i64 (D : Int)) := HX6.out.cell 2
           have HB6 := Lib.hid (HB5.out.trans (hb.mono HB5.out.size))
           clear hb))
      all_goals (
        go_wp2
        go_ret
        exact ⟨rfl, HB6.out⟩)
    · have HL := Lib.hid (show (⟨(showL Y M D).toArray⟩ : ByteArray) = Q ++ ⟨#[45]⟩ ++ P ++ ⟨#[45]⟩ ++ R by
        apply bs_ext
        rw [← HP.out, ← HR.out, ← HQ.out]
        simp [showL, headL, h0])
      rw [HL.out]
      have h0' : ((Y : Int) == 0) = false := by simpa using h0
      have H0 := Lib.hid h0
      clear h0
      go_enter Tryz.func48, Tryz.ntmps48
      go_wp2_with (first
        | (go_at_call 47; refine (may_any _ _ _ _).mono ?_; rintro _ w2 ⟨rfl, hb⟩; rw [HM.out]; have HX2 := Lib.hid ((Blk.new w 39 #[.int .i64 (Y : Int), .int .i64 (M : Int), .int .i64 (D : Int)]).below hb (by simp)); have HT2 := Lib.hid (tab_on HT0.out hb); have HB := Lib.hid (((Below.refl w.heap.size w).alloc (Nat.le_refl _) _).trans (hb.mono (by simp))); obtain ⟨a0, a1, a2⟩ := Blk3.cells HX2.out; clear hb)
        | (go_at_call 65
           (with_reducible refine (digits4 Y _ HT2.out HY.out).mono ?_)
           rintro _ w3 ⟨rfl, hb⟩
           rw [HQ.out]
           have HX3 := Lib.hid (HX2.out.below hb HX2.out.lt)
           have HT3 := Lib.hid (tab_on HT2.out hb)
           have HB3 := Lib.hid (HB.out.trans (hb.mono HB.out.size))
           clear hb HX2 HT2 HB a0 a1 a2)
        | fail)
      have b1 : w3.drew.cell? ⟨w.heap.size, 1, none⟩ = some (.int .i64 (M : Int)) := HX3.out.cell 1
      have b2 : w3.drew.cell? ⟨w.heap.size, 2, none⟩ = some (.int .i64 (D : Int)) := HX3.out.cell 2
      have HTD := Lib.hid (show Tab w3.drew.heap.size w3.drew from tab_on HT3.out (Below.refl _ _).drew)
      have HLT := Lib.hid HX3.out.lt
      go_region_held3 (fun w' => w'.cell? ⟨w.heap.size, 1, none⟩ = some (.int .i64 (M : Int)) ∧ w'.cell? ⟨w.heap.size, 2, none⟩ = some (.int .i64 (D : Int))) (refine ⟨?_, ?_⟩ <;> assumption) (first
        | (go_at_call 65
           (with_reducible refine (digits2 M _ HTD.out HMM.out).mono ?_)
           rintro _ w5 ⟨rfl, hb⟩
           rw [HP.out]
           have HX5 := Lib.hid ((HX3.out.drew).below hb HLT.out)
           have c1 : w5.cell? ⟨w.heap.size, 1, none⟩ = some (.int .i64 (M : Int)) := HX5.out.cell 1
           have c2 : w5.cell? ⟨w.heap.size, 2, none⟩ = some (.int .i64 (D : Int)) := HX5.out.cell 2
           have HT5 := Lib.hid (tab_on HTD.out hb)
           have HB5 := Lib.hid (HB3.out.drew.trans (hb.mono HB3.out.size))
           clear hb HTD)
        | (go_at_call 65
           (with_reducible refine (digits2 D _ HT5.out HDD.out).mono ?_)
           rintro _ w6 ⟨rfl, hb⟩
           rw [HR.out]
           have HX6 := Lib.hid (HX5.out.below hb HX5.out.lt)
           have d1 : w6.cell? ⟨w.heap.size, 1, none⟩ = some (.int .i64 (M : Int)) := HX6.out.cell 1
           have d2 : w6.cell? ⟨w.heap.size, 2, none⟩ = some (.int .i64 (D : Int)) := HX6.out.cell 2
           have HB6 := Lib.hid (HB5.out.trans (hb.mono HB5.out.size))
           clear hb))
      all_goals (
        go_wp2
        go_ret
        exact ⟨rfl, HB6.out⟩)
end Go.Proofs.YthknkglhppngoaaGreatDoor.Day
