/- Dates, as plain numbers; what is said of a year, a month, a day and a date. -/
import Derived.Test.YthknkglhppngoaaDoorProg
import Derived.Test.YthknkglhppngoaaDoorWords
import Derived.WalkKit
import Derived.Lib.Hide
import Derived.KernelRfl
import Derived.BigQuiet
import Derived.RegionTactic
import Derived.Deep.QuietTactic
import Derived.Deep.RegionWith
import Derived.IntWalk
namespace Go.Proofs.YthknkglhppngoaaDoor.Day
open Go.RowKit
set_option linter.unusedVariables false
set_option maxRecDepth 20000
def leapB (y : Int) : Bool := decide (1 ≤ y ∧ y ≤ 9999 ∧ y % 4 = 0 ∧ (y % 100 ≠ 0 ∨ y % 400 = 0))
def dim (y m : Int) : Int := if m = 2 then (if y = 0 ∨ leapB y = true then 29 else 28) else if m = 4 ∨ m = 6 ∨ m = 9 ∨ m = 11 then 30 else 31
def mayB (y m d : Int) : Bool := decide (0 ≤ y ∧ y ≤ 9999 ∧ 1 ≤ m ∧ m ≤ 12 ∧ 1 ≤ d ∧ d ≤ dim y m)
def cumN (y : Int) : Nat → Int
  | 0 => 0
  | k + 1 => cumN y k + dim y ((k : Int) + 1)
def base (y : Int) : Int := (y - 1) * 365 + (y - 1) / 4 - (y - 1) / 100 + (y - 1) / 400
def cnt (y m d : Int) : Int := if mayB y m d = true ∧ y ≠ 0 then base y + cumN y (m - 1).toNat + d - 1 else -1
theorem dim_bd (y m : Int) : 28 ≤ dim y m ∧ dim y m ≤ 31 := by
  unfold dim; split <;> split <;> omega
theorem cum_bd (y : Int) (k : Nat) : 0 ≤ cumN y k ∧ cumN y k ≤ 31 * k := by
  induction k with
  | zero => simp [cumN]
  | succ k ih => have := dim_bd y ((k : Int) + 1); simp only [cumN]; omega
theorem may_iff {y m d : Int} : mayB y m d = true ↔ 0 ≤ y ∧ y ≤ 9999 ∧ 1 ≤ m ∧ m ≤ 12 ∧ 1 ≤ d ∧ d ≤ dim y m := by unfold mayB; simp
theorem leap_any (y : Int) (w : World) : Calls Tryd.prog 57 #[.int .i64 y] w fun e w' => e = .returned (.bool (leapB y)) ∧ w' = w := by
  by_cases h1 : y < 1
  · go_enter Tryd.func57, Tryd.ntmps57
    go_wp2
    go_ret
    exact ⟨ret_bool (by unfold leapB; simp; omega), rfl⟩
  · by_cases h2 : y > 9999
    · go_enter Tryd.func57, Tryd.ntmps57
      go_wp2
      go_ret
      exact ⟨ret_bool (by unfold leapB; simp; omega), rfl⟩
    · have h0 : 0 ≤ y := by omega
      have e4 : y.tmod 4 = y % 4 := Int.tmod_eq_emod_of_nonneg h0
      have e100 : y.tmod 100 = y % 100 := Int.tmod_eq_emod_of_nonneg h0
      have e400 : y.tmod 400 = y % 400 := Int.tmod_eq_emod_of_nonneg h0
      by_cases c4 : y % 4 = 0
      · by_cases c100 : y % 100 = 0
        · by_cases c400 : y % 400 = 0
          · go_enter Tryd.func57, Tryd.ntmps57
            go_wp2
            go_ret
            exact ⟨ret_bool (by unfold leapB; simp; omega), rfl⟩
          · have d400 : (y % 400 == 0) = false := by simpa using c400
            go_enter Tryd.func57, Tryd.ntmps57
            go_wp2
            go_ret
            exact ⟨ret_bool (by unfold leapB; simp; omega), rfl⟩
        · have d100 : (y % 100 == 0) = false := by simpa using c100
          go_enter Tryd.func57, Tryd.ntmps57
          go_wp2
          go_ret
          exact ⟨ret_bool (by unfold leapB; simp; omega), rfl⟩
      · have d4 : (y % 4 == 0) = false := by simpa using c4
        go_enter Tryd.func57, Tryd.ntmps57
        go_wp2
        go_ret
        exact ⟨ret_bool (by unfold leapB; simp; omega), rfl⟩
theorem length_any (y m : Int) (w : World) : Calls Tryd.prog 48 #[.int .i64 y, .int .i64 m] w fun e w' => e = .returned (.int .i64 (dim y m)) ∧ w' = w := by
  by_cases h2 : m = 2
  · subst h2
    by_cases h0 : y = 0
    · subst h0
      go_enter Tryd.func48, Tryd.ntmps48
      go_wp2_with (first
        | (go_at_call 57; refine (leap_any _ _).mono ?_; rintro _ w2 ⟨rfl, hw⟩; replace hw := hw.symm; subst hw)
        | fail)
      go_ret
      exact ⟨rfl, rfl⟩
    · have d0 : (y == 0) = false := by simpa using h0
      cases hl : leapB y
      all_goals (
        have HL := Lib.hid hl
        clear hl
        go_enter Tryd.func48, Tryd.ntmps48
        go_wp2_with (first
          | (go_at_call 57; refine (leap_any _ _).mono ?_; rintro _ w2 ⟨rfl, hw⟩; replace hw := hw.symm; subst hw; rw [HL.out])
          | fail)
        go_ret
        exact ⟨ret_i64 (by unfold dim; rw [HL.out]; simp [h0]), rfl⟩)
  · have d2 : (m == 2) = false := by simpa using h2
    by_cases h4 : m = 4
    · subst h4
      go_enter Tryd.func48, Tryd.ntmps48
      go_wp2
      go_ret
      exact ⟨ret_i64 (by unfold dim; simp), rfl⟩
    · have d4 : (m == 4) = false := by simpa using h4
      by_cases h6 : m = 6
      · subst h6
        go_enter Tryd.func48, Tryd.ntmps48
        go_wp2
        go_ret
        exact ⟨ret_i64 (by unfold dim; simp), rfl⟩
      · have d6 : (m == 6) = false := by simpa using h6
        by_cases h9 : m = 9
        · subst h9
          go_enter Tryd.func48, Tryd.ntmps48
          go_wp2
          go_ret
          exact ⟨ret_i64 (by unfold dim; simp), rfl⟩
        · have d9 : (m == 9) = false := by simpa using h9
          by_cases h11 : m = 11
          · subst h11
            go_enter Tryd.func48, Tryd.ntmps48
            go_wp2
            go_ret
            exact ⟨ret_i64 (by unfold dim; simp), rfl⟩
          · have d11 : (m == 11) = false := by simpa using h11
            go_enter Tryd.func48, Tryd.ntmps48
            go_wp2
            go_ret
            exact ⟨ret_i64 (by unfold dim; rw [if_neg h2, if_neg (by omega)]), rfl⟩
theorem may_any (y m d : Int) (w : World) : Calls Tryd.prog 33 #[.agg #[.int .i64 y, .int .i64 m, .int .i64 d]] w fun e w' => e = .returned (.bool (mayB y m d)) ∧ Below w.heap.size w w' := by
  by_cases c : 0 ≤ y ∧ y ≤ 9999 ∧ 1 ≤ m ∧ m ≤ 12
  · obtain ⟨c1, c2, c3, c4⟩ := c
    have HM := Lib.hid (⟨c1, c2, c3, c4⟩ : 0 ≤ y ∧ y ≤ 9999 ∧ 1 ≤ m ∧ m ≤ 12)
    have HD := Lib.hid (dim_bd y m)
    by_cases h1 : 1 ≤ d
    · go_enter Tryd.func33, Tryd.ntmps33
      go_wp2
      go_quiet ((go_at_call 48; exact Calls.quiet_of_same (length_any _ _ _)))
      go_wp2
      go_ret
      exact ⟨ret_bool (by have := HM.out; rw [Bool.eq_iff_iff]; simp [mayB, h1, this]), below_drewN ((Below.refl _ _).alloc (Nat.le_refl _) _) _⟩
    · have hd : decide (1 ≤ d) = false := by simpa using h1
      go_enter Tryd.func33, Tryd.ntmps33
      go_wp2
      go_quiet ((go_at_call 48; exact Calls.quiet_of_same (length_any _ _ _)))
      go_wp2
      go_ret
      exact ⟨ret_bool (by unfold mayB; simp; omega), below_drewN ((Below.refl _ _).alloc (Nat.le_refl _) _) _⟩
  · have hf : mayB y m d = false := by unfold mayB; simp; omega
    have HF := Lib.hid hf
    have HC := Lib.hid c
    clear c hf
    rw [HF.out]
    by_cases a1 : y < 0
    · go_enter Tryd.func33, Tryd.ntmps33
      go_wp2
      go_ret
      exact ⟨rfl, (Below.refl _ _).alloc (Nat.le_refl _) _⟩
    · by_cases a2 : y > 9999
      · go_enter Tryd.func33, Tryd.ntmps33
        go_wp2
        go_ret
        exact ⟨rfl, (Below.refl _ _).alloc (Nat.le_refl _) _⟩
      · by_cases a3 : m < 1
        · go_enter Tryd.func33, Tryd.ntmps33
          go_wp2
          go_ret
          exact ⟨rfl, (Below.refl _ _).alloc (Nat.le_refl _) _⟩
        · have a4 : m > 12 := by have := HC.out; omega
          go_enter Tryd.func33, Tryd.ntmps33
          go_wp2
          go_ret
          exact ⟨rfl, (Below.refl _ _).alloc (Nat.le_refl _) _⟩
theorem bcell {W w1 : World} (hb : Below W.heap.size W w1) : (∀ b o, b < W.heap.size → w1.cell? ⟨b, o, none⟩ = W.cell? ⟨b, o, none⟩) ∧ (∀ b o, b < W.heap.size → w1.frozen? ⟨b, o, none⟩ = W.frozen? ⟨b, o, none⟩) :=
  ⟨fun b o h => hb.cell (p := ⟨b, o, none⟩) h, fun b o h => hb.frozen (p := ⟨b, o, none⟩) h⟩
/-- A date in a box of the call's own. -/
theorem Blk3.cells {w w1 : World} {y m d : Int} (h : Blk w1 w.heap.size 43 #[.int .i64 y, .int .i64 m, .int .i64 d]) : w1.cell? ⟨w.heap.size, 0, none⟩ = some (.int .i64 y) ∧ w1.cell? ⟨w.heap.size, 1, none⟩ = some (.int .i64 m) ∧ w1.cell? ⟨w.heap.size, 2, none⟩ = some (.int .i64 d) :=
  ⟨h.cell 0, h.cell 1, h.cell 2⟩
theorem leap_in (y : Int) : (leapB y = true ∧ 1 ≤ y) ∨ leapB y = false := by
  cases h : leapB y
  · exact .inr rfl
  · left; unfold leapB at h; simp at h; exact ⟨rfl, h.1⟩
structure Bx2 (w0 wr : World) (B C : Nat) (y m d ty tm td : Int) : Prop where
  one : Blk wr B 43 #[.int .i64 y, .int .i64 m, .int .i64 d]
  two : Blk wr C 43 #[.int .i64 ty, .int .i64 tm, .int .i64 td]
  bel : Below w0.heap.size w0 wr
theorem Bx2.step {w0 wr w' : World} {B C : Nat} {y m d ty tm td : Int} (h : Bx2 w0 wr B C y m d ty tm td) (hb : Below wr.heap.size wr w') : Bx2 w0 w' B C y m d ty tm td :=
  ⟨h.one.below hb h.one.lt, h.two.below hb h.two.lt, h.bel.trans (hb.mono h.bel.size)⟩
end Go.Proofs.YthknkglhppngoaaDoor.Day
