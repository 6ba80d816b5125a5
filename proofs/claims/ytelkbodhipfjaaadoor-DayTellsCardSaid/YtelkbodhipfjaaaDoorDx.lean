/- DayNext: its walk. -/
import Derived.Test.YtelkbodhipfjaaaDoorDr
namespace Go.Proofs.YtelkbodhipfjaaaDoor
open Go.RowKit
set_option linter.unusedVariables false
set_option maxRecDepth 20000
attribute [local go_sem ↓] Go.wp_at_zero Go.wp_at_succ
theorem prs_a : prs ⟨#[50, 48, 50, 54, 45, 48, 50, 45, 50, 57]⟩ = none := by decide +kernel
theorem prs_b : prs ⟨#[45, 45, 49, 50, 45, 50, 53]⟩ = some (0, 12, 25) := by decide +kernel
theorem untl_a : untl 0 12 25 2026 12 24 = 1 := by decide +kernel
theorem leap_a : leapB 2024 = true := by decide +kernel
set_option maxHeartbeats 2000000 in
theorem first_any (w : World) (ht : Tab w.heap.size w) : Calls Tryd.prog 7 #[] w fun e w' => e = .returned (.bool true) ∧ Below w.heap.size w w' := by
  have HT := Lib.hid ht
  clear ht
  go_enter Tryd.func7, Tryd.ntmps7
  go_wp2_with (first
    | (go_at_call 8
       (with_reducible refine (parse_any ⟨#[50, 48, 50, 54, 45, 48, 50, 45, 50, 57]⟩ (by decide) _ HT.out).mono ?_)
       rintro _ w1 ⟨rfl, hb⟩
       rw [prs_a]
       have HB1 := Lib.hid hb
       have HT1 := Lib.hid (show Tab (w1.alloc (.cells #[.int .i64 0, .int .i64 0, .int .i64 0] 23)).heap.size (w1.alloc (.cells #[.int .i64 0, .int .i64 0, .int .i64 0] 23)) from tab_on (tab_on HT.out hb) ((Below.refl _ _).alloc (Nat.le_refl _) _))
       simp only [dateV, errV]
       clear hb HT)
    | (go_at_call 8
       (with_reducible refine (parse_any ⟨#[45, 45, 49, 50, 45, 50, 53]⟩ (by decide) _ HT1.out).mono ?_)
       rintro _ w2 ⟨rfl, hb⟩
       rw [prs_b]
       have HB2 := Lib.hid ((HB1.out.alloc HB1.out.size _).trans (hb.mono (by have := HB1.out.size; simp; omega)))
       simp only [dateV, errV]
       clear hb)
    | (go_at_call 18; refine (until_any _ _ _ _ _ _ _).mono ?_; rintro _ w3 ⟨rfl, hb⟩; rw [untl_a]; have HB3 := Lib.hid ((HB2.out.alloc HB2.out.size _).trans (hb.mono (by have := HB2.out.size; simp; omega))); clear hb)
    | (go_at_call 10; refine (leap_any _ _).mono ?_; rintro _ w4 ⟨rfl, hw⟩; replace hw := hw.symm; subst hw; rw [leap_a])
    | fail)
  go_ret
  exact ⟨rfl, HB3.out⟩
theorem dim_val (y : Int) : dim y 1 = 31 ∧ dim y 3 = 31 ∧ dim y 4 = 30 ∧ dim y 5 = 31 ∧ dim y 6 = 30 ∧ dim y 7 = 31 ∧ dim y 8 = 31 ∧ dim y 9 = 30 ∧ dim y 10 = 31 ∧ dim y 11 = 30 ∧ dim y 12 = 31 := by simp [dim]
theorem leap_iff {y : Int} : leapB y = true ↔ 1 ≤ y ∧ y ≤ 9999 ∧ y % 4 = 0 ∧ (y % 100 ≠ 0 ∨ y % 400 = 0) := by unfold leapB; simp
theorem dim2 {y : Int} (h : 1 ≤ y) : (leapB y = true ∧ dim y 2 = 29) ∨ (leapB y = false ∧ dim y 2 = 28) := by
  cases hl : leapB y
  · right; refine ⟨rfl, ?_⟩; unfold dim; rw [if_pos rfl, if_neg]; rw [hl]; simp; omega
  · left; refine ⟨rfl, ?_⟩; unfold dim; rw [if_pos rfl, if_pos (.inr hl)]
theorem cum11 (y : Int) : cumN y 11 = 306 + dim y 2 := by
  obtain ⟨d1, d3, d4, d5, d6, d7, d8, d9, d10, d11, d12⟩ := dim_val y
  simp [cumN, d1, d3, d4, d5, d6, d7, d8, d9, d10, d11]
  omega
theorem cnt_may {y m d : Int} (h : mayB y m d = true) (h0 : 1 ≤ y) : cnt y m d = base y + cumN y (m - 1).toNat + d - 1 := by
  unfold cnt; rw [if_pos ⟨h, by omega⟩]
theorem cnt_nn {y m d : Int} (h : mayB y m d = true) (h0 : 1 ≤ y) : 0 ≤ cnt y m d := by
  rw [cnt_may h h0]
  obtain ⟨a1, a2, a3, a4, a5, a6⟩ := may_iff.1 h
  have := base_bd h0 a2
  have := cum_bd y (m - 1).toNat
  omega
theorem next_day {y m d : Int} (h : mayB y m d = true) (h0 : 1 ≤ y) (h2 : mayB y m (d + 1) = true) : cnt y m (d + 1) = cnt y m d + 1 := by
  rw [cnt_may h h0, cnt_may h2 h0]; omega
theorem next_month {y m d : Int} (h : mayB y m d = true) (h0 : 1 ≤ y) (h1 : mayB y m (d + 1) = false) (h2 : mayB y (m + 1) 1 = true) : cnt y (m + 1) 1 = cnt y m d + 1 := by
  rw [cnt_may h h0, cnt_may h2 h0]
  obtain ⟨a1, a2, a3, a4, a5, a6⟩ := may_iff.1 h
  have hd : d = dim y m := by
    have := mt may_iff.2 (by rw [h1]; simp)
    omega
  obtain ⟨k, rfl⟩ : ∃ k : Nat, m = (k : Int) + 1 := ⟨(m - 1).toNat, by omega⟩
  rw [show ((k : Int) + 1 + 1 - 1).toNat = k + 1 by omega, show ((k : Int) + 1 - 1).toNat = k by omega, hd]
  simp only [cumN]
  omega
theorem last_of {y m d : Int} (h : mayB y m d = true) (h0 : 1 ≤ y) (h1 : mayB y m (d + 1) = false) (h2 : mayB y (m + 1) 1 = false) : m = 12 ∧ d = 31 := by
  obtain ⟨a1, a2, a3, a4, a5, a6⟩ := may_iff.1 h
  have n1 := mt may_iff.2 (show ¬ mayB y m (d + 1) = true by rw [h1]; simp)
  have n2 := mt may_iff.2 (show ¬ mayB y (m + 1) 1 = true by rw [h2]; simp)
  have := dim_bd y (m + 1)
  have hm : m = 12 := by omega
  subst hm
  have := (dim_val y).2.2.2.2.2.2.2.2.2.2
  exact ⟨rfl, by omega⟩
theorem next_year {y : Int} (h : mayB y 12 31 = true) (h0 : 1 ≤ y) (h2 : mayB (y + 1) 1 1 = true) : cnt (y + 1) 1 1 = cnt y 12 31 + 1 := by
  rw [cnt_may h h0, cnt_may h2 (by omega)]
  rw [show ((1 : Int) - 1).toNat = 0 by decide, show ((12 : Int) - 1).toNat = 11 by decide, cum11]
  obtain ⟨a1, a2, _⟩ := may_iff.1 h
  simp only [cumN]
  unfold base
  rcases dim2 h0 with ⟨hl, hd⟩ | ⟨hl, hd⟩
  · have := leap_iff.1 hl
    rw [hd]; omega
  · have := mt leap_iff.2 (show ¬ leapB y = true by rw [hl]; simp)
    rw [hd]; omega
theorem last_year {y : Int} (h : mayB y 12 31 = true) (h0 : 1 ≤ y) (h2 : mayB (y + 1) 1 1 = false) : y = 9999 ∧ cnt y 12 31 = 3652058 := by
  obtain ⟨a1, a2, _⟩ := may_iff.1 h
  have n2 := mt may_iff.2 (show ¬ mayB (y + 1) 1 1 = true by rw [h2]; simp)
  have := (dim_val (y + 1)).1
  have hy : y = 9999 := by omega
  subst hy
  exact ⟨rfl, by decide +kernel⟩
end Go.Proofs.YtelkbodhipfjaaaDoor
