/- The document's own dates: leap years, months, days, two digits, how a date is shown. -/
import Derived.Test.YtelkbodhipfjaaaDoorBk
namespace Go.Proofs.YtelkbodhipfjaaaDoor
open Go.RowKit
set_option linter.unusedVariables false
set_option maxRecDepth 100000
attribute [local go_sem ↓] Go.wp_at_zero Go.wp_at_succ
theorem rleap_any (y : Int) (w : World) : Calls Tryd.prog 11 #[.int .i64 y] w fun e w' => e = .returned (.bool (leapB y)) ∧ w' = w := by
  by_cases h1 : 1 ≤ y
  · by_cases h2 : y ≤ 9999
    · have h0 : 0 ≤ y := by omega
      have e4 : y.tmod 4 = y % 4 := Int.tmod_eq_emod_of_nonneg h0
      have e100 : y.tmod 100 = y % 100 := Int.tmod_eq_emod_of_nonneg h0
      have e400 : y.tmod 400 = y % 400 := Int.tmod_eq_emod_of_nonneg h0
      by_cases c4 : y % 4 = 0
      · by_cases c100 : y % 100 = 0
        · by_cases c400 : y % 400 = 0
          · go_enter Tryd.func11, Tryd.ntmps11
            go_wp2
            go_ret
            exact ⟨ret_bool (by unfold leapB; simp; omega), rfl⟩
          · have d400 : (y % 400 == 0) = false := by simpa using c400
            go_enter Tryd.func11, Tryd.ntmps11
            go_wp2
            go_ret
            exact ⟨ret_bool (by unfold leapB; simp; omega), rfl⟩
        · have d100 : (y % 100 != 0) = true := by simpa using c100
          have d100' : (y % 100 == 0) = false := by simpa using c100
          go_enter Tryd.func11, Tryd.ntmps11
          go_wp2
          go_ret
          exact ⟨ret_bool (by unfold leapB; simp; omega), rfl⟩
      · have d4 : (y % 4 == 0) = false := by simpa using c4
        go_enter Tryd.func11, Tryd.ntmps11
        go_wp2
        go_ret
        exact ⟨ret_bool (by unfold leapB; simp; omega), rfl⟩
    · have d2 : decide (y ≤ 9999) = false := by simpa using h2
      go_enter Tryd.func11, Tryd.ntmps11
      go_wp2
      go_ret
      exact ⟨ret_bool (by unfold leapB; simp; omega), rfl⟩
  · have d1 : decide (1 ≤ y) = false := by simpa using h1
    go_enter Tryd.func11, Tryd.ntmps11
    go_wp2
    go_ret
    exact ⟨ret_bool (by unfold leapB; simp; omega), rfl⟩
set_option maxHeartbeats 4000000 in
theorem month_any (y m : Int) (h1 : 1 ≤ m) (h2 : m ≤ 12) (w : World) : Calls Tryd.prog 23 #[.int .i64 y, .int .i64 m] w fun e w' => e = .returned (.int .i64 (dim y m)) ∧ Below w.heap.size w w' := by
  obtain ⟨v1, v3, v4, v5, v6, v7, v8, v9, v10, v11, v12⟩ := dim_val y
  rcases (by omega : m = 1 ∨ m = 2 ∨ m = 3 ∨ m = 4 ∨ m = 5 ∨ m = 6 ∨ m = 7 ∨ m = 8 ∨ m = 9 ∨ m = 10 ∨ m = 11 ∨ m = 12) with rfl | rfl | rfl | rfl | rfl | rfl | rfl | rfl | rfl | rfl | rfl | rfl
  case inr.inl =>
    clear v1 v3 v4 v5 v6 v7 v8 v9 v10 v11 v12
    by_cases h0 : y = 0
    · subst h0
      have e2 : dim 0 2 = 29 := by unfold dim; simp
      rw [e2]
      go_enter Tryd.func23, Tryd.ntmps23
      go_wp2_with (first
        | (go_at_call 11; refine (rleap_any _ _).mono ?_; rintro _ w2 ⟨rfl, hw⟩; replace hw := hw.symm; subst hw)
        | fail)
      go_ret
      exact ⟨rfl, (Below.refl _ _).alloc (Nat.le_refl _) _⟩
    · have d0 : (y == 0) = false := by simpa using h0
      cases hl : leapB y
      · have e2 : dim y 2 = 28 := by unfold dim; rw [if_pos rfl, if_neg (by rw [hl]; simp; exact h0)]
        have HL := Lib.hid hl
        rw [e2]
        clear hl e2
        go_enter Tryd.func23, Tryd.ntmps23
        go_wp2_with (first
          | (go_at_call 11; refine (rleap_any _ _).mono ?_; rintro _ w2 ⟨rfl, hw⟩; replace hw := hw.symm; subst hw; rw [HL.out])
          | fail)
        go_ret
        exact ⟨rfl, (Below.refl _ _).alloc (Nat.le_refl _) _⟩
      · have e2 : dim y 2 = 29 := by unfold dim; rw [if_pos rfl, if_pos (.inr hl)]
        have HL := Lib.hid hl
        rw [e2]
        clear hl e2
        go_enter Tryd.func23, Tryd.ntmps23
        go_wp2_with (first
          | (go_at_call 11; refine (rleap_any _ _).mono ?_; rintro _ w2 ⟨rfl, hw⟩; replace hw := hw.symm; subst hw; rw [HL.out])
          | fail)
        go_ret
        exact ⟨rfl, (Below.refl _ _).alloc (Nat.le_refl _) _⟩
  all_goals (
    first | rw [v1] | rw [v3] | rw [v4] | rw [v5] | rw [v6] | rw [v7] | rw [v8] | rw [v9] | rw [v10] | rw [v11] | rw [v12]
    clear v1 v3 v4 v5 v6 v7 v8 v9 v10 v11 v12
    go_enter Tryd.func23, Tryd.ntmps23
    go_wp2
    go_ret
    exact ⟨rfl, (Below.refl _ _).alloc (Nat.le_refl _) _⟩)
set_option maxHeartbeats 2000000 in
theorem rmay_any (y m d : Int) (w : World) : Calls Tryd.prog 13 #[.agg #[.int .i64 y, .int .i64 m, .int .i64 d]] w fun e w' => e = .returned (.bool (mayB y m d)) ∧ Below w.heap.size w w' := by
  by_cases c1 : 0 ≤ y
  · by_cases c2 : y ≤ 9999
    · by_cases c3 : 1 ≤ m
      · by_cases c4 : m ≤ 12
        · by_cases c5 : 1 ≤ d
          · have HX0 : Hid (Blk (w.alloc (.cells #[.int .i64 y, .int .i64 m, .int .i64 d] 23)).drew w.heap.size 23 #[.int .i64 y, .int .i64 m, .int .i64 d]) := Lib.hid (Blk.new _ _ _).drew
            have HD := Lib.hid (show mayB y m d = decide (d ≤ dim y m) by unfold mayB; simp [c1, c2, c3, c4, c5])
            rw [HD.out]
            go_enter Tryd.func13, Tryd.ntmps13
            go_wp2_with fail
            obtain ⟨s0, s1, s2⟩ := Blk3.at' HX0.out
            have HLT := Lib.hid HX0.out.lt
            have HM := Lib.hid (fun W => month_any y m c3 c4 W)
            go_region_held3 (fun w' => w'.cell? ⟨w.heap.size, 0, none⟩ = some (.int .i64 y) ∧ w'.cell? ⟨w.heap.size, 1, none⟩ = some (.int .i64 m) ∧ w'.cell? ⟨w.heap.size, 2, none⟩ = some (.int .i64 d)) (refine ⟨?_, ?_, ?_⟩ <;> assumption) (first
              | (go_at_call 23
                 (with_reducible refine (HM.out _).mono ?_)
                 rintro _ w3 ⟨rfl, hb⟩
                 obtain ⟨q0, q1, q2⟩ := Blk3.at' (HX0.out.below hb HLT.out)
                 have HB := Lib.hid ((((Below.refl w.heap.size w).alloc (Nat.le_refl _) _).drew).trans (hb.mono (by simp)))
                 clear hb))
            all_goals (
              go_wp2
              go_ret
              exact ⟨rfl, HB.out⟩)
          · have d5 : decide (1 ≤ d) = false := by simpa using c5
            have HD := Lib.hid (show mayB y m d = false by unfold mayB; simp; omega)
            rw [HD.out]
            go_enter Tryd.func13, Tryd.ntmps13
            go_wp2
            go_quiet (fail)
            go_wp2
            go_ret
            exact ⟨rfl, below_drewN ((Below.refl _ _).alloc (Nat.le_refl _) _) _⟩
        · have d4 : decide (m ≤ 12) = false := by simpa using c4
          have HD := Lib.hid (show mayB y m d = false by unfold mayB; simp; omega)
          rw [HD.out]
          go_enter Tryd.func13, Tryd.ntmps13
          go_wp2
          go_quiet (fail)
          go_wp2
          go_ret
          exact ⟨rfl, below_drewN ((Below.refl _ _).alloc (Nat.le_refl _) _) _⟩
      · have d3 : decide (1 ≤ m) = false := by simpa using c3
        have HD := Lib.hid (show mayB y m d = false by unfold mayB; simp; omega)
        rw [HD.out]
        go_enter Tryd.func13, Tryd.ntmps13
        go_wp2
        go_quiet (fail)
        go_wp2
        go_ret
        exact ⟨rfl, below_drewN ((Below.refl _ _).alloc (Nat.le_refl _) _) _⟩
    · have d2 : decide (y ≤ 9999) = false := by simpa using c2
      have HD := Lib.hid (show mayB y m d = false by unfold mayB; simp; omega)
      rw [HD.out]
      go_enter Tryd.func13, Tryd.ntmps13
      go_wp2
      go_quiet (fail)
      go_wp2
      go_ret
      exact ⟨rfl, below_drewN ((Below.refl _ _).alloc (Nat.le_refl _) _) _⟩
  · have d1 : decide (0 ≤ y) = false := by simpa using c1
    have HD := Lib.hid (show mayB y m d = false by unfold mayB; simp; omega)
    rw [HD.out]
    go_enter Tryd.func13, Tryd.ntmps13
    go_wp2
    go_quiet (fail)
    go_wp2
    go_ret
    exact ⟨rfl, below_drewN ((Below.refl _ _).alloc (Nat.le_refl _) _) _⟩
theorem two_any (n : Nat) (h : n < 100000) (w : World) : Calls Tryd.prog 25 #[.int .i64 (n : Int)] w fun e w' => e = .returned (.string ⟨(dig2 n).toArray⟩) ∧ Below w.heap.size w w' := by
  have h1 := dg_nat n
  have h2 := dg_nat (n / 10)
  have hcv : ∀ W : World, W.heap.size = w.heap.size → (convert 45 9 (.slice (some ⟨w.heap.size, 0, none⟩) 2 2)).run Tryd.prog (W.alloc (.cells #[.int .u8 ((dg (n / 10)).toNat : Int), .int .u8 ((dg n).toNat : Int)] 5)) = .ok (.string ⟨(dig2 n).toArray⟩) (W.alloc (.cells #[.int .u8 ((dg (n / 10)).toNat : Int), .int .u8 ((dg n).toNat : Int)] 5)) := by
    intro W hW
    refine run_convert_bytes_back _ 45 9 5 _ 2 (dig2 n) Tryd.underlying45 Tryd.underlying5 Tryd.underlying9 (fun j hj => ?_)
    have hb := Blk.new W 5 #[.int .u8 ((dg (n / 10)).toNat : Int), .int .u8 ((dg n).toNat : Int)]
    rw [hW] at hb
    rcases (by simp [dig2] at hj; omega : j = 0 ∨ j = 1) with rfl | rfl
    · exact hb.cell 0
    · exact hb.cell 1
  have HC := Lib.hid hcv
  have HC0 := HC.out w rfl
  have e1 : (48 : Int) + (n : Int) / 10 % 10 = ((dg (n / 10)).toNat : Int) := by omega
  have e2 : (48 : Int) + (n : Int) % 10 = ((dg n).toNat : Int) := by omega
  obtain ⟨a, ha⟩ : ∃ a : Int, ((dg (n / 10)).toNat : Int) = a := ⟨_, rfl⟩
  obtain ⟨b, hb⟩ : ∃ b : Int, ((dg n).toNat : Int) = b := ⟨_, rfl⟩
  have u1 : 0 ≤ a ∧ a ≤ 255 := by omega
  have u2 : 0 ≤ b ∧ b ≤ 255 := by omega
  obtain ⟨u11, u12⟩ := u1
  obtain ⟨u21, u22⟩ := u2
  rw [ha, hb] at HC0
  rw [ha] at e1
  rw [hb] at e2
  clear hcv ha hb h1 h2
  go_enter Tryd.func25, Tryd.ntmps25
  go_wp2
  go_ret
  exact ⟨rfl, (Below.refl _ _).alloc (Nat.le_refl _) _⟩
end Go.Proofs.YtelkbodhipfjaaaDoor
