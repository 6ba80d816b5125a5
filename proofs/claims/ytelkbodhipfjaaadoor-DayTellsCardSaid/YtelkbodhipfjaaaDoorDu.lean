/- Dates: the day in a year, how long until. -/
import Derived.Test.YtelkbodhipfjaaaDoorDm
namespace Go.Proofs.YtelkbodhipfjaaaDoor
open Go.RowKit
set_option linter.unusedVariables false
set_option maxRecDepth 20000
/-- The day in year y on which m, d is kept. -/
def inM (m d y : Int) : Int := if m = 2 ∧ d = 29 ∧ leapB y = false then 3 else m
def inD (m d y : Int) : Int := if m = 2 ∧ d = 29 ∧ leapB y = false then 1 else d
def atY (m d y : Int) : Int := cnt y (inM m d y) (inD m d y)
def untl (y m d ty tm td : Int) : Int :=
  if mayB y m d = false ∨ cnt ty tm td < 0 then -1
  else if cnt ty tm td ≤ atY m d ty then atY m d ty - cnt ty tm td
  else if ty + 1 ≤ 9999 ∧ cnt ty tm td ≤ atY m d (ty + 1) then atY m d (ty + 1) - cnt ty tm td else -1
theorem base_bd {y : Int} (h1 : 1 ≤ y) (h2 : y ≤ 9999) : 0 ≤ base y ∧ base y ≤ 4000000 := by unfold base; omega
theorem cnt_bd (y m d : Int) : -1 ≤ cnt y m d ∧ cnt y m d ≤ 5000000 := by
  unfold cnt
  split
  · next h =>
    obtain ⟨h1, h2⟩ := h
    obtain ⟨a1, a2, a3, a4, a5, a6⟩ := may_iff.1 h1
    have := base_bd (y := y) (by omega) a2
    have := cum_bd y (m - 1).toNat
    have := dim_bd y m
    omega
  · omega
theorem inYear_any (y m d z : Int) (w : World) : Calls Tryd.prog 26 #[.agg #[.int .i64 y, .int .i64 m, .int .i64 d], .int .i64 z] w fun e w' => e = .returned (.agg #[.int .i64 z, .int .i64 (inM m d z), .int .i64 (inD m d z)]) ∧ Below w.heap.size w w' := by
  by_cases h2 : m = 2
  · subst h2
    by_cases h29 : d = 29
    · subst h29
      cases hl : leapB z
      all_goals (
        have HL := Lib.hid hl
        clear hl
        go_enter Tryd.func26, Tryd.ntmps26
        go_wp2_with (first
          | (go_at_call 10; refine (leap_any _ _).mono ?_; rintro _ w2 ⟨rfl, hw⟩; replace hw := hw.symm; subst hw; rw [HL.out])
          | fail)
        unfold inM inD
        rw [HL.out])
      · exact bodyPost_ret (v := .agg #[.int .i64 z, .int .i64 3, .int .i64 1]) (by simp [results, Tryd.results26, go_sem]) rfl ⟨by simp, ((Below.refl _ _).alloc (Nat.le_refl _) _).alloc (by simp) _⟩
      · exact bodyPost_ret (v := .agg #[.int .i64 z, .int .i64 2, .int .i64 29]) (by simp [results, Tryd.results26, go_sem]) rfl ⟨by simp, ((Below.refl _ _).alloc (Nat.le_refl _) _).alloc (by simp) _⟩
    · have d29 : (d == 29) = false := by simpa using h29
      go_enter Tryd.func26, Tryd.ntmps26
      go_wp2
      unfold inM inD
      rw [if_neg (by omega), if_neg (by omega)]
      exact bodyPost_ret (v := .agg #[.int .i64 z, .int .i64 2, .int .i64 d]) (by simp [results, Tryd.results26, go_sem]) rfl ⟨rfl, ((Below.refl _ _).alloc (Nat.le_refl _) _).alloc (by simp) _⟩
  · have d2 : (m == 2) = false := by simpa using h2
    go_enter Tryd.func26, Tryd.ntmps26
    go_wp2
    unfold inM inD
    rw [if_neg (by omega), if_neg (by omega)]
    exact bodyPost_ret (v := .agg #[.int .i64 z, .int .i64 m, .int .i64 d]) (by simp [results, Tryd.results26, go_sem]) rfl ⟨rfl, ((Below.refl _ _).alloc (Nat.le_refl _) _).alloc (by simp) _⟩
/-- Two dates in boxes of the call's own; nothing that was has turned. -/
structure Bx2 (w0 wr : World) (B C : Nat) (y m d ty tm td : Int) : Prop where
  one : Blk wr B 23 #[.int .i64 y, .int .i64 m, .int .i64 d]
  two : Blk wr C 23 #[.int .i64 ty, .int .i64 tm, .int .i64 td]
  bel : Below w0.heap.size w0 wr
theorem Bx2.step {w0 wr w' : World} {B C : Nat} {y m d ty tm td : Int} (h : Bx2 w0 wr B C y m d ty tm td) (hb : Below wr.heap.size wr w') : Bx2 w0 w' B C y m d ty tm td :=
  ⟨h.one.below hb h.one.lt, h.two.below hb h.two.lt, h.bel.trans (hb.mono h.bel.size)⟩
set_option maxHeartbeats 2000000 in
theorem until_any (y m d ty tm td : Int) (w : World) : Calls Tryd.prog 18 #[.agg #[.int .i64 y, .int .i64 m, .int .i64 d], .agg #[.int .i64 ty, .int .i64 tm, .int .i64 td]] w fun e w' => e = .returned (.int .i64 (untl y m d ty tm td)) ∧ Below w.heap.size w w' := by
  obtain ⟨now, hnow⟩ : ∃ now, cnt ty tm td = now := ⟨_, rfl⟩
  obtain ⟨n0, n1⟩ := cnt_bd ty tm td
  rw [hnow] at n0 n1
  have HN := Lib.hid hnow
  clear hnow
  have HX0 : Hid (Bx2 w ((w.alloc (.cells #[.int .i64 y, .int .i64 m, .int .i64 d] 23)).alloc (.cells #[.int .i64 ty, .int .i64 tm, .int .i64 td] 23)) w.heap.size (w.heap.size + 1) y m d ty tm td) :=
    Lib.hid ⟨(Blk.new w 23 _).alloc _, by have := Blk.new (w.alloc (.cells #[.int .i64 y, .int .i64 m, .int .i64 d] 23)) 23 #[.int .i64 ty, .int .i64 tm, .int .i64 td]; simpa using this, ((Below.refl _ _).alloc (Nat.le_refl _) _).alloc (by simp) _⟩
  cases hm : mayB y m d
  · have HM := Lib.hid hm
    clear hm
    go_enter Tryd.func18, Tryd.ntmps18
    go_wp2_with (first
      | (go_at_call 16; refine (count_any _ _ _ _).mono ?_; rintro _ w2 ⟨rfl, hb⟩; rw [HN.out]; have HX2 := Lib.hid (HX0.out.step hb); have a0 := HX2.out.one.cell 0; have a1 := HX2.out.one.cell 1; have a2 := HX2.out.one.cell 2; clear hb)
      | (go_at_call 12; refine (may_any _ _ _ _).mono ?_; rintro _ w3 ⟨rfl, hb⟩; rw [HM.out]; have HX3 := Lib.hid (HX2.out.step hb); clear hb)
      | fail)
    go_ret
    exact ⟨ret_i64 (by unfold untl; rw [HM.out]; simp), HX3.out.bel⟩
  · have HM := Lib.hid hm
    clear hm
    by_cases hneg : now < 0
    · go_enter Tryd.func18, Tryd.ntmps18
      go_wp2_with (first
        | (go_at_call 16; refine (count_any _ _ _ _).mono ?_; rintro _ w2 ⟨rfl, hb⟩; rw [HN.out]; have HX2 := Lib.hid (HX0.out.step hb); have a0 := HX2.out.one.cell 0; have a1 := HX2.out.one.cell 1; have a2 := HX2.out.one.cell 2; clear hb)
        | (go_at_call 12; refine (may_any _ _ _ _).mono ?_; rintro _ w3 ⟨rfl, hb⟩; rw [HM.out]; have HX3 := Lib.hid (HX2.out.step hb); clear hb)
        | fail)
      go_ret
      exact ⟨ret_i64 (by unfold untl; rw [HN.out, if_pos (.inr hneg)]), HX3.out.bel⟩
    · have hty : 1 ≤ ty ∧ ty ≤ 9999 := by
        have h := HN.out
        unfold cnt at h
        split at h
        · next h5 => have := may_iff.1 h5.1; omega
        · omega
      obtain ⟨ty1, ty2⟩ := hty
      go_enter Tryd.func18, Tryd.ntmps18
      go_wp2_with (first
        | (go_at_call 16; refine (count_any _ _ _ _).mono ?_; rintro _ w2 ⟨rfl, hb⟩; rw [HN.out]; have HX2 := Lib.hid (HX0.out.step hb); have a0 := HX2.out.one.cell 0; have a1 := HX2.out.one.cell 1; have a2 := HX2.out.one.cell 2; clear hb)
        | (go_at_call 12; refine (may_any _ _ _ _).mono ?_; rintro _ w3 ⟨rfl, hb⟩; rw [HM.out]; have HX3 := Lib.hid (HX2.out.step hb); have b0 := HX3.out.two.cell 0; clear hb a0 a1 a2)
        | fail)
      clear b0
      generalize w.heap.size = B at HX3 ⊢
      go_loopw [6] (fun yy wr => ∃ j : Nat, j ≤ 2 ∧ yy = .int .i64 (ty + (j : Int)) ∧ (1 ≤ j → atY m d ty < now) ∧ (2 ≤ j → atY m d (ty + 1) < now) ∧ Bx2 w wr B (B + 1) y m d ty tm td) (fun yy _ => 2 - (intOf yy - ty).toNat)
      case atStart => exact ⟨0, by omega, by simp, by omega, by omega, HX3.out⟩
      case round =>
        obtain ⟨j, hj, rfl, hj1, hj2, hx⟩ := hrel
        have HX := Lib.hid hx
        have HJ1 := Lib.hid hj1
        have HJ2 := Lib.hid hj2
        have a0 := hx.one.cell 0
        have a1 := hx.one.cell 1
        have a2 := hx.one.cell 2
        have b0 := hx.two.cell 0
        clear hx hj1 hj2
        by_cases hin : ty + (j : Int) ≤ 9999 ∧ j ≤ 1
        · obtain ⟨i1, i2⟩ := hin
          have i3 : ty + (j : Int) ≤ ty + 1 := by omega
          obtain ⟨at_, hat⟩ : ∃ at_, atY m d (ty + (j : Int)) = at_ := ⟨_, rfl⟩
          obtain ⟨q0, q1⟩ := cnt_bd (ty + (j : Int)) (inM m d (ty + (j : Int))) (inD m d (ty + (j : Int)))
          have HAT := Lib.hid (show cnt (ty + (j : Int)) (inM m d (ty + (j : Int))) (inD m d (ty + (j : Int))) = at_ from hat)
          rw [HAT.out] at q0 q1
          clear hat
          by_cases hge : now ≤ at_
          · go_wp2_with (first
              | (go_at_call 26; refine (inYear_any _ _ _ _ _).mono ?_; rintro _ w4 ⟨rfl, hb⟩; have HX4 := Lib.hid (HX.out.step hb); clear hb)
              | (go_at_call 16; refine (count_any _ _ _ _).mono ?_; rintro _ w5 ⟨rfl, hb⟩; rw [HAT.out]; have HX5 := Lib.hid (HX4.out.step hb); clear hb)
              | fail)
            go_ret
            refine ⟨ret_i64 ?_, HX5.out.bel⟩
            unfold untl
            rw [HN.out, if_neg (by rw [HM.out]; simp; omega)]
            rcases (by omega : j = 0 ∨ j = 1) with rfl | rfl
            · have e0 : atY m d ty = at_ := by have := HAT.out; simpa [atY] using this
              rw [e0, if_pos hge]
            · have e1 : atY m d (ty + 1) = at_ := by have := HAT.out; simpa [atY] using this
              have := HJ1.out (by omega)
              rw [if_neg (by omega), e1, if_pos ⟨by omega, hge⟩]
          · go_wp2_with (first
              | (go_at_call 26; refine (inYear_any _ _ _ _ _).mono ?_; rintro _ w4 ⟨rfl, hb⟩; have HX4 := Lib.hid (HX.out.step hb); clear hb)
              | (go_at_call 16; refine (count_any _ _ _ _).mono ?_; rintro _ w5 ⟨rfl, hb⟩; rw [HAT.out]; have HX5 := Lib.hid (HX4.out.step hb); clear hb)
              | fail)
            go_roundw
            case rel =>
              refine ⟨j + 1, by omega, by go_num, fun _ => ?_, fun h => ?_, HX5.out⟩
              · rcases (by omega : j = 0 ∨ j = 1) with rfl | rfl
                · have e0 : atY m d ty = at_ := by have := HAT.out; simpa [atY] using this
                  omega
                · exact HJ1.out (by omega)
              · obtain rfl : j = 1 := by omega
                have e1 : atY m d (ty + 1) = at_ := by have := HAT.out; simpa [atY] using this
                omega
            case measure => simp [intOf]; omega
        · by_cases i1 : ty + (j : Int) ≤ 9999
          · have i3 : ¬ ty + (j : Int) ≤ ty + 1 := by omega
            go_wp2
            go_ret
            refine ⟨ret_i64 ?_, HX.out.bel⟩
            obtain rfl : j = 2 := by omega
            have := HJ1.out (by omega)
            have := HJ2.out (by omega)
            unfold untl
            rw [HN.out, if_neg (by rw [HM.out]; simp; omega), if_neg (by omega), if_neg (by omega)]
          · go_wp2
            go_ret
            refine ⟨ret_i64 ?_, HX.out.bel⟩
            have h1 := HJ1.out (by omega)
            unfold untl
            rw [HN.out, if_neg (by rw [HM.out]; simp; omega), if_neg (by omega), if_neg]
            rintro ⟨g1, g2⟩
            have := HJ2.out (by omega)
            omega
end Go.Proofs.YtelkbodhipfjaaaDoor
