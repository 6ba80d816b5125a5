/- The document's own dates: how long until; DayTells' walk. -/
import Derived.Test.YtelkbodhipfjaaaDoorRh
import Derived.Test.YtelkbodhipfjaaaDoorUn
namespace Go.Proofs.YtelkbodhipfjaaaDoor
open Go.RowKit
set_option linter.unusedVariables false
set_option maxRecDepth 100000
attribute [local go_sem ↓] Go.wp_at_zero Go.wp_at_succ
set_option maxHeartbeats 8000000 in
theorem runtil_bad1 (y m d ty tm td : Int) (w : World) (hm : mayB y m d = false) : Calls Tryd.prog 19 #[.agg #[.int .i64 y, .int .i64 m, .int .i64 d], .agg #[.int .i64 ty, .int .i64 tm, .int .i64 td]] w fun e w' => e = .returned (.int .i64 (untl y m d ty tm td)) ∧ Below w.heap.size w w' := by
  have HX0 : Hid (Bx2 w ((w.alloc (.cells #[.int .i64 y, .int .i64 m, .int .i64 d] 23)).alloc (.cells #[.int .i64 ty, .int .i64 tm, .int .i64 td] 23)) w.heap.size (w.heap.size + 1) y m d ty tm td) :=
    Lib.hid ⟨(Blk.new w 23 _).alloc _, by have := Blk.new (w.alloc (.cells #[.int .i64 y, .int .i64 m, .int .i64 d] 23)) 23 #[.int .i64 ty, .int .i64 tm, .int .i64 td]; simpa using this, ((Below.refl _ _).alloc (Nat.le_refl _) _).alloc (by simp) _⟩
  have HM := Lib.hid hm
  have HU := Lib.hid (show untl y m d ty tm td = -1 by unfold untl; rw [if_pos (.inl hm)])
  rw [HU.out]
  clear hm
  go_enter Tryd.func19, Tryd.ntmps19
  go_wp2_with (first
    | (go_at_call 13; (with_reducible refine (rmay_any y m d _).mono ?_); rintro _ w2 ⟨rfl, hb⟩; rw [HM.out]; have HX2 := Lib.hid (HX0.out.step hb); obtain ⟨b0, b1, b2⟩ := HX2.out.two3; clear hb)
    | fail)
  go_ret
  exact ⟨rfl, HX2.out.bel⟩
set_option maxHeartbeats 8000000 in
theorem runtil_bad2 (y m d ty tm td : Int) (w : World) (hm : mayB y m d = true) (ht : mayB ty tm td = false) : Calls Tryd.prog 19 #[.agg #[.int .i64 y, .int .i64 m, .int .i64 d], .agg #[.int .i64 ty, .int .i64 tm, .int .i64 td]] w fun e w' => e = .returned (.int .i64 (untl y m d ty tm td)) ∧ Below w.heap.size w w' := by
  have HX0 : Hid (Bx2 w ((w.alloc (.cells #[.int .i64 y, .int .i64 m, .int .i64 d] 23)).alloc (.cells #[.int .i64 ty, .int .i64 tm, .int .i64 td] 23)) w.heap.size (w.heap.size + 1) y m d ty tm td) :=
    Lib.hid ⟨(Blk.new w 23 _).alloc _, by have := Blk.new (w.alloc (.cells #[.int .i64 y, .int .i64 m, .int .i64 d] 23)) 23 #[.int .i64 ty, .int .i64 tm, .int .i64 td]; simpa using this, ((Below.refl _ _).alloc (Nat.le_refl _) _).alloc (by simp) _⟩
  have HM := Lib.hid hm
  have HT := Lib.hid ht
  have HU := Lib.hid (show untl y m d ty tm td = -1 by unfold untl; rw [if_pos (.inr (by unfold cnt; rw [ht]; simp))])
  rw [HU.out]
  clear hm ht
  go_enter Tryd.func19, Tryd.ntmps19
  go_wp2_with (first
    | (go_at_call 13; (with_reducible refine (rmay_any y m d _).mono ?_); rintro _ w2 ⟨rfl, hb⟩; rw [HM.out]; have HX2 := Lib.hid (HX0.out.step hb); obtain ⟨b0, b1, b2⟩ := HX2.out.two3; clear hb)
    | (go_at_call 13; (with_reducible refine (rmay_any ty tm td _).mono ?_); rintro _ w3 ⟨rfl, hb⟩; rw [HT.out]; have HX3 := Lib.hid (HX2.out.step hb); obtain ⟨b0, b1, b2⟩ := HX3.out.two3; clear hb)
    | fail)
  go_ret
  exact ⟨rfl, HX3.out.bel⟩
set_option maxHeartbeats 8000000 in
theorem runtil_bad3 (y m d ty tm td : Int) (w : World) (hm : mayB y m d = true) (ht : mayB ty tm td = true) (h0 : ty = 0) : Calls Tryd.prog 19 #[.agg #[.int .i64 y, .int .i64 m, .int .i64 d], .agg #[.int .i64 ty, .int .i64 tm, .int .i64 td]] w fun e w' => e = .returned (.int .i64 (untl y m d ty tm td)) ∧ Below w.heap.size w w' := by
  have HX0 : Hid (Bx2 w ((w.alloc (.cells #[.int .i64 y, .int .i64 m, .int .i64 d] 23)).alloc (.cells #[.int .i64 ty, .int .i64 tm, .int .i64 td] 23)) w.heap.size (w.heap.size + 1) y m d ty tm td) :=
    Lib.hid ⟨(Blk.new w 23 _).alloc _, by have := Blk.new (w.alloc (.cells #[.int .i64 y, .int .i64 m, .int .i64 d] 23)) 23 #[.int .i64 ty, .int .i64 tm, .int .i64 td]; simpa using this, ((Below.refl _ _).alloc (Nat.le_refl _) _).alloc (by simp) _⟩
  subst h0
  have HM := Lib.hid hm
  have HT := Lib.hid ht
  have HU := Lib.hid (show untl y m d 0 tm td = -1 by unfold untl; rw [if_pos (.inr (by unfold cnt; simp))])
  rw [HU.out]
  clear hm ht
  go_enter Tryd.func19, Tryd.ntmps19
  go_wp2_with (first
    | (go_at_call 13; (with_reducible refine (rmay_any y m d _).mono ?_); rintro _ w2 ⟨rfl, hb⟩; rw [HM.out]; have HX2 := Lib.hid (HX0.out.step hb); obtain ⟨b0, b1, b2⟩ := HX2.out.two3; clear hb)
    | (go_at_call 13; (with_reducible refine (rmay_any 0 tm td _).mono ?_); rintro _ w3 ⟨rfl, hb⟩; rw [HT.out]; have HX3 := Lib.hid (HX2.out.step hb); obtain ⟨b0, b1, b2⟩ := HX3.out.two3; clear hb)
    | fail)
  go_ret
  exact ⟨rfl, HX3.out.bel⟩
set_option maxHeartbeats 8000000 in
theorem runtil_ok (y m d ty tm td : Int) (w : World) (hm : mayB y m d = true) (ht : mayB ty tm td = true) (h1 : 1 ≤ ty) : Calls Tryd.prog 19 #[.agg #[.int .i64 y, .int .i64 m, .int .i64 d], .agg #[.int .i64 ty, .int .i64 tm, .int .i64 td]] w fun e w' => e = .returned (.int .i64 (untl y m d ty tm td)) ∧ Below w.heap.size w w' := by
  have HX0 : Hid (Bx2 w ((w.alloc (.cells #[.int .i64 y, .int .i64 m, .int .i64 d] 23)).alloc (.cells #[.int .i64 ty, .int .i64 tm, .int .i64 td] 23)) w.heap.size (w.heap.size + 1) y m d ty tm td) :=
    Lib.hid ⟨(Blk.new w 23 _).alloc _, by have := Blk.new (w.alloc (.cells #[.int .i64 y, .int .i64 m, .int .i64 d] 23)) 23 #[.int .i64 ty, .int .i64 tm, .int .i64 td]; simpa using this, ((Below.refl _ _).alloc (Nat.le_refl _) _).alloc (by simp) _⟩
  have HM := Lib.hid hm
  have HT := Lib.hid ht
  obtain ⟨now, hnow⟩ : ∃ now, cnt ty tm td = now := ⟨_, rfl⟩
  have hn0 : 0 ≤ now := by rw [← hnow]; exact cnt_nn ht h1
  have hn1 : now ≤ 5000000 := by rw [← hnow]; exact (cnt_bd _ _ _).2
  have HN := Lib.hid hnow
  have hty9 : ty ≤ 9999 := (may_iff.1 ht).2.1
  have d0 : (ty == 0) = false := by simp; omega
  clear hm ht hnow
  go_enter Tryd.func19, Tryd.ntmps19
  go_wp2_with (first
    | (go_at_call 13; (with_reducible refine (rmay_any y m d _).mono ?_); rintro _ w2 ⟨rfl, hb⟩; rw [HM.out]; have HX2 := Lib.hid (HX0.out.step hb); obtain ⟨b0, b1, b2⟩ := HX2.out.two3; clear hb)
    | (go_at_call 13; (with_reducible refine (rmay_any ty tm td _).mono ?_); rintro _ w3 ⟨rfl, hb⟩; rw [HT.out]; have HX3 := Lib.hid (HX2.out.step hb); obtain ⟨b0, b1, b2⟩ := HX3.out.two3; clear hb)
    | fail)
  clear b0 b1 b2
  obtain ⟨B, hB⟩ : ∃ B, w.heap.size = B := ⟨_, rfl⟩
  have HB := Lib.hid hB
  rw [hB] at HX3 ⊢
  clear hB
  go_loopw [5] (fun yy wr => ∃ j : Nat, j ≤ 2 ∧ yy = .int .i64 (ty + (j : Int)) ∧ (1 ≤ j → atY m d ty < now) ∧ (2 ≤ j → atY m d (ty + 1) < now) ∧ Bx2 w wr B (B + 1) y m d ty tm td) (fun yy _ => 2 - (intOf yy - ty).toNat)
  case atStart => exact ⟨0, by omega, by simp, by omega, by omega, HX3.out⟩
  case round =>
    obtain ⟨j, hj, rfl, hj1, hj2, hx⟩ := hrel
    have HX := Lib.hid hx
    have HJ1 := Lib.hid hj1
    have HJ2 := Lib.hid hj2
    obtain ⟨a0, a1, a2⟩ := hx.one3
    obtain ⟨b0, b1, b2⟩ := hx.two3
    clear hx hj1 hj2
    by_cases hin : j ≤ 1 ∧ ty + (j : Int) ≤ 9999
    · obtain ⟨i1, i2⟩ := hin
      have i3 : ty + (j : Int) ≤ ty + 1 := by omega
      obtain ⟨z, hz⟩ : ∃ z, ty + (j : Int) = z := ⟨_, rfl⟩
      obtain ⟨at_, hat⟩ : ∃ at_, atY m d z = at_ := ⟨_, rfl⟩
      obtain ⟨q0, q1⟩ := cnt_bd z (inM m d z) (inD m d z)
      have HAT := Lib.hid (show cnt z (inM m d z) (inD m d z) = at_ from hat)
      rw [HAT.out] at q0 q1
      have HZ := Lib.hid hz
      have HXE := Lib.hid (show Bx3 w (wr.alloc (.cells #[.int .i64 z, .int .i64 m, .int .i64 d] 23)) B (B + 1) wr.heap.size y m d ty tm td z m d from
        ⟨HX.out.one.alloc _, HX.out.two.alloc _, Blk.new _ _ _, HX.out.bel.alloc HX.out.bel.size _⟩)
      have HEB := Lib.hid HX.out.one.lt
      have HET := Lib.hid HX.out.two.lt
      have HE0 := Lib.hid HX.out.bel.size
      have i4 : IntKind.i64.wrap (at_ - now) = at_ - now := by rw [IntWalk.i64_left, IntWalk.wrap64_in _ (by omega)]
      have I4 := Lib.hid i4
      have HRET : Hid (now ≤ at_ → untl y m d ty tm td = at_ - now) := Lib.hid (fun hge => by
        unfold untl
        rw [HN.out, if_neg (by rw [HM.out]; simp; omega)]
        rcases (by omega : j = 0 ∨ j = 1) with rfl | rfl
        · have e0 : atY m d ty = at_ := by have h5 := hz; simp at h5; rw [h5]; exact hat
          rw [e0, if_pos hge]
        · have e1 : atY m d (ty + 1) = at_ := by have h5 := hz; simp at h5; rw [h5]; exact hat
          have := HJ1.out (by omega)
          rw [if_neg (by omega), e1, if_pos ⟨by have h5 := hz; omega, hge⟩])
      have HNEXT : Hid (¬ now ≤ at_ → (1 ≤ j + 1 → atY m d ty < now) ∧ (2 ≤ j + 1 → atY m d (ty + 1) < now)) := Lib.hid (fun hlt => by
        refine ⟨fun _ => ?_, fun h => ?_⟩
        · rcases (by omega : j = 0 ∨ j = 1) with rfl | rfl
          · have e0 : atY m d ty = at_ := by have h5 := hz; simp at h5; rw [h5]; exact hat
            omega
          · exact HJ1.out (by omega)
        · obtain rfl : j = 1 := by omega
          have e1 : atY m d (ty + 1) = at_ := by have h5 := hz; simp at h5; rw [h5]; exact hat
          omega)
      have hz9 : z ≤ 9999 := by omega
      have hz1 : z ≤ ty + 1 := by omega
      rw [hz]
      have hz0 : 1 ≤ z := by omega
      have heb := HEB.out
      have het := HET.out
      clear hat hz i2 i3 i4
      by_cases m2 : m = 2
      · subst m2
        by_cases d29 : d = 29
        · subst d29
          cases hl : leapB z
          · have HL := Lib.hid hl
            have HA3 := Lib.hid (show cnt z 3 1 = at_ by have := HAT.out; unfold inM inD at this; rw [if_pos ⟨rfl, rfl, HL.out⟩, if_pos ⟨rfl, rfl, HL.out⟩] at this; exact this)
            clear hl
            go_wp2_with (first
              | (go_at_call 11; refine (rleap_any _ _).mono ?_; rintro _ w4 ⟨rfl, hw⟩; replace hw := hw.symm; subst hw; rw [HL.out])
              | fail)
            have HXP := Lib.hid (show Bx3 w (wr.alloc (.cells #[.int .i64 z, .int .i64 3, .int .i64 1] 23)) B (B + 1) wr.heap.size y 2 29 ty tm td z 3 1 from
              ⟨HX.out.one.alloc _, HX.out.two.alloc _, Blk.new _ _ _, HX.out.bel.alloc HX.out.bel.size _⟩)
            generalize wr.heap.size = E at *
            have HXD := Lib.hid (HXP.out.drewN 1)
            have HS1 : Hid (∀ wr, Bx3 w wr B (B + 1) E y 2 29 ty tm td z 3 1 → (wr.cell? ⟨E, 0, none⟩ = some (.int .i64 z) ∧ wr.cell? ⟨E, 1, none⟩ = some (.int .i64 3) ∧ wr.cell? ⟨E, 2, none⟩ = some (.int .i64 1) ∧ wr.cell? ⟨B + 1, 0, none⟩ = some (.int .i64 ty) ∧ wr.cell? ⟨B + 1, 1, none⟩ = some (.int .i64 tm) ∧ wr.cell? ⟨B + 1, 2, none⟩ = some (.int .i64 td))) := Lib.hid fun wr h => ⟨h.two3.1, h.two3.2.1, h.two3.2.2, h.tod3.1, h.tod3.2.1, h.tod3.2.2⟩
            have s0 := HS1.out _ HXD.out
            have i4 := I4.out
            go_region_held3 (fun w' => w'.cell? ⟨E, 0, none⟩ = some (.int .i64 z) ∧ w'.cell? ⟨E, 1, none⟩ = some (.int .i64 3) ∧ w'.cell? ⟨E, 2, none⟩ = some (.int .i64 1) ∧ w'.cell? ⟨B + 1, 0, none⟩ = some (.int .i64 ty) ∧ w'.cell? ⟨B + 1, 1, none⟩ = some (.int .i64 tm) ∧ w'.cell? ⟨B + 1, 2, none⟩ = some (.int .i64 td)) (first | exact s0 | exact s1 | exact s2) (first
              | (go_at_call 17
                 (with_reducible refine (rcount_any z 3 1 _).mono ?_)
                 rintro _ u1 ⟨rfl, hb⟩
                 rw [HA3.out]
                 have HU1 := Lib.hid (HXD.out.step hb)
                 have s1 := HS1.out _ HU1.out
                 clear hb)
              | (go_at_call 17
                 (with_reducible refine (rcount_any ty tm td _).mono ?_)
                 rintro _ u2 ⟨rfl, hb⟩
                 rw [HN.out]
                 have HU2 := Lib.hid (HU1.out.step hb)
                 have s2 := HS1.out _ HU2.out
                 clear hb))
            all_goals (
              clear s0 s1 s2 i4
              by_cases hge : now ≤ at_
              · have hge2 : 0 ≤ at_ - now := by omega
                have hge3 : at_ - now ≥ 0 := by omega
                have HR := Lib.hid (HRET.out hge)
                go_wp2
                go_ret
                exact ⟨ret_i64 HR.out.symm, HU2.out.bel⟩
              · have hge2 : ¬ 0 ≤ at_ - now := by omega
                have HR := Lib.hid (HNEXT.out (by omega))
                go_wp2_with fail
                exact ⟨⟨j + 1, by omega, by rw [← HZ.out]; go_num, HR.out.1, HR.out.2, ⟨HU2.out.one, HU2.out.tod, HU2.out.bel⟩⟩, by rw [← HZ.out]; simp [intOf]; omega⟩)
          · have HL := Lib.hid hl
            have HA3 := Lib.hid (show cnt z 2 29 = at_ by have := HAT.out; unfold inM inD at this; rw [if_neg (by rw [HL.out]; simp), if_neg (by rw [HL.out]; simp)] at this; exact this)
            clear hl
            go_wp2_with (first
              | (go_at_call 11; refine (rleap_any _ _).mono ?_; rintro _ w4 ⟨rfl, hw⟩; replace hw := hw.symm; subst hw; rw [HL.out])
              | fail)
            generalize wr.heap.size = E at *
            have HXD := Lib.hid (HXE.out.drewN 1)
            have HS1 : Hid (∀ wr, Bx3 w wr B (B + 1) E y 2 29 ty tm td z 2 29 → (wr.cell? ⟨E, 0, none⟩ = some (.int .i64 z) ∧ wr.cell? ⟨E, 1, none⟩ = some (.int .i64 2) ∧ wr.cell? ⟨E, 2, none⟩ = some (.int .i64 29) ∧ wr.cell? ⟨B + 1, 0, none⟩ = some (.int .i64 ty) ∧ wr.cell? ⟨B + 1, 1, none⟩ = some (.int .i64 tm) ∧ wr.cell? ⟨B + 1, 2, none⟩ = some (.int .i64 td))) := Lib.hid fun wr h => ⟨h.two3.1, h.two3.2.1, h.two3.2.2, h.tod3.1, h.tod3.2.1, h.tod3.2.2⟩
            have s0 := HS1.out _ HXD.out
            have i4 := I4.out
            go_region_held3 (fun w' => w'.cell? ⟨E, 0, none⟩ = some (.int .i64 z) ∧ w'.cell? ⟨E, 1, none⟩ = some (.int .i64 2) ∧ w'.cell? ⟨E, 2, none⟩ = some (.int .i64 29) ∧ w'.cell? ⟨B + 1, 0, none⟩ = some (.int .i64 ty) ∧ w'.cell? ⟨B + 1, 1, none⟩ = some (.int .i64 tm) ∧ w'.cell? ⟨B + 1, 2, none⟩ = some (.int .i64 td)) (first | exact s0 | exact s1 | exact s2) (first
              | (go_at_call 17
                 (with_reducible refine (rcount_any z 2 29 _).mono ?_)
                 rintro _ u1 ⟨rfl, hb⟩
                 rw [HA3.out]
                 have HU1 := Lib.hid (HXD.out.step hb)
                 have s1 := HS1.out _ HU1.out
                 clear hb)
              | (go_at_call 17
                 (with_reducible refine (rcount_any ty tm td _).mono ?_)
                 rintro _ u2 ⟨rfl, hb⟩
                 rw [HN.out]
                 have HU2 := Lib.hid (HU1.out.step hb)
                 have s2 := HS1.out _ HU2.out
                 clear hb))
            all_goals (
              clear s0 s1 s2 i4
              by_cases hge : now ≤ at_
              · have hge2 : 0 ≤ at_ - now := by omega
                have hge3 : at_ - now ≥ 0 := by omega
                have HR := Lib.hid (HRET.out hge)
                go_wp2
                go_ret
                exact ⟨ret_i64 HR.out.symm, HU2.out.bel⟩
              · have hge2 : ¬ 0 ≤ at_ - now := by omega
                have HR := Lib.hid (HNEXT.out (by omega))
                go_wp2_with fail
                exact ⟨⟨j + 1, by omega, by rw [← HZ.out]; go_num, HR.out.1, HR.out.2, ⟨HU2.out.one, HU2.out.tod, HU2.out.bel⟩⟩, by rw [← HZ.out]; simp [intOf]; omega⟩)
        · have d29' : (d == 29) = false := by simpa using d29
          have HA3 := Lib.hid (show cnt z 2 d = at_ by have := HAT.out; unfold inM inD at this; rw [if_neg (by omega), if_neg (by omega)] at this; exact this)
          go_wp2_with fail
          generalize wr.heap.size = E at *
          have HXD := Lib.hid (HXE.out.drewN 1)
          have HS1 : Hid (∀ wr, Bx3 w wr B (B + 1) E y 2 d ty tm td z 2 d → (wr.cell? ⟨E, 0, none⟩ = some (.int .i64 z) ∧ wr.cell? ⟨E, 1, none⟩ = some (.int .i64 2) ∧ wr.cell? ⟨E, 2, none⟩ = some (.int .i64 d) ∧ wr.cell? ⟨B + 1, 0, none⟩ = some (.int .i64 ty) ∧ wr.cell? ⟨B + 1, 1, none⟩ = some (.int .i64 tm) ∧ wr.cell? ⟨B + 1, 2, none⟩ = some (.int .i64 td))) := Lib.hid fun wr h => ⟨h.two3.1, h.two3.2.1, h.two3.2.2, h.tod3.1, h.tod3.2.1, h.tod3.2.2⟩
          have s0 := HS1.out _ HXD.out
          have i4 := I4.out
          go_region_held3 (fun w' => w'.cell? ⟨E, 0, none⟩ = some (.int .i64 z) ∧ w'.cell? ⟨E, 1, none⟩ = some (.int .i64 2) ∧ w'.cell? ⟨E, 2, none⟩ = some (.int .i64 d) ∧ w'.cell? ⟨B + 1, 0, none⟩ = some (.int .i64 ty) ∧ w'.cell? ⟨B + 1, 1, none⟩ = some (.int .i64 tm) ∧ w'.cell? ⟨B + 1, 2, none⟩ = some (.int .i64 td)) (first | exact s0 | exact s1 | exact s2) (first
            | (go_at_call 17
               (with_reducible refine (rcount_any z 2 d _).mono ?_)
               rintro _ u1 ⟨rfl, hb⟩
               rw [HA3.out]
               have HU1 := Lib.hid (HXD.out.step hb)
               have s1 := HS1.out _ HU1.out
               clear hb)
            | (go_at_call 17
               (with_reducible refine (rcount_any ty tm td _).mono ?_)
               rintro _ u2 ⟨rfl, hb⟩
               rw [HN.out]
               have HU2 := Lib.hid (HU1.out.step hb)
               have s2 := HS1.out _ HU2.out
               clear hb))
          all_goals (
            clear s0 s1 s2 i4
            by_cases hge : now ≤ at_
            · have hge2 : 0 ≤ at_ - now := by omega
              have hge3 : at_ - now ≥ 0 := by omega
              have HR := Lib.hid (HRET.out hge)
              go_wp2
              go_ret
              exact ⟨ret_i64 HR.out.symm, HU2.out.bel⟩
            · have hge2 : ¬ 0 ≤ at_ - now := by omega
              have HR := Lib.hid (HNEXT.out (by omega))
              go_wp2_with fail
              exact ⟨⟨j + 1, by omega, by rw [← HZ.out]; go_num, HR.out.1, HR.out.2, ⟨HU2.out.one, HU2.out.tod, HU2.out.bel⟩⟩, by rw [← HZ.out]; simp [intOf]; omega⟩)
      · have m2' : (m == 2) = false := by simpa using m2
        have HA3 := Lib.hid (show cnt z m d = at_ by have := HAT.out; unfold inM inD at this; rw [if_neg (by omega), if_neg (by omega)] at this; exact this)
        go_wp2_with fail
        generalize wr.heap.size = E at *
        have HXD := Lib.hid (HXE.out.drewN 1)
        have HS1 : Hid (∀ wr, Bx3 w wr B (B + 1) E y m d ty tm td z m d → (wr.cell? ⟨E, 0, none⟩ = some (.int .i64 z) ∧ wr.cell? ⟨E, 1, none⟩ = some (.int .i64 m) ∧ wr.cell? ⟨E, 2, none⟩ = some (.int .i64 d) ∧ wr.cell? ⟨B + 1, 0, none⟩ = some (.int .i64 ty) ∧ wr.cell? ⟨B + 1, 1, none⟩ = some (.int .i64 tm) ∧ wr.cell? ⟨B + 1, 2, none⟩ = some (.int .i64 td))) := Lib.hid fun wr h => ⟨h.two3.1, h.two3.2.1, h.two3.2.2, h.tod3.1, h.tod3.2.1, h.tod3.2.2⟩
        have s0 := HS1.out _ HXD.out
        have i4 := I4.out
        go_region_held3 (fun w' => w'.cell? ⟨E, 0, none⟩ = some (.int .i64 z) ∧ w'.cell? ⟨E, 1, none⟩ = some (.int .i64 m) ∧ w'.cell? ⟨E, 2, none⟩ = some (.int .i64 d) ∧ w'.cell? ⟨B + 1, 0, none⟩ = some (.int .i64 ty) ∧ w'.cell? ⟨B + 1, 1, none⟩ = some (.int .i64 tm) ∧ w'.cell? ⟨B + 1, 2, none⟩ = some (.int .i64 td)) (first | exact s0 | exact s1 | exact s2) (first
          | (go_at_call 17
             (with_reducible refine (rcount_any z m d _).mono ?_)
             rintro _ u1 ⟨rfl, hb⟩
             rw [HA3.out]
             have HU1 := Lib.hid (HXD.out.step hb)
             have s1 := HS1.out _ HU1.out
             clear hb)
          | (go_at_call 17
             (with_reducible refine (rcount_any ty tm td _).mono ?_)
             rintro _ u2 ⟨rfl, hb⟩
             rw [HN.out]
             have HU2 := Lib.hid (HU1.out.step hb)
             have s2 := HS1.out _ HU2.out
             clear hb))
        all_goals (
          clear s0 s1 s2 i4
          by_cases hge : now ≤ at_
          · have hge2 : 0 ≤ at_ - now := by omega
            have hge3 : at_ - now ≥ 0 := by omega
            have HR := Lib.hid (HRET.out hge)
            go_wp2
            go_ret
            exact ⟨ret_i64 HR.out.symm, HU2.out.bel⟩
          · have hge2 : ¬ 0 ≤ at_ - now := by omega
            have HR := Lib.hid (HNEXT.out (by omega))
            go_wp2_with fail
            exact ⟨⟨j + 1, by omega, by rw [← HZ.out]; go_num, HR.out.1, HR.out.2, ⟨HU2.out.one, HU2.out.tod, HU2.out.bel⟩⟩, by rw [← HZ.out]; simp [intOf]; omega⟩)
    · by_cases i1 : ty + (j : Int) ≤ ty + 1
      · have i3 : decide (ty + (j : Int) ≤ 9999) = false := by simp; omega
        go_wp2
        go_ret
        refine ⟨ret_i64 ?_, HX.out.bel⟩
        have h1 := HJ1.out (by omega)
        unfold untl
        rw [HN.out, if_neg (by rw [HM.out]; simp; omega), if_neg (by omega), if_neg]
        rintro ⟨g1, g2⟩
        have := HJ2.out (by omega)
        omega
      · have i3 : decide (ty + (j : Int) ≤ ty + 1) = false := by simp; omega
        go_wp2
        go_ret
        refine ⟨ret_i64 ?_, HX.out.bel⟩
        obtain rfl : j = 2 := by omega
        have := HJ1.out (by omega)
        have := HJ2.out (by omega)
        unfold untl
        rw [HN.out, if_neg (by rw [HM.out]; simp; omega), if_neg (by omega), if_neg (by omega)]
theorem runtil_any (y m d ty tm td : Int) (w : World) : Calls Tryd.prog 19 #[.agg #[.int .i64 y, .int .i64 m, .int .i64 d], .agg #[.int .i64 ty, .int .i64 tm, .int .i64 td]] w fun e w' => e = .returned (.int .i64 (untl y m d ty tm td)) ∧ Below w.heap.size w w' := by
  cases hm : mayB y m d
  · exact runtil_bad1 y m d ty tm td w hm
  · cases ht : mayB ty tm td
    · exact runtil_bad2 y m d ty tm td w hm ht
    · by_cases h0 : ty = 0
      · exact runtil_bad3 y m d ty tm td w hm ht h0
      · exact runtil_ok y m d ty tm td w hm ht (by have := may_iff.1 ht; omega)
end Go.Proofs.YtelkbodhipfjaaaDoor
