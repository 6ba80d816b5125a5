/- DayUntil: the walk itself. -/
import Derived.Test.YtelkbodhipfjaaaDoorUn
namespace Go.Proofs.YtelkbodhipfjaaaDoor
open Go.RowKit
set_option linter.unusedVariables false
set_option maxRecDepth 100000
attribute [local go_sem ↓] Go.wp_at_zero Go.wp_at_succ
set_option maxHeartbeats 4000000 in
theorem unt_bad1 (w : World) (htab : Tab w.heap.size w) (y m d ty tm td n : Int) (hn : untl y m d ty tm td = n) (hm : mayB y m d = false) :
    Calls Tryd.prog 6 #[.agg #[.int .i64 y, .int .i64 m, .int .i64 d], .agg #[.int .i64 ty, .int .i64 tm, .int .i64 td]] w fun e w' => e = .returned (.bool true) ∧ Below w.heap.size w w' := by
  have HX0 := Lib.hid (Bx3.start w y m d ty tm td)
  have HTAB := Lib.hid (tab_on htab HX0.out.bel)
  have HN := Lib.hid hn
  have HM := Lib.hid hm
  have hn1 : n = -1 := by rw [← hn]; unfold untl; rw [if_pos (.inl hm)]
  subst hn1
  clear hm hn htab
  go_enter Tryd.func6, Tryd.ntmps6
  go_wp2_with fail
  refine (first_any _ HTAB.out).mono ?_
  rintro _ w1 ⟨rfl, hb⟩
  have HX1 := Lib.hid (HX0.out.step hb)
  obtain ⟨a0, a1, a2⟩ := HX1.out.one3
  obtain ⟨t0, t1, t2⟩ := HX1.out.tod3
  clear hb
  go_wp2_with fail
  refine (until_any _ _ _ _ _ _ _).mono ?_
  rintro _ w2 ⟨rfl, hb⟩
  rw [HN.out]
  have HX2 := Lib.hid (HX1.out.step hb)
  obtain ⟨a0, a1, a2⟩ := HX2.out.one3
  obtain ⟨t0, t1, t2⟩ := HX2.out.tod3
  clear hb
  go_wp2_with fail
  refine (may_any _ _ _ _).mono ?_
  rintro _ w3 ⟨rfl, hb⟩
  rw [HM.out]
  have HX3 := Lib.hid (HX2.out.step hb)
  obtain ⟨a0, a1, a2⟩ := HX3.out.one3
  obtain ⟨t0, t1, t2⟩ := HX3.out.tod3
  clear hb
  go_wp2
  go_ret
  exact ⟨rfl, HX3.out.bel⟩
set_option maxHeartbeats 4000000 in
theorem unt_bad2 (w : World) (htab : Tab w.heap.size w) (y m d ty tm td n : Int) (hn : untl y m d ty tm td = n) (hm : mayB y m d = true) (ht : mayB ty tm td = false) :
    Calls Tryd.prog 6 #[.agg #[.int .i64 y, .int .i64 m, .int .i64 d], .agg #[.int .i64 ty, .int .i64 tm, .int .i64 td]] w fun e w' => e = .returned (.bool true) ∧ Below w.heap.size w w' := by
  have HX0 := Lib.hid (Bx3.start w y m d ty tm td)
  have HTAB := Lib.hid (tab_on htab HX0.out.bel)
  have HN := Lib.hid hn
  have HM := Lib.hid hm
  have HT := Lib.hid ht
  have hn1 : n = -1 := by rw [← hn]; unfold untl; rw [if_pos (.inr (by unfold cnt; rw [ht]; simp))]
  subst hn1
  clear hm hn htab ht
  go_enter Tryd.func6, Tryd.ntmps6
  go_wp2_with fail
  refine (first_any _ HTAB.out).mono ?_
  rintro _ w1 ⟨rfl, hb⟩
  have HX1 := Lib.hid (HX0.out.step hb)
  obtain ⟨a0, a1, a2⟩ := HX1.out.one3
  obtain ⟨t0, t1, t2⟩ := HX1.out.tod3
  clear hb
  go_wp2_with fail
  refine (until_any _ _ _ _ _ _ _).mono ?_
  rintro _ w2 ⟨rfl, hb⟩
  rw [HN.out]
  have HX2 := Lib.hid (HX1.out.step hb)
  obtain ⟨a0, a1, a2⟩ := HX2.out.one3
  obtain ⟨t0, t1, t2⟩ := HX2.out.tod3
  clear hb
  go_wp2_with fail
  refine (may_any _ _ _ _).mono ?_
  rintro _ w3 ⟨rfl, hb⟩
  rw [HM.out]
  have HX3 := Lib.hid (HX2.out.step hb)
  obtain ⟨a0, a1, a2⟩ := HX3.out.one3
  obtain ⟨t0, t1, t2⟩ := HX3.out.tod3
  clear hb
  go_wp2_with fail
  refine (may_any _ _ _ _).mono ?_
  rintro _ w4 ⟨rfl, hb⟩
  rw [HT.out]
  have HX4 := Lib.hid (HX3.out.step hb)
  obtain ⟨a0, a1, a2⟩ := HX4.out.one3
  obtain ⟨t0, t1, t2⟩ := HX4.out.tod3
  clear hb
  go_wp2
  go_ret
  exact ⟨rfl, HX4.out.bel⟩
set_option maxHeartbeats 4000000 in
theorem unt_bad3 (w : World) (htab : Tab w.heap.size w) (y m d ty tm td n : Int) (hn : untl y m d ty tm td = n) (hm : mayB y m d = true) (ht : mayB ty tm td = true) (h0 : ty = 0) :
    Calls Tryd.prog 6 #[.agg #[.int .i64 y, .int .i64 m, .int .i64 d], .agg #[.int .i64 ty, .int .i64 tm, .int .i64 td]] w fun e w' => e = .returned (.bool true) ∧ Below w.heap.size w w' := by
  have HX0 := Lib.hid (Bx3.start w y m d ty tm td)
  have HTAB := Lib.hid (tab_on htab HX0.out.bel)
  have HN := Lib.hid hn
  subst h0
  have HM := Lib.hid hm
  have HT := Lib.hid ht
  have hn1 : n = -1 := by rw [← hn]; unfold untl; rw [if_pos (.inr (by unfold cnt; simp))]
  subst hn1
  clear hm hn htab ht
  go_enter Tryd.func6, Tryd.ntmps6
  go_wp2_with fail
  refine (first_any _ HTAB.out).mono ?_
  rintro _ w1 ⟨rfl, hb⟩
  have HX1 := Lib.hid (HX0.out.step hb)
  obtain ⟨a0, a1, a2⟩ := HX1.out.one3
  obtain ⟨t0, t1, t2⟩ := HX1.out.tod3
  clear hb
  go_wp2_with fail
  refine (until_any _ _ _ _ _ _ _).mono ?_
  rintro _ w2 ⟨rfl, hb⟩
  rw [HN.out]
  have HX2 := Lib.hid (HX1.out.step hb)
  obtain ⟨a0, a1, a2⟩ := HX2.out.one3
  obtain ⟨t0, t1, t2⟩ := HX2.out.tod3
  clear hb
  go_wp2_with fail
  refine (may_any _ _ _ _).mono ?_
  rintro _ w3 ⟨rfl, hb⟩
  rw [HM.out]
  have HX3 := Lib.hid (HX2.out.step hb)
  obtain ⟨a0, a1, a2⟩ := HX3.out.one3
  obtain ⟨t0, t1, t2⟩ := HX3.out.tod3
  clear hb
  go_wp2_with fail
  refine (may_any _ _ _ _).mono ?_
  rintro _ w4 ⟨rfl, hb⟩
  rw [HT.out]
  have HX4 := Lib.hid (HX3.out.step hb)
  obtain ⟨a0, a1, a2⟩ := HX4.out.one3
  obtain ⟨t0, t1, t2⟩ := HX4.out.tod3
  clear hb
  go_wp2
  go_ret
  exact ⟨rfl, HX4.out.bel⟩
set_option maxHeartbeats 4000000 in
theorem unt_last (w : World) (htab : Tab w.heap.size w) (y m d ty tm td n : Int) (hn : untl y m d ty tm td = n) (hm : mayB y m d = true) (ht : mayB ty tm td = true) (h0 : ty = 9999) (hn1 : n = -1) :
    Calls Tryd.prog 6 #[.agg #[.int .i64 y, .int .i64 m, .int .i64 d], .agg #[.int .i64 ty, .int .i64 tm, .int .i64 td]] w fun e w' => e = .returned (.bool true) ∧ Below w.heap.size w w' := by
  have HX0 := Lib.hid (Bx3.start w y m d ty tm td)
  have HTAB := Lib.hid (tab_on htab HX0.out.bel)
  have HN := Lib.hid hn
  subst h0
  subst hn1
  have HM := Lib.hid hm
  have HT := Lib.hid ht
  clear hm hn htab ht
  go_enter Tryd.func6, Tryd.ntmps6
  go_wp2_with fail
  refine (first_any _ HTAB.out).mono ?_
  rintro _ w1 ⟨rfl, hb⟩
  have HX1 := Lib.hid (HX0.out.step hb)
  obtain ⟨a0, a1, a2⟩ := HX1.out.one3
  obtain ⟨t0, t1, t2⟩ := HX1.out.tod3
  clear hb
  go_wp2_with fail
  refine (until_any _ _ _ _ _ _ _).mono ?_
  rintro _ w2 ⟨rfl, hb⟩
  rw [HN.out]
  have HX2 := Lib.hid (HX1.out.step hb)
  obtain ⟨a0, a1, a2⟩ := HX2.out.one3
  obtain ⟨t0, t1, t2⟩ := HX2.out.tod3
  clear hb
  go_wp2_with fail
  refine (may_any _ _ _ _).mono ?_
  rintro _ w3 ⟨rfl, hb⟩
  rw [HM.out]
  have HX3 := Lib.hid (HX2.out.step hb)
  obtain ⟨a0, a1, a2⟩ := HX3.out.one3
  obtain ⟨t0, t1, t2⟩ := HX3.out.tod3
  clear hb
  go_wp2_with fail
  refine (may_any _ _ _ _).mono ?_
  rintro _ w4 ⟨rfl, hb⟩
  rw [HT.out]
  have HX4 := Lib.hid (HX3.out.step hb)
  obtain ⟨a0, a1, a2⟩ := HX4.out.one3
  obtain ⟨t0, t1, t2⟩ := HX4.out.tod3
  clear hb
  go_wp2
  go_ret
  exact ⟨rfl, HX4.out.bel⟩
set_option maxHeartbeats 4000000 in
theorem unt_ih (w : World) (htab : Tab w.heap.size w) (y m d ty tm td n : Int) (hn : untl y m d ty tm td = n) (hm : mayB y m d = true) (ht : mayB ty tm td = true) (h1 : 1 ≤ ty) (hk1 : mayB ty m d = true) (hk2 : mayB ty m d = true) (A now : Int) (hA : cnt ty m d = A) (hnow : cnt ty tm td = now) (hle : now ≤ A) (hnA : n = A - now) (hn0 : 0 ≤ n) (hn1 : n ≤ 366) :
    Calls Tryd.prog 6 #[.agg #[.int .i64 y, .int .i64 m, .int .i64 d], .agg #[.int .i64 ty, .int .i64 tm, .int .i64 td]] w fun e w' => e = .returned (.bool true) ∧ Below w.heap.size w w' := by
  have HX0 := Lib.hid (Bx3.start w y m d ty tm td)
  have HTAB := Lib.hid (tab_on htab HX0.out.bel)
  have HN := Lib.hid hn
  have HM := Lib.hid hm
  have HT := Lib.hid ht
  have hty : (ty == 0) = false := by simp; omega
  have hty9 : ty ≤ 9999 := (may_iff.1 ht).2.1
  have hm12 : m ≤ 12 := (may_iff.1 hm).2.2.2.1
  have hd31 : d ≤ 31 := by have := may_iff.1 hm; have := dim_bd y m; omega
  have b1 := cnt_bd ty tm td
  have HKM := Lib.hid hk1
  have b2 := cnt_bd ty m d
  rw [hA] at b2
  rw [hnow] at b1
  have HAx := Lib.hid hA
  have HNOW := Lib.hid hnow
  have HK2 := Lib.hid hk2
  have i1 : IntKind.i64.wrap (A - now) = n := by rw [hnA, IntWalk.i64_left, IntWalk.wrap64_in _ (by omega)]
  have I1 := Lib.hid i1
  clear hm hn htab ht hk1 hk2 hA hnow i1 hnA
  go_enter Tryd.func6, Tryd.ntmps6
  go_wp2_with fail
  refine (first_any _ HTAB.out).mono ?_
  rintro _ w1 ⟨rfl, hb⟩
  have HX1 := Lib.hid (HX0.out.step hb)
  obtain ⟨a0, a1, a2⟩ := HX1.out.one3
  obtain ⟨t0, t1, t2⟩ := HX1.out.tod3
  clear hb
  go_wp2_with fail
  refine (until_any _ _ _ _ _ _ _).mono ?_
  rintro _ w2 ⟨rfl, hb⟩
  rw [HN.out]
  have HX2 := Lib.hid (HX1.out.step hb)
  obtain ⟨a0, a1, a2⟩ := HX2.out.one3
  obtain ⟨t0, t1, t2⟩ := HX2.out.tod3
  clear hb
  go_wp2_with fail
  refine (may_any _ _ _ _).mono ?_
  rintro _ w3 ⟨rfl, hb⟩
  rw [HM.out]
  have HX3 := Lib.hid (HX2.out.step hb)
  obtain ⟨a0, a1, a2⟩ := HX3.out.one3
  obtain ⟨t0, t1, t2⟩ := HX3.out.tod3
  clear hb
  go_wp2_with fail
  refine (may_any _ _ _ _).mono ?_
  rintro _ w4 ⟨rfl, hb⟩
  rw [HT.out]
  have HX4 := Lib.hid (HX3.out.step hb)
  obtain ⟨a0, a1, a2⟩ := HX4.out.one3
  obtain ⟨t0, t1, t2⟩ := HX4.out.tod3
  clear hb
  go_wp2_with fail
  have HX5 := Lib.hid (HX4.out.new ty m d)
  have HCB := Lib.hid HX4.out.one.lt
  have HCT := Lib.hid HX4.out.tod.lt
  have HC0 := Lib.hid HX4.out.bel.size
  generalize w4.heap.size = C at *
  go_wp2_with fail
  refine (may_any _ _ _ _).mono ?_
  rintro _ w6 ⟨rfl, hb⟩
  rw [HKM.out]
  have HX6 := Lib.hid (HX5.out.step hb)
  obtain ⟨a0, a1, a2⟩ := HX6.out.one3
  obtain ⟨t0, t1, t2⟩ := HX6.out.tod3
  obtain ⟨b0, b1, b2⟩ := HX6.out.two3
  obtain ⟨f0, f1, f2⟩ := HX6.out.two4
  clear hb
  go_wp2_with fail
  have HXDx := Lib.hid (HX6.out.drewN 1)
  have HSx : Hid (∀ wr, Bx3 w wr w.heap.size (w.heap.size + 1) C y m d ty tm td ty m d → (wr.cell? ⟨C, 0, none⟩ = some (.int .i64 ty) ∧ wr.cell? ⟨C, 1, none⟩ = some (.int .i64 m) ∧ wr.cell? ⟨C, 2, none⟩ = some (.int .i64 d) ∧ wr.cell? ⟨w.heap.size + 1, 0, none⟩ = some (.int .i64 ty) ∧ wr.cell? ⟨w.heap.size + 1, 1, none⟩ = some (.int .i64 tm) ∧ wr.cell? ⟨w.heap.size + 1, 2, none⟩ = some (.int .i64 td))) := Lib.hid fun wr h => ⟨h.two3.1, h.two3.2.1, h.two3.2.2, h.tod3.1, h.tod3.2.1, h.tod3.2.2⟩
  have s0 := HSx.out _ HXDx.out
  go_region_held3 (fun w' => w'.cell? ⟨C, 0, none⟩ = some (.int .i64 ty) ∧ w'.cell? ⟨C, 1, none⟩ = some (.int .i64 m) ∧ w'.cell? ⟨C, 2, none⟩ = some (.int .i64 d) ∧ w'.cell? ⟨w.heap.size + 1, 0, none⟩ = some (.int .i64 ty) ∧ w'.cell? ⟨w.heap.size + 1, 1, none⟩ = some (.int .i64 tm) ∧ w'.cell? ⟨w.heap.size + 1, 2, none⟩ = some (.int .i64 td)) (first | exact s0 | exact s1 | exact s2) (first
    | (go_at_call 16
       (with_reducible refine (count_any ty m d _).mono ?_)
       rintro _ u1x ⟨rfl, hb⟩
       rw [HAx.out]
       have HU1x := Lib.hid (HXDx.out.step hb)
       have s1 := HSx.out _ HU1x.out
       clear hb)
    | (go_at_call 16
       (with_reducible refine (count_any ty tm td _).mono ?_)
       rintro _ u2x ⟨rfl, hb⟩
       rw [HNOW.out]
       have HU2x := Lib.hid (HU1x.out.step hb)
       have s2 := HSx.out _ HU2x.out
       clear hb))
  all_goals (
    go_wp2_with fail
    clear s0 s1 s2
    have i1 := I1.out
    have HXDxb := Lib.hid (HU2x.out.drewN 1)
    have HSxb : Hid (∀ wr, Bx3 w wr w.heap.size (w.heap.size + 1) C y m d ty tm td ty m d → (wr.cell? ⟨C, 0, none⟩ = some (.int .i64 ty) ∧ wr.cell? ⟨C, 1, none⟩ = some (.int .i64 m) ∧ wr.cell? ⟨C, 2, none⟩ = some (.int .i64 d) ∧ wr.cell? ⟨w.heap.size + 1, 0, none⟩ = some (.int .i64 ty) ∧ wr.cell? ⟨w.heap.size + 1, 1, none⟩ = some (.int .i64 tm) ∧ wr.cell? ⟨w.heap.size + 1, 2, none⟩ = some (.int .i64 td))) := Lib.hid fun wr h => ⟨h.two3.1, h.two3.2.1, h.two3.2.2, h.tod3.1, h.tod3.2.1, h.tod3.2.2⟩
    have s0 := HSxb.out _ HXDxb.out
    go_region_held3 (fun w' => w'.cell? ⟨C, 0, none⟩ = some (.int .i64 ty) ∧ w'.cell? ⟨C, 1, none⟩ = some (.int .i64 m) ∧ w'.cell? ⟨C, 2, none⟩ = some (.int .i64 d) ∧ w'.cell? ⟨w.heap.size + 1, 0, none⟩ = some (.int .i64 ty) ∧ w'.cell? ⟨w.heap.size + 1, 1, none⟩ = some (.int .i64 tm) ∧ w'.cell? ⟨w.heap.size + 1, 2, none⟩ = some (.int .i64 td)) (first | exact s0 | exact s1 | exact s2) (first
      | (go_at_call 16
         (with_reducible refine (count_any ty m d _).mono ?_)
         rintro _ u1xb ⟨rfl, hb⟩
         rw [HAx.out]
         have HU1xb := Lib.hid (HXDxb.out.step hb)
         have s1 := HSxb.out _ HU1xb.out
         clear hb)
      | (go_at_call 16
         (with_reducible refine (count_any ty tm td _).mono ?_)
         rintro _ u2xb ⟨rfl, hb⟩
         rw [HNOW.out]
         have HU2xb := Lib.hid (HU1xb.out.step hb)
         have s2 := HSxb.out _ HU2xb.out
         clear hb))
    all_goals (
      go_wp2
      go_ret
      exact ⟨rfl, HU2xb.out.bel⟩))
set_option maxHeartbeats 4000000 in
theorem unt_ik (w : World) (htab : Tab w.heap.size w) (y m d ty tm td n : Int) (hn : untl y m d ty tm td = n) (hm : mayB y m d = true) (ht : mayB ty tm td = true) (h1 : 1 ≤ ty) (hk1 : mayB ty m d = false) (hk2 : mayB ty 3 1 = true) (A now : Int) (hA : cnt ty 3 1 = A) (hnow : cnt ty tm td = now) (hle : now ≤ A) (hnA : n = A - now) (hn0 : 0 ≤ n) (hn1 : n ≤ 366) :
    Calls Tryd.prog 6 #[.agg #[.int .i64 y, .int .i64 m, .int .i64 d], .agg #[.int .i64 ty, .int .i64 tm, .int .i64 td]] w fun e w' => e = .returned (.bool true) ∧ Below w.heap.size w w' := by
  have HX0 := Lib.hid (Bx3.start w y m d ty tm td)
  have HTAB := Lib.hid (tab_on htab HX0.out.bel)
  have HN := Lib.hid hn
  have HM := Lib.hid hm
  have HT := Lib.hid ht
  have hty : (ty == 0) = false := by simp; omega
  have hty9 : ty ≤ 9999 := (may_iff.1 ht).2.1
  have hm12 : m ≤ 12 := (may_iff.1 hm).2.2.2.1
  have hd31 : d ≤ 31 := by have := may_iff.1 hm; have := dim_bd y m; omega
  have b1 := cnt_bd ty tm td
  have HKM := Lib.hid hk1
  have b2 := cnt_bd ty 3 1
  rw [hA] at b2
  rw [hnow] at b1
  have HAx := Lib.hid hA
  have HNOW := Lib.hid hnow
  have HK2 := Lib.hid hk2
  have i1 : IntKind.i64.wrap (A - now) = n := by rw [hnA, IntWalk.i64_left, IntWalk.wrap64_in _ (by omega)]
  have I1 := Lib.hid i1
  clear hm hn htab ht hk1 hk2 hA hnow i1 hnA
  go_enter Tryd.func6, Tryd.ntmps6
  go_wp2_with fail
  refine (first_any _ HTAB.out).mono ?_
  rintro _ w1 ⟨rfl, hb⟩
  have HX1 := Lib.hid (HX0.out.step hb)
  obtain ⟨a0, a1, a2⟩ := HX1.out.one3
  obtain ⟨t0, t1, t2⟩ := HX1.out.tod3
  clear hb
  go_wp2_with fail
  refine (until_any _ _ _ _ _ _ _).mono ?_
  rintro _ w2 ⟨rfl, hb⟩
  rw [HN.out]
  have HX2 := Lib.hid (HX1.out.step hb)
  obtain ⟨a0, a1, a2⟩ := HX2.out.one3
  obtain ⟨t0, t1, t2⟩ := HX2.out.tod3
  clear hb
  go_wp2_with fail
  refine (may_any _ _ _ _).mono ?_
  rintro _ w3 ⟨rfl, hb⟩
  rw [HM.out]
  have HX3 := Lib.hid (HX2.out.step hb)
  obtain ⟨a0, a1, a2⟩ := HX3.out.one3
  obtain ⟨t0, t1, t2⟩ := HX3.out.tod3
  clear hb
  go_wp2_with fail
  refine (may_any _ _ _ _).mono ?_
  rintro _ w4 ⟨rfl, hb⟩
  rw [HT.out]
  have HX4 := Lib.hid (HX3.out.step hb)
  obtain ⟨a0, a1, a2⟩ := HX4.out.one3
  obtain ⟨t0, t1, t2⟩ := HX4.out.tod3
  clear hb
  go_wp2_with fail
  have HX5 := Lib.hid (HX4.out.new ty m d)
  have HCB := Lib.hid HX4.out.one.lt
  have HCT := Lib.hid HX4.out.tod.lt
  have HC0 := Lib.hid HX4.out.bel.size
  generalize w4.heap.size = C at *
  go_wp2_with fail
  refine (may_any _ _ _ _).mono ?_
  rintro _ w6 ⟨rfl, hb⟩
  rw [HKM.out]
  have HX6 := Lib.hid (HX5.out.step hb)
  obtain ⟨a0, a1, a2⟩ := HX6.out.one3
  obtain ⟨t0, t1, t2⟩ := HX6.out.tod3
  obtain ⟨b0, b1, b2⟩ := HX6.out.two3
  obtain ⟨f0, f1, f2⟩ := HX6.out.two4
  clear hb
  have HX7 := Lib.hid (HX6.out.put (Nat.ne_of_lt HCB.out) (Nat.ne_of_lt HCT.out) HC0.out (ty) (3) (1))
  go_wp2_with fail
  generalize (((w6.setCell ⟨C, 0, none⟩ (.int .i64 (ty))).setCell ⟨C, 1, none⟩ (.int .i64 (3))).setCell ⟨C, 2, none⟩ (.int .i64 (1))) = w7 at *
  obtain ⟨a0, a1, a2⟩ := HX7.out.one3
  obtain ⟨t0, t1, t2⟩ := HX7.out.tod3
  obtain ⟨b0, b1, b2⟩ := HX7.out.two3
  go_wp2_with fail
  have HXDx := Lib.hid (HX7.out.drewN 1)
  have HSx : Hid (∀ wr, Bx3 w wr w.heap.size (w.heap.size + 1) C y m d ty tm td ty 3 1 → (wr.cell? ⟨C, 0, none⟩ = some (.int .i64 ty) ∧ wr.cell? ⟨C, 1, none⟩ = some (.int .i64 3) ∧ wr.cell? ⟨C, 2, none⟩ = some (.int .i64 1) ∧ wr.cell? ⟨w.heap.size + 1, 0, none⟩ = some (.int .i64 ty) ∧ wr.cell? ⟨w.heap.size + 1, 1, none⟩ = some (.int .i64 tm) ∧ wr.cell? ⟨w.heap.size + 1, 2, none⟩ = some (.int .i64 td))) := Lib.hid fun wr h => ⟨h.two3.1, h.two3.2.1, h.two3.2.2, h.tod3.1, h.tod3.2.1, h.tod3.2.2⟩
  have s0 := HSx.out _ HXDx.out
  go_region_held3 (fun w' => w'.cell? ⟨C, 0, none⟩ = some (.int .i64 ty) ∧ w'.cell? ⟨C, 1, none⟩ = some (.int .i64 3) ∧ w'.cell? ⟨C, 2, none⟩ = some (.int .i64 1) ∧ w'.cell? ⟨w.heap.size + 1, 0, none⟩ = some (.int .i64 ty) ∧ w'.cell? ⟨w.heap.size + 1, 1, none⟩ = some (.int .i64 tm) ∧ w'.cell? ⟨w.heap.size + 1, 2, none⟩ = some (.int .i64 td)) (first | exact s0 | exact s1 | exact s2) (first
    | (go_at_call 16
       (with_reducible refine (count_any ty 3 1 _).mono ?_)
       rintro _ u1x ⟨rfl, hb⟩
       rw [HAx.out]
       have HU1x := Lib.hid (HXDx.out.step hb)
       have s1 := HSx.out _ HU1x.out
       clear hb)
    | (go_at_call 16
       (with_reducible refine (count_any ty tm td _).mono ?_)
       rintro _ u2x ⟨rfl, hb⟩
       rw [HNOW.out]
       have HU2x := Lib.hid (HU1x.out.step hb)
       have s2 := HSx.out _ HU2x.out
       clear hb))
  all_goals (
    go_wp2_with fail
    clear s0 s1 s2
    have i1 := I1.out
    have HXDxb := Lib.hid (HU2x.out.drewN 1)
    have HSxb : Hid (∀ wr, Bx3 w wr w.heap.size (w.heap.size + 1) C y m d ty tm td ty 3 1 → (wr.cell? ⟨C, 0, none⟩ = some (.int .i64 ty) ∧ wr.cell? ⟨C, 1, none⟩ = some (.int .i64 3) ∧ wr.cell? ⟨C, 2, none⟩ = some (.int .i64 1) ∧ wr.cell? ⟨w.heap.size + 1, 0, none⟩ = some (.int .i64 ty) ∧ wr.cell? ⟨w.heap.size + 1, 1, none⟩ = some (.int .i64 tm) ∧ wr.cell? ⟨w.heap.size + 1, 2, none⟩ = some (.int .i64 td))) := Lib.hid fun wr h => ⟨h.two3.1, h.two3.2.1, h.two3.2.2, h.tod3.1, h.tod3.2.1, h.tod3.2.2⟩
    have s0 := HSxb.out _ HXDxb.out
    go_region_held3 (fun w' => w'.cell? ⟨C, 0, none⟩ = some (.int .i64 ty) ∧ w'.cell? ⟨C, 1, none⟩ = some (.int .i64 3) ∧ w'.cell? ⟨C, 2, none⟩ = some (.int .i64 1) ∧ w'.cell? ⟨w.heap.size + 1, 0, none⟩ = some (.int .i64 ty) ∧ w'.cell? ⟨w.heap.size + 1, 1, none⟩ = some (.int .i64 tm) ∧ w'.cell? ⟨w.heap.size + 1, 2, none⟩ = some (.int .i64 td)) (first | exact s0 | exact s1 | exact s2) (first
      | (go_at_call 16
         (with_reducible refine (count_any ty 3 1 _).mono ?_)
         rintro _ u1xb ⟨rfl, hb⟩
         rw [HAx.out]
         have HU1xb := Lib.hid (HXDxb.out.step hb)
         have s1 := HSxb.out _ HU1xb.out
         clear hb)
      | (go_at_call 16
         (with_reducible refine (count_any ty tm td _).mono ?_)
         rintro _ u2xb ⟨rfl, hb⟩
         rw [HNOW.out]
         have HU2xb := Lib.hid (HU1xb.out.step hb)
         have s2 := HSxb.out _ HU2xb.out
         clear hb))
    all_goals (
      go_wp2
      go_ret
      exact ⟨rfl, HU2xb.out.bel⟩))
set_option maxHeartbeats 4000000 in
theorem unt_iihh (w : World) (htab : Tab w.heap.size w) (y m d ty tm td n : Int) (hn : untl y m d ty tm td = n) (hm : mayB y m d = true) (ht : mayB ty tm td = true) (h1 : 1 ≤ ty) (hk1 : mayB ty m d = true) (hk3 : mayB (ty + 1) m d = true) (A now A1 : Int) (hA : cnt ty m d = A) (hA1 : cnt (ty + 1) m d = A1) (hnow : cnt ty tm td = now) (hle : ¬ now ≤ A) (hnA : n = A1 - now) (hn0 : 0 ≤ n) (hn1 : n ≤ 366) :
    Calls Tryd.prog 6 #[.agg #[.int .i64 y, .int .i64 m, .int .i64 d], .agg #[.int .i64 ty, .int .i64 tm, .int .i64 td]] w fun e w' => e = .returned (.bool true) ∧ Below w.heap.size w w' := by
  have HX0 := Lib.hid (Bx3.start w y m d ty tm td)
  have HTAB := Lib.hid (tab_on htab HX0.out.bel)
  have HN := Lib.hid hn
  have HM := Lib.hid hm
  have HT := Lib.hid ht
  have hty : (ty == 0) = false := by simp; omega
  have hty9 : ty ≤ 9999 := (may_iff.1 ht).2.1
  have hm12 : m ≤ 12 := (may_iff.1 hm).2.2.2.1
  have hd31 : d ≤ 31 := by have := may_iff.1 hm; have := dim_bd y m; omega
  have b1 := cnt_bd ty tm td
  have HKM := Lib.hid hk1
  have b2 := cnt_bd ty m d
  rw [hA] at b2
  have b3 := cnt_bd (ty + 1) m d
  rw [hA1] at b3
  rw [hnow] at b1
  have HAx := Lib.hid hA
  have HAy := Lib.hid hA1
  have HNOW := Lib.hid hnow
  have HK3 := Lib.hid hk3
  have i1 : IntKind.i64.wrap (A1 - now) = n := by rw [hnA, IntWalk.i64_left, IntWalk.wrap64_in _ (by omega)]
  have I1 := Lib.hid i1
  clear hm hn htab ht hk1 hk3 hA hA1 hnow i1 hnA
  go_enter Tryd.func6, Tryd.ntmps6
  go_wp2_with fail
  refine (first_any _ HTAB.out).mono ?_
  rintro _ w1 ⟨rfl, hb⟩
  have HX1 := Lib.hid (HX0.out.step hb)
  obtain ⟨a0, a1, a2⟩ := HX1.out.one3
  obtain ⟨t0, t1, t2⟩ := HX1.out.tod3
  clear hb
  go_wp2_with fail
  refine (until_any _ _ _ _ _ _ _).mono ?_
  rintro _ w2 ⟨rfl, hb⟩
  rw [HN.out]
  have HX2 := Lib.hid (HX1.out.step hb)
  obtain ⟨a0, a1, a2⟩ := HX2.out.one3
  obtain ⟨t0, t1, t2⟩ := HX2.out.tod3
  clear hb
  go_wp2_with fail
  refine (may_any _ _ _ _).mono ?_
  rintro _ w3 ⟨rfl, hb⟩
  rw [HM.out]
  have HX3 := Lib.hid (HX2.out.step hb)
  obtain ⟨a0, a1, a2⟩ := HX3.out.one3
  obtain ⟨t0, t1, t2⟩ := HX3.out.tod3
  clear hb
  go_wp2_with fail
  refine (may_any _ _ _ _).mono ?_
  rintro _ w4 ⟨rfl, hb⟩
  rw [HT.out]
  have HX4 := Lib.hid (HX3.out.step hb)
  obtain ⟨a0, a1, a2⟩ := HX4.out.one3
  obtain ⟨t0, t1, t2⟩ := HX4.out.tod3
  clear hb
  go_wp2_with fail
  have HX5 := Lib.hid (HX4.out.new ty m d)
  have HCB := Lib.hid HX4.out.one.lt
  have HCT := Lib.hid HX4.out.tod.lt
  have HC0 := Lib.hid HX4.out.bel.size
  generalize w4.heap.size = C at *
  go_wp2_with fail
  refine (may_any _ _ _ _).mono ?_
  rintro _ w6 ⟨rfl, hb⟩
  rw [HKM.out]
  have HX6 := Lib.hid (HX5.out.step hb)
  obtain ⟨a0, a1, a2⟩ := HX6.out.one3
  obtain ⟨t0, t1, t2⟩ := HX6.out.tod3
  obtain ⟨b0, b1, b2⟩ := HX6.out.two3
  obtain ⟨f0, f1, f2⟩ := HX6.out.two4
  clear hb
  go_wp2_with fail
  have HXDx := Lib.hid (HX6.out.drewN 1)
  have HSx : Hid (∀ wr, Bx3 w wr w.heap.size (w.heap.size + 1) C y m d ty tm td ty m d → (wr.cell? ⟨C, 0, none⟩ = some (.int .i64 ty) ∧ wr.cell? ⟨C, 1, none⟩ = some (.int .i64 m) ∧ wr.cell? ⟨C, 2, none⟩ = some (.int .i64 d) ∧ wr.cell? ⟨w.heap.size + 1, 0, none⟩ = some (.int .i64 ty) ∧ wr.cell? ⟨w.heap.size + 1, 1, none⟩ = some (.int .i64 tm) ∧ wr.cell? ⟨w.heap.size + 1, 2, none⟩ = some (.int .i64 td))) := Lib.hid fun wr h => ⟨h.two3.1, h.two3.2.1, h.two3.2.2, h.tod3.1, h.tod3.2.1, h.tod3.2.2⟩
  have s0 := HSx.out _ HXDx.out
  go_region_held3 (fun w' => w'.cell? ⟨C, 0, none⟩ = some (.int .i64 ty) ∧ w'.cell? ⟨C, 1, none⟩ = some (.int .i64 m) ∧ w'.cell? ⟨C, 2, none⟩ = some (.int .i64 d) ∧ w'.cell? ⟨w.heap.size + 1, 0, none⟩ = some (.int .i64 ty) ∧ w'.cell? ⟨w.heap.size + 1, 1, none⟩ = some (.int .i64 tm) ∧ w'.cell? ⟨w.heap.size + 1, 2, none⟩ = some (.int .i64 td)) (first | exact s0 | exact s1 | exact s2) (first
    | (go_at_call 16
       (with_reducible refine (count_any ty m d _).mono ?_)
       rintro _ u1x ⟨rfl, hb⟩
       rw [HAx.out]
       have HU1x := Lib.hid (HXDx.out.step hb)
       have s1 := HSx.out _ HU1x.out
       clear hb)
    | (go_at_call 16
       (with_reducible refine (count_any ty tm td _).mono ?_)
       rintro _ u2x ⟨rfl, hb⟩
       rw [HNOW.out]
       have HU2x := Lib.hid (HU1x.out.step hb)
       have s2 := HSx.out _ HU2x.out
       clear hb))
  all_goals (
    clear s0 s1 s2
    obtain ⟨a0, a1, a2⟩ := HU2x.out.one3
    obtain ⟨t0, t1, t2⟩ := HU2x.out.tod3
    go_wp2_with fail
    have HX10 := Lib.hid (HU2x.out.new (ty + 1) m d)
    have HEB := Lib.hid HU2x.out.one.lt
    have HET := Lib.hid HU2x.out.tod.lt
    have HE0 := Lib.hid HU2x.out.bel.size
    generalize u2x.heap.size = E at *
    go_wp2_with fail
    refine (may_any _ _ _ _).mono ?_
    rintro _ w11 ⟨rfl, hb⟩
    rw [HK3.out]
    have HX11 := Lib.hid (HX10.out.step hb)
    obtain ⟨a0, a1, a2⟩ := HX11.out.one3
    obtain ⟨t0, t1, t2⟩ := HX11.out.tod3
    obtain ⟨b0, b1, b2⟩ := HX11.out.two3
    obtain ⟨f0, f1, f2⟩ := HX11.out.two4
    clear hb
    go_wp2_with fail
    have i1 := I1.out
    have HXDy := Lib.hid (HX11.out.drewN 1)
    have HSy : Hid (∀ wr, Bx3 w wr w.heap.size (w.heap.size + 1) E y m d ty tm td (ty + 1) m d → (wr.cell? ⟨E, 0, none⟩ = some (.int .i64 (ty + 1)) ∧ wr.cell? ⟨E, 1, none⟩ = some (.int .i64 m) ∧ wr.cell? ⟨E, 2, none⟩ = some (.int .i64 d) ∧ wr.cell? ⟨w.heap.size + 1, 0, none⟩ = some (.int .i64 ty) ∧ wr.cell? ⟨w.heap.size + 1, 1, none⟩ = some (.int .i64 tm) ∧ wr.cell? ⟨w.heap.size + 1, 2, none⟩ = some (.int .i64 td))) := Lib.hid fun wr h => ⟨h.two3.1, h.two3.2.1, h.two3.2.2, h.tod3.1, h.tod3.2.1, h.tod3.2.2⟩
    have s0 := HSy.out _ HXDy.out
    go_region_held3 (fun w' => w'.cell? ⟨E, 0, none⟩ = some (.int .i64 (ty + 1)) ∧ w'.cell? ⟨E, 1, none⟩ = some (.int .i64 m) ∧ w'.cell? ⟨E, 2, none⟩ = some (.int .i64 d) ∧ w'.cell? ⟨w.heap.size + 1, 0, none⟩ = some (.int .i64 ty) ∧ w'.cell? ⟨w.heap.size + 1, 1, none⟩ = some (.int .i64 tm) ∧ w'.cell? ⟨w.heap.size + 1, 2, none⟩ = some (.int .i64 td)) (first | exact s0 | exact s1 | exact s2) (first
      | (go_at_call 16
         (with_reducible refine (count_any (ty + 1) m d _).mono ?_)
         rintro _ u1y ⟨rfl, hb⟩
         rw [HAy.out]
         have HU1y := Lib.hid (HXDy.out.step hb)
         have s1 := HSy.out _ HU1y.out
         clear hb)
      | (go_at_call 16
         (with_reducible refine (count_any ty tm td _).mono ?_)
         rintro _ u2y ⟨rfl, hb⟩
         rw [HNOW.out]
         have HU2y := Lib.hid (HU1y.out.step hb)
         have s2 := HSy.out _ HU2y.out
         clear hb))
    all_goals (
      go_wp2
      go_ret
      exact ⟨rfl, HU2y.out.bel⟩))
set_option maxHeartbeats 4000000 in
theorem unt_iihk (w : World) (htab : Tab w.heap.size w) (y m d ty tm td n : Int) (hn : untl y m d ty tm td = n) (hm : mayB y m d = true) (ht : mayB ty tm td = true) (h1 : 1 ≤ ty) (hk1 : mayB ty m d = true) (hk3 : mayB (ty + 1) m d = false) (A now A1 : Int) (hA : cnt ty m d = A) (hA1 : cnt (ty + 1) 3 1 = A1) (hnow : cnt ty tm td = now) (hle : ¬ now ≤ A) (hnA : n = A1 - now) (hn0 : 0 ≤ n) (hn1 : n ≤ 366) :
    Calls Tryd.prog 6 #[.agg #[.int .i64 y, .int .i64 m, .int .i64 d], .agg #[.int .i64 ty, .int .i64 tm, .int .i64 td]] w fun e w' => e = .returned (.bool true) ∧ Below w.heap.size w w' := by
  have HX0 := Lib.hid (Bx3.start w y m d ty tm td)
  have HTAB := Lib.hid (tab_on htab HX0.out.bel)
  have HN := Lib.hid hn
  have HM := Lib.hid hm
  have HT := Lib.hid ht
  have hty : (ty == 0) = false := by simp; omega
  have hty9 : ty ≤ 9999 := (may_iff.1 ht).2.1
  have hm12 : m ≤ 12 := (may_iff.1 hm).2.2.2.1
  have hd31 : d ≤ 31 := by have := may_iff.1 hm; have := dim_bd y m; omega
  have b1 := cnt_bd ty tm td
  have HKM := Lib.hid hk1
  have b2 := cnt_bd ty m d
  rw [hA] at b2
  have b3 := cnt_bd (ty + 1) 3 1
  rw [hA1] at b3
  rw [hnow] at b1
  have HAx := Lib.hid hA
  have HAy := Lib.hid hA1
  have HNOW := Lib.hid hnow
  have HK3 := Lib.hid hk3
  have i1 : IntKind.i64.wrap (A1 - now) = n := by rw [hnA, IntWalk.i64_left, IntWalk.wrap64_in _ (by omega)]
  have I1 := Lib.hid i1
  clear hm hn htab ht hk1 hk3 hA hA1 hnow i1 hnA
  go_enter Tryd.func6, Tryd.ntmps6
  go_wp2_with fail
  refine (first_any _ HTAB.out).mono ?_
  rintro _ w1 ⟨rfl, hb⟩
  have HX1 := Lib.hid (HX0.out.step hb)
  obtain ⟨a0, a1, a2⟩ := HX1.out.one3
  obtain ⟨t0, t1, t2⟩ := HX1.out.tod3
  clear hb
  go_wp2_with fail
  refine (until_any _ _ _ _ _ _ _).mono ?_
  rintro _ w2 ⟨rfl, hb⟩
  rw [HN.out]
  have HX2 := Lib.hid (HX1.out.step hb)
  obtain ⟨a0, a1, a2⟩ := HX2.out.one3
  obtain ⟨t0, t1, t2⟩ := HX2.out.tod3
  clear hb
  go_wp2_with fail
  refine (may_any _ _ _ _).mono ?_
  rintro _ w3 ⟨rfl, hb⟩
  rw [HM.out]
  have HX3 := Lib.hid (HX2.out.step hb)
  obtain ⟨a0, a1, a2⟩ := HX3.out.one3
  obtain ⟨t0, t1, t2⟩ := HX3.out.tod3
  clear hb
  go_wp2_with fail
  refine (may_any _ _ _ _).mono ?_
  rintro _ w4 ⟨rfl, hb⟩
  rw [HT.out]
  have HX4 := Lib.hid (HX3.out.step hb)
  obtain ⟨a0, a1, a2⟩ := HX4.out.one3
  obtain ⟨t0, t1, t2⟩ := HX4.out.tod3
  clear hb
  go_wp2_with fail
  have HX5 := Lib.hid (HX4.out.new ty m d)
  have HCB := Lib.hid HX4.out.one.lt
  have HCT := Lib.hid HX4.out.tod.lt
  have HC0 := Lib.hid HX4.out.bel.size
  generalize w4.heap.size = C at *
  go_wp2_with fail
  refine (may_any _ _ _ _).mono ?_
  rintro _ w6 ⟨rfl, hb⟩
  rw [HKM.out]
  have HX6 := Lib.hid (HX5.out.step hb)
  obtain ⟨a0, a1, a2⟩ := HX6.out.one3
  obtain ⟨t0, t1, t2⟩ := HX6.out.tod3
  obtain ⟨b0, b1, b2⟩ := HX6.out.two3
  obtain ⟨f0, f1, f2⟩ := HX6.out.two4
  clear hb
  go_wp2_with fail
  have HXDx := Lib.hid (HX6.out.drewN 1)
  have HSx : Hid (∀ wr, Bx3 w wr w.heap.size (w.heap.size + 1) C y m d ty tm td ty m d → (wr.cell? ⟨C, 0, none⟩ = some (.int .i64 ty) ∧ wr.cell? ⟨C, 1, none⟩ = some (.int .i64 m) ∧ wr.cell? ⟨C, 2, none⟩ = some (.int .i64 d) ∧ wr.cell? ⟨w.heap.size + 1, 0, none⟩ = some (.int .i64 ty) ∧ wr.cell? ⟨w.heap.size + 1, 1, none⟩ = some (.int .i64 tm) ∧ wr.cell? ⟨w.heap.size + 1, 2, none⟩ = some (.int .i64 td))) := Lib.hid fun wr h => ⟨h.two3.1, h.two3.2.1, h.two3.2.2, h.tod3.1, h.tod3.2.1, h.tod3.2.2⟩
  have s0 := HSx.out _ HXDx.out
  go_region_held3 (fun w' => w'.cell? ⟨C, 0, none⟩ = some (.int .i64 ty) ∧ w'.cell? ⟨C, 1, none⟩ = some (.int .i64 m) ∧ w'.cell? ⟨C, 2, none⟩ = some (.int .i64 d) ∧ w'.cell? ⟨w.heap.size + 1, 0, none⟩ = some (.int .i64 ty) ∧ w'.cell? ⟨w.heap.size + 1, 1, none⟩ = some (.int .i64 tm) ∧ w'.cell? ⟨w.heap.size + 1, 2, none⟩ = some (.int .i64 td)) (first | exact s0 | exact s1 | exact s2) (first
    | (go_at_call 16
       (with_reducible refine (count_any ty m d _).mono ?_)
       rintro _ u1x ⟨rfl, hb⟩
       rw [HAx.out]
       have HU1x := Lib.hid (HXDx.out.step hb)
       have s1 := HSx.out _ HU1x.out
       clear hb)
    | (go_at_call 16
       (with_reducible refine (count_any ty tm td _).mono ?_)
       rintro _ u2x ⟨rfl, hb⟩
       rw [HNOW.out]
       have HU2x := Lib.hid (HU1x.out.step hb)
       have s2 := HSx.out _ HU2x.out
       clear hb))
  all_goals (
    clear s0 s1 s2
    obtain ⟨a0, a1, a2⟩ := HU2x.out.one3
    obtain ⟨t0, t1, t2⟩ := HU2x.out.tod3
    go_wp2_with fail
    have HX10 := Lib.hid (HU2x.out.new (ty + 1) m d)
    have HEB := Lib.hid HU2x.out.one.lt
    have HET := Lib.hid HU2x.out.tod.lt
    have HE0 := Lib.hid HU2x.out.bel.size
    generalize u2x.heap.size = E at *
    go_wp2_with fail
    refine (may_any _ _ _ _).mono ?_
    rintro _ w11 ⟨rfl, hb⟩
    rw [HK3.out]
    have HX11 := Lib.hid (HX10.out.step hb)
    obtain ⟨a0, a1, a2⟩ := HX11.out.one3
    obtain ⟨t0, t1, t2⟩ := HX11.out.tod3
    obtain ⟨b0, b1, b2⟩ := HX11.out.two3
    obtain ⟨f0, f1, f2⟩ := HX11.out.two4
    clear hb
    have HX12 := Lib.hid (HX11.out.put (Nat.ne_of_lt HEB.out) (Nat.ne_of_lt HET.out) HE0.out (ty + 1) (3) (1))
    go_wp2_with fail
    generalize (((w11.setCell ⟨E, 0, none⟩ (.int .i64 (ty + 1))).setCell ⟨E, 1, none⟩ (.int .i64 (3))).setCell ⟨E, 2, none⟩ (.int .i64 (1))) = w12 at *
    obtain ⟨a0, a1, a2⟩ := HX12.out.one3
    obtain ⟨t0, t1, t2⟩ := HX12.out.tod3
    obtain ⟨b0, b1, b2⟩ := HX12.out.two3
    go_wp2_with fail
    have i1 := I1.out
    have HXDy := Lib.hid (HX12.out.drewN 1)
    have HSy : Hid (∀ wr, Bx3 w wr w.heap.size (w.heap.size + 1) E y m d ty tm td (ty + 1) 3 1 → (wr.cell? ⟨E, 0, none⟩ = some (.int .i64 (ty + 1)) ∧ wr.cell? ⟨E, 1, none⟩ = some (.int .i64 3) ∧ wr.cell? ⟨E, 2, none⟩ = some (.int .i64 1) ∧ wr.cell? ⟨w.heap.size + 1, 0, none⟩ = some (.int .i64 ty) ∧ wr.cell? ⟨w.heap.size + 1, 1, none⟩ = some (.int .i64 tm) ∧ wr.cell? ⟨w.heap.size + 1, 2, none⟩ = some (.int .i64 td))) := Lib.hid fun wr h => ⟨h.two3.1, h.two3.2.1, h.two3.2.2, h.tod3.1, h.tod3.2.1, h.tod3.2.2⟩
    have s0 := HSy.out _ HXDy.out
    go_region_held3 (fun w' => w'.cell? ⟨E, 0, none⟩ = some (.int .i64 (ty + 1)) ∧ w'.cell? ⟨E, 1, none⟩ = some (.int .i64 3) ∧ w'.cell? ⟨E, 2, none⟩ = some (.int .i64 1) ∧ w'.cell? ⟨w.heap.size + 1, 0, none⟩ = some (.int .i64 ty) ∧ w'.cell? ⟨w.heap.size + 1, 1, none⟩ = some (.int .i64 tm) ∧ w'.cell? ⟨w.heap.size + 1, 2, none⟩ = some (.int .i64 td)) (first | exact s0 | exact s1 | exact s2) (first
      | (go_at_call 16
         (with_reducible refine (count_any (ty + 1) 3 1 _).mono ?_)
         rintro _ u1y ⟨rfl, hb⟩
         rw [HAy.out]
         have HU1y := Lib.hid (HXDy.out.step hb)
         have s1 := HSy.out _ HU1y.out
         clear hb)
      | (go_at_call 16
         (with_reducible refine (count_any ty tm td _).mono ?_)
         rintro _ u2y ⟨rfl, hb⟩
         rw [HNOW.out]
         have HU2y := Lib.hid (HU1y.out.step hb)
         have s2 := HSy.out _ HU2y.out
         clear hb))
    all_goals (
      go_wp2
      go_ret
      exact ⟨rfl, HU2y.out.bel⟩))
set_option maxHeartbeats 4000000 in
theorem unt_iikh (w : World) (htab : Tab w.heap.size w) (y m d ty tm td n : Int) (hn : untl y m d ty tm td = n) (hm : mayB y m d = true) (ht : mayB ty tm td = true) (h1 : 1 ≤ ty) (hk1 : mayB ty m d = false) (hk3 : mayB (ty + 1) m d = true) (A now A1 : Int) (hA : cnt ty 3 1 = A) (hA1 : cnt (ty + 1) m d = A1) (hnow : cnt ty tm td = now) (hle : ¬ now ≤ A) (hnA : n = A1 - now) (hn0 : 0 ≤ n) (hn1 : n ≤ 366) :
    Calls Tryd.prog 6 #[.agg #[.int .i64 y, .int .i64 m, .int .i64 d], .agg #[.int .i64 ty, .int .i64 tm, .int .i64 td]] w fun e w' => e = .returned (.bool true) ∧ Below w.heap.size w w' := by
  have HX0 := Lib.hid (Bx3.start w y m d ty tm td)
  have HTAB := Lib.hid (tab_on htab HX0.out.bel)
  have HN := Lib.hid hn
  have HM := Lib.hid hm
  have HT := Lib.hid ht
  have hty : (ty == 0) = false := by simp; omega
  have hty9 : ty ≤ 9999 := (may_iff.1 ht).2.1
  have hm12 : m ≤ 12 := (may_iff.1 hm).2.2.2.1
  have hd31 : d ≤ 31 := by have := may_iff.1 hm; have := dim_bd y m; omega
  have b1 := cnt_bd ty tm td
  have HKM := Lib.hid hk1
  have b2 := cnt_bd ty 3 1
  rw [hA] at b2
  have b3 := cnt_bd (ty + 1) m d
  rw [hA1] at b3
  rw [hnow] at b1
  have HAx := Lib.hid hA
  have HAy := Lib.hid hA1
  have HNOW := Lib.hid hnow
  have HK3 := Lib.hid hk3
  have i1 : IntKind.i64.wrap (A1 - now) = n := by rw [hnA, IntWalk.i64_left, IntWalk.wrap64_in _ (by omega)]
  have I1 := Lib.hid i1
  clear hm hn htab ht hk1 hk3 hA hA1 hnow i1 hnA
  go_enter Tryd.func6, Tryd.ntmps6
  go_wp2_with fail
  refine (first_any _ HTAB.out).mono ?_
  rintro _ w1 ⟨rfl, hb⟩
  have HX1 := Lib.hid (HX0.out.step hb)
  obtain ⟨a0, a1, a2⟩ := HX1.out.one3
  obtain ⟨t0, t1, t2⟩ := HX1.out.tod3
  clear hb
  go_wp2_with fail
  refine (until_any _ _ _ _ _ _ _).mono ?_
  rintro _ w2 ⟨rfl, hb⟩
  rw [HN.out]
  have HX2 := Lib.hid (HX1.out.step hb)
  obtain ⟨a0, a1, a2⟩ := HX2.out.one3
  obtain ⟨t0, t1, t2⟩ := HX2.out.tod3
  clear hb
  go_wp2_with fail
  refine (may_any _ _ _ _).mono ?_
  rintro _ w3 ⟨rfl, hb⟩
  rw [HM.out]
  have HX3 := Lib.hid (HX2.out.step hb)
  obtain ⟨a0, a1, a2⟩ := HX3.out.one3
  obtain ⟨t0, t1, t2⟩ := HX3.out.tod3
  clear hb
  go_wp2_with fail
  refine (may_any _ _ _ _).mono ?_
  rintro _ w4 ⟨rfl, hb⟩
  rw [HT.out]
  have HX4 := Lib.hid (HX3.out.step hb)
  obtain ⟨a0, a1, a2⟩ := HX4.out.one3
  obtain ⟨t0, t1, t2⟩ := HX4.out.tod3
  clear hb
  go_wp2_with fail
  have HX5 := Lib.hid (HX4.out.new ty m d)
  have HCB := Lib.hid HX4.out.one.lt
  have HCT := Lib.hid HX4.out.tod.lt
  have HC0 := Lib.hid HX4.out.bel.size
  generalize w4.heap.size = C at *
  go_wp2_with fail
  refine (may_any _ _ _ _).mono ?_
  rintro _ w6 ⟨rfl, hb⟩
  rw [HKM.out]
  have HX6 := Lib.hid (HX5.out.step hb)
  obtain ⟨a0, a1, a2⟩ := HX6.out.one3
  obtain ⟨t0, t1, t2⟩ := HX6.out.tod3
  obtain ⟨b0, b1, b2⟩ := HX6.out.two3
  obtain ⟨f0, f1, f2⟩ := HX6.out.two4
  clear hb
  have HX7 := Lib.hid (HX6.out.put (Nat.ne_of_lt HCB.out) (Nat.ne_of_lt HCT.out) HC0.out (ty) (3) (1))
  go_wp2_with fail
  generalize (((w6.setCell ⟨C, 0, none⟩ (.int .i64 (ty))).setCell ⟨C, 1, none⟩ (.int .i64 (3))).setCell ⟨C, 2, none⟩ (.int .i64 (1))) = w7 at *
  obtain ⟨a0, a1, a2⟩ := HX7.out.one3
  obtain ⟨t0, t1, t2⟩ := HX7.out.tod3
  obtain ⟨b0, b1, b2⟩ := HX7.out.two3
  go_wp2_with fail
  have HXDx := Lib.hid (HX7.out.drewN 1)
  have HSx : Hid (∀ wr, Bx3 w wr w.heap.size (w.heap.size + 1) C y m d ty tm td ty 3 1 → (wr.cell? ⟨C, 0, none⟩ = some (.int .i64 ty) ∧ wr.cell? ⟨C, 1, none⟩ = some (.int .i64 3) ∧ wr.cell? ⟨C, 2, none⟩ = some (.int .i64 1) ∧ wr.cell? ⟨w.heap.size + 1, 0, none⟩ = some (.int .i64 ty) ∧ wr.cell? ⟨w.heap.size + 1, 1, none⟩ = some (.int .i64 tm) ∧ wr.cell? ⟨w.heap.size + 1, 2, none⟩ = some (.int .i64 td))) := Lib.hid fun wr h => ⟨h.two3.1, h.two3.2.1, h.two3.2.2, h.tod3.1, h.tod3.2.1, h.tod3.2.2⟩
  have s0 := HSx.out _ HXDx.out
  go_region_held3 (fun w' => w'.cell? ⟨C, 0, none⟩ = some (.int .i64 ty) ∧ w'.cell? ⟨C, 1, none⟩ = some (.int .i64 3) ∧ w'.cell? ⟨C, 2, none⟩ = some (.int .i64 1) ∧ w'.cell? ⟨w.heap.size + 1, 0, none⟩ = some (.int .i64 ty) ∧ w'.cell? ⟨w.heap.size + 1, 1, none⟩ = some (.int .i64 tm) ∧ w'.cell? ⟨w.heap.size + 1, 2, none⟩ = some (.int .i64 td)) (first | exact s0 | exact s1 | exact s2) (first
    | (go_at_call 16
       (with_reducible refine (count_any ty 3 1 _).mono ?_)
       rintro _ u1x ⟨rfl, hb⟩
       rw [HAx.out]
       have HU1x := Lib.hid (HXDx.out.step hb)
       have s1 := HSx.out _ HU1x.out
       clear hb)
    | (go_at_call 16
       (with_reducible refine (count_any ty tm td _).mono ?_)
       rintro _ u2x ⟨rfl, hb⟩
       rw [HNOW.out]
       have HU2x := Lib.hid (HU1x.out.step hb)
       have s2 := HSx.out _ HU2x.out
       clear hb))
  all_goals (
    clear s0 s1 s2
    obtain ⟨a0, a1, a2⟩ := HU2x.out.one3
    obtain ⟨t0, t1, t2⟩ := HU2x.out.tod3
    go_wp2_with fail
    have HX10 := Lib.hid (HU2x.out.new (ty + 1) m d)
    have HEB := Lib.hid HU2x.out.one.lt
    have HET := Lib.hid HU2x.out.tod.lt
    have HE0 := Lib.hid HU2x.out.bel.size
    generalize u2x.heap.size = E at *
    go_wp2_with fail
    refine (may_any _ _ _ _).mono ?_
    rintro _ w11 ⟨rfl, hb⟩
    rw [HK3.out]
    have HX11 := Lib.hid (HX10.out.step hb)
    obtain ⟨a0, a1, a2⟩ := HX11.out.one3
    obtain ⟨t0, t1, t2⟩ := HX11.out.tod3
    obtain ⟨b0, b1, b2⟩ := HX11.out.two3
    obtain ⟨f0, f1, f2⟩ := HX11.out.two4
    clear hb
    go_wp2_with fail
    have i1 := I1.out
    have HXDy := Lib.hid (HX11.out.drewN 1)
    have HSy : Hid (∀ wr, Bx3 w wr w.heap.size (w.heap.size + 1) E y m d ty tm td (ty + 1) m d → (wr.cell? ⟨E, 0, none⟩ = some (.int .i64 (ty + 1)) ∧ wr.cell? ⟨E, 1, none⟩ = some (.int .i64 m) ∧ wr.cell? ⟨E, 2, none⟩ = some (.int .i64 d) ∧ wr.cell? ⟨w.heap.size + 1, 0, none⟩ = some (.int .i64 ty) ∧ wr.cell? ⟨w.heap.size + 1, 1, none⟩ = some (.int .i64 tm) ∧ wr.cell? ⟨w.heap.size + 1, 2, none⟩ = some (.int .i64 td))) := Lib.hid fun wr h => ⟨h.two3.1, h.two3.2.1, h.two3.2.2, h.tod3.1, h.tod3.2.1, h.tod3.2.2⟩
    have s0 := HSy.out _ HXDy.out
    go_region_held3 (fun w' => w'.cell? ⟨E, 0, none⟩ = some (.int .i64 (ty + 1)) ∧ w'.cell? ⟨E, 1, none⟩ = some (.int .i64 m) ∧ w'.cell? ⟨E, 2, none⟩ = some (.int .i64 d) ∧ w'.cell? ⟨w.heap.size + 1, 0, none⟩ = some (.int .i64 ty) ∧ w'.cell? ⟨w.heap.size + 1, 1, none⟩ = some (.int .i64 tm) ∧ w'.cell? ⟨w.heap.size + 1, 2, none⟩ = some (.int .i64 td)) (first | exact s0 | exact s1 | exact s2) (first
      | (go_at_call 16
         (with_reducible refine (count_any (ty + 1) m d _).mono ?_)
         rintro _ u1y ⟨rfl, hb⟩
         rw [HAy.out]
         have HU1y := Lib.hid (HXDy.out.step hb)
         have s1 := HSy.out _ HU1y.out
         clear hb)
      | (go_at_call 16
         (with_reducible refine (count_any ty tm td _).mono ?_)
         rintro _ u2y ⟨rfl, hb⟩
         rw [HNOW.out]
         have HU2y := Lib.hid (HU1y.out.step hb)
         have s2 := HSy.out _ HU2y.out
         clear hb))
    all_goals (
      go_wp2
      go_ret
      exact ⟨rfl, HU2y.out.bel⟩))
set_option maxHeartbeats 4000000 in
theorem unt_iikk (w : World) (htab : Tab w.heap.size w) (y m d ty tm td n : Int) (hn : untl y m d ty tm td = n) (hm : mayB y m d = true) (ht : mayB ty tm td = true) (h1 : 1 ≤ ty) (hk1 : mayB ty m d = false) (hk3 : mayB (ty + 1) m d = false) (A now A1 : Int) (hA : cnt ty 3 1 = A) (hA1 : cnt (ty + 1) 3 1 = A1) (hnow : cnt ty tm td = now) (hle : ¬ now ≤ A) (hnA : n = A1 - now) (hn0 : 0 ≤ n) (hn1 : n ≤ 366) :
    Calls Tryd.prog 6 #[.agg #[.int .i64 y, .int .i64 m, .int .i64 d], .agg #[.int .i64 ty, .int .i64 tm, .int .i64 td]] w fun e w' => e = .returned (.bool true) ∧ Below w.heap.size w w' := by
  have HX0 := Lib.hid (Bx3.start w y m d ty tm td)
  have HTAB := Lib.hid (tab_on htab HX0.out.bel)
  have HN := Lib.hid hn
  have HM := Lib.hid hm
  have HT := Lib.hid ht
  have hty : (ty == 0) = false := by simp; omega
  have hty9 : ty ≤ 9999 := (may_iff.1 ht).2.1
  have hm12 : m ≤ 12 := (may_iff.1 hm).2.2.2.1
  have hd31 : d ≤ 31 := by have := may_iff.1 hm; have := dim_bd y m; omega
  have b1 := cnt_bd ty tm td
  have HKM := Lib.hid hk1
  have b2 := cnt_bd ty 3 1
  rw [hA] at b2
  have b3 := cnt_bd (ty + 1) 3 1
  rw [hA1] at b3
  rw [hnow] at b1
  have HAx := Lib.hid hA
  have HAy := Lib.hid hA1
  have HNOW := Lib.hid hnow
  have HK3 := Lib.hid hk3
  have i1 : IntKind.i64.wrap (A1 - now) = n := by rw [hnA, IntWalk.i64_left, IntWalk.wrap64_in _ (by omega)]
  have I1 := Lib.hid i1
  clear hm hn htab ht hk1 hk3 hA hA1 hnow i1 hnA
  go_enter Tryd.func6, Tryd.ntmps6
  go_wp2_with fail
  refine (first_any _ HTAB.out).mono ?_
  rintro _ w1 ⟨rfl, hb⟩
  have HX1 := Lib.hid (HX0.out.step hb)
  obtain ⟨a0, a1, a2⟩ := HX1.out.one3
  obtain ⟨t0, t1, t2⟩ := HX1.out.tod3
  clear hb
  go_wp2_with fail
  refine (until_any _ _ _ _ _ _ _).mono ?_
  rintro _ w2 ⟨rfl, hb⟩
  rw [HN.out]
  have HX2 := Lib.hid (HX1.out.step hb)
  obtain ⟨a0, a1, a2⟩ := HX2.out.one3
  obtain ⟨t0, t1, t2⟩ := HX2.out.tod3
  clear hb
  go_wp2_with fail
  refine (may_any _ _ _ _).mono ?_
  rintro _ w3 ⟨rfl, hb⟩
  rw [HM.out]
  have HX3 := Lib.hid (HX2.out.step hb)
  obtain ⟨a0, a1, a2⟩ := HX3.out.one3
  obtain ⟨t0, t1, t2⟩ := HX3.out.tod3
  clear hb
  go_wp2_with fail
  refine (may_any _ _ _ _).mono ?_
  rintro _ w4 ⟨rfl, hb⟩
  rw [HT.out]
  have HX4 := Lib.hid (HX3.out.step hb)
  obtain ⟨a0, a1, a2⟩ := HX4.out.one3
  obtain ⟨t0, t1, t2⟩ := HX4.out.tod3
  clear hb
  go_wp2_with fail
  have HX5 := Lib.hid (HX4.out.new ty m d)
  have HCB := Lib.hid HX4.out.one.lt
  have HCT := Lib.hid HX4.out.tod.lt
  have HC0 := Lib.hid HX4.out.bel.size
  generalize w4.heap.size = C at *
  go_wp2_with fail
  refine (may_any _ _ _ _).mono ?_
  rintro _ w6 ⟨rfl, hb⟩
  rw [HKM.out]
  have HX6 := Lib.hid (HX5.out.step hb)
  obtain ⟨a0, a1, a2⟩ := HX6.out.one3
  obtain ⟨t0, t1, t2⟩ := HX6.out.tod3
  obtain ⟨b0, b1, b2⟩ := HX6.out.two3
  obtain ⟨f0, f1, f2⟩ := HX6.out.two4
  clear hb
  have HX7 := Lib.hid (HX6.out.put (Nat.ne_of_lt HCB.out) (Nat.ne_of_lt HCT.out) HC0.out (ty) (3) (1))
  go_wp2_with fail
  generalize (((w6.setCell ⟨C, 0, none⟩ (.int .i64 (ty))).setCell ⟨C, 1, none⟩ (.int .i64 (3))).setCell ⟨C, 2, none⟩ (.int .i64 (1))) = w7 at *
  obtain ⟨a0, a1, a2⟩ := HX7.out.one3
  obtain ⟨t0, t1, t2⟩ := HX7.out.tod3
  obtain ⟨b0, b1, b2⟩ := HX7.out.two3
  go_wp2_with fail
  have HXDx := Lib.hid (HX7.out.drewN 1)
  have HSx : Hid (∀ wr, Bx3 w wr w.heap.size (w.heap.size + 1) C y m d ty tm td ty 3 1 → (wr.cell? ⟨C, 0, none⟩ = some (.int .i64 ty) ∧ wr.cell? ⟨C, 1, none⟩ = some (.int .i64 3) ∧ wr.cell? ⟨C, 2, none⟩ = some (.int .i64 1) ∧ wr.cell? ⟨w.heap.size + 1, 0, none⟩ = some (.int .i64 ty) ∧ wr.cell? ⟨w.heap.size + 1, 1, none⟩ = some (.int .i64 tm) ∧ wr.cell? ⟨w.heap.size + 1, 2, none⟩ = some (.int .i64 td))) := Lib.hid fun wr h => ⟨h.two3.1, h.two3.2.1, h.two3.2.2, h.tod3.1, h.tod3.2.1, h.tod3.2.2⟩
  have s0 := HSx.out _ HXDx.out
  go_region_held3 (fun w' => w'.cell? ⟨C, 0, none⟩ = some (.int .i64 ty) ∧ w'.cell? ⟨C, 1, none⟩ = some (.int .i64 3) ∧ w'.cell? ⟨C, 2, none⟩ = some (.int .i64 1) ∧ w'.cell? ⟨w.heap.size + 1, 0, none⟩ = some (.int .i64 ty) ∧ w'.cell? ⟨w.heap.size + 1, 1, none⟩ = some (.int .i64 tm) ∧ w'.cell? ⟨w.heap.size + 1, 2, none⟩ = some (.int .i64 td)) (first | exact s0 | exact s1 | exact s2) (first
    | (go_at_call 16
       (with_reducible refine (count_any ty 3 1 _).mono ?_)
       rintro _ u1x ⟨rfl, hb⟩
       rw [HAx.out]
       have HU1x := Lib.hid (HXDx.out.step hb)
       have s1 := HSx.out _ HU1x.out
       clear hb)
    | (go_at_call 16
       (with_reducible refine (count_any ty tm td _).mono ?_)
       rintro _ u2x ⟨rfl, hb⟩
       rw [HNOW.out]
       have HU2x := Lib.hid (HU1x.out.step hb)
       have s2 := HSx.out _ HU2x.out
       clear hb))
  all_goals (
    clear s0 s1 s2
    obtain ⟨a0, a1, a2⟩ := HU2x.out.one3
    obtain ⟨t0, t1, t2⟩ := HU2x.out.tod3
    go_wp2_with fail
    have HX10 := Lib.hid (HU2x.out.new (ty + 1) m d)
    have HEB := Lib.hid HU2x.out.one.lt
    have HET := Lib.hid HU2x.out.tod.lt
    have HE0 := Lib.hid HU2x.out.bel.size
    generalize u2x.heap.size = E at *
    go_wp2_with fail
    refine (may_any _ _ _ _).mono ?_
    rintro _ w11 ⟨rfl, hb⟩
    rw [HK3.out]
    have HX11 := Lib.hid (HX10.out.step hb)
    obtain ⟨a0, a1, a2⟩ := HX11.out.one3
    obtain ⟨t0, t1, t2⟩ := HX11.out.tod3
    obtain ⟨b0, b1, b2⟩ := HX11.out.two3
    obtain ⟨f0, f1, f2⟩ := HX11.out.two4
    clear hb
    have HX12 := Lib.hid (HX11.out.put (Nat.ne_of_lt HEB.out) (Nat.ne_of_lt HET.out) HE0.out (ty + 1) (3) (1))
    go_wp2_with fail
    generalize (((w11.setCell ⟨E, 0, none⟩ (.int .i64 (ty + 1))).setCell ⟨E, 1, none⟩ (.int .i64 (3))).setCell ⟨E, 2, none⟩ (.int .i64 (1))) = w12 at *
    obtain ⟨a0, a1, a2⟩ := HX12.out.one3
    obtain ⟨t0, t1, t2⟩ := HX12.out.tod3
    obtain ⟨b0, b1, b2⟩ := HX12.out.two3
    go_wp2_with fail
    have i1 := I1.out
    have HXDy := Lib.hid (HX12.out.drewN 1)
    have HSy : Hid (∀ wr, Bx3 w wr w.heap.size (w.heap.size + 1) E y m d ty tm td (ty + 1) 3 1 → (wr.cell? ⟨E, 0, none⟩ = some (.int .i64 (ty + 1)) ∧ wr.cell? ⟨E, 1, none⟩ = some (.int .i64 3) ∧ wr.cell? ⟨E, 2, none⟩ = some (.int .i64 1) ∧ wr.cell? ⟨w.heap.size + 1, 0, none⟩ = some (.int .i64 ty) ∧ wr.cell? ⟨w.heap.size + 1, 1, none⟩ = some (.int .i64 tm) ∧ wr.cell? ⟨w.heap.size + 1, 2, none⟩ = some (.int .i64 td))) := Lib.hid fun wr h => ⟨h.two3.1, h.two3.2.1, h.two3.2.2, h.tod3.1, h.tod3.2.1, h.tod3.2.2⟩
    have s0 := HSy.out _ HXDy.out
    go_region_held3 (fun w' => w'.cell? ⟨E, 0, none⟩ = some (.int .i64 (ty + 1)) ∧ w'.cell? ⟨E, 1, none⟩ = some (.int .i64 3) ∧ w'.cell? ⟨E, 2, none⟩ = some (.int .i64 1) ∧ w'.cell? ⟨w.heap.size + 1, 0, none⟩ = some (.int .i64 ty) ∧ w'.cell? ⟨w.heap.size + 1, 1, none⟩ = some (.int .i64 tm) ∧ w'.cell? ⟨w.heap.size + 1, 2, none⟩ = some (.int .i64 td)) (first | exact s0 | exact s1 | exact s2) (first
      | (go_at_call 16
         (with_reducible refine (count_any (ty + 1) 3 1 _).mono ?_)
         rintro _ u1y ⟨rfl, hb⟩
         rw [HAy.out]
         have HU1y := Lib.hid (HXDy.out.step hb)
         have s1 := HSy.out _ HU1y.out
         clear hb)
      | (go_at_call 16
         (with_reducible refine (count_any ty tm td _).mono ?_)
         rintro _ u2y ⟨rfl, hb⟩
         rw [HNOW.out]
         have HU2y := Lib.hid (HU1y.out.step hb)
         have s2 := HSy.out _ HU2y.out
         clear hb))
    all_goals (
      go_wp2
      go_ret
      exact ⟨rfl, HU2y.out.bel⟩))
theorem dayUntil_walk (w : World) (ht : Tab w.heap.size w) (a0 : Int) (w0 : (Lit.int .i64 a0).wf = true) (a1 : Int) (w1 : (Lit.int .i64 a1).wf = true) (a2 : Int) (w2 : (Lit.int .i64 a2).wf = true) (a3 : Int) (w3 : (Lit.int .i64 a3).wf = true) (a4 : Int) (w4 : (Lit.int .i64 a4).wf = true) (a5 : Int) (w5 : (Lit.int .i64 a5).wf = true) :
    Calls Tryd.prog 6 #[.agg #[.int .i64 a0, .int .i64 a1, .int .i64 a2], .agg #[.int .i64 a3, .int .i64 a4, .int .i64 a5]] w fun e w' => e = .returned (.bool true) ∧ Below w.heap.size w w' := by
  cases hm : mayB a0 a1 a2
  · exact unt_bad1 w ht _ _ _ _ _ _ _ rfl hm
  · cases hT : mayB a3 a4 a5
    · exact unt_bad2 w ht _ _ _ _ _ _ _ rfl hm hT
    · by_cases h0 : a3 = 0
      · exact unt_bad3 w ht _ _ _ _ _ _ _ rfl hm hT h0
      · have h1 : 1 ≤ a3 := by have := may_iff.1 hT; omega
        have hk := kept_may hm h1 (may_iff.1 hT).2.1
        have u := untl_day hm hT h1
        unfold keptM keptD at u hk
        cases hk1 : mayB a3 a1 a2
        · rw [hk1] at u hk
          simp only [Bool.false_eq_true, if_false] at u hk
          rcases u with ⟨u1, u2, u3, u4⟩ | ⟨u1, uy, u2, u3, u4⟩ | ⟨_, u1, u2⟩
          · exact unt_ik w ht _ _ _ _ _ _ _ rfl hm hT h1 hk1 hk _ _ rfl rfl u1 u2 u3 u4
          · cases hk3 : mayB (a3 + 1) a1 a2
            · rw [hk3] at u2
              simp only [Bool.false_eq_true, if_false] at u2
              exact unt_iikk w ht _ _ _ _ _ _ _ rfl hm hT h1 hk1 hk3 _ _ _ rfl rfl rfl u1 u2 u3 u4
            · rw [hk3] at u2
              simp only [if_true] at u2
              exact unt_iikh w ht _ _ _ _ _ _ _ rfl hm hT h1 hk1 hk3 _ _ _ rfl rfl rfl u1 u2 u3 u4
          · exact unt_last w ht _ _ _ _ _ _ _ rfl hm hT u1 u2
        · rw [hk1] at u hk
          simp only [if_true] at u hk
          rcases u with ⟨u1, u2, u3, u4⟩ | ⟨u1, uy, u2, u3, u4⟩ | ⟨_, u1, u2⟩
          · exact unt_ih w ht _ _ _ _ _ _ _ rfl hm hT h1 hk1 hk1 _ _ rfl rfl u1 u2 u3 u4
          · cases hk3 : mayB (a3 + 1) a1 a2
            · rw [hk3] at u2
              simp only [Bool.false_eq_true, if_false] at u2
              exact unt_iihk w ht _ _ _ _ _ _ _ rfl hm hT h1 hk1 hk3 _ _ _ rfl rfl rfl u1 u2 u3 u4
            · rw [hk3] at u2
              simp only [if_true] at u2
              exact unt_iihh w ht _ _ _ _ _ _ _ rfl hm hT h1 hk1 hk3 _ _ _ rfl rfl rfl u1 u2 u3 u4
          · exact unt_last w ht _ _ _ _ _ _ _ rfl hm hT u1 u2
end Go.Proofs.YtelkbodhipfjaaaDoor
