/- DayNext: the walk itself. -/
import Derived.Test.YtelkbodhipfjaaaDoorDx
namespace Go.Proofs.YtelkbodhipfjaaaDoor
open Go.RowKit
set_option linter.unusedVariables false
set_option maxRecDepth 20000
attribute [local go_sem ↓] Go.wp_at_zero Go.wp_at_succ
theorem Bx2.one3 {w0 wr : World} {B C : Nat} {y m d ty tm td : Int} (h : Bx2 w0 wr B C y m d ty tm td) : wr.cell? ⟨B, 0, none⟩ = some (.int .i64 y) ∧ wr.cell? ⟨B, 1, none⟩ = some (.int .i64 m) ∧ wr.cell? ⟨B, 2, none⟩ = some (.int .i64 d) := ⟨h.one.cell 0, h.one.cell 1, h.one.cell 2⟩
theorem Bx2.two3 {w0 wr : World} {B C : Nat} {y m d ty tm td : Int} (h : Bx2 w0 wr B C y m d ty tm td) : wr.cell? ⟨C, 0, none⟩ = some (.int .i64 ty) ∧ wr.cell? ⟨C, 1, none⟩ = some (.int .i64 tm) ∧ wr.cell? ⟨C, 2, none⟩ = some (.int .i64 td) := ⟨h.two.cell 0, h.two.cell 1, h.two.cell 2⟩
theorem Bx2.two4 {w0 wr : World} {B C : Nat} {y m d ty tm td : Int} (h : Bx2 w0 wr B C y m d ty tm td) : wr.frozen? ⟨C, 0, none⟩ = false ∧ wr.frozen? ⟨C, 1, none⟩ = false ∧ wr.frozen? ⟨C, 2, none⟩ = false := ⟨h.two.frozen 0, h.two.frozen 1, h.two.frozen 2⟩
theorem Bx2.put {w0 wr : World} {B C : Nat} {y m d ty tm td : Int} (h : Bx2 w0 wr B C y m d ty tm td) (hBC : B ≠ C) (hC : w0.heap.size ≤ C) (a b c : Int) : Bx2 w0 (((wr.setCell ⟨C, 0, none⟩ (.int .i64 a)).setCell ⟨C, 1, none⟩ (.int .i64 b)).setCell ⟨C, 2, none⟩ (.int .i64 c)) B C y m d a b c :=
  ⟨((h.one.far (p := ⟨C, 0, none⟩) hBC _).far (p := ⟨C, 1, none⟩) hBC _).far (p := ⟨C, 2, none⟩) hBC _, Blk3.put h.two _ _ _, Blk3.bel h.bel hC _ _ _⟩
theorem Bx2.drewN {w0 wr : World} {B C : Nat} {y m d ty tm td : Int} (h : Bx2 w0 wr B C y m d ty tm td) (n : Nat) : Bx2 w0 (wr.drewN n) B C y m d ty tm td := ⟨h.one.drewN n, h.two.drewN n, below_drewN h.bel n⟩
/-- A new box beside the first. -/
theorem Bx2.new {w0 wr : World} {B C : Nat} {y m d ty tm td : Int} (h : Bx2 w0 wr B C y m d ty tm td) (a b c : Int) : Bx2 w0 (wr.alloc (.cells #[.int .i64 a, .int .i64 b, .int .i64 c] 23)) B wr.heap.size y m d a b c :=
  ⟨h.one.alloc _, Blk.new _ _ _, h.bel.alloc h.bel.size _⟩
theorem Bx2.start (w : World) (y m d : Int) : Bx2 w (w.alloc (.cells #[.int .i64 y, .int .i64 m, .int .i64 d] 23)) w.heap.size w.heap.size y m d y m d :=
  ⟨Blk.new _ _ _, Blk.new _ _ _, (Below.refl _ _).alloc (Nat.le_refl _) _⟩
set_option maxHeartbeats 4000000 in
theorem next_bad (w : World) (ht : Tab w.heap.size w) (y m d : Int) (hm : mayB y m d = false) :
    Calls Tryd.prog 5 #[.agg #[.int .i64 y, .int .i64 m, .int .i64 d]] w fun e w' => e = .returned (.bool true) ∧ Below w.heap.size w w' := by
  have HX0 := Lib.hid (Bx2.start w y m d)
  have HT := Lib.hid (tab_on ht HX0.out.bel)
  have HM := Lib.hid hm
  have HN := Lib.hid (show cnt y m d = -1 by unfold cnt; rw [hm]; simp)
  clear ht hm
  go_enter Tryd.func5, Tryd.ntmps5
  go_wp2_with fail
  refine (first_any _ HT.out).mono ?_
  rintro _ w1 ⟨rfl, hb⟩
  have HX1 := Lib.hid (HX0.out.step hb)
  obtain ⟨a0, a1, a2⟩ := HX1.out.one3
  clear hb
  go_wp2_with fail
  refine (may_any _ _ _ _).mono ?_
  rintro _ w2 ⟨rfl, hb⟩
  rw [HM.out]
  have HX2 := Lib.hid (HX1.out.step hb)
  obtain ⟨a0, a1, a2⟩ := HX2.out.one3
  clear hb
  go_wp2_with fail
  refine (count_any _ _ _ _).mono ?_
  rintro _ w3 ⟨rfl, hb⟩
  rw [HN.out]
  have HX3 := Lib.hid (HX2.out.step hb)
  clear hb
  go_wp2
  go_ret
  exact ⟨rfl, HX3.out.bel⟩
set_option maxHeartbeats 4000000 in
theorem next_zero (w : World) (ht : Tab w.heap.size w) (y m d : Int) (hm : mayB y m d = true) (h0 : y = 0) :
    Calls Tryd.prog 5 #[.agg #[.int .i64 y, .int .i64 m, .int .i64 d]] w fun e w' => e = .returned (.bool true) ∧ Below w.heap.size w w' := by
  have HX0 := Lib.hid (Bx2.start w y m d)
  have HT := Lib.hid (tab_on ht HX0.out.bel)
  subst h0
  have HM := Lib.hid hm
  have HN := Lib.hid (show cnt 0 m d = -1 by unfold cnt; simp)
  clear ht hm
  go_enter Tryd.func5, Tryd.ntmps5
  go_wp2_with fail
  refine (first_any _ HT.out).mono ?_
  rintro _ w1 ⟨rfl, hb⟩
  have HX1 := Lib.hid (HX0.out.step hb)
  obtain ⟨a0, a1, a2⟩ := HX1.out.one3
  clear hb
  go_wp2_with fail
  refine (may_any _ _ _ _).mono ?_
  rintro _ w2 ⟨rfl, hb⟩
  rw [HM.out]
  have HX2 := Lib.hid (HX1.out.step hb)
  obtain ⟨a0, a1, a2⟩ := HX2.out.one3
  clear hb
  go_wp2_with fail
  refine (count_any _ _ _ _).mono ?_
  rintro _ w3 ⟨rfl, hb⟩
  rw [HN.out]
  have HX3 := Lib.hid (HX2.out.step hb)
  clear hb
  go_wp2
  go_ret
  exact ⟨rfl, HX3.out.bel⟩
set_option maxHeartbeats 4000000 in
theorem next_day_ (w : World) (ht : Tab w.heap.size w) (y m d : Int) (hm : mayB y m d = true) (h0 : 1 ≤ y) (h2 : mayB y m (d + 1) = true) :
    Calls Tryd.prog 5 #[.agg #[.int .i64 y, .int .i64 m, .int .i64 d]] w fun e w' => e = .returned (.bool true) ∧ Below w.heap.size w w' := by
  have HX0 := Lib.hid (Bx2.start w y m d)
  have HT := Lib.hid (tab_on ht HX0.out.bel)
  obtain ⟨m1, m2, m3, m4, m5, m6⟩ := may_iff.1 hm
  have m7 := (dim_bd y m).2
  have m8 : d ≤ 31 := by omega
  have hy0 : (y == 0) = false := by simp; omega
  obtain ⟨n, hn⟩ : ∃ n, cnt y m d = n := ⟨_, rfl⟩
  have n0 : 0 ≤ n := by rw [← hn]; exact cnt_nn hm h0
  have n1 : n ≤ 5000000 := by rw [← hn]; exact (cnt_bd y m d).2
  have HM := Lib.hid hm
  have HN := Lib.hid hn
  have HNN := Lib.hid (show cnt y m (d + 1) = n + 1 by rw [next_day hm h0 h2, hn])
  have HM2 := Lib.hid h2
  clear ht hm h2 hn m6 m7
  go_enter Tryd.func5, Tryd.ntmps5
  go_wp2_with fail
  refine (first_any _ HT.out).mono ?_
  rintro _ w1 ⟨rfl, hb⟩
  have HX1 := Lib.hid (HX0.out.step hb)
  obtain ⟨a0, a1, a2⟩ := HX1.out.one3
  clear hb
  go_wp2_with fail
  refine (may_any _ _ _ _).mono ?_
  rintro _ w2 ⟨rfl, hb⟩
  rw [HM.out]
  have HX2 := Lib.hid (HX1.out.step hb)
  obtain ⟨a0, a1, a2⟩ := HX2.out.one3
  clear hb
  go_wp2_with fail
  have HX3 := Lib.hid (HX2.out.new y m (d + 1))
  have HC := Lib.hid HX2.out.one.lt
  have HC0 := Lib.hid HX2.out.bel.size
  generalize w2.heap.size = C at *
  go_wp2_with fail
  refine (may_any _ _ _ _).mono ?_
  rintro _ w4 ⟨rfl, hb⟩
  rw [HM2.out]
  have HX4 := Lib.hid (HX3.out.step hb)
  obtain ⟨a0, a1, a2⟩ := HX4.out.one3
  obtain ⟨b0, b1, b2⟩ := HX4.out.two3
  obtain ⟨f0, f1, f2⟩ := HX4.out.two4
  clear hb
  go_wp2_with fail
  refine (may_any _ _ _ _).mono ?_
  rintro _ w5 ⟨rfl, hb⟩
  rw [HM2.out]
  have HX5 := Lib.hid (HX4.out.step hb)
  obtain ⟨a0, a1, a2⟩ := HX5.out.one3
  obtain ⟨b0, b1, b2⟩ := HX5.out.two3
  obtain ⟨f0, f1, f2⟩ := HX5.out.two4
  clear hb
  go_wp2_with fail
  refine (may_any _ _ _ _).mono ?_
  rintro _ w6 ⟨rfl, hb⟩
  rw [HM2.out]
  have HX6 := Lib.hid (HX5.out.step hb)
  obtain ⟨a0, a1, a2⟩ := HX6.out.one3
  obtain ⟨b0, b1, b2⟩ := HX6.out.two3
  obtain ⟨f0, f1, f2⟩ := HX6.out.two4
  clear hb
  go_wp2_with fail
  have HXD := Lib.hid (HX6.out.drewN 1)
  have HS1 : Hid (∀ wr, Bx2 w wr w.heap.size C y m d y m (d + 1) → (wr.cell? ⟨w.heap.size, 0, none⟩ = some (.int .i64 y) ∧ wr.cell? ⟨w.heap.size, 1, none⟩ = some (.int .i64 m) ∧ wr.cell? ⟨w.heap.size, 2, none⟩ = some (.int .i64 d) ∧ wr.cell? ⟨C, 0, none⟩ = some (.int .i64 y) ∧ wr.cell? ⟨C, 1, none⟩ = some (.int .i64 m) ∧ wr.cell? ⟨C, 2, none⟩ = some (.int .i64 (d + 1)))) := Lib.hid fun wr h => ⟨h.one3.1, h.one3.2.1, h.one3.2.2, h.two3.1, h.two3.2.1, h.two3.2.2⟩
  have s0 := HS1.out _ HXD.out
  have i1 : IntKind.i64.wrap (n + 1) = n + 1 := by rw [IntWalk.i64_left, IntWalk.wrap64_in _ (by omega)]
  go_region_held3 (fun w' => w'.cell? ⟨w.heap.size, 0, none⟩ = some (.int .i64 y) ∧ w'.cell? ⟨w.heap.size, 1, none⟩ = some (.int .i64 m) ∧ w'.cell? ⟨w.heap.size, 2, none⟩ = some (.int .i64 d) ∧ w'.cell? ⟨C, 0, none⟩ = some (.int .i64 y) ∧ w'.cell? ⟨C, 1, none⟩ = some (.int .i64 m) ∧ w'.cell? ⟨C, 2, none⟩ = some (.int .i64 (d + 1))) (first | exact s0 | exact s1 | exact s2 | exact s3) (first
    | (go_at_call 16
       (with_reducible refine (count_any y m (d + 1) _).mono ?_)
       rintro _ u1 ⟨rfl, hb⟩
       rw [HNN.out]
       have HU1 := Lib.hid (HXD.out.step hb)
       have s1 := HS1.out _ HU1.out
       clear hb HNN)
    | (go_at_call 16
       (with_reducible refine (count_any y m d _).mono ?_)
       rintro _ u2 ⟨rfl, hb⟩
       rw [HN.out]
       have HU2 := Lib.hid (HU1.out.step hb)
       have s2 := HS1.out _ HU2.out
       clear hb HU1)
    | (go_at_call 16
       (with_reducible refine (count_any y m d _).mono ?_)
       rintro _ u3 ⟨rfl, hb⟩
       rw [HN.out]
       have HU3 := Lib.hid (HU2.out.step hb)
       have s3 := HS1.out _ HU3.out
       clear hb HU2))
  all_goals (
    go_wp2
    go_ret
    exact ⟨rfl, HU3.out.bel⟩)
set_option maxHeartbeats 4000000 in
theorem next_month_ (w : World) (ht : Tab w.heap.size w) (y m d : Int) (hm : mayB y m d = true) (h0 : 1 ≤ y) (h1 : mayB y m (d + 1) = false) (h2 : mayB y (m + 1) 1 = true) :
    Calls Tryd.prog 5 #[.agg #[.int .i64 y, .int .i64 m, .int .i64 d]] w fun e w' => e = .returned (.bool true) ∧ Below w.heap.size w w' := by
  have HX0 := Lib.hid (Bx2.start w y m d)
  have HT := Lib.hid (tab_on ht HX0.out.bel)
  obtain ⟨m1, m2, m3, m4, m5, m6⟩ := may_iff.1 hm
  have m7 := (dim_bd y m).2
  have m8 : d ≤ 31 := by omega
  have hy0 : (y == 0) = false := by simp; omega
  obtain ⟨n, hn⟩ : ∃ n, cnt y m d = n := ⟨_, rfl⟩
  have n0 : 0 ≤ n := by rw [← hn]; exact cnt_nn hm h0
  have n1 : n ≤ 5000000 := by rw [← hn]; exact (cnt_bd y m d).2
  have HM := Lib.hid hm
  have HN := Lib.hid hn
  have HNN := Lib.hid (show cnt y (m + 1) 1 = n + 1 by rw [next_month hm h0 h1 h2, hn])
  have HM2 := Lib.hid h2
  have HM1 := Lib.hid h1
  clear ht hm h2 h1 hn m6 m7
  go_enter Tryd.func5, Tryd.ntmps5
  go_wp2_with fail
  refine (first_any _ HT.out).mono ?_
  rintro _ w1 ⟨rfl, hb⟩
  have HX1 := Lib.hid (HX0.out.step hb)
  obtain ⟨a0, a1, a2⟩ := HX1.out.one3
  clear hb
  go_wp2_with fail
  refine (may_any _ _ _ _).mono ?_
  rintro _ w2 ⟨rfl, hb⟩
  rw [HM.out]
  have HX2 := Lib.hid (HX1.out.step hb)
  obtain ⟨a0, a1, a2⟩ := HX2.out.one3
  clear hb
  go_wp2_with fail
  have HX3 := Lib.hid (HX2.out.new y m (d + 1))
  have HC := Lib.hid HX2.out.one.lt
  have HC0 := Lib.hid HX2.out.bel.size
  generalize w2.heap.size = C at *
  go_wp2_with fail
  refine (may_any _ _ _ _).mono ?_
  rintro _ w4 ⟨rfl, hb⟩
  rw [HM1.out]
  have HX4 := Lib.hid (HX3.out.step hb)
  obtain ⟨a0, a1, a2⟩ := HX4.out.one3
  obtain ⟨b0, b1, b2⟩ := HX4.out.two3
  obtain ⟨f0, f1, f2⟩ := HX4.out.two4
  clear hb
  have HX5 := Lib.hid (HX4.out.put (Nat.ne_of_lt HC.out) HC0.out (y) (m + 1) (1))
  go_wp2_with fail
  generalize (((w4.setCell ⟨C, 0, none⟩ (.int .i64 (y))).setCell ⟨C, 1, none⟩ (.int .i64 (m + 1))).setCell ⟨C, 2, none⟩ (.int .i64 (1))) = w5 at *
  obtain ⟨a0, a1, a2⟩ := HX5.out.one3
  obtain ⟨b0, b1, b2⟩ := HX5.out.two3
  go_wp2_with fail
  refine (may_any _ _ _ _).mono ?_
  rintro _ w6 ⟨rfl, hb⟩
  rw [HM2.out]
  have HX6 := Lib.hid (HX5.out.step hb)
  obtain ⟨a0, a1, a2⟩ := HX6.out.one3
  obtain ⟨b0, b1, b2⟩ := HX6.out.two3
  obtain ⟨f0, f1, f2⟩ := HX6.out.two4
  clear hb
  go_wp2_with fail
  refine (may_any _ _ _ _).mono ?_
  rintro _ w7 ⟨rfl, hb⟩
  rw [HM2.out]
  have HX7 := Lib.hid (HX6.out.step hb)
  obtain ⟨a0, a1, a2⟩ := HX7.out.one3
  obtain ⟨b0, b1, b2⟩ := HX7.out.two3
  obtain ⟨f0, f1, f2⟩ := HX7.out.two4
  clear hb
  go_wp2_with fail
  have HXD := Lib.hid (HX7.out.drewN 1)
  have HS1 : Hid (∀ wr, Bx2 w wr w.heap.size C y m d y (m + 1) 1 → (wr.cell? ⟨w.heap.size, 0, none⟩ = some (.int .i64 y) ∧ wr.cell? ⟨w.heap.size, 1, none⟩ = some (.int .i64 m) ∧ wr.cell? ⟨w.heap.size, 2, none⟩ = some (.int .i64 d) ∧ wr.cell? ⟨C, 0, none⟩ = some (.int .i64 y) ∧ wr.cell? ⟨C, 1, none⟩ = some (.int .i64 (m + 1)) ∧ wr.cell? ⟨C, 2, none⟩ = some (.int .i64 1))) := Lib.hid fun wr h => ⟨h.one3.1, h.one3.2.1, h.one3.2.2, h.two3.1, h.two3.2.1, h.two3.2.2⟩
  have s0 := HS1.out _ HXD.out
  have i1 : IntKind.i64.wrap (n + 1) = n + 1 := by rw [IntWalk.i64_left, IntWalk.wrap64_in _ (by omega)]
  go_region_held3 (fun w' => w'.cell? ⟨w.heap.size, 0, none⟩ = some (.int .i64 y) ∧ w'.cell? ⟨w.heap.size, 1, none⟩ = some (.int .i64 m) ∧ w'.cell? ⟨w.heap.size, 2, none⟩ = some (.int .i64 d) ∧ w'.cell? ⟨C, 0, none⟩ = some (.int .i64 y) ∧ w'.cell? ⟨C, 1, none⟩ = some (.int .i64 (m + 1)) ∧ w'.cell? ⟨C, 2, none⟩ = some (.int .i64 1)) (first | exact s0 | exact s1 | exact s2 | exact s3) (first
    | (go_at_call 16
       (with_reducible refine (count_any y (m + 1) 1 _).mono ?_)
       rintro _ u1 ⟨rfl, hb⟩
       rw [HNN.out]
       have HU1 := Lib.hid (HXD.out.step hb)
       have s1 := HS1.out _ HU1.out
       clear hb HNN)
    | (go_at_call 16
       (with_reducible refine (count_any y m d _).mono ?_)
       rintro _ u2 ⟨rfl, hb⟩
       rw [HN.out]
       have HU2 := Lib.hid (HU1.out.step hb)
       have s2 := HS1.out _ HU2.out
       clear hb HU1)
    | (go_at_call 16
       (with_reducible refine (count_any y m d _).mono ?_)
       rintro _ u3 ⟨rfl, hb⟩
       rw [HN.out]
       have HU3 := Lib.hid (HU2.out.step hb)
       have s3 := HS1.out _ HU3.out
       clear hb HU2))
  all_goals (
    go_wp2
    go_ret
    exact ⟨rfl, HU3.out.bel⟩)
set_option maxHeartbeats 4000000 in
theorem next_year_ (w : World) (ht : Tab w.heap.size w) (y : Int) (hm : mayB y 12 31 = true) (h0 : 1 ≤ y) (h1 : mayB y 12 32 = false) (h3 : mayB y 13 1 = false) (h2 : mayB (y + 1) 1 1 = true) :
    Calls Tryd.prog 5 #[.agg #[.int .i64 y, .int .i64 12, .int .i64 31]] w fun e w' => e = .returned (.bool true) ∧ Below w.heap.size w w' := by
  have HX0 := Lib.hid (Bx2.start w y 12 31)
  have HT := Lib.hid (tab_on ht HX0.out.bel)
  obtain ⟨m1, m2, m3, m4, m5, m6⟩ := may_iff.1 hm
  have m7 : True := trivial
  have hy0 : (y == 0) = false := by simp; omega
  obtain ⟨n, hn⟩ : ∃ n, cnt y 12 31 = n := ⟨_, rfl⟩
  have n0 : 0 ≤ n := by rw [← hn]; exact cnt_nn hm h0
  have n1 : n ≤ 5000000 := by rw [← hn]; exact (cnt_bd y 12 31).2
  have HM := Lib.hid hm
  have HN := Lib.hid hn
  have HNN := Lib.hid (show cnt (y + 1) 1 1 = n + 1 by rw [next_year hm h0 h2, hn])
  have HM2 := Lib.hid h2
  have HM1 := Lib.hid h1
  have HM3 := Lib.hid h3
  clear ht hm h2 h1 h3 hn m6 m7
  go_enter Tryd.func5, Tryd.ntmps5
  go_wp2_with fail
  refine (first_any _ HT.out).mono ?_
  rintro _ w1 ⟨rfl, hb⟩
  have HX1 := Lib.hid (HX0.out.step hb)
  obtain ⟨a0, a1, a2⟩ := HX1.out.one3
  clear hb
  go_wp2_with fail
  refine (may_any _ _ _ _).mono ?_
  rintro _ w2 ⟨rfl, hb⟩
  rw [HM.out]
  have HX2 := Lib.hid (HX1.out.step hb)
  obtain ⟨a0, a1, a2⟩ := HX2.out.one3
  clear hb
  go_wp2_with fail
  have HX3 := Lib.hid (HX2.out.new y 12 32)
  have HC := Lib.hid HX2.out.one.lt
  have HC0 := Lib.hid HX2.out.bel.size
  generalize w2.heap.size = C at *
  go_wp2_with fail
  refine (may_any _ _ _ _).mono ?_
  rintro _ w4 ⟨rfl, hb⟩
  rw [HM1.out]
  have HX4 := Lib.hid (HX3.out.step hb)
  obtain ⟨a0, a1, a2⟩ := HX4.out.one3
  obtain ⟨b0, b1, b2⟩ := HX4.out.two3
  obtain ⟨f0, f1, f2⟩ := HX4.out.two4
  clear hb
  have HX5 := Lib.hid (HX4.out.put (Nat.ne_of_lt HC.out) HC0.out (y) 13 (1))
  go_wp2_with fail
  generalize (((w4.setCell ⟨C, 0, none⟩ (.int .i64 (y))).setCell ⟨C, 1, none⟩ (.int .i64 13)).setCell ⟨C, 2, none⟩ (.int .i64 (1))) = w5 at *
  obtain ⟨a0, a1, a2⟩ := HX5.out.one3
  obtain ⟨b0, b1, b2⟩ := HX5.out.two3
  go_wp2_with fail
  refine (may_any _ _ _ _).mono ?_
  rintro _ w6 ⟨rfl, hb⟩
  rw [HM3.out]
  have HX6 := Lib.hid (HX5.out.step hb)
  obtain ⟨a0, a1, a2⟩ := HX6.out.one3
  obtain ⟨b0, b1, b2⟩ := HX6.out.two3
  obtain ⟨f0, f1, f2⟩ := HX6.out.two4
  clear hb
  have HX7 := Lib.hid (HX6.out.put (Nat.ne_of_lt HC.out) HC0.out (y + 1) (1) (1))
  go_wp2_with fail
  generalize (((w6.setCell ⟨C, 0, none⟩ (.int .i64 (y + 1))).setCell ⟨C, 1, none⟩ (.int .i64 (1))).setCell ⟨C, 2, none⟩ (.int .i64 (1))) = w7 at *
  obtain ⟨a0, a1, a2⟩ := HX7.out.one3
  obtain ⟨b0, b1, b2⟩ := HX7.out.two3
  go_wp2_with fail
  refine (may_any _ _ _ _).mono ?_
  rintro _ w8 ⟨rfl, hb⟩
  rw [HM2.out]
  have HX8 := Lib.hid (HX7.out.step hb)
  obtain ⟨a0, a1, a2⟩ := HX8.out.one3
  obtain ⟨b0, b1, b2⟩ := HX8.out.two3
  obtain ⟨f0, f1, f2⟩ := HX8.out.two4
  clear hb
  go_wp2_with fail
  have HXD := Lib.hid (HX8.out.drewN 1)
  have HS1 : Hid (∀ wr, Bx2 w wr w.heap.size C y 12 31 (y + 1) 1 1 → (wr.cell? ⟨w.heap.size, 0, none⟩ = some (.int .i64 y) ∧ wr.cell? ⟨w.heap.size, 1, none⟩ = some (.int .i64 12) ∧ wr.cell? ⟨w.heap.size, 2, none⟩ = some (.int .i64 31) ∧ wr.cell? ⟨C, 0, none⟩ = some (.int .i64 (y + 1)) ∧ wr.cell? ⟨C, 1, none⟩ = some (.int .i64 1) ∧ wr.cell? ⟨C, 2, none⟩ = some (.int .i64 1))) := Lib.hid fun wr h => ⟨h.one3.1, h.one3.2.1, h.one3.2.2, h.two3.1, h.two3.2.1, h.two3.2.2⟩
  have s0 := HS1.out _ HXD.out
  have i1 : IntKind.i64.wrap (n + 1) = n + 1 := by rw [IntWalk.i64_left, IntWalk.wrap64_in _ (by omega)]
  go_region_held3 (fun w' => w'.cell? ⟨w.heap.size, 0, none⟩ = some (.int .i64 y) ∧ w'.cell? ⟨w.heap.size, 1, none⟩ = some (.int .i64 12) ∧ w'.cell? ⟨w.heap.size, 2, none⟩ = some (.int .i64 31) ∧ w'.cell? ⟨C, 0, none⟩ = some (.int .i64 (y + 1)) ∧ w'.cell? ⟨C, 1, none⟩ = some (.int .i64 1) ∧ w'.cell? ⟨C, 2, none⟩ = some (.int .i64 1)) (first | exact s0 | exact s1 | exact s2 | exact s3) (first
    | (go_at_call 16
       (with_reducible refine (count_any (y + 1) 1 1 _).mono ?_)
       rintro _ u1 ⟨rfl, hb⟩
       rw [HNN.out]
       have HU1 := Lib.hid (HXD.out.step hb)
       have s1 := HS1.out _ HU1.out
       clear hb HNN)
    | (go_at_call 16
       (with_reducible refine (count_any y 12 31 _).mono ?_)
       rintro _ u2 ⟨rfl, hb⟩
       rw [HN.out]
       have HU2 := Lib.hid (HU1.out.step hb)
       have s2 := HS1.out _ HU2.out
       clear hb HU1)
    | (go_at_call 16
       (with_reducible refine (count_any y 12 31 _).mono ?_)
       rintro _ u3 ⟨rfl, hb⟩
       rw [HN.out]
       have HU3 := Lib.hid (HU2.out.step hb)
       have s3 := HS1.out _ HU3.out
       clear hb HU2))
  all_goals (
    go_wp2
    go_ret
    exact ⟨rfl, HU3.out.bel⟩)
set_option maxHeartbeats 4000000 in
theorem next_last (w : World) (ht : Tab w.heap.size w) (y : Int) (hm : mayB y 12 31 = true) (h0 : 1 ≤ y) (h1 : mayB y 12 32 = false) (h3 : mayB y 13 1 = false) (h2 : mayB (y + 1) 1 1 = false) :
    Calls Tryd.prog 5 #[.agg #[.int .i64 y, .int .i64 12, .int .i64 31]] w fun e w' => e = .returned (.bool true) ∧ Below w.heap.size w w' := by
  have HX0 := Lib.hid (Bx2.start w y 12 31)
  have HT := Lib.hid (tab_on ht HX0.out.bel)
  obtain ⟨rfl, hcnt⟩ := last_year hm h0 h2
  have HN := Lib.hid hcnt
  have HM := Lib.hid hm
  have HM2 := Lib.hid (show mayB 10000 1 1 = false from h2)
  have HM1 := Lib.hid h1
  have HM3 := Lib.hid h3
  clear ht hm h2 h1 h3 hcnt
  go_enter Tryd.func5, Tryd.ntmps5
  go_wp2_with fail
  refine (first_any _ HT.out).mono ?_
  rintro _ w1 ⟨rfl, hb⟩
  have HX1 := Lib.hid (HX0.out.step hb)
  obtain ⟨a0, a1, a2⟩ := HX1.out.one3
  clear hb
  go_wp2_with fail
  refine (may_any _ _ _ _).mono ?_
  rintro _ w2 ⟨rfl, hb⟩
  rw [HM.out]
  have HX2 := Lib.hid (HX1.out.step hb)
  obtain ⟨a0, a1, a2⟩ := HX2.out.one3
  clear hb
  go_wp2_with fail
  have HX3 := Lib.hid (HX2.out.new 9999 12 32)
  have HC := Lib.hid HX2.out.one.lt
  have HC0 := Lib.hid HX2.out.bel.size
  generalize w2.heap.size = C at *
  go_wp2_with fail
  refine (may_any _ _ _ _).mono ?_
  rintro _ w4 ⟨rfl, hb⟩
  rw [HM1.out]
  have HX4 := Lib.hid (HX3.out.step hb)
  obtain ⟨a0, a1, a2⟩ := HX4.out.one3
  obtain ⟨b0, b1, b2⟩ := HX4.out.two3
  obtain ⟨f0, f1, f2⟩ := HX4.out.two4
  clear hb
  have HX5 := Lib.hid (HX4.out.put (Nat.ne_of_lt HC.out) HC0.out (9999) 13 (1))
  go_wp2_with fail
  generalize (((w4.setCell ⟨C, 0, none⟩ (.int .i64 (9999))).setCell ⟨C, 1, none⟩ (.int .i64 13)).setCell ⟨C, 2, none⟩ (.int .i64 (1))) = w5 at *
  obtain ⟨a0, a1, a2⟩ := HX5.out.one3
  obtain ⟨b0, b1, b2⟩ := HX5.out.two3
  go_wp2_with fail
  refine (may_any _ _ _ _).mono ?_
  rintro _ w6 ⟨rfl, hb⟩
  rw [HM3.out]
  have HX6 := Lib.hid (HX5.out.step hb)
  obtain ⟨a0, a1, a2⟩ := HX6.out.one3
  obtain ⟨b0, b1, b2⟩ := HX6.out.two3
  obtain ⟨f0, f1, f2⟩ := HX6.out.two4
  clear hb
  have HX7 := Lib.hid (HX6.out.put (Nat.ne_of_lt HC.out) HC0.out (10000) (1) (1))
  go_wp2_with fail
  generalize (((w6.setCell ⟨C, 0, none⟩ (.int .i64 (10000))).setCell ⟨C, 1, none⟩ (.int .i64 (1))).setCell ⟨C, 2, none⟩ (.int .i64 (1))) = w7 at *
  obtain ⟨a0, a1, a2⟩ := HX7.out.one3
  obtain ⟨b0, b1, b2⟩ := HX7.out.two3
  go_wp2_with fail
  refine (may_any _ _ _ _).mono ?_
  rintro _ w8 ⟨rfl, hb⟩
  rw [HM2.out]
  have HX8 := Lib.hid (HX7.out.step hb)
  obtain ⟨a0, a1, a2⟩ := HX8.out.one3
  obtain ⟨b0, b1, b2⟩ := HX8.out.two3
  obtain ⟨f0, f1, f2⟩ := HX8.out.two4
  clear hb
  go_wp2_with fail
  refine (count_any _ _ _ _).mono ?_
  rintro _ w9 ⟨rfl, hb⟩
  rw [HN.out]
  have HX9 := Lib.hid (HX8.out.step hb)
  clear hb
  go_wp2
  go_ret
  exact ⟨rfl, HX9.out.bel⟩
theorem dayNext_walk (w : World) (ht : Tab w.heap.size w) (a0 : Int) (w0 : (Lit.int .i64 a0).wf = true) (a1 : Int) (w1 : (Lit.int .i64 a1).wf = true) (a2 : Int) (w2 : (Lit.int .i64 a2).wf = true) :
    Calls Tryd.prog 5 #[.agg #[.int .i64 a0, .int .i64 a1, .int .i64 a2]] w fun e w' => e = .returned (.bool true) ∧ Below w.heap.size w w' := by
  cases hm : mayB a0 a1 a2
  · exact next_bad w ht _ _ _ hm
  · by_cases h0 : a0 = 0
    · exact next_zero w ht _ _ _ hm h0
    · have h1 : 1 ≤ a0 := by have := may_iff.1 hm; omega
      cases h2 : mayB a0 a1 (a2 + 1)
      · cases h3 : mayB a0 (a1 + 1) 1
        · obtain ⟨rfl, rfl⟩ := last_of hm h1 h2 h3
          have h2' : mayB a0 12 32 = false := by rw [show (32 : Int) = 31 + 1 by decide]; exact h2
          have h3' : mayB a0 13 1 = false := by rw [show (13 : Int) = 12 + 1 by decide]; exact h3
          cases h4 : mayB (a0 + 1) 1 1
          · exact next_last w ht a0 hm h1 h2' h3' h4
          · exact next_year_ w ht a0 hm h1 h2' h3' h4
        · exact next_month_ w ht _ _ _ hm h1 h2 h3
      · exact next_day_ w ht _ _ _ hm h1 h2
end Go.Proofs.YtelkbodhipfjaaaDoor
