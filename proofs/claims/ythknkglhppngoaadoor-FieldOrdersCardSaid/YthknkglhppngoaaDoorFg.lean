/- FieldOrders: its walk. -/
import Derived.Test.YthknkglhppngoaaDoorFd
import Derived.Test.YthknkglhppngoaaDoorBy
import Derived.Deep.RegionWith
import Derived.Deep.RegionHeld3
import Derived.Deep.DrawnRows
import Derived.Deep.QuietTactic
import Derived.BigQuiet
namespace Go.Proofs.YthknkglhppngoaaDoor
open Go.RowKit
open Go.Lib hiding intOf
set_option linter.unusedVariables false
set_option maxRecDepth 100000
attribute [local go_sem ↓] Go.wp_at_zero Go.wp_at_succ
set_option maxHeartbeats 4000000 in
theorem orders_big (w : World) (hE : Env w) (k1 l1 : Int) (v1 : ByteArray) (k2 l2 : Int) (v2 : ByteArray) (k3 l3 : Int) (v3 : ByteArray) (h : 200 < v1.size ∨ 200 < v2.size ∨ 200 < v3.size) : Calls Tryd.prog 4 #[.agg #[.int .i64 k1, .int .i64 l1, .string v1], .agg #[.int .i64 k2, .int .i64 l2, .string v2], .agg #[.int .i64 k3, .int .i64 l3, .string v3]] w fun e w' => e = .returned (.bool true) ∧ Below w.heap.size w w' := by
  have HF := Lib.hid first_any
  have HE := Lib.hid hE
  have HX0 := Lib.hid (Bxs.three w 23 23 23 #[.int .i64 k1, .int .i64 l1, .string v1] #[.int .i64 k2, .int .i64 l2, .string v2] #[.int .i64 k3, .int .i64 l3, .string v3])
  rcases (show (v1.size : Int) > 200 ∨ ((v1.size : Int) ≤ 200 ∧ (v2.size : Int) > 200) ∨ ((v1.size : Int) ≤ 200 ∧ (v2.size : Int) ≤ 200 ∧ (v3.size : Int) > 200) by omega) with h1 | ⟨h1, h2⟩ | ⟨h1, h2, h3⟩
  all_goals (
    clear h hE
    go_enter Tryd.func4, Tryd.ntmps4
    go_wp2_with (go_at_call 5; (with_reducible refine (HF.out _ (HE.out.on HX0.out.bel)).mono ?_); rintro e w1 ⟨rfl, hb⟩; have HX1 := Lib.hid (HX0.out.step hb); have a1_0_0 := (HX1.out.get 0 rfl).cell 0; have a1_0_1 := (HX1.out.get 0 rfl).cell 1; have a1_0_2 := (HX1.out.get 0 rfl).cell 2; have a1_1_0 := (HX1.out.get 1 rfl).cell 0; have a1_1_1 := (HX1.out.get 1 rfl).cell 1; have a1_1_2 := (HX1.out.get 1 rfl).cell 2; have a1_2_0 := (HX1.out.get 2 rfl).cell 0; have a1_2_1 := (HX1.out.get 2 rfl).cell 1; have a1_2_2 := (HX1.out.get 2 rfl).cell 2; clear hb)
    go_wp2_with (go_at_call 5; (with_reducible refine (HF.out _ (HE.out.on HX1.out.bel)).mono ?_); rintro e w2 ⟨rfl, hb⟩; have HX2 := Lib.hid (HX1.out.step hb); have a2_0_0 := (HX2.out.get 0 rfl).cell 0; have a2_0_1 := (HX2.out.get 0 rfl).cell 1; have a2_0_2 := (HX2.out.get 0 rfl).cell 2; have a2_1_0 := (HX2.out.get 1 rfl).cell 0; have a2_1_1 := (HX2.out.get 1 rfl).cell 1; have a2_1_2 := (HX2.out.get 1 rfl).cell 2; have a2_2_0 := (HX2.out.get 2 rfl).cell 0; have a2_2_1 := (HX2.out.get 2 rfl).cell 1; have a2_2_2 := (HX2.out.get 2 rfl).cell 2; clear hb)
    go_ret
    exact ⟨rfl, HX2.out.bel⟩)
set_option maxHeartbeats 16000000 in
theorem orders_in (w : World) (hE : Env w) (k1 l1 : Int) (v1 : ByteArray) (k2 l2 : Int) (v2 : ByteArray) (k3 l3 : Int) (v3 : ByteArray) (h1 : (v1.size : Int) ≤ 200) (h2 : (v2.size : Int) ≤ 200) (h3 : (v3.size : Int) ≤ 200) (x y z u : Bool)
    (hx : lessF k1 l1 v1 k2 l2 v2 = x) (hy : lessF k2 l2 v2 k1 l1 v1 = y) (hz : lessF k2 l2 v2 k3 l3 v3 = z) (hu : lessF k1 l1 v1 k3 l3 v3 = u)
    (d1 d2 d3 d4 : Bool) (e1 : (k1 == k2) = d1) (e2 : (l1 == l2) = d2) (e3 : (v1.toList == v2.toList) = d3) (e4 : decide (k1 < k2) = d4)
    (g1 : (x || y) = !(d1 && d2 && d3)) (g2 : (x && y) = false) (g3 : x = true → z = true → u = true) (g4 : d1 = false → x = d4) :
    Calls Tryd.prog 4 #[.agg #[.int .i64 k1, .int .i64 l1, .string v1], .agg #[.int .i64 k2, .int .i64 l2, .string v2], .agg #[.int .i64 k3, .int .i64 l3, .string v3]] w fun e w' => e = .returned (.bool true) ∧ Below w.heap.size w w' := by
  have hcs : ∀ x y z u d1 d2 d3 d4 : Bool, (x || y) = (!(d1 && d2 && d3)) → (x && y) = false → (x = true → z = true → u = true) → (d1 = false → x = d4) →
      (x = false ∧ y = true ∧ d1 = false ∧ d4 = false) ∨ (x = true ∧ y = false ∧ d1 = false ∧ d4 = true ∧ z = false) ∨ (x = true ∧ y = false ∧ d1 = false ∧ d4 = true ∧ z = true ∧ u = true) ∨
      (x = false ∧ y = true ∧ d1 = true ∧ d2 = false) ∨ (x = true ∧ y = false ∧ d1 = true ∧ d2 = false ∧ z = false) ∨ (x = true ∧ y = false ∧ d1 = true ∧ d2 = false ∧ z = true ∧ u = true) ∨
      (x = false ∧ y = true ∧ d1 = true ∧ d2 = true ∧ d3 = false) ∨ (x = true ∧ y = false ∧ d1 = true ∧ d2 = true ∧ d3 = false ∧ z = false) ∨ (x = true ∧ y = false ∧ d1 = true ∧ d2 = true ∧ d3 = false ∧ z = true ∧ u = true) ∨
      (x = false ∧ y = false ∧ d1 = true ∧ d2 = true ∧ d3 = true) := by
    intro x y z u d1 d2 d3 d4
    cases x <;> cases y <;> cases d1 <;> cases d2 <;> cases d3 <;> cases d4 <;> cases z <;> cases u <;> simp
  have HCASES := Lib.hid (hcs x y z u d1 d2 d3 d4 g1 g2 g3 g4)
  clear hcs g1 g2 g3 g4
  have HF := Lib.hid first_any
  have HE := Lib.hid hE
  have HX0 := Lib.hid (Bxs.three w 23 23 23 #[.int .i64 k1, .int .i64 l1, .string v1] #[.int .i64 k2, .int .i64 l2, .string v2] #[.int .i64 k3, .int .i64 l3, .string v3])
  have HXY := Lib.hid (less_on k1 l1 v1 k2 l2 v2 _ hx)
  have HYX := Lib.hid (less_on k2 l2 v2 k1 l1 v1 _ hy)
  have HXX := Lib.hid (less_on k1 l1 v1 k1 l1 v1 _ (lessF_irr k1 l1 v1))
  have HYZ := Lib.hid (less_on k2 l2 v2 k3 l3 v3 _ hz)
  have HXZ := Lib.hid (less_on k1 l1 v1 k3 l3 v3 _ hu)
  clear hE hx hy hz hu
  go_enter Tryd.func4, Tryd.ntmps4
  go_wp2_with (go_at_call 5; (with_reducible refine (HF.out _ (HE.out.on HX0.out.bel)).mono ?_); rintro e w1 ⟨rfl, hb⟩; have HX1 := Lib.hid (HX0.out.step hb); have a1_0_0 := (HX1.out.get 0 rfl).cell 0; have a1_0_1 := (HX1.out.get 0 rfl).cell 1; have a1_0_2 := (HX1.out.get 0 rfl).cell 2; have a1_1_0 := (HX1.out.get 1 rfl).cell 0; have a1_1_1 := (HX1.out.get 1 rfl).cell 1; have a1_1_2 := (HX1.out.get 1 rfl).cell 2; have a1_2_0 := (HX1.out.get 2 rfl).cell 0; have a1_2_1 := (HX1.out.get 2 rfl).cell 1; have a1_2_2 := (HX1.out.get 2 rfl).cell 2; clear hb)
  have HV0 := Lib.hid (HX1.out.drewN 1)
  have HS : Hid (∀ wr, Bxs w wr [(w.heap.size, 23, #[.int .i64 k1, .int .i64 l1, .string v1]), (w.heap.size + 1, 23, #[.int .i64 k2, .int .i64 l2, .string v2]), (w.heap.size + 1 + 1, 23, #[.int .i64 k3, .int .i64 l3, .string v3])] → (wr.cell? ⟨w.heap.size, 0, none⟩ = some (.int .i64 k1) ∧ wr.cell? ⟨w.heap.size, 1, none⟩ = some (.int .i64 l1) ∧ wr.cell? ⟨w.heap.size, 2, none⟩ = some (.string v1) ∧ wr.cell? ⟨w.heap.size + 1, 0, none⟩ = some (.int .i64 k2) ∧ wr.cell? ⟨w.heap.size + 1, 1, none⟩ = some (.int .i64 l2) ∧ wr.cell? ⟨w.heap.size + 1, 2, none⟩ = some (.string v2) ∧ wr.cell? ⟨w.heap.size + 1 + 1, 0, none⟩ = some (.int .i64 k3) ∧ wr.cell? ⟨w.heap.size + 1 + 1, 1, none⟩ = some (.int .i64 l3) ∧ wr.cell? ⟨w.heap.size + 1 + 1, 2, none⟩ = some (.string v3))) := Lib.hid fun wr h => ⟨(h.get 0 rfl).cell 0, (h.get 0 rfl).cell 1, (h.get 0 rfl).cell 2, (h.get 1 rfl).cell 0, (h.get 1 rfl).cell 1, (h.get 1 rfl).cell 2, (h.get 2 rfl).cell 0, (h.get 2 rfl).cell 1, (h.get 2 rfl).cell 2⟩
  have s0 := HS.out _ HV0.out
  go_region_held3 (fun wr => (wr.cell? ⟨w.heap.size, 0, none⟩ = some (.int .i64 k1) ∧ wr.cell? ⟨w.heap.size, 1, none⟩ = some (.int .i64 l1) ∧ wr.cell? ⟨w.heap.size, 2, none⟩ = some (.string v1) ∧ wr.cell? ⟨w.heap.size + 1, 0, none⟩ = some (.int .i64 k2) ∧ wr.cell? ⟨w.heap.size + 1, 1, none⟩ = some (.int .i64 l2) ∧ wr.cell? ⟨w.heap.size + 1, 2, none⟩ = some (.string v2) ∧ wr.cell? ⟨w.heap.size + 1 + 1, 0, none⟩ = some (.int .i64 k3) ∧ wr.cell? ⟨w.heap.size + 1 + 1, 1, none⟩ = some (.int .i64 l3) ∧ wr.cell? ⟨w.heap.size + 1 + 1, 2, none⟩ = some (.string v3))) (first | exact s0 | exact s2 | exact s3) (first
    | (go_at_call 10; (with_reducible refine (HXY.out _).mono ?_); rintro _ w2 ⟨rfl, hb⟩; have HX2 := Lib.hid (HV0.out.step hb); have s2 := HS.out _ HX2.out; clear hb)
    | (go_at_call 10; (with_reducible refine (HYX.out _).mono ?_); rintro _ w3 ⟨rfl, hb⟩; have HX3 := Lib.hid (HX2.out.step hb); have s3 := HS.out _ HX3.out; clear hb))
  all_goals (
    obtain ⟨c0, c1, c2, c3, c4, c5, c6, c7, c8⟩ := s3
    have HCS := HCASES.out
    clear HXY HYX HF HCASES s0 s2
    rcases HCS with ⟨rfl, rfl, rfl, rfl⟩ | ⟨rfl, rfl, rfl, rfl, rfl⟩ | ⟨rfl, rfl, rfl, rfl, rfl, rfl⟩ | ⟨rfl, rfl, rfl, rfl⟩ | ⟨rfl, rfl, rfl, rfl, rfl⟩ | ⟨rfl, rfl, rfl, rfl, rfl, rfl⟩ | ⟨rfl, rfl, rfl, rfl, rfl⟩ | ⟨rfl, rfl, rfl, rfl, rfl, rfl⟩ | ⟨rfl, rfl, rfl, rfl, rfl, rfl, rfl⟩ | ⟨rfl, rfl, rfl, rfl, rfl⟩
    all_goals (
      go_wp2_with (go_at_call 10; (with_reducible refine (HXX.out _).mono ?_); rintro e w4 ⟨rfl, hb⟩; have HX4 := Lib.hid (HX3.out.step hb); have a4_0_0 := (HX4.out.get 0 rfl).cell 0; have a4_0_1 := (HX4.out.get 0 rfl).cell 1; have a4_0_2 := (HX4.out.get 0 rfl).cell 2; have a4_1_0 := (HX4.out.get 1 rfl).cell 0; have a4_1_1 := (HX4.out.get 1 rfl).cell 1; have a4_1_2 := (HX4.out.get 1 rfl).cell 2; have a4_2_0 := (HX4.out.get 2 rfl).cell 0; have a4_2_1 := (HX4.out.get 2 rfl).cell 1; have a4_2_2 := (HX4.out.get 2 rfl).cell 2; clear hb)
      first | go_wp2_with fail | skip
      try (go_wp2_with (go_at_call 10; (with_reducible refine (HYZ.out _).mono ?_); rintro e w5 ⟨rfl, hb⟩; have HX5 := Lib.hid (HX4.out.step hb); have a5_0_0 := (HX5.out.get 0 rfl).cell 0; have a5_0_1 := (HX5.out.get 0 rfl).cell 1; have a5_0_2 := (HX5.out.get 0 rfl).cell 2; have a5_1_0 := (HX5.out.get 1 rfl).cell 0; have a5_1_1 := (HX5.out.get 1 rfl).cell 1; have a5_1_2 := (HX5.out.get 1 rfl).cell 2; have a5_2_0 := (HX5.out.get 2 rfl).cell 0; have a5_2_1 := (HX5.out.get 2 rfl).cell 1; have a5_2_2 := (HX5.out.get 2 rfl).cell 2; clear hb))
      try (go_wp2_with (go_at_call 10; (with_reducible refine (HXZ.out _).mono ?_); rintro e w6 ⟨rfl, hb⟩; have HX6 := Lib.hid (HX5.out.step hb); have a6_0_0 := (HX6.out.get 0 rfl).cell 0; have a6_0_1 := (HX6.out.get 0 rfl).cell 1; have a6_0_2 := (HX6.out.get 0 rfl).cell 2; have a6_1_0 := (HX6.out.get 1 rfl).cell 0; have a6_1_1 := (HX6.out.get 1 rfl).cell 1; have a6_1_2 := (HX6.out.get 1 rfl).cell 2; have a6_2_0 := (HX6.out.get 2 rfl).cell 0; have a6_2_1 := (HX6.out.get 2 rfl).cell 1; have a6_2_2 := (HX6.out.get 2 rfl).cell 2; clear hb))
      go_ret
      first | exact ⟨rfl, HX6.out.bel⟩ | exact ⟨rfl, HX5.out.bel⟩ | exact ⟨rfl, HX4.out.bel⟩))
theorem fieldOrders_walk (w : World) (hTD : Tabs w ∧ Day.Tab w.heap.size w) (hM : Mx w) (a0 : Int) (w0 : (Lit.int .i64 a0).wf = true) (a1 : Int) (w1 : (Lit.int .i64 a1).wf = true) (a2 : ByteArray) (w2 : a2.size ≤ maxLen) (a3 : Int) (w3 : (Lit.int .i64 a3).wf = true) (a4 : Int) (w4 : (Lit.int .i64 a4).wf = true) (a5 : ByteArray) (w5 : a5.size ≤ maxLen) (a6 : Int) (w6 : (Lit.int .i64 a6).wf = true) (a7 : Int) (w7 : (Lit.int .i64 a7).wf = true) (a8 : ByteArray) (w8 : a8.size ≤ maxLen) :
    Calls Tryd.prog 4 #[.agg #[.int .i64 a0, .int .i64 a1, .string a2], .agg #[.int .i64 a3, .int .i64 a4, .string a5], .agg #[.int .i64 a6, .int .i64 a7, .string a8]] w fun e w' => e = .returned (.bool true) ∧ Below w.heap.size w w' := by
  have hE : Env w := ⟨hTD.1, hM, hTD.2⟩
  by_cases hbig : 200 < a2.size ∨ 200 < a5.size ∨ 200 < a8.size
  · exact orders_big w hE _ _ _ _ _ _ _ _ _ hbig
  · refine orders_in w hE a0 a1 a2 a3 a4 a5 a6 a7 a8 (by omega) (by omega) (by omega) _ _ _ _ rfl rfl rfl rfl _ _ _ _ rfl rfl rfl rfl ?_ ?_ ?_ ?_
    · cases h : ((a0 == a3) && (a1 == a4) && (a2.toList == a5.toList)) with
      | true =>
        simp only [Bool.and_eq_true] at h
        obtain ⟨⟨h1, h2⟩, h3⟩ := h
        have e1 : a0 = a3 := by simpa using h1
        have e2 : a1 = a4 := by simpa using h2
        have e3 : a2 = a5 := bs_ext (by simp only [ByteArray.toList_eq] at h3; exact eq_of_beq h3)
        subst e1 e2 e3
        rw [lessF_irr]; rfl
      | false =>
        have hne : ¬ (a0 = a3 ∧ a1 = a4 ∧ a2 = a5) := by rintro ⟨rfl, rfl, rfl⟩; simp at h
        rcases lessF_total hne with h1 | h1
        · rw [h1]; rfl
        · rw [h1]; cases lessF a0 a1 a2 a3 a4 a5 <;> rfl
    · cases h : lessF a0 a1 a2 a3 a4 a5 with
      | true => rw [lessF_asym h]; rfl
      | false => rfl
    · exact fun h1 h2 => lessF_trans h1 h2
    · exact fun h => lessF_kind (by simpa using h)
end Go.Proofs.YthknkglhppngoaaDoor
