/- Apply: where it does nothing. -/
import Derived.Test.YthcjbljkokflgaaFap
set_option linter.unnecessarySimpa false
namespace Go.Proofs.Ythcjbljkokflgaa
open Go.RowKit
open Go.Lib
set_option linter.unusedVariables false
set_option linter.unusedSimpArgs false
set_option maxRecDepth 100000
set_option maxHeartbeats 16000000 in
theorem ap_na {w : World} {B g : Nat} {c : Cs} (h : Cl w B g c) (hB : B ≤ w.heap.size) (hz : Cz c) (del : Bool) (uid card : ByteArray) (k v tok : Int) (hcs : card.size ≤ 1000000) (hla : tok < c.latest) :
    Calls Try.prog 16 #[.pointer (some ⟨g, 0, none⟩), .agg #[.bool del, .string uid, .string card, .int .i64 k, .int .i64 v], .int .i64 tok] w (ApP w B g (false, c)) := by
  obtain ⟨L, F, rg, mo, lm, la, ho, by0⟩ := c
  obtain ⟨m, R, e1, e2, e3, e4, e5⟩ := h
  obtain ⟨z1, z2, z3, z4, z5, z6⟩ := hz
  simp only at e1 e2 e3 e4 e5 z1 z2 z3 z4 z5 z6
  have HE1 := Lib.hid e1
  have HE2 := Lib.hid e2
  have HE3 := Lib.hid e3
  have hgl := e1.lt
  have hml := e2.lt
  have c0 := e1.cell 0
  simp only [List.getElem?_toArray, List.getElem?_cons_zero, List.getElem?_cons_succ] at c0
  obtain ⟨th, hth⟩ : ∃ q, (getL uid L).isSome = q := ⟨_, rfl⟩
  obtain ⟨x, hx⟩ : ∃ x, (getL uid L).getD (0, .empty) = x := ⟨_, rfl⟩
  have HXS := Lib.hid (show x.2.size ≤ 1000000 by
    rw [← hx]
    cases hg : getL uid L with
    | none => decide
    | some y => exact z6 uid y hg)
  skip
  have HO : Hid (OC.ov (getL uid L) = .agg #[.int .i64 x.1, .string x.2]) := Lib.hid (by unfold OC.ov; rw [hx])
  have HGT := Lib.hid (fun (W : World) (hb : Below w.heap.size w W) => OC.om_get (e2.below hb) uid _ rfl)
  rw [HO.out, hth] at HGT
  obtain ⟨WA, hWA⟩ : ∃ W, w.alloc (.cells #[.bool del, .string uid, .string card, .int .i64 k, .int .i64 v] 33) = W := ⟨_, rfl⟩
  have HBA := Lib.hid (show Below w.heap.size w WA from hWA ▸ (Below.refl _ w).alloc (Nat.le_refl _) _)
  have HXA := Lib.hid (show Blk WA w.heap.size 33 #[.bool del, .string uid, .string card, .int .i64 k, .int .i64 v] from hWA ▸ Blk.new w _ _)
  have HSA := Lib.hid (show WA.heap.size = w.heap.size + 1 by rw [← hWA]; simp)
  have HOX := Lib.hid hx
  have HRD := Lib.hid (fun (W : World) (hb : Below WA.heap.size WA W) => (⟨((HE1.out.below HBA.out hgl).below hb (HE1.out.below HBA.out hgl).lt).cell 0, (HXA.out.below hb HXA.out.lt).cell 1⟩ : W.cell? ⟨g, 0, none⟩ = some (.pointer (some ⟨m, 0, none⟩)) ∧ W.cell? ⟨w.heap.size, 1, none⟩ = some (.string uid)))
  have HF0 := Lib.hid ((Below.refl WA.heap.size WA).drew)
  clear hx HO e1 e2 e3 z6 c0
  go_enter Try.func16, Try.ntmps16
  go_wp2_with fail
  try rw [hWA]
  refine wp_region_E [([11], fun w' => w'.cell? ⟨g, 0, none⟩ = some (.pointer (some ⟨m, 0, none⟩))), ([11], fun w' => w'.cell? ⟨w.heap.size, 1, none⟩ = some (.string uid))] (by kernel_rfl) ⟨fun _ => (HRD.out _ HF0.out).1, fun _ => (HRD.out _ HF0.out).2, trivial⟩ (fun hHeld => ?_)
  refine wpAnyE_take (i := 0) (v := ?_) rfl (by kernel_rfl) (by kernel_rfl) (by kernel_rfl) (by kernel_rfl) (fun _ _ _ h => h) (Or.inl ⟨by rfl, ?_⟩) hHeld (fun hHeld => ?_)
  rotate_left
  · (intro w hSw; (try dsimp only at hSw); (try simp only [List.getElem_toArray, List.getElem_cons_succ, List.getElem_cons_zero]); go_simp; try with_reducible rfl)
  try simp only [List.getElem_toArray, List.getElem_cons_succ, List.getElem_cons_zero, Act.put, List.setIfInBounds_toArray, List.set_cons_zero, List.set_cons_succ]
  refine wpAnyE_take (i := 1) (v := ?_) rfl (by kernel_rfl) (by kernel_rfl) (by kernel_rfl) (by kernel_rfl) (fun _ _ _ h => h) (Or.inl ⟨by rfl, ?_⟩) hHeld (fun hHeld => ?_)
  rotate_left
  · (intro w hSw; (try dsimp only at hSw); (try simp only [List.getElem_toArray, List.getElem_cons_succ, List.getElem_cons_zero]); go_simp; try with_reducible rfl)
  try simp only [List.getElem_toArray, List.getElem_cons_succ, List.getElem_cons_zero, Act.put, List.setIfInBounds_toArray, List.set_cons_zero, List.set_cons_succ]
  refine wpAnyE_take (i := 2) (v := ?_) rfl (by kernel_rfl) (by kernel_rfl) (by kernel_rfl) (by kernel_rfl) (fun _ _ _ h => h) (Or.inl ⟨by rfl, ?_⟩) hHeld (fun hHeld => ?_)
  rotate_left
  · (intro w hSw; (try dsimp only at hSw); (try simp only [List.getElem_toArray, List.getElem_cons_succ, List.getElem_cons_zero]); go_simp; try with_reducible rfl)
  try simp only [List.getElem_toArray, List.getElem_cons_succ, List.getElem_cons_zero, Act.put, List.setIfInBounds_toArray, List.set_cons_zero, List.set_cons_succ]
  refine wpAnyE_load (i := 3) _ _ (v := ?_) rfl (by kernel_rfl) List.mem_cons_self (by kernel_rfl) (by kernel_rfl) (by kernel_rfl) (by kernel_rfl) (fun _ _ _ h => h) (Or.inl ⟨by rfl, ?_⟩) hHeld (fun hHeld => ?_)
  rotate_left
  · (intro w hSw; (try dsimp only at hSw); (try simp only [List.getElem_toArray, List.getElem_cons_succ, List.getElem_cons_zero]); go_simp; try with_reducible rfl)
  try simp only [List.getElem_toArray, List.getElem_cons_succ, List.getElem_cons_zero, Act.put, List.setIfInBounds_toArray, List.set_cons_zero, List.set_cons_succ]
  refine wpAnyE_take (i := 4) (v := ?_) rfl (by kernel_rfl) (by kernel_rfl) (by kernel_rfl) (by kernel_rfl) (fun _ _ _ h => h) (Or.inl ⟨by rfl, ?_⟩) hHeld (fun hHeld => ?_)
  rotate_left
  · (intro w hSw; (try dsimp only at hSw); (try simp only [List.getElem_toArray, List.getElem_cons_succ, List.getElem_cons_zero]); go_simp; try with_reducible rfl)
  try simp only [List.getElem_toArray, List.getElem_cons_succ, List.getElem_cons_zero, Act.put, List.setIfInBounds_toArray, List.set_cons_zero, List.set_cons_succ]
  refine wpAnyE_load (i := 5) _ _ (v := ?_) rfl (by kernel_rfl) (List.mem_cons_of_mem _ List.mem_cons_self) (by kernel_rfl) (by kernel_rfl) (by kernel_rfl) (by kernel_rfl) (fun _ _ _ h => h) (Or.inl ⟨by rfl, ?_⟩) hHeld (fun hHeld => ?_)
  rotate_left
  · (intro w hSw; (try dsimp only at hSw); (try simp only [List.getElem_toArray, List.getElem_cons_succ, List.getElem_cons_zero]); go_simp; try with_reducible rfl)
  try simp only [List.getElem_toArray, List.getElem_cons_succ, List.getElem_cons_zero, Act.put, List.setIfInBounds_toArray, List.set_cons_zero, List.set_cons_succ]
  refine wpAnyE_ready (rs := [6, 10]) (by kernel_rfl) (by simp) (AllE.cons rfl (fun K hK => ?ordA) (AllE.cons rfl (fun K hK => ?ordB) AllE.nil))
  case' ordA =>
    clear hHeld
    go_simp
    refine (HGT.out _ (HBA.out.trans (HF0.out.mono (by have := HSA.out; omega)))).mono ?_
    rintro _ w1 ⟨rfl, hb⟩
    have HB1 := Lib.hid (HF0.out.trans (hb.mono (Nat.le_refl _)))
    clear hb
    refine hK.out _ _ ⟨fun _ => (HRD.out _ HB1.out).1, fun _ => (HRD.out _ HB1.out).2, trivial⟩ (fun hHeld => ?_)
    clear hK K
    try simp only [List.getElem_toArray, List.getElem_cons_succ, List.getElem_cons_zero, Act.put, List.setIfInBounds_toArray, List.set_cons_zero, List.set_cons_succ]
    refine wpAnyE_take (i := 7) (v := ?_) rfl (by kernel_rfl) (by kernel_rfl) (by kernel_rfl) (by kernel_rfl) (fun _ _ _ h => h) (Or.inl ⟨by rfl, ?_⟩) hHeld (fun hHeld => ?_)
    rotate_left
    · (intro w hSw; (try dsimp only at hSw); (try simp only [List.getElem_toArray, List.getElem_cons_succ, List.getElem_cons_zero]); go_simp; try with_reducible rfl)
    try simp only [List.getElem_toArray, List.getElem_cons_succ, List.getElem_cons_zero, Act.put, List.setIfInBounds_toArray, List.set_cons_zero, List.set_cons_succ]
    refine wpAnyE_take (i := 8) (v := ?_) rfl (by kernel_rfl) (by kernel_rfl) (by kernel_rfl) (by kernel_rfl) (fun _ _ _ h => h) (Or.inl ⟨by rfl, ?_⟩) hHeld (fun hHeld => ?_)
    rotate_left
    · (intro w hSw; (try dsimp only at hSw); (try simp only [List.getElem_toArray, List.getElem_cons_succ, List.getElem_cons_zero]); go_simp; try with_reducible rfl)
    try simp only [List.getElem_toArray, List.getElem_cons_succ, List.getElem_cons_zero, Act.put, List.setIfInBounds_toArray, List.set_cons_zero, List.set_cons_succ]
    refine wpAnyE_take (i := 9) (v := ?_) rfl (by kernel_rfl) (by kernel_rfl) (by kernel_rfl) (by kernel_rfl) (fun _ _ _ h => h) (Or.inl ⟨by rfl, ?_⟩) hHeld (fun hHeld => ?_)
    rotate_left
    · (intro w hSw; (try dsimp only at hSw); (try simp only [List.getElem_toArray, List.getElem_cons_succ, List.getElem_cons_zero]); go_simp; try with_reducible rfl)
    try simp only [List.getElem_toArray, List.getElem_cons_succ, List.getElem_cons_zero, Act.put, List.setIfInBounds_toArray, List.set_cons_zero, List.set_cons_succ]
    refine wpAnyE_ready (rs := [10]) (by kernel_rfl) (by simp) (AllE.cons rfl (fun K hK => ?_) AllE.nil)
    clear hHeld
    go_simp
    refine hK.out _ _ ⟨fun _ => (HRD.out _ (HB1.out.alloc HB1.out.size _)).1, fun _ => (HRD.out _ (HB1.out.alloc HB1.out.size _)).2, trivial⟩ (fun hHeld => ?_)
    clear hK K
    try simp only [List.getElem_toArray, List.getElem_cons_succ, List.getElem_cons_zero, Act.put, List.setIfInBounds_toArray, List.set_cons_zero, List.set_cons_succ]
    refine wpAnyE_ready (rs := [11]) (by kernel_rfl) (by simp) (AllE.cons rfl (fun K hK => ?_) AllE.nil)
    clear hHeld
    go_simp
    refine hK.out _ _ ⟨(fun e => absurd e (Bool.eq_false_iff.1 (by kernel_rfl))), (fun e => absurd e (Bool.eq_false_iff.1 (by kernel_rfl))), trivial⟩ (fun hHeld => ?_)
    clear hK K
    try simp only [List.getElem_toArray, List.getElem_cons_succ, List.getElem_cons_zero, Act.put, List.setIfInBounds_toArray, List.set_cons_zero, List.set_cons_succ]
    refine wpAnyE_take (i := 12) (v := ?_) rfl (by kernel_rfl) (by kernel_rfl) (by kernel_rfl) (by kernel_rfl) (fun _ _ _ h => h) (Or.inl ⟨by rfl, ?_⟩) hHeld (fun hHeld => ?_)
    rotate_left
    · (intro w hSw; (try dsimp only at hSw); (try simp only [List.getElem_toArray, List.getElem_cons_succ, List.getElem_cons_zero]); go_simp; try with_reducible rfl)
    try simp only [List.getElem_toArray, List.getElem_cons_succ, List.getElem_cons_zero, Act.put, List.setIfInBounds_toArray, List.set_cons_zero, List.set_cons_succ]
    refine wpAnyE_done (by kernel_rfl) (only_normal ?_) _
    clear hHeld hWA
    obtain ⟨W1, hW1⟩ : ∃ W, w1.alloc (.cells #[.int .i64 x.1, .string x.2] 68) = W := ⟨_, rfl⟩
    have HBW := Lib.hid (show Below WA.heap.size WA W1 from hW1 ▸ HB1.out.alloc HB1.out.size _)
    obtain ⟨O, hO⟩ : ∃ O, w1.heap.size = O := ⟨_, rfl⟩
    have HY := Lib.hid (show Blk W1 O 68 #[.int .i64 x.1, .string x.2] from hO ▸ hW1 ▸ Blk.new w1 _ _)
    have hOw : w.heap.size < O := by have h1 := HB1.out.size; have h2 := HSA.out; omega
    rw [hW1, hO]
    clear hW1 hO HB1
  case' ordB =>
    clear hHeld
    go_simp
    have HB0 := Lib.hid (show Below WA.heap.size WA (WA.alloc (.cells #[.int .i64 0, .string ⟨#[]⟩] 68)).drew from ((Below.refl WA.heap.size WA).alloc (Nat.le_refl _) _).drew)
    refine hK.out _ _ ⟨fun _ => (HRD.out _ HB0.out).1, fun _ => (HRD.out _ HB0.out).2, trivial⟩ (fun hHeld => ?_)
    clear hK K
    try simp only [List.getElem_toArray, List.getElem_cons_succ, List.getElem_cons_zero, Act.put, List.setIfInBounds_toArray, List.set_cons_zero, List.set_cons_succ]
    refine wpAnyE_ready (rs := [6]) (by kernel_rfl) (by simp) (AllE.cons rfl (fun K hK => ?_) AllE.nil)
    clear hHeld
    go_simp
    refine (HGT.out _ (HBA.out.trans (HB0.out.mono (by have := HSA.out; omega)))).mono ?_
    rintro _ w1 ⟨rfl, hb⟩
    have HB1 := Lib.hid (HB0.out.trans (hb.mono HB0.out.size))
    have HYB := Lib.hid (show Blk w1 WA.heap.size 68 #[.int .i64 0, .string ⟨#[]⟩] from (Blk.new WA 68 #[.int .i64 0, .string ⟨#[]⟩]).drew.below hb (Blk.new WA 68 #[.int .i64 0, .string ⟨#[]⟩]).drew.lt)
    have y0 := HYB.out.cell 0
    have y1 := HYB.out.cell 1
    have z0 := HYB.out.frozen 0
    have z1 := HYB.out.frozen 1
    clear hb
    refine hK.out _ _ ⟨fun _ => (HRD.out _ HB1.out).1, fun _ => (HRD.out _ HB1.out).2, trivial⟩ (fun hHeld => ?_)
    clear hK K
    try simp only [List.getElem_toArray, List.getElem_cons_succ, List.getElem_cons_zero, Act.put, List.setIfInBounds_toArray, List.set_cons_zero, List.set_cons_succ]
    refine wpAnyE_take (i := 7) (v := ?_) rfl (by kernel_rfl) (by kernel_rfl) (by kernel_rfl) (by kernel_rfl) (fun _ _ _ h => h) (Or.inl ⟨by rfl, ?_⟩) hHeld (fun hHeld => ?_)
    rotate_left
    · (intro w hSw; (try dsimp only at hSw); (try simp only [List.getElem_toArray, List.getElem_cons_succ, List.getElem_cons_zero]); go_simp; try with_reducible rfl)
    try simp only [List.getElem_toArray, List.getElem_cons_succ, List.getElem_cons_zero, Act.put, List.setIfInBounds_toArray, List.set_cons_zero, List.set_cons_succ]
    refine wpAnyE_take (i := 8) (v := ?_) rfl (by kernel_rfl) (by kernel_rfl) (by kernel_rfl) (by kernel_rfl) (fun _ _ _ h => h) (Or.inl ⟨by rfl, ?_⟩) hHeld (fun hHeld => ?_)
    rotate_left
    · (intro w hSw; (try dsimp only at hSw); (try simp only [List.getElem_toArray, List.getElem_cons_succ, List.getElem_cons_zero]); go_simp; try with_reducible rfl)
    try simp only [List.getElem_toArray, List.getElem_cons_succ, List.getElem_cons_zero, Act.put, List.setIfInBounds_toArray, List.set_cons_zero, List.set_cons_succ]
    refine wpAnyE_take (i := 9) (v := ?_) rfl (by kernel_rfl) (by kernel_rfl) (by kernel_rfl) (by kernel_rfl) (fun _ _ _ h => h) (Or.inl ⟨by rfl, ?_⟩) hHeld (fun hHeld => ?_)
    rotate_left
    · (intro w hSw; (try dsimp only at hSw); (try simp only [List.getElem_toArray, List.getElem_cons_succ, List.getElem_cons_zero]); go_simp; try with_reducible rfl)
    try simp only [List.getElem_toArray, List.getElem_cons_succ, List.getElem_cons_zero, Act.put, List.setIfInBounds_toArray, List.set_cons_zero, List.set_cons_succ]
    refine wpAnyE_ready (rs := [11]) (by kernel_rfl) (by simp) (AllE.cons rfl (fun K hK => ?_) AllE.nil)
    clear hHeld
    go_simp
    refine hK.out _ _ ⟨(fun e => absurd e (Bool.eq_false_iff.1 (by kernel_rfl))), (fun e => absurd e (Bool.eq_false_iff.1 (by kernel_rfl))), trivial⟩ (fun hHeld => ?_)
    clear hK K
    try simp only [List.getElem_toArray, List.getElem_cons_succ, List.getElem_cons_zero, Act.put, List.setIfInBounds_toArray, List.set_cons_zero, List.set_cons_succ]
    refine wpAnyE_take (i := 12) (v := ?_) rfl (by kernel_rfl) (by kernel_rfl) (by kernel_rfl) (by kernel_rfl) (fun _ _ _ h => h) (Or.inl ⟨by rfl, ?_⟩) hHeld (fun hHeld => ?_)
    rotate_left
    · (intro w hSw; (try dsimp only at hSw); (try simp only [List.getElem_toArray, List.getElem_cons_succ, List.getElem_cons_zero]); go_simp; try with_reducible rfl)
    try simp only [List.getElem_toArray, List.getElem_cons_succ, List.getElem_cons_zero, Act.put, List.setIfInBounds_toArray, List.set_cons_zero, List.set_cons_succ]
    refine wpAnyE_done (by kernel_rfl) (only_normal ?_) _
    clear hHeld hWA y0 y1 z0 z1
    obtain ⟨W1, hW1⟩ : ∃ W, (w1.setCell ⟨WA.heap.size, 0, none⟩ (.int .i64 x.1)).setCell ⟨WA.heap.size, 1, none⟩ (.string x.2) = W := ⟨_, rfl⟩
    have HBW := Lib.hid (show Below WA.heap.size WA W1 from hW1 ▸ (HB1.out.setCell (p := ⟨WA.heap.size, 0, none⟩) (Nat.le_refl _) _).setCell (p := ⟨WA.heap.size, 1, none⟩) (Nat.le_refl _) _)
    obtain ⟨O, hO⟩ : ∃ O, WA.heap.size = O := ⟨_, rfl⟩
    have HY := Lib.hid (show Blk W1 O 68 #[.int .i64 x.1, .string x.2] from hO ▸ hW1 ▸ (HYB.out.set_ 0 (.int .i64 x.1)).set_ 1 (.string x.2))
    have hOw : w.heap.size < O := by have h2 := HSA.out; omega
    rw [hW1, hO]
    clear hW1 hO HB1 HB0 HYB
  all_goals
    have HBW0 := Lib.hid (show Below w.heap.size w W1 from HBA.out.trans (HBW.out.mono (by have := HSA.out; omega)))
    have HX1 := Lib.hid (HXA.out.below HBW.out HXA.out.lt)
    have HG1 := Lib.hid (HE1.out.below HBW0.out hgl)
    have HM1 := Lib.hid (HE2.out.below HBW0.out)
    have HR1 := Lib.hid (HE3.out.below HBW0.out)
    have HK1 := Lib.hid (show Kc CT B w W1 from Kc.of HBW0.out hB)
    have hsz1 : w.heap.size ≤ W1.heap.size := HBW0.out.size
    have HA1 := Lib.hid (show Ap w W1 B g m R w.heap.size O #[.pointer (some ⟨m, 0, none⟩), .pointer (some ⟨R, 0, none⟩), .int .i64 mo, .int .i64 (by0), .int .i64 la, .int .i64 ho] #[.bool del, .string uid, .string card, .int .i64 k, .int .i64 v] L F rg lm x from ⟨HG1.out, HM1.out, HR1.out, HX1.out, HY.out, HK1.out, e4, e5, hB⟩)
    clear HG1 HM1 HR1 HX1 HY HK1 HXA HBA HSA HF0 HRD HGT HBW HBW0 HE1 HE2 HE3
    have hlaD : decide (tok < la) = true := decide_eq_true hla
    have c4 := HA1.out.G.cell 4
    have c2 := HA1.out.G.cell 2
    have x0 := HA1.out.X.cell 0
    simp only [List.getElem?_toArray, List.getElem?_cons_zero, List.getElem?_cons_succ] at c4 c2 x0
    have HLN := Lib.hid (fun (n : Nat) => cl_len (show Cl (W1.drewN n) B g ⟨L, F, rg, mo, lm, la, ho, by0⟩ from ⟨m, R, (HA1.out.drewN n).G, (HA1.out.drewN n).M, (HA1.out.drewN n).R, e4, e5⟩))
    go_wp2_with fail
    go_quiet ((go_at_call 36; exact Calls.quiet_of_same (HLN.out _)))
    clear c4 c2 x0 HLN
    obtain ⟨W2, hW2⟩ : ∃ W, W1.drewN nq = W := ⟨_, rfl⟩
    have HA2 := Lib.hid (show Ap w W2 B g m R w.heap.size O #[.pointer (some ⟨m, 0, none⟩), .pointer (some ⟨R, 0, none⟩), .int .i64 mo, .int .i64 (by0), .int .i64 la, .int .i64 ho] #[.bool del, .string uid, .string card, .int .i64 k, .int .i64 v] L F rg lm x from hW2 ▸ HA1.out.drewN _)
    rw [hW2]
    clear hW2 HA1
    go_wp2
    go_ret
    exact ⟨rfl, ⟨m, R, HA2.out.G, HA2.out.M, HA2.out.R, e4, e5⟩, HA2.out.K⟩
set_option maxHeartbeats 16000000 in
theorem ap_nb {w : World} {B g : Nat} {c : Cs} (h : Cl w B g c) (hB : B ≤ w.heap.size) (hz : Cz c) (uid card : ByteArray) (k v tok : Int) (hcs : card.size ≤ 1000000) (hth : (getL uid c.L).isSome = false) (hla : ¬ tok < c.latest) :
    Calls Try.prog 16 #[.pointer (some ⟨g, 0, none⟩), .agg #[.bool true, .string uid, .string card, .int .i64 k, .int .i64 v], .int .i64 tok] w (ApP w B g (false, c)) := by
  obtain ⟨L, F, rg, mo, lm, la, ho, by0⟩ := c
  obtain ⟨m, R, e1, e2, e3, e4, e5⟩ := h
  obtain ⟨z1, z2, z3, z4, z5, z6⟩ := hz
  simp only at e1 e2 e3 e4 e5 z1 z2 z3 z4 z5 z6
  have HE1 := Lib.hid e1
  have HE2 := Lib.hid e2
  have HE3 := Lib.hid e3
  have hgl := e1.lt
  have hml := e2.lt
  have c0 := e1.cell 0
  simp only [List.getElem?_toArray, List.getElem?_cons_zero, List.getElem?_cons_succ] at c0
  simp only at hth
  obtain ⟨x, hx⟩ : ∃ x, (getL uid L).getD (0, .empty) = x := ⟨_, rfl⟩
  have HXS := Lib.hid (show x.2.size ≤ 1000000 by
    rw [← hx]
    cases hg : getL uid L with
    | none => decide
    | some y => exact z6 uid y hg)
  skip
  have HO : Hid (OC.ov (getL uid L) = .agg #[.int .i64 x.1, .string x.2]) := Lib.hid (by unfold OC.ov; rw [hx])
  have HGT := Lib.hid (fun (W : World) (hb : Below w.heap.size w W) => OC.om_get (e2.below hb) uid _ rfl)
  rw [HO.out, hth] at HGT
  obtain ⟨WA, hWA⟩ : ∃ W, w.alloc (.cells #[.bool true, .string uid, .string card, .int .i64 k, .int .i64 v] 33) = W := ⟨_, rfl⟩
  have HBA := Lib.hid (show Below w.heap.size w WA from hWA ▸ (Below.refl _ w).alloc (Nat.le_refl _) _)
  have HXA := Lib.hid (show Blk WA w.heap.size 33 #[.bool true, .string uid, .string card, .int .i64 k, .int .i64 v] from hWA ▸ Blk.new w _ _)
  have HSA := Lib.hid (show WA.heap.size = w.heap.size + 1 by rw [← hWA]; simp)
  have HOX := Lib.hid hx
  have HRD := Lib.hid (fun (W : World) (hb : Below WA.heap.size WA W) => (⟨((HE1.out.below HBA.out hgl).below hb (HE1.out.below HBA.out hgl).lt).cell 0, (HXA.out.below hb HXA.out.lt).cell 1⟩ : W.cell? ⟨g, 0, none⟩ = some (.pointer (some ⟨m, 0, none⟩)) ∧ W.cell? ⟨w.heap.size, 1, none⟩ = some (.string uid)))
  have HF0 := Lib.hid ((Below.refl WA.heap.size WA).drew)
  clear hx HO e1 e2 e3 z6 c0
  go_enter Try.func16, Try.ntmps16
  go_wp2_with fail
  try rw [hWA]
  refine wp_region_E [([11], fun w' => w'.cell? ⟨g, 0, none⟩ = some (.pointer (some ⟨m, 0, none⟩))), ([11], fun w' => w'.cell? ⟨w.heap.size, 1, none⟩ = some (.string uid))] (by kernel_rfl) ⟨fun _ => (HRD.out _ HF0.out).1, fun _ => (HRD.out _ HF0.out).2, trivial⟩ (fun hHeld => ?_)
  refine wpAnyE_take (i := 0) (v := ?_) rfl (by kernel_rfl) (by kernel_rfl) (by kernel_rfl) (by kernel_rfl) (fun _ _ _ h => h) (Or.inl ⟨by rfl, ?_⟩) hHeld (fun hHeld => ?_)
  rotate_left
  · (intro w hSw; (try dsimp only at hSw); (try simp only [List.getElem_toArray, List.getElem_cons_succ, List.getElem_cons_zero]); go_simp; try with_reducible rfl)
  try simp only [List.getElem_toArray, List.getElem_cons_succ, List.getElem_cons_zero, Act.put, List.setIfInBounds_toArray, List.set_cons_zero, List.set_cons_succ]
  refine wpAnyE_take (i := 1) (v := ?_) rfl (by kernel_rfl) (by kernel_rfl) (by kernel_rfl) (by kernel_rfl) (fun _ _ _ h => h) (Or.inl ⟨by rfl, ?_⟩) hHeld (fun hHeld => ?_)
  rotate_left
  · (intro w hSw; (try dsimp only at hSw); (try simp only [List.getElem_toArray, List.getElem_cons_succ, List.getElem_cons_zero]); go_simp; try with_reducible rfl)
  try simp only [List.getElem_toArray, List.getElem_cons_succ, List.getElem_cons_zero, Act.put, List.setIfInBounds_toArray, List.set_cons_zero, List.set_cons_succ]
  refine wpAnyE_take (i := 2) (v := ?_) rfl (by kernel_rfl) (by kernel_rfl) (by kernel_rfl) (by kernel_rfl) (fun _ _ _ h => h) (Or.inl ⟨by rfl, ?_⟩) hHeld (fun hHeld => ?_)
  rotate_left
  · (intro w hSw; (try dsimp only at hSw); (try simp only [List.getElem_toArray, List.getElem_cons_succ, List.getElem_cons_zero]); go_simp; try with_reducible rfl)
  try simp only [List.getElem_toArray, List.getElem_cons_succ, List.getElem_cons_zero, Act.put, List.setIfInBounds_toArray, List.set_cons_zero, List.set_cons_succ]
  refine wpAnyE_load (i := 3) _ _ (v := ?_) rfl (by kernel_rfl) List.mem_cons_self (by kernel_rfl) (by kernel_rfl) (by kernel_rfl) (by kernel_rfl) (fun _ _ _ h => h) (Or.inl ⟨by rfl, ?_⟩) hHeld (fun hHeld => ?_)
  rotate_left
  · (intro w hSw; (try dsimp only at hSw); (try simp only [List.getElem_toArray, List.getElem_cons_succ, List.getElem_cons_zero]); go_simp; try with_reducible rfl)
  try simp only [List.getElem_toArray, List.getElem_cons_succ, List.getElem_cons_zero, Act.put, List.setIfInBounds_toArray, List.set_cons_zero, List.set_cons_succ]
  refine wpAnyE_take (i := 4) (v := ?_) rfl (by kernel_rfl) (by kernel_rfl) (by kernel_rfl) (by kernel_rfl) (fun _ _ _ h => h) (Or.inl ⟨by rfl, ?_⟩) hHeld (fun hHeld => ?_)
  rotate_left
  · (intro w hSw; (try dsimp only at hSw); (try simp only [List.getElem_toArray, List.getElem_cons_succ, List.getElem_cons_zero]); go_simp; try with_reducible rfl)
  try simp only [List.getElem_toArray, List.getElem_cons_succ, List.getElem_cons_zero, Act.put, List.setIfInBounds_toArray, List.set_cons_zero, List.set_cons_succ]
  refine wpAnyE_load (i := 5) _ _ (v := ?_) rfl (by kernel_rfl) (List.mem_cons_of_mem _ List.mem_cons_self) (by kernel_rfl) (by kernel_rfl) (by kernel_rfl) (by kernel_rfl) (fun _ _ _ h => h) (Or.inl ⟨by rfl, ?_⟩) hHeld (fun hHeld => ?_)
  rotate_left
  · (intro w hSw; (try dsimp only at hSw); (try simp only [List.getElem_toArray, List.getElem_cons_succ, List.getElem_cons_zero]); go_simp; try with_reducible rfl)
  try simp only [List.getElem_toArray, List.getElem_cons_succ, List.getElem_cons_zero, Act.put, List.setIfInBounds_toArray, List.set_cons_zero, List.set_cons_succ]
  refine wpAnyE_ready (rs := [6, 10]) (by kernel_rfl) (by simp) (AllE.cons rfl (fun K hK => ?ordA) (AllE.cons rfl (fun K hK => ?ordB) AllE.nil))
  case' ordA =>
    clear hHeld
    go_simp
    refine (HGT.out _ (HBA.out.trans (HF0.out.mono (by have := HSA.out; omega)))).mono ?_
    rintro _ w1 ⟨rfl, hb⟩
    have HB1 := Lib.hid (HF0.out.trans (hb.mono (Nat.le_refl _)))
    clear hb
    refine hK.out _ _ ⟨fun _ => (HRD.out _ HB1.out).1, fun _ => (HRD.out _ HB1.out).2, trivial⟩ (fun hHeld => ?_)
    clear hK K
    try simp only [List.getElem_toArray, List.getElem_cons_succ, List.getElem_cons_zero, Act.put, List.setIfInBounds_toArray, List.set_cons_zero, List.set_cons_succ]
    refine wpAnyE_take (i := 7) (v := ?_) rfl (by kernel_rfl) (by kernel_rfl) (by kernel_rfl) (by kernel_rfl) (fun _ _ _ h => h) (Or.inl ⟨by rfl, ?_⟩) hHeld (fun hHeld => ?_)
    rotate_left
    · (intro w hSw; (try dsimp only at hSw); (try simp only [List.getElem_toArray, List.getElem_cons_succ, List.getElem_cons_zero]); go_simp; try with_reducible rfl)
    try simp only [List.getElem_toArray, List.getElem_cons_succ, List.getElem_cons_zero, Act.put, List.setIfInBounds_toArray, List.set_cons_zero, List.set_cons_succ]
    refine wpAnyE_take (i := 8) (v := ?_) rfl (by kernel_rfl) (by kernel_rfl) (by kernel_rfl) (by kernel_rfl) (fun _ _ _ h => h) (Or.inl ⟨by rfl, ?_⟩) hHeld (fun hHeld => ?_)
    rotate_left
    · (intro w hSw; (try dsimp only at hSw); (try simp only [List.getElem_toArray, List.getElem_cons_succ, List.getElem_cons_zero]); go_simp; try with_reducible rfl)
    try simp only [List.getElem_toArray, List.getElem_cons_succ, List.getElem_cons_zero, Act.put, List.setIfInBounds_toArray, List.set_cons_zero, List.set_cons_succ]
    refine wpAnyE_take (i := 9) (v := ?_) rfl (by kernel_rfl) (by kernel_rfl) (by kernel_rfl) (by kernel_rfl) (fun _ _ _ h => h) (Or.inl ⟨by rfl, ?_⟩) hHeld (fun hHeld => ?_)
    rotate_left
    · (intro w hSw; (try dsimp only at hSw); (try simp only [List.getElem_toArray, List.getElem_cons_succ, List.getElem_cons_zero]); go_simp; try with_reducible rfl)
    try simp only [List.getElem_toArray, List.getElem_cons_succ, List.getElem_cons_zero, Act.put, List.setIfInBounds_toArray, List.set_cons_zero, List.set_cons_succ]
    refine wpAnyE_ready (rs := [10]) (by kernel_rfl) (by simp) (AllE.cons rfl (fun K hK => ?_) AllE.nil)
    clear hHeld
    go_simp
    refine hK.out _ _ ⟨fun _ => (HRD.out _ (HB1.out.alloc HB1.out.size _)).1, fun _ => (HRD.out _ (HB1.out.alloc HB1.out.size _)).2, trivial⟩ (fun hHeld => ?_)
    clear hK K
    try simp only [List.getElem_toArray, List.getElem_cons_succ, List.getElem_cons_zero, Act.put, List.setIfInBounds_toArray, List.set_cons_zero, List.set_cons_succ]
    refine wpAnyE_ready (rs := [11]) (by kernel_rfl) (by simp) (AllE.cons rfl (fun K hK => ?_) AllE.nil)
    clear hHeld
    go_simp
    refine hK.out _ _ ⟨(fun e => absurd e (Bool.eq_false_iff.1 (by kernel_rfl))), (fun e => absurd e (Bool.eq_false_iff.1 (by kernel_rfl))), trivial⟩ (fun hHeld => ?_)
    clear hK K
    try simp only [List.getElem_toArray, List.getElem_cons_succ, List.getElem_cons_zero, Act.put, List.setIfInBounds_toArray, List.set_cons_zero, List.set_cons_succ]
    refine wpAnyE_take (i := 12) (v := ?_) rfl (by kernel_rfl) (by kernel_rfl) (by kernel_rfl) (by kernel_rfl) (fun _ _ _ h => h) (Or.inl ⟨by rfl, ?_⟩) hHeld (fun hHeld => ?_)
    rotate_left
    · (intro w hSw; (try dsimp only at hSw); (try simp only [List.getElem_toArray, List.getElem_cons_succ, List.getElem_cons_zero]); go_simp; try with_reducible rfl)
    try simp only [List.getElem_toArray, List.getElem_cons_succ, List.getElem_cons_zero, Act.put, List.setIfInBounds_toArray, List.set_cons_zero, List.set_cons_succ]
    refine wpAnyE_done (by kernel_rfl) (only_normal ?_) _
    clear hHeld hWA
    obtain ⟨W1, hW1⟩ : ∃ W, w1.alloc (.cells #[.int .i64 x.1, .string x.2] 68) = W := ⟨_, rfl⟩
    have HBW := Lib.hid (show Below WA.heap.size WA W1 from hW1 ▸ HB1.out.alloc HB1.out.size _)
    obtain ⟨O, hO⟩ : ∃ O, w1.heap.size = O := ⟨_, rfl⟩
    have HY := Lib.hid (show Blk W1 O 68 #[.int .i64 x.1, .string x.2] from hO ▸ hW1 ▸ Blk.new w1 _ _)
    have hOw : w.heap.size < O := by have h1 := HB1.out.size; have h2 := HSA.out; omega
    rw [hW1, hO]
    clear hW1 hO HB1
  case' ordB =>
    clear hHeld
    go_simp
    have HB0 := Lib.hid (show Below WA.heap.size WA (WA.alloc (.cells #[.int .i64 0, .string ⟨#[]⟩] 68)).drew from ((Below.refl WA.heap.size WA).alloc (Nat.le_refl _) _).drew)
    refine hK.out _ _ ⟨fun _ => (HRD.out _ HB0.out).1, fun _ => (HRD.out _ HB0.out).2, trivial⟩ (fun hHeld => ?_)
    clear hK K
    try simp only [List.getElem_toArray, List.getElem_cons_succ, List.getElem_cons_zero, Act.put, List.setIfInBounds_toArray, List.set_cons_zero, List.set_cons_succ]
    refine wpAnyE_ready (rs := [6]) (by kernel_rfl) (by simp) (AllE.cons rfl (fun K hK => ?_) AllE.nil)
    clear hHeld
    go_simp
    refine (HGT.out _ (HBA.out.trans (HB0.out.mono (by have := HSA.out; omega)))).mono ?_
    rintro _ w1 ⟨rfl, hb⟩
    have HB1 := Lib.hid (HB0.out.trans (hb.mono HB0.out.size))
    have HYB := Lib.hid (show Blk w1 WA.heap.size 68 #[.int .i64 0, .string ⟨#[]⟩] from (Blk.new WA 68 #[.int .i64 0, .string ⟨#[]⟩]).drew.below hb (Blk.new WA 68 #[.int .i64 0, .string ⟨#[]⟩]).drew.lt)
    have y0 := HYB.out.cell 0
    have y1 := HYB.out.cell 1
    have z0 := HYB.out.frozen 0
    have z1 := HYB.out.frozen 1
    clear hb
    refine hK.out _ _ ⟨fun _ => (HRD.out _ HB1.out).1, fun _ => (HRD.out _ HB1.out).2, trivial⟩ (fun hHeld => ?_)
    clear hK K
    try simp only [List.getElem_toArray, List.getElem_cons_succ, List.getElem_cons_zero, Act.put, List.setIfInBounds_toArray, List.set_cons_zero, List.set_cons_succ]
    refine wpAnyE_take (i := 7) (v := ?_) rfl (by kernel_rfl) (by kernel_rfl) (by kernel_rfl) (by kernel_rfl) (fun _ _ _ h => h) (Or.inl ⟨by rfl, ?_⟩) hHeld (fun hHeld => ?_)
    rotate_left
    · (intro w hSw; (try dsimp only at hSw); (try simp only [List.getElem_toArray, List.getElem_cons_succ, List.getElem_cons_zero]); go_simp; try with_reducible rfl)
    try simp only [List.getElem_toArray, List.getElem_cons_succ, List.getElem_cons_zero, Act.put, List.setIfInBounds_toArray, List.set_cons_zero, List.set_cons_succ]
    refine wpAnyE_take (i := 8) (v := ?_) rfl (by kernel_rfl) (by kernel_rfl) (by kernel_rfl) (by kernel_rfl) (fun _ _ _ h => h) (Or.inl ⟨by rfl, ?_⟩) hHeld (fun hHeld => ?_)
    rotate_left
    · (intro w hSw; (try dsimp only at hSw); (try simp only [List.getElem_toArray, List.getElem_cons_succ, List.getElem_cons_zero]); go_simp; try with_reducible rfl)
    try simp only [List.getElem_toArray, List.getElem_cons_succ, List.getElem_cons_zero, Act.put, List.setIfInBounds_toArray, List.set_cons_zero, List.set_cons_succ]
    refine wpAnyE_take (i := 9) (v := ?_) rfl (by kernel_rfl) (by kernel_rfl) (by kernel_rfl) (by kernel_rfl) (fun _ _ _ h => h) (Or.inl ⟨by rfl, ?_⟩) hHeld (fun hHeld => ?_)
    rotate_left
    · (intro w hSw; (try dsimp only at hSw); (try simp only [List.getElem_toArray, List.getElem_cons_succ, List.getElem_cons_zero]); go_simp; try with_reducible rfl)
    try simp only [List.getElem_toArray, List.getElem_cons_succ, List.getElem_cons_zero, Act.put, List.setIfInBounds_toArray, List.set_cons_zero, List.set_cons_succ]
    refine wpAnyE_ready (rs := [11]) (by kernel_rfl) (by simp) (AllE.cons rfl (fun K hK => ?_) AllE.nil)
    clear hHeld
    go_simp
    refine hK.out _ _ ⟨(fun e => absurd e (Bool.eq_false_iff.1 (by kernel_rfl))), (fun e => absurd e (Bool.eq_false_iff.1 (by kernel_rfl))), trivial⟩ (fun hHeld => ?_)
    clear hK K
    try simp only [List.getElem_toArray, List.getElem_cons_succ, List.getElem_cons_zero, Act.put, List.setIfInBounds_toArray, List.set_cons_zero, List.set_cons_succ]
    refine wpAnyE_take (i := 12) (v := ?_) rfl (by kernel_rfl) (by kernel_rfl) (by kernel_rfl) (by kernel_rfl) (fun _ _ _ h => h) (Or.inl ⟨by rfl, ?_⟩) hHeld (fun hHeld => ?_)
    rotate_left
    · (intro w hSw; (try dsimp only at hSw); (try simp only [List.getElem_toArray, List.getElem_cons_succ, List.getElem_cons_zero]); go_simp; try with_reducible rfl)
    try simp only [List.getElem_toArray, List.getElem_cons_succ, List.getElem_cons_zero, Act.put, List.setIfInBounds_toArray, List.set_cons_zero, List.set_cons_succ]
    refine wpAnyE_done (by kernel_rfl) (only_normal ?_) _
    clear hHeld hWA y0 y1 z0 z1
    obtain ⟨W1, hW1⟩ : ∃ W, (w1.setCell ⟨WA.heap.size, 0, none⟩ (.int .i64 x.1)).setCell ⟨WA.heap.size, 1, none⟩ (.string x.2) = W := ⟨_, rfl⟩
    have HBW := Lib.hid (show Below WA.heap.size WA W1 from hW1 ▸ (HB1.out.setCell (p := ⟨WA.heap.size, 0, none⟩) (Nat.le_refl _) _).setCell (p := ⟨WA.heap.size, 1, none⟩) (Nat.le_refl _) _)
    obtain ⟨O, hO⟩ : ∃ O, WA.heap.size = O := ⟨_, rfl⟩
    have HY := Lib.hid (show Blk W1 O 68 #[.int .i64 x.1, .string x.2] from hO ▸ hW1 ▸ (HYB.out.set_ 0 (.int .i64 x.1)).set_ 1 (.string x.2))
    have hOw : w.heap.size < O := by have h2 := HSA.out; omega
    rw [hW1, hO]
    clear hW1 hO HB1 HB0 HYB
  all_goals
    have HBW0 := Lib.hid (show Below w.heap.size w W1 from HBA.out.trans (HBW.out.mono (by have := HSA.out; omega)))
    have HX1 := Lib.hid (HXA.out.below HBW.out HXA.out.lt)
    have HG1 := Lib.hid (HE1.out.below HBW0.out hgl)
    have HM1 := Lib.hid (HE2.out.below HBW0.out)
    have HR1 := Lib.hid (HE3.out.below HBW0.out)
    have HK1 := Lib.hid (show Kc CT B w W1 from Kc.of HBW0.out hB)
    have hsz1 : w.heap.size ≤ W1.heap.size := HBW0.out.size
    have HA1 := Lib.hid (show Ap w W1 B g m R w.heap.size O #[.pointer (some ⟨m, 0, none⟩), .pointer (some ⟨R, 0, none⟩), .int .i64 mo, .int .i64 (by0), .int .i64 la, .int .i64 ho] #[.bool true, .string uid, .string card, .int .i64 k, .int .i64 v] L F rg lm x from ⟨HG1.out, HM1.out, HR1.out, HX1.out, HY.out, HK1.out, e4, e5, hB⟩)
    clear HG1 HM1 HR1 HX1 HY HK1 HXA HBA HSA HF0 HRD HGT HBW HBW0 HE1 HE2 HE3
    have hlaD : decide (tok < la) = false := decide_eq_false (by omega)
    have c4 := HA1.out.G.cell 4
    have c2 := HA1.out.G.cell 2
    have x0 := HA1.out.X.cell 0
    simp only [List.getElem?_toArray, List.getElem?_cons_zero, List.getElem?_cons_succ] at c4 c2 x0
    have HLN := Lib.hid (fun (n : Nat) => cl_len (show Cl (W1.drewN n) B g ⟨L, F, rg, mo, lm, la, ho, by0⟩ from ⟨m, R, (HA1.out.drewN n).G, (HA1.out.drewN n).M, (HA1.out.drewN n).R, e4, e5⟩))
    go_wp2_with fail
    go_quiet ((go_at_call 36; exact Calls.quiet_of_same (HLN.out _)))
    clear c4 c2 x0 HLN
    obtain ⟨W2, hW2⟩ : ∃ W, W1.drewN nq = W := ⟨_, rfl⟩
    have HA2 := Lib.hid (show Ap w W2 B g m R w.heap.size O #[.pointer (some ⟨m, 0, none⟩), .pointer (some ⟨R, 0, none⟩), .int .i64 mo, .int .i64 (by0), .int .i64 la, .int .i64 ho] #[.bool true, .string uid, .string card, .int .i64 k, .int .i64 v] L F rg lm x from hW2 ▸ HA1.out.drewN _)
    rw [hW2]
    clear hW2 HA1
    go_wp2
    go_ret
    exact ⟨rfl, ⟨m, R, HA2.out.G, HA2.out.M, HA2.out.R, e4, e5⟩, HA2.out.K⟩
set_option maxHeartbeats 16000000 in
theorem ap_nc {w : World} {B g : Nat} {c : Cs} (h : Cl w B g c) (hB : B ≤ w.heap.size) (hz : Cz c) (uid card : ByteArray) (k v tok : Int) (hcs : card.size ≤ 1000000) (hth : (getL uid c.L).isSome = false) (hla : ¬ tok < c.latest) (hmo : c.most ≤ (c.L.length : Int)) :
    Calls Try.prog 16 #[.pointer (some ⟨g, 0, none⟩), .agg #[.bool false, .string uid, .string card, .int .i64 k, .int .i64 v], .int .i64 tok] w (ApP w B g (false, c)) := by
  obtain ⟨L, F, rg, mo, lm, la, ho, by0⟩ := c
  obtain ⟨m, R, e1, e2, e3, e4, e5⟩ := h
  obtain ⟨z1, z2, z3, z4, z5, z6⟩ := hz
  simp only at e1 e2 e3 e4 e5 z1 z2 z3 z4 z5 z6
  have HE1 := Lib.hid e1
  have HE2 := Lib.hid e2
  have HE3 := Lib.hid e3
  have hgl := e1.lt
  have hml := e2.lt
  have c0 := e1.cell 0
  simp only [List.getElem?_toArray, List.getElem?_cons_zero, List.getElem?_cons_succ] at c0
  simp only at hth
  obtain ⟨x, hx⟩ : ∃ x, (getL uid L).getD (0, .empty) = x := ⟨_, rfl⟩
  have HXS := Lib.hid (show x.2.size ≤ 1000000 by
    rw [← hx]
    cases hg : getL uid L with
    | none => decide
    | some y => exact z6 uid y hg)
  skip
  have HO : Hid (OC.ov (getL uid L) = .agg #[.int .i64 x.1, .string x.2]) := Lib.hid (by unfold OC.ov; rw [hx])
  have HGT := Lib.hid (fun (W : World) (hb : Below w.heap.size w W) => OC.om_get (e2.below hb) uid _ rfl)
  rw [HO.out, hth] at HGT
  obtain ⟨WA, hWA⟩ : ∃ W, w.alloc (.cells #[.bool false, .string uid, .string card, .int .i64 k, .int .i64 v] 33) = W := ⟨_, rfl⟩
  have HBA := Lib.hid (show Below w.heap.size w WA from hWA ▸ (Below.refl _ w).alloc (Nat.le_refl _) _)
  have HXA := Lib.hid (show Blk WA w.heap.size 33 #[.bool false, .string uid, .string card, .int .i64 k, .int .i64 v] from hWA ▸ Blk.new w _ _)
  have HSA := Lib.hid (show WA.heap.size = w.heap.size + 1 by rw [← hWA]; simp)
  have HOX := Lib.hid hx
  have HRD := Lib.hid (fun (W : World) (hb : Below WA.heap.size WA W) => (⟨((HE1.out.below HBA.out hgl).below hb (HE1.out.below HBA.out hgl).lt).cell 0, (HXA.out.below hb HXA.out.lt).cell 1⟩ : W.cell? ⟨g, 0, none⟩ = some (.pointer (some ⟨m, 0, none⟩)) ∧ W.cell? ⟨w.heap.size, 1, none⟩ = some (.string uid)))
  have HF0 := Lib.hid ((Below.refl WA.heap.size WA).drew)
  clear hx HO e1 e2 e3 z6 c0
  go_enter Try.func16, Try.ntmps16
  go_wp2_with fail
  try rw [hWA]
  refine wp_region_E [([11], fun w' => w'.cell? ⟨g, 0, none⟩ = some (.pointer (some ⟨m, 0, none⟩))), ([11], fun w' => w'.cell? ⟨w.heap.size, 1, none⟩ = some (.string uid))] (by kernel_rfl) ⟨fun _ => (HRD.out _ HF0.out).1, fun _ => (HRD.out _ HF0.out).2, trivial⟩ (fun hHeld => ?_)
  refine wpAnyE_take (i := 0) (v := ?_) rfl (by kernel_rfl) (by kernel_rfl) (by kernel_rfl) (by kernel_rfl) (fun _ _ _ h => h) (Or.inl ⟨by rfl, ?_⟩) hHeld (fun hHeld => ?_)
  rotate_left
  · (intro w hSw; (try dsimp only at hSw); (try simp only [List.getElem_toArray, List.getElem_cons_succ, List.getElem_cons_zero]); go_simp; try with_reducible rfl)
  try simp only [List.getElem_toArray, List.getElem_cons_succ, List.getElem_cons_zero, Act.put, List.setIfInBounds_toArray, List.set_cons_zero, List.set_cons_succ]
  refine wpAnyE_take (i := 1) (v := ?_) rfl (by kernel_rfl) (by kernel_rfl) (by kernel_rfl) (by kernel_rfl) (fun _ _ _ h => h) (Or.inl ⟨by rfl, ?_⟩) hHeld (fun hHeld => ?_)
  rotate_left
  · (intro w hSw; (try dsimp only at hSw); (try simp only [List.getElem_toArray, List.getElem_cons_succ, List.getElem_cons_zero]); go_simp; try with_reducible rfl)
  try simp only [List.getElem_toArray, List.getElem_cons_succ, List.getElem_cons_zero, Act.put, List.setIfInBounds_toArray, List.set_cons_zero, List.set_cons_succ]
  refine wpAnyE_take (i := 2) (v := ?_) rfl (by kernel_rfl) (by kernel_rfl) (by kernel_rfl) (by kernel_rfl) (fun _ _ _ h => h) (Or.inl ⟨by rfl, ?_⟩) hHeld (fun hHeld => ?_)
  rotate_left
  · (intro w hSw; (try dsimp only at hSw); (try simp only [List.getElem_toArray, List.getElem_cons_succ, List.getElem_cons_zero]); go_simp; try with_reducible rfl)
  try simp only [List.getElem_toArray, List.getElem_cons_succ, List.getElem_cons_zero, Act.put, List.setIfInBounds_toArray, List.set_cons_zero, List.set_cons_succ]
  refine wpAnyE_load (i := 3) _ _ (v := ?_) rfl (by kernel_rfl) List.mem_cons_self (by kernel_rfl) (by kernel_rfl) (by kernel_rfl) (by kernel_rfl) (fun _ _ _ h => h) (Or.inl ⟨by rfl, ?_⟩) hHeld (fun hHeld => ?_)
  rotate_left
  · (intro w hSw; (try dsimp only at hSw); (try simp only [List.getElem_toArray, List.getElem_cons_succ, List.getElem_cons_zero]); go_simp; try with_reducible rfl)
  try simp only [List.getElem_toArray, List.getElem_cons_succ, List.getElem_cons_zero, Act.put, List.setIfInBounds_toArray, List.set_cons_zero, List.set_cons_succ]
  refine wpAnyE_take (i := 4) (v := ?_) rfl (by kernel_rfl) (by kernel_rfl) (by kernel_rfl) (by kernel_rfl) (fun _ _ _ h => h) (Or.inl ⟨by rfl, ?_⟩) hHeld (fun hHeld => ?_)
  rotate_left
  · (intro w hSw; (try dsimp only at hSw); (try simp only [List.getElem_toArray, List.getElem_cons_succ, List.getElem_cons_zero]); go_simp; try with_reducible rfl)
  try simp only [List.getElem_toArray, List.getElem_cons_succ, List.getElem_cons_zero, Act.put, List.setIfInBounds_toArray, List.set_cons_zero, List.set_cons_succ]
  refine wpAnyE_load (i := 5) _ _ (v := ?_) rfl (by kernel_rfl) (List.mem_cons_of_mem _ List.mem_cons_self) (by kernel_rfl) (by kernel_rfl) (by kernel_rfl) (by kernel_rfl) (fun _ _ _ h => h) (Or.inl ⟨by rfl, ?_⟩) hHeld (fun hHeld => ?_)
  rotate_left
  · (intro w hSw; (try dsimp only at hSw); (try simp only [List.getElem_toArray, List.getElem_cons_succ, List.getElem_cons_zero]); go_simp; try with_reducible rfl)
  try simp only [List.getElem_toArray, List.getElem_cons_succ, List.getElem_cons_zero, Act.put, List.setIfInBounds_toArray, List.set_cons_zero, List.set_cons_succ]
  refine wpAnyE_ready (rs := [6, 10]) (by kernel_rfl) (by simp) (AllE.cons rfl (fun K hK => ?ordA) (AllE.cons rfl (fun K hK => ?ordB) AllE.nil))
  case' ordA =>
    clear hHeld
    go_simp
    refine (HGT.out _ (HBA.out.trans (HF0.out.mono (by have := HSA.out; omega)))).mono ?_
    rintro _ w1 ⟨rfl, hb⟩
    have HB1 := Lib.hid (HF0.out.trans (hb.mono (Nat.le_refl _)))
    clear hb
    refine hK.out _ _ ⟨fun _ => (HRD.out _ HB1.out).1, fun _ => (HRD.out _ HB1.out).2, trivial⟩ (fun hHeld => ?_)
    clear hK K
    try simp only [List.getElem_toArray, List.getElem_cons_succ, List.getElem_cons_zero, Act.put, List.setIfInBounds_toArray, List.set_cons_zero, List.set_cons_succ]
    refine wpAnyE_take (i := 7) (v := ?_) rfl (by kernel_rfl) (by kernel_rfl) (by kernel_rfl) (by kernel_rfl) (fun _ _ _ h => h) (Or.inl ⟨by rfl, ?_⟩) hHeld (fun hHeld => ?_)
    rotate_left
    · (intro w hSw; (try dsimp only at hSw); (try simp only [List.getElem_toArray, List.getElem_cons_succ, List.getElem_cons_zero]); go_simp; try with_reducible rfl)
    try simp only [List.getElem_toArray, List.getElem_cons_succ, List.getElem_cons_zero, Act.put, List.setIfInBounds_toArray, List.set_cons_zero, List.set_cons_succ]
    refine wpAnyE_take (i := 8) (v := ?_) rfl (by kernel_rfl) (by kernel_rfl) (by kernel_rfl) (by kernel_rfl) (fun _ _ _ h => h) (Or.inl ⟨by rfl, ?_⟩) hHeld (fun hHeld => ?_)
    rotate_left
    · (intro w hSw; (try dsimp only at hSw); (try simp only [List.getElem_toArray, List.getElem_cons_succ, List.getElem_cons_zero]); go_simp; try with_reducible rfl)
    try simp only [List.getElem_toArray, List.getElem_cons_succ, List.getElem_cons_zero, Act.put, List.setIfInBounds_toArray, List.set_cons_zero, List.set_cons_succ]
    refine wpAnyE_take (i := 9) (v := ?_) rfl (by kernel_rfl) (by kernel_rfl) (by kernel_rfl) (by kernel_rfl) (fun _ _ _ h => h) (Or.inl ⟨by rfl, ?_⟩) hHeld (fun hHeld => ?_)
    rotate_left
    · (intro w hSw; (try dsimp only at hSw); (try simp only [List.getElem_toArray, List.getElem_cons_succ, List.getElem_cons_zero]); go_simp; try with_reducible rfl)
    try simp only [List.getElem_toArray, List.getElem_cons_succ, List.getElem_cons_zero, Act.put, List.setIfInBounds_toArray, List.set_cons_zero, List.set_cons_succ]
    refine wpAnyE_ready (rs := [10]) (by kernel_rfl) (by simp) (AllE.cons rfl (fun K hK => ?_) AllE.nil)
    clear hHeld
    go_simp
    refine hK.out _ _ ⟨fun _ => (HRD.out _ (HB1.out.alloc HB1.out.size _)).1, fun _ => (HRD.out _ (HB1.out.alloc HB1.out.size _)).2, trivial⟩ (fun hHeld => ?_)
    clear hK K
    try simp only [List.getElem_toArray, List.getElem_cons_succ, List.getElem_cons_zero, Act.put, List.setIfInBounds_toArray, List.set_cons_zero, List.set_cons_succ]
    refine wpAnyE_ready (rs := [11]) (by kernel_rfl) (by simp) (AllE.cons rfl (fun K hK => ?_) AllE.nil)
    clear hHeld
    go_simp
    refine hK.out _ _ ⟨(fun e => absurd e (Bool.eq_false_iff.1 (by kernel_rfl))), (fun e => absurd e (Bool.eq_false_iff.1 (by kernel_rfl))), trivial⟩ (fun hHeld => ?_)
    clear hK K
    try simp only [List.getElem_toArray, List.getElem_cons_succ, List.getElem_cons_zero, Act.put, List.setIfInBounds_toArray, List.set_cons_zero, List.set_cons_succ]
    refine wpAnyE_take (i := 12) (v := ?_) rfl (by kernel_rfl) (by kernel_rfl) (by kernel_rfl) (by kernel_rfl) (fun _ _ _ h => h) (Or.inl ⟨by rfl, ?_⟩) hHeld (fun hHeld => ?_)
    rotate_left
    · (intro w hSw; (try dsimp only at hSw); (try simp only [List.getElem_toArray, List.getElem_cons_succ, List.getElem_cons_zero]); go_simp; try with_reducible rfl)
    try simp only [List.getElem_toArray, List.getElem_cons_succ, List.getElem_cons_zero, Act.put, List.setIfInBounds_toArray, List.set_cons_zero, List.set_cons_succ]
    refine wpAnyE_done (by kernel_rfl) (only_normal ?_) _
    clear hHeld hWA
    obtain ⟨W1, hW1⟩ : ∃ W, w1.alloc (.cells #[.int .i64 x.1, .string x.2] 68) = W := ⟨_, rfl⟩
    have HBW := Lib.hid (show Below WA.heap.size WA W1 from hW1 ▸ HB1.out.alloc HB1.out.size _)
    obtain ⟨O, hO⟩ : ∃ O, w1.heap.size = O := ⟨_, rfl⟩
    have HY := Lib.hid (show Blk W1 O 68 #[.int .i64 x.1, .string x.2] from hO ▸ hW1 ▸ Blk.new w1 _ _)
    have hOw : w.heap.size < O := by have h1 := HB1.out.size; have h2 := HSA.out; omega
    rw [hW1, hO]
    clear hW1 hO HB1
  case' ordB =>
    clear hHeld
    go_simp
    have HB0 := Lib.hid (show Below WA.heap.size WA (WA.alloc (.cells #[.int .i64 0, .string ⟨#[]⟩] 68)).drew from ((Below.refl WA.heap.size WA).alloc (Nat.le_refl _) _).drew)
    refine hK.out _ _ ⟨fun _ => (HRD.out _ HB0.out).1, fun _ => (HRD.out _ HB0.out).2, trivial⟩ (fun hHeld => ?_)
    clear hK K
    try simp only [List.getElem_toArray, List.getElem_cons_succ, List.getElem_cons_zero, Act.put, List.setIfInBounds_toArray, List.set_cons_zero, List.set_cons_succ]
    refine wpAnyE_ready (rs := [6]) (by kernel_rfl) (by simp) (AllE.cons rfl (fun K hK => ?_) AllE.nil)
    clear hHeld
    go_simp
    refine (HGT.out _ (HBA.out.trans (HB0.out.mono (by have := HSA.out; omega)))).mono ?_
    rintro _ w1 ⟨rfl, hb⟩
    have HB1 := Lib.hid (HB0.out.trans (hb.mono HB0.out.size))
    have HYB := Lib.hid (show Blk w1 WA.heap.size 68 #[.int .i64 0, .string ⟨#[]⟩] from (Blk.new WA 68 #[.int .i64 0, .string ⟨#[]⟩]).drew.below hb (Blk.new WA 68 #[.int .i64 0, .string ⟨#[]⟩]).drew.lt)
    have y0 := HYB.out.cell 0
    have y1 := HYB.out.cell 1
    have z0 := HYB.out.frozen 0
    have z1 := HYB.out.frozen 1
    clear hb
    refine hK.out _ _ ⟨fun _ => (HRD.out _ HB1.out).1, fun _ => (HRD.out _ HB1.out).2, trivial⟩ (fun hHeld => ?_)
    clear hK K
    try simp only [List.getElem_toArray, List.getElem_cons_succ, List.getElem_cons_zero, Act.put, List.setIfInBounds_toArray, List.set_cons_zero, List.set_cons_succ]
    refine wpAnyE_take (i := 7) (v := ?_) rfl (by kernel_rfl) (by kernel_rfl) (by kernel_rfl) (by kernel_rfl) (fun _ _ _ h => h) (Or.inl ⟨by rfl, ?_⟩) hHeld (fun hHeld => ?_)
    rotate_left
    · (intro w hSw; (try dsimp only at hSw); (try simp only [List.getElem_toArray, List.getElem_cons_succ, List.getElem_cons_zero]); go_simp; try with_reducible rfl)
    try simp only [List.getElem_toArray, List.getElem_cons_succ, List.getElem_cons_zero, Act.put, List.setIfInBounds_toArray, List.set_cons_zero, List.set_cons_succ]
    refine wpAnyE_take (i := 8) (v := ?_) rfl (by kernel_rfl) (by kernel_rfl) (by kernel_rfl) (by kernel_rfl) (fun _ _ _ h => h) (Or.inl ⟨by rfl, ?_⟩) hHeld (fun hHeld => ?_)
    rotate_left
    · (intro w hSw; (try dsimp only at hSw); (try simp only [List.getElem_toArray, List.getElem_cons_succ, List.getElem_cons_zero]); go_simp; try with_reducible rfl)
    try simp only [List.getElem_toArray, List.getElem_cons_succ, List.getElem_cons_zero, Act.put, List.setIfInBounds_toArray, List.set_cons_zero, List.set_cons_succ]
    refine wpAnyE_take (i := 9) (v := ?_) rfl (by kernel_rfl) (by kernel_rfl) (by kernel_rfl) (by kernel_rfl) (fun _ _ _ h => h) (Or.inl ⟨by rfl, ?_⟩) hHeld (fun hHeld => ?_)
    rotate_left
    · (intro w hSw; (try dsimp only at hSw); (try simp only [List.getElem_toArray, List.getElem_cons_succ, List.getElem_cons_zero]); go_simp; try with_reducible rfl)
    try simp only [List.getElem_toArray, List.getElem_cons_succ, List.getElem_cons_zero, Act.put, List.setIfInBounds_toArray, List.set_cons_zero, List.set_cons_succ]
    refine wpAnyE_ready (rs := [11]) (by kernel_rfl) (by simp) (AllE.cons rfl (fun K hK => ?_) AllE.nil)
    clear hHeld
    go_simp
    refine hK.out _ _ ⟨(fun e => absurd e (Bool.eq_false_iff.1 (by kernel_rfl))), (fun e => absurd e (Bool.eq_false_iff.1 (by kernel_rfl))), trivial⟩ (fun hHeld => ?_)
    clear hK K
    try simp only [List.getElem_toArray, List.getElem_cons_succ, List.getElem_cons_zero, Act.put, List.setIfInBounds_toArray, List.set_cons_zero, List.set_cons_succ]
    refine wpAnyE_take (i := 12) (v := ?_) rfl (by kernel_rfl) (by kernel_rfl) (by kernel_rfl) (by kernel_rfl) (fun _ _ _ h => h) (Or.inl ⟨by rfl, ?_⟩) hHeld (fun hHeld => ?_)
    rotate_left
    · (intro w hSw; (try dsimp only at hSw); (try simp only [List.getElem_toArray, List.getElem_cons_succ, List.getElem_cons_zero]); go_simp; try with_reducible rfl)
    try simp only [List.getElem_toArray, List.getElem_cons_succ, List.getElem_cons_zero, Act.put, List.setIfInBounds_toArray, List.set_cons_zero, List.set_cons_succ]
    refine wpAnyE_done (by kernel_rfl) (only_normal ?_) _
    clear hHeld hWA y0 y1 z0 z1
    obtain ⟨W1, hW1⟩ : ∃ W, (w1.setCell ⟨WA.heap.size, 0, none⟩ (.int .i64 x.1)).setCell ⟨WA.heap.size, 1, none⟩ (.string x.2) = W := ⟨_, rfl⟩
    have HBW := Lib.hid (show Below WA.heap.size WA W1 from hW1 ▸ (HB1.out.setCell (p := ⟨WA.heap.size, 0, none⟩) (Nat.le_refl _) _).setCell (p := ⟨WA.heap.size, 1, none⟩) (Nat.le_refl _) _)
    obtain ⟨O, hO⟩ : ∃ O, WA.heap.size = O := ⟨_, rfl⟩
    have HY := Lib.hid (show Blk W1 O 68 #[.int .i64 x.1, .string x.2] from hO ▸ hW1 ▸ (HYB.out.set_ 0 (.int .i64 x.1)).set_ 1 (.string x.2))
    have hOw : w.heap.size < O := by have h2 := HSA.out; omega
    rw [hW1, hO]
    clear hW1 hO HB1 HB0 HYB
  all_goals
    have HBW0 := Lib.hid (show Below w.heap.size w W1 from HBA.out.trans (HBW.out.mono (by have := HSA.out; omega)))
    have HX1 := Lib.hid (HXA.out.below HBW.out HXA.out.lt)
    have HG1 := Lib.hid (HE1.out.below HBW0.out hgl)
    have HM1 := Lib.hid (HE2.out.below HBW0.out)
    have HR1 := Lib.hid (HE3.out.below HBW0.out)
    have HK1 := Lib.hid (show Kc CT B w W1 from Kc.of HBW0.out hB)
    have hsz1 : w.heap.size ≤ W1.heap.size := HBW0.out.size
    have HA1 := Lib.hid (show Ap w W1 B g m R w.heap.size O #[.pointer (some ⟨m, 0, none⟩), .pointer (some ⟨R, 0, none⟩), .int .i64 mo, .int .i64 (by0), .int .i64 la, .int .i64 ho] #[.bool false, .string uid, .string card, .int .i64 k, .int .i64 v] L F rg lm x from ⟨HG1.out, HM1.out, HR1.out, HX1.out, HY.out, HK1.out, e4, e5, hB⟩)
    clear HG1 HM1 HR1 HX1 HY HK1 HXA HBA HSA HF0 HRD HGT HBW HBW0 HE1 HE2 HE3
    have hlaD : decide (tok < la) = false := decide_eq_false (by omega)
    have hmoD : decide ((L.length : Int) ≥ mo) = true := decide_eq_true (by omega)
    have c4 := HA1.out.G.cell 4
    have c2 := HA1.out.G.cell 2
    have x0 := HA1.out.X.cell 0
    simp only [List.getElem?_toArray, List.getElem?_cons_zero, List.getElem?_cons_succ] at c4 c2 x0
    have HLN := Lib.hid (fun (n : Nat) => cl_len (show Cl (W1.drewN n) B g ⟨L, F, rg, mo, lm, la, ho, by0⟩ from ⟨m, R, (HA1.out.drewN n).G, (HA1.out.drewN n).M, (HA1.out.drewN n).R, e4, e5⟩))
    go_wp2_with fail
    go_quiet ((go_at_call 36; exact Calls.quiet_of_same (HLN.out _)))
    clear c4 c2 x0 HLN
    obtain ⟨W2, hW2⟩ : ∃ W, W1.drewN nq = W := ⟨_, rfl⟩
    have HA2 := Lib.hid (show Ap w W2 B g m R w.heap.size O #[.pointer (some ⟨m, 0, none⟩), .pointer (some ⟨R, 0, none⟩), .int .i64 mo, .int .i64 (by0), .int .i64 la, .int .i64 ho] #[.bool false, .string uid, .string card, .int .i64 k, .int .i64 v] L F rg lm x from hW2 ▸ HA1.out.drewN _)
    rw [hW2]
    clear hW2 HA1
    go_wp2
    go_ret
    exact ⟨rfl, ⟨m, R, HA2.out.G, HA2.out.M, HA2.out.R, e4, e5⟩, HA2.out.K⟩
end Go.Proofs.Ythcjbljkokflgaa
