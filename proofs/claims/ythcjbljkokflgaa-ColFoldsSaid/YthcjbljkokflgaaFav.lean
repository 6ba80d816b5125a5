/- Apply: ap_nf. -/
import Derived.Test.YthcjbljkokflgaaFap
set_option linter.unnecessarySimpa false
namespace Go.Proofs.Ythcjbljkokflgaa
open Go.RowKit
open Go.Lib
set_option linter.unusedVariables false
set_option linter.unusedSimpArgs false
set_option maxRecDepth 100000
set_option maxHeartbeats 16000000 in
theorem ap_nf {w : World} {B g : Nat} {c : Cs} (h : Cl w B g c) (hB : B ≤ w.heap.size) (hz : Cz c) (uid card : ByteArray) (k v tok : Int) (hcs : card.size ≤ 1000000) (hth : (getL uid c.L).isSome = false) (hla : ¬ tok < c.latest) (hmo : ¬ c.most ≤ (c.L.length : Int)) (hrm : ¬ (c.ring.length : Int) < c.lmost) :
    Calls Try.prog 16 #[.pointer (some ⟨g, 0, none⟩), .agg #[.bool false, .string uid, .string card, .int .i64 k, .int .i64 v], .int .i64 tok] w (ApP w B g (true, yesC c false uid card tok)) := by
  obtain ⟨L, F, rg, mo, lm, la, ho, by0⟩ := c
  obtain ⟨m, R, e1, e2, e3, e4, e5⟩ := h
  obtain ⟨z1, z2, z3, z4, z5, z6⟩ := hz
  simp only at e1 e2 e3 e4 e5 z1 z2 z3 z4 z5 z6
  have HE1 := Lib.hid e1
  have HE2 := Lib.hid e2
  have HE3 := Lib.hid e3
  have hgl := e1.lt
  have hml := e2.lt
  have c0 := e1.cell 0
  simp only [List.getElem?_toArray, List.getElem?_cons_zero, List.getElem?_cons_succ] at c0
  simp only at hth hla hrm hmo
  obtain ⟨y, hy⟩ : ∃ y, rg[F]? = some y := ⟨_, List.getElem?_eq_getElem (z3 hrm)⟩
  obtain ⟨G, hG⟩ : ∃ q, (F + 1) % rg.length = q := ⟨_, rfl⟩
  obtain ⟨x, hx⟩ : ∃ x, (getL uid L).getD (0, .empty) = x := ⟨_, rfl⟩
  have HXS := Lib.hid (show x.2.size ≤ 1000000 by
    rw [← hx]
    cases hg : getL uid L with
    | none => decide
    | some y => exact z6 uid y hg)
  have HYC := Lib.hid (show yesC ⟨L, F, rg, mo, lm, la, ho, by0⟩ false uid card tok = ⟨insL uid (tok, card) L, G, rg.set F (tok, uid), mo, lm, tok, max ho y.1, by0 - (x.2.size : Int) + (card.size : Int)⟩ by
    unfold yesC rpush oldS
    simp only [if_neg hrm, hx, if_true, if_false, Bool.false_eq_true]
    rw [hG, List.getD_eq_getElem?_getD, hy]; rfl)
  have HO : Hid (OC.ov (getL uid L) = .agg #[.int .i64 x.1, .string x.2]) := Lib.hid (by unfold OC.ov; rw [hx])
  have HGT := Lib.hid (fun (W : World) (hb : Below w.heap.size w W) => OC.om_get (e2.below hb) uid _ rfl)
  rw [HO.out, hth] at HGT
  obtain ⟨WA, hWA⟩ : ∃ W, w.alloc (.cells #[.bool false, .string uid, .string card, .int .i64 k, .int .i64 v] 33) = W := ⟨_, rfl⟩
  have HBA := Lib.hid (show Below w.heap.size w WA from hWA ▸ (Below.refl _ w).alloc (Nat.le_refl _) _)
  have HXA := Lib.hid (show Blk WA w.heap.size 33 #[.bool false, .string uid, .string card, .int .i64 k, .int .i64 v] from hWA ▸ Blk.new w _ _)
  have HSA := Lib.hid (show WA.heap.size = w.heap.size + 1 by rw [← hWA]; simp)
  have HOX := Lib.hid hx
  have HRD := Lib.hid (fun (W : World) (hb : Below WA.heap.size WA W) => (⟨((HE1.out.below HBA.out hgl).below hb (HE1.out.below HBA.out hgl).lt).cell 0, (HXA.out.below hb HXA.out.lt).cell 1⟩ : W.cell? ⟨g, 0, none⟩ = some (.pointer (some ⟨m, 0, none⟩)) ∧ W.cell? ⟨w.heap.size, 1, none⟩ = some (.string uid)))
  have HF0 := Lib.hid ((Below.refl WA.heap.size WA).drew)
  clear hx HO e1 e2 e3 z6 c0
  go_enter Try.func16, Try.ntmps16
  go_wp2_with fail
  try rw [hWA]
  refine wp_region_E [([11], fun w' => w'.cell? ⟨g, 0, none⟩ = some (.pointer (some ⟨m, 0, none⟩))), ([11], fun w' => w'.cell? ⟨w.heap.size, 1, none⟩ = some (.string uid))] (by kernel_rfl) ⟨fun _ => (HRD.out _ HF0.out).1, fun _ => (HRD.out _ HF0.out).2, trivial⟩ (fun hHeld => ?_)
  refine wpAnyE_take (i := 0) (v := ?_) rfl (by kernel_rfl) (by kernel_rfl) (by kernel_rfl) (by kernel_rfl) (fun _ _ _ h => h) (Or.inl ⟨by rfl, ?_⟩) hHeld (fun hHeld => ?_)
  rotate_left
  · (intro w hSw; (try dsimp only at hSw); (try simp only [List.getElem_toArray, List.getElem_cons_succ, List.getElem_cons_zero]); go_simp; try with_reducible rfl)
  try simp only [List.getElem_toArray, List.getElem_cons_succ, List.getElem_cons_zero, Act.put, List.setIfInBounds_toArray, List.set_cons_zero, List.set_cons_succ]
  refine wpAnyE_take (i := 1) (v := ?_) rfl (by kernel_rfl) (by kernel_rfl) (by kernel_rfl) (by kernel_rfl) (fun _ _ _ h => h) (Or.inl ⟨by rfl, ?_⟩) hHeld (fun hHeld => ?_)
  rotate_left
  · (intro w hSw; (try dsimp only at hSw); (try simp only [List.getElem_toArray, List.getElem_cons_succ, List.getElem_cons_zero]); go_simp; try with_reducible rfl)
  try simp only [List.getElem_toArray, List.getElem_cons_succ, List.getElem_cons_zero, Act.put, List.setIfInBounds_toArray, List.set_cons_zero, List.set_cons_succ]
  refine wpAnyE_take (i := 2) (v := ?_) rfl (by kernel_rfl) (by kernel_rfl) (by kernel_rfl) (by kernel_rfl) (fun _ _ _ h => h) (Or.inl ⟨by rfl, ?_⟩) hHeld (fun hHeld => ?_)
  rotate_left
  · (intro w hSw; (try dsimp only at hSw); (try simp only [List.getElem_toArray, List.getElem_cons_succ, List.getElem_cons_zero]); go_simp; try with_reducible rfl)
  try simp only [List.getElem_toArray, List.getElem_cons_succ, List.getElem_cons_zero, Act.put, List.setIfInBounds_toArray, List.set_cons_zero, List.set_cons_succ]
  refine wpAnyE_load (i := 3) _ _ (v := ?_) rfl (by kernel_rfl) List.mem_cons_self (by kernel_rfl) (by kernel_rfl) (by kernel_rfl) (by kernel_rfl) (fun _ _ _ h => h) (Or.inl ⟨by rfl, ?_⟩) hHeld (fun hHeld => ?_)
  rotate_left
  · (intro w hSw; (try dsimp only at hSw); (try simp only [List.getElem_toArray, List.getElem_cons_succ, List.getElem_cons_zero]); go_simp; try with_reducible rfl)
  try simp only [List.getElem_toArray, List.getElem_cons_succ, List.getElem_cons_zero, Act.put, List.setIfInBounds_toArray, List.set_cons_zero, List.set_cons_succ]
  refine wpAnyE_take (i := 4) (v := ?_) rfl (by kernel_rfl) (by kernel_rfl) (by kernel_rfl) (by kernel_rfl) (fun _ _ _ h => h) (Or.inl ⟨by rfl, ?_⟩) hHeld (fun hHeld => ?_)
  rotate_left
  · (intro w hSw; (try dsimp only at hSw); (try simp only [List.getElem_toArray, List.getElem_cons_succ, List.getElem_cons_zero]); go_simp; try with_reducible rfl)
  try simp only [List.getElem_toArray, List.getElem_cons_succ, List.getElem_cons_zero, Act.put, List.setIfInBounds_toArray, List.set_cons_zero, List.set_cons_succ]
  refine wpAnyE_load (i := 5) _ _ (v := ?_) rfl (by kernel_rfl) (List.mem_cons_of_mem _ List.mem_cons_self) (by kernel_rfl) (by kernel_rfl) (by kernel_rfl) (by kernel_rfl) (fun _ _ _ h => h) (Or.inl ⟨by rfl, ?_⟩) hHeld (fun hHeld => ?_)
  rotate_left
  · (intro w hSw; (try dsimp only at hSw); (try simp only [List.getElem_toArray, List.getElem_cons_succ, List.getElem_cons_zero]); go_simp; try with_reducible rfl)
  try simp only [List.getElem_toArray, List.getElem_cons_succ, List.getElem_cons_zero, Act.put, List.setIfInBounds_toArray, List.set_cons_zero, List.set_cons_succ]
  refine wpAnyE_ready (rs := [6, 10]) (by kernel_rfl) (by simp) (AllE.cons rfl (fun K hK => ?ordA) (AllE.cons rfl (fun K hK => ?ordB) AllE.nil))
  case' ordA =>
    clear hHeld
    go_simp
    refine (HGT.out _ (HBA.out.trans (HF0.out.mono (by have := HSA.out; omega)))).mono ?_
    rintro _ w1 ⟨rfl, hb⟩
    have HB1 := Lib.hid (HF0.out.trans (hb.mono (Nat.le_refl _)))
    clear hb
    refine hK.out _ _ ⟨fun _ => (HRD.out _ HB1.out).1, fun _ => (HRD.out _ HB1.out).2, trivial⟩ (fun hHeld => ?_)
    clear hK K
    try simp only [List.getElem_toArray, List.getElem_cons_succ, List.getElem_cons_zero, Act.put, List.setIfInBounds_toArray, List.set_cons_zero, List.set_cons_succ]
    refine wpAnyE_take (i := 7) (v := ?_) rfl (by kernel_rfl) (by kernel_rfl) (by kernel_rfl) (by kernel_rfl) (fun _ _ _ h => h) (Or.inl ⟨by rfl, ?_⟩) hHeld (fun hHeld => ?_)
    rotate_left
    · (intro w hSw; (try dsimp only at hSw); (try simp only [List.getElem_toArray, List.getElem_cons_succ, List.getElem_cons_zero]); go_simp; try with_reducible rfl)
    try simp only [List.getElem_toArray, List.getElem_cons_succ, List.getElem_cons_zero, Act.put, List.setIfInBounds_toArray, List.set_cons_zero, List.set_cons_succ]
    refine wpAnyE_take (i := 8) (v := ?_) rfl (by kernel_rfl) (by kernel_rfl) (by kernel_rfl) (by kernel_rfl) (fun _ _ _ h => h) (Or.inl ⟨by rfl, ?_⟩) hHeld (fun hHeld => ?_)
    rotate_left
    · (intro w hSw; (try dsimp only at hSw); (try simp only [List.getElem_toArray, List.getElem_cons_succ, List.getElem_cons_zero]); go_simp; try with_reducible rfl)
    try simp only [List.getElem_toArray, List.getElem_cons_succ, List.getElem_cons_zero, Act.put, List.setIfInBounds_toArray, List.set_cons_zero, List.set_cons_succ]
    refine wpAnyE_take (i := 9) (v := ?_) rfl (by kernel_rfl) (by kernel_rfl) (by kernel_rfl) (by kernel_rfl) (fun _ _ _ h => h) (Or.inl ⟨by rfl, ?_⟩) hHeld (fun hHeld => ?_)
    rotate_left
    · (intro w hSw; (try dsimp only at hSw); (try simp only [List.getElem_toArray, List.getElem_cons_succ, List.getElem_cons_zero]); go_simp; try with_reducible rfl)
    try simp only [List.getElem_toArray, List.getElem_cons_succ, List.getElem_cons_zero, Act.put, List.setIfInBounds_toArray, List.set_cons_zero, List.set_cons_succ]
    refine wpAnyE_ready (rs := [10]) (by kernel_rfl) (by simp) (AllE.cons rfl (fun K hK => ?_) AllE.nil)
    clear hHeld
    go_simp
    refine hK.out _ _ ⟨fun _ => (HRD.out _ (HB1.out.alloc HB1.out.size _)).1, fun _ => (HRD.out _ (HB1.out.alloc HB1.out.size _)).2, trivial⟩ (fun hHeld => ?_)
    clear hK K
    try simp only [List.getElem_toArray, List.getElem_cons_succ, List.getElem_cons_zero, Act.put, List.setIfInBounds_toArray, List.set_cons_zero, List.set_cons_succ]
    refine wpAnyE_ready (rs := [11]) (by kernel_rfl) (by simp) (AllE.cons rfl (fun K hK => ?_) AllE.nil)
    clear hHeld
    go_simp
    refine hK.out _ _ ⟨(fun e => absurd e (Bool.eq_false_iff.1 (by kernel_rfl))), (fun e => absurd e (Bool.eq_false_iff.1 (by kernel_rfl))), trivial⟩ (fun hHeld => ?_)
    clear hK K
    try simp only [List.getElem_toArray, List.getElem_cons_succ, List.getElem_cons_zero, Act.put, List.setIfInBounds_toArray, List.set_cons_zero, List.set_cons_succ]
    refine wpAnyE_take (i := 12) (v := ?_) rfl (by kernel_rfl) (by kernel_rfl) (by kernel_rfl) (by kernel_rfl) (fun _ _ _ h => h) (Or.inl ⟨by rfl, ?_⟩) hHeld (fun hHeld => ?_)
    rotate_left
    · (intro w hSw; (try dsimp only at hSw); (try simp only [List.getElem_toArray, List.getElem_cons_succ, List.getElem_cons_zero]); go_simp; try with_reducible rfl)
    try simp only [List.getElem_toArray, List.getElem_cons_succ, List.getElem_cons_zero, Act.put, List.setIfInBounds_toArray, List.set_cons_zero, List.set_cons_succ]
    refine wpAnyE_done (by kernel_rfl) (only_normal ?_) _
    clear hHeld hWA
    obtain ⟨W1, hW1⟩ : ∃ W, w1.alloc (.cells #[.int .i64 x.1, .string x.2] 68) = W := ⟨_, rfl⟩
    have HBW := Lib.hid (show Below WA.heap.size WA W1 from hW1 ▸ HB1.out.alloc HB1.out.size _)
    obtain ⟨O, hO⟩ : ∃ O, w1.heap.size = O := ⟨_, rfl⟩
    have HY := Lib.hid (show Blk W1 O 68 #[.int .i64 x.1, .string x.2] from hO ▸ hW1 ▸ Blk.new w1 _ _)
    have hOw : w.heap.size < O := by have h1 := HB1.out.size; have h2 := HSA.out; omega
    rw [hW1, hO]
    clear hW1 hO HB1
  case' ordB =>
    clear hHeld
    go_simp
    have HB0 := Lib.hid (show Below WA.heap.size WA (WA.alloc (.cells #[.int .i64 0, .string ⟨#[]⟩] 68)).drew from ((Below.refl WA.heap.size WA).alloc (Nat.le_refl _) _).drew)
    refine hK.out _ _ ⟨fun _ => (HRD.out _ HB0.out).1, fun _ => (HRD.out _ HB0.out).2, trivial⟩ (fun hHeld => ?_)
    clear hK K
    try simp only [List.getElem_toArray, List.getElem_cons_succ, List.getElem_cons_zero, Act.put, List.setIfInBounds_toArray, List.set_cons_zero, List.set_cons_succ]
    refine wpAnyE_ready (rs := [6]) (by kernel_rfl) (by simp) (AllE.cons rfl (fun K hK => ?_) AllE.nil)
    clear hHeld
    go_simp
    refine (HGT.out _ (HBA.out.trans (HB0.out.mono (by have := HSA.out; omega)))).mono ?_
    rintro _ w1 ⟨rfl, hb⟩
    have HB1 := Lib.hid (HB0.out.trans (hb.mono HB0.out.size))
    have HYB := Lib.hid (show Blk w1 WA.heap.size 68 #[.int .i64 0, .string ⟨#[]⟩] from (Blk.new WA 68 #[.int .i64 0, .string ⟨#[]⟩]).drew.below hb (Blk.new WA 68 #[.int .i64 0, .string ⟨#[]⟩]).drew.lt)
    have y0 := HYB.out.cell 0
    have y1 := HYB.out.cell 1
    have z0 := HYB.out.frozen 0
    have z1 := HYB.out.frozen 1
    clear hb
    refine hK.out _ _ ⟨fun _ => (HRD.out _ HB1.out).1, fun _ => (HRD.out _ HB1.out).2, trivial⟩ (fun hHeld => ?_)
    clear hK K
    try simp only [List.getElem_toArray, List.getElem_cons_succ, List.getElem_cons_zero, Act.put, List.setIfInBounds_toArray, List.set_cons_zero, List.set_cons_succ]
    refine wpAnyE_take (i := 7) (v := ?_) rfl (by kernel_rfl) (by kernel_rfl) (by kernel_rfl) (by kernel_rfl) (fun _ _ _ h => h) (Or.inl ⟨by rfl, ?_⟩) hHeld (fun hHeld => ?_)
    rotate_left
    · (intro w hSw; (try dsimp only at hSw); (try simp only [List.getElem_toArray, List.getElem_cons_succ, List.getElem_cons_zero]); go_simp; try with_reducible rfl)
    try simp only [List.getElem_toArray, List.getElem_cons_succ, List.getElem_cons_zero, Act.put, List.setIfInBounds_toArray, List.set_cons_zero, List.set_cons_succ]
    refine wpAnyE_take (i := 8) (v := ?_) rfl (by kernel_rfl) (by kernel_rfl) (by kernel_rfl) (by kernel_rfl) (fun _ _ _ h => h) (Or.inl ⟨by rfl, ?_⟩) hHeld (fun hHeld => ?_)
    rotate_left
    · (intro w hSw; (try dsimp only at hSw); (try simp only [List.getElem_toArray, List.getElem_cons_succ, List.getElem_cons_zero]); go_simp; try with_reducible rfl)
    try simp only [List.getElem_toArray, List.getElem_cons_succ, List.getElem_cons_zero, Act.put, List.setIfInBounds_toArray, List.set_cons_zero, List.set_cons_succ]
    refine wpAnyE_take (i := 9) (v := ?_) rfl (by kernel_rfl) (by kernel_rfl) (by kernel_rfl) (by kernel_rfl) (fun _ _ _ h => h) (Or.inl ⟨by rfl, ?_⟩) hHeld (fun hHeld => ?_)
    rotate_left
    · (intro w hSw; (try dsimp only at hSw); (try simp only [List.getElem_toArray, List.getElem_cons_succ, List.getElem_cons_zero]); go_simp; try with_reducible rfl)
    try simp only [List.getElem_toArray, List.getElem_cons_succ, List.getElem_cons_zero, Act.put, List.setIfInBounds_toArray, List.set_cons_zero, List.set_cons_succ]
    refine wpAnyE_ready (rs := [11]) (by kernel_rfl) (by simp) (AllE.cons rfl (fun K hK => ?_) AllE.nil)
    clear hHeld
    go_simp
    refine hK.out _ _ ⟨(fun e => absurd e (Bool.eq_false_iff.1 (by kernel_rfl))), (fun e => absurd e (Bool.eq_false_iff.1 (by kernel_rfl))), trivial⟩ (fun hHeld => ?_)
    clear hK K
    try simp only [List.getElem_toArray, List.getElem_cons_succ, List.getElem_cons_zero, Act.put, List.setIfInBounds_toArray, List.set_cons_zero, List.set_cons_succ]
    refine wpAnyE_take (i := 12) (v := ?_) rfl (by kernel_rfl) (by kernel_rfl) (by kernel_rfl) (by kernel_rfl) (fun _ _ _ h => h) (Or.inl ⟨by rfl, ?_⟩) hHeld (fun hHeld => ?_)
    rotate_left
    · (intro w hSw; (try dsimp only at hSw); (try simp only [List.getElem_toArray, List.getElem_cons_succ, List.getElem_cons_zero]); go_simp; try with_reducible rfl)
    try simp only [List.getElem_toArray, List.getElem_cons_succ, List.getElem_cons_zero, Act.put, List.setIfInBounds_toArray, List.set_cons_zero, List.set_cons_succ]
    refine wpAnyE_done (by kernel_rfl) (only_normal ?_) _
    clear hHeld hWA y0 y1 z0 z1
    obtain ⟨W1, hW1⟩ : ∃ W, (w1.setCell ⟨WA.heap.size, 0, none⟩ (.int .i64 x.1)).setCell ⟨WA.heap.size, 1, none⟩ (.string x.2) = W := ⟨_, rfl⟩
    have HBW := Lib.hid (show Below WA.heap.size WA W1 from hW1 ▸ (HB1.out.setCell (p := ⟨WA.heap.size, 0, none⟩) (Nat.le_refl _) _).setCell (p := ⟨WA.heap.size, 1, none⟩) (Nat.le_refl _) _)
    obtain ⟨O, hO⟩ : ∃ O, WA.heap.size = O := ⟨_, rfl⟩
    have HY := Lib.hid (show Blk W1 O 68 #[.int .i64 x.1, .string x.2] from hO ▸ hW1 ▸ (HYB.out.set_ 0 (.int .i64 x.1)).set_ 1 (.string x.2))
    have hOw : w.heap.size < O := by have h2 := HSA.out; omega
    rw [hW1, hO]
    clear hW1 hO HB1 HB0 HYB
  all_goals
    have HBW0 := Lib.hid (show Below w.heap.size w W1 from HBA.out.trans (HBW.out.mono (by have := HSA.out; omega)))
    have HX1 := Lib.hid (HXA.out.below HBW.out HXA.out.lt)
    have HG1 := Lib.hid (HE1.out.below HBW0.out hgl)
    have HM1 := Lib.hid (HE2.out.below HBW0.out)
    have HR1 := Lib.hid (HE3.out.below HBW0.out)
    have HK1 := Lib.hid (show Kc CT B w W1 from Kc.of HBW0.out hB)
    have hsz1 : w.heap.size ≤ W1.heap.size := HBW0.out.size
    have HA1 := Lib.hid (show Ap w W1 B g m R w.heap.size O #[.pointer (some ⟨m, 0, none⟩), .pointer (some ⟨R, 0, none⟩), .int .i64 mo, .int .i64 (by0), .int .i64 la, .int .i64 ho] #[.bool false, .string uid, .string card, .int .i64 k, .int .i64 v] L F rg lm x from ⟨HG1.out, HM1.out, HR1.out, HX1.out, HY.out, HK1.out, e4, e5, hB⟩)
    clear HG1 HM1 HR1 HX1 HY HK1 HXA HBA HSA HF0 HRD HGT HBW HBW0 HE1 HE2 HE3
    have hmoD : decide ((L.length : Int) ≥ mo) = false := decide_eq_false (by omega)
    have hmoE : (L.length : Int) < mo := by omega
    have hlaD : decide (tok < la) = false := decide_eq_false (by omega)
    have c4 := HA1.out.G.cell 4
    have c2 := HA1.out.G.cell 2
    have x0 := HA1.out.X.cell 0
    simp only [List.getElem?_toArray, List.getElem?_cons_zero, List.getElem?_cons_succ] at c4 c2 x0
    have HLN := Lib.hid (fun (n : Nat) => cl_len (show Cl (W1.drewN n) B g ⟨L, F, rg, mo, lm, la, ho, by0⟩ from ⟨m, R, (HA1.out.drewN n).G, (HA1.out.drewN n).M, (HA1.out.drewN n).R, e4, e5⟩))
    go_wp2_with fail
    go_quiet ((go_at_call 36; exact Calls.quiet_of_same (HLN.out _)))
    clear c4 c2 x0 HLN
    obtain ⟨W2, hW2⟩ : ∃ W, W1.drewN nq = W := ⟨_, rfl⟩
    have HA2 := Lib.hid (show Ap w W2 B g m R w.heap.size O #[.pointer (some ⟨m, 0, none⟩), .pointer (some ⟨R, 0, none⟩), .int .i64 mo, .int .i64 (by0), .int .i64 la, .int .i64 ho] #[.bool false, .string uid, .string card, .int .i64 k, .int .i64 v] L F rg lm x from hW2 ▸ HA1.out.drewN _)
    rw [hW2]
    clear hW2 HA1
    have hbz : IntKind.i64.wrap (by0 - (x.2.size : Int)) = by0 - (x.2.size : Int) := IntWalk.i64_in _ (by have := HXS.out; omega)
    go_wp2_with fail
    have y0 := HA2.out.drew.G.cell 3
    have z0 := HA2.out.drew.G.frozen 3
    have yy0 := HA2.out.G.cell 3
    have zz0 := HA2.out.G.frozen 3
    simp only [List.getElem?_toArray, List.getElem?_cons_zero, List.getElem?_cons_succ] at y0 yy0
    have HH := Lib.hid (show W2.drew.cell? ⟨g, 3, none⟩ = some (.int .i64 by0) ∧ W2.drew.cell? ⟨O, 1, none⟩ = some (.string x.2) from ⟨HA2.out.drew.G.cell 3, HA2.out.drew.Y.cell 1⟩)
    refine wp_region_E [([10], fun w' => w'.cell? ⟨g, 3, none⟩ = some (.int .i64 (by0))), ([10], fun w' => w'.cell? ⟨O, 1, none⟩ = some (.string x.2))] (by kernel_rfl) ⟨fun _ => HH.out.1, fun _ => HH.out.2, trivial⟩ (fun hHeld => ?_)
    refine wpAnyE_take (i := 0) (v := ?_) rfl (by kernel_rfl) (by kernel_rfl) (by kernel_rfl) (by kernel_rfl) (fun _ _ _ h => h) (Or.inl ⟨by rfl, ?_⟩) hHeld (fun hHeld => ?_)
    rotate_left
    · (intro w hSw; (try dsimp only at hSw); (try simp only [List.getElem_toArray, List.getElem_cons_succ, List.getElem_cons_zero]); go_simp; try with_reducible rfl)
    try simp only [List.getElem_toArray, List.getElem_cons_succ, List.getElem_cons_zero, Act.put, List.setIfInBounds_toArray, List.set_cons_zero, List.set_cons_succ]
    refine wpAnyE_take (i := 1) (v := ?_) rfl (by kernel_rfl) (by kernel_rfl) (by kernel_rfl) (by kernel_rfl) (fun _ _ _ h => h) (Or.inl ⟨by rfl, ?_⟩) hHeld (fun hHeld => ?_)
    rotate_left
    · (intro w hSw; (try dsimp only at hSw); (try simp only [List.getElem_toArray, List.getElem_cons_succ, List.getElem_cons_zero]); go_simp; try with_reducible rfl)
    try simp only [List.getElem_toArray, List.getElem_cons_succ, List.getElem_cons_zero, Act.put, List.setIfInBounds_toArray, List.set_cons_zero, List.set_cons_succ]
    refine wpAnyE_take (i := 2) (v := ?_) rfl (by kernel_rfl) (by kernel_rfl) (by kernel_rfl) (by kernel_rfl) (fun _ _ _ h => h) (Or.inl ⟨by rfl, ?_⟩) hHeld (fun hHeld => ?_)
    rotate_left
    · (intro w hSw; (try dsimp only at hSw); (try simp only [List.getElem_toArray, List.getElem_cons_succ, List.getElem_cons_zero]); go_simp; try with_reducible rfl)
    try simp only [List.getElem_toArray, List.getElem_cons_succ, List.getElem_cons_zero, Act.put, List.setIfInBounds_toArray, List.set_cons_zero, List.set_cons_succ]
    refine wpAnyE_load (i := 3) _ _ (v := ?_) rfl (by kernel_rfl) List.mem_cons_self (by kernel_rfl) (by kernel_rfl) (by kernel_rfl) (by kernel_rfl) (fun _ _ _ h => h) (Or.inl ⟨by rfl, ?_⟩) hHeld (fun hHeld => ?_)
    rotate_left
    · (intro w hSw; (try dsimp only at hSw); (try simp only [List.getElem_toArray, List.getElem_cons_succ, List.getElem_cons_zero]); go_simp; try with_reducible rfl)
    try simp only [List.getElem_toArray, List.getElem_cons_succ, List.getElem_cons_zero, Act.put, List.setIfInBounds_toArray, List.set_cons_zero, List.set_cons_succ]
    refine wpAnyE_take (i := 4) (v := ?_) rfl (by kernel_rfl) (by kernel_rfl) (by kernel_rfl) (by kernel_rfl) (fun _ _ _ h => h) (Or.inl ⟨by rfl, ?_⟩) hHeld (fun hHeld => ?_)
    rotate_left
    · (intro w hSw; (try dsimp only at hSw); (try simp only [List.getElem_toArray, List.getElem_cons_succ, List.getElem_cons_zero]); go_simp; try with_reducible rfl)
    try simp only [List.getElem_toArray, List.getElem_cons_succ, List.getElem_cons_zero, Act.put, List.setIfInBounds_toArray, List.set_cons_zero, List.set_cons_succ]
    refine wpAnyE_load (i := 5) _ _ (v := ?_) rfl (by kernel_rfl) (List.mem_cons_of_mem _ List.mem_cons_self) (by kernel_rfl) (by kernel_rfl) (by kernel_rfl) (by kernel_rfl) (fun _ _ _ h => h) (Or.inl ⟨by rfl, ?_⟩) hHeld (fun hHeld => ?_)
    rotate_left
    · (intro w hSw; (try dsimp only at hSw); (try simp only [List.getElem_toArray, List.getElem_cons_succ, List.getElem_cons_zero]); go_simp; try with_reducible rfl)
    try simp only [List.getElem_toArray, List.getElem_cons_succ, List.getElem_cons_zero, Act.put, List.setIfInBounds_toArray, List.set_cons_zero, List.set_cons_succ]
    refine wpAnyE_take (i := 6) (v := ?_) rfl (by kernel_rfl) (by kernel_rfl) (by kernel_rfl) (by kernel_rfl) (fun _ _ _ h => h) (Or.inl ⟨by rfl, ?_⟩) hHeld (fun hHeld => ?_)
    rotate_left
    · (intro w hSw; (try dsimp only at hSw); (try simp only [List.getElem_toArray, List.getElem_cons_succ, List.getElem_cons_zero]); go_simp; try with_reducible rfl)
    try simp only [List.getElem_toArray, List.getElem_cons_succ, List.getElem_cons_zero, Act.put, List.setIfInBounds_toArray, List.set_cons_zero, List.set_cons_succ]
    refine wpAnyE_take (i := 7) (v := ?_) rfl (by kernel_rfl) (by kernel_rfl) (by kernel_rfl) (by kernel_rfl) (fun _ _ _ h => h) (Or.inl ⟨by rfl, ?_⟩) hHeld (fun hHeld => ?_)
    rotate_left
    · (intro w hSw; (try dsimp only at hSw); (try simp only [List.getElem_toArray, List.getElem_cons_succ, List.getElem_cons_zero]); go_simp; try with_reducible rfl)
    try simp only [List.getElem_toArray, List.getElem_cons_succ, List.getElem_cons_zero, Act.put, List.setIfInBounds_toArray, List.set_cons_zero, List.set_cons_succ]
    refine wpAnyE_take (i := 8) (v := ?_) rfl (by kernel_rfl) (by kernel_rfl) (by kernel_rfl) (by kernel_rfl) (fun _ _ _ h => h) (Or.inl ⟨by rfl, ?_⟩) hHeld (fun hHeld => ?_)
    rotate_left
    · (intro w hSw; (try dsimp only at hSw); (try simp only [List.getElem_toArray, List.getElem_cons_succ, List.getElem_cons_zero]); go_simp; try with_reducible rfl)
    try simp only [List.getElem_toArray, List.getElem_cons_succ, List.getElem_cons_zero, Act.put, List.setIfInBounds_toArray, List.set_cons_zero, List.set_cons_succ]
    refine wpAnyE_take (i := 9) (v := ?_) rfl (by kernel_rfl) (by kernel_rfl) (by kernel_rfl) (by kernel_rfl) (fun _ _ _ h => h) (Or.inl ⟨by rfl, ?_⟩) hHeld (fun hHeld => ?_)
    rotate_left
    · (intro w hSw; (try dsimp only at hSw); (try simp only [List.getElem_toArray, List.getElem_cons_succ, List.getElem_cons_zero]); go_simp; try with_reducible rfl)
    try simp only [List.getElem_toArray, List.getElem_cons_succ, List.getElem_cons_zero, Act.put, List.setIfInBounds_toArray, List.set_cons_zero, List.set_cons_succ]
    refine wpAnyE_ready (rs := [10]) (by kernel_rfl) (by simp) (AllE.cons rfl (fun K hK => ?_) AllE.nil)
    clear hHeld
    go_simp
    refine hK.out _ _ ⟨(fun e => absurd e (Bool.eq_false_iff.1 (by kernel_rfl))), (fun e => absurd e (Bool.eq_false_iff.1 (by kernel_rfl))), trivial⟩ (fun hHeld => ?_)
    clear hK K
    try simp only [List.getElem_toArray, List.getElem_cons_succ, List.getElem_cons_zero, Act.put, List.setIfInBounds_toArray, List.set_cons_zero, List.set_cons_succ]
    refine wpAnyE_done (by kernel_rfl) (only_normal ?_) _
    clear hHeld HH y0 z0 yy0 zz0
    obtain ⟨W3, hW3⟩ : ∃ W, (W2.setCell ⟨g, 3, none⟩ (.int .i64 (by0 - (x.2.size : Int)))).drew = W := ⟨_, rfl⟩
    have HA3 := Lib.hid (show Ap w W3 B g m R w.heap.size O #[.pointer (some ⟨m, 0, none⟩), .pointer (some ⟨R, 0, none⟩), .int .i64 mo, .int .i64 (by0 - (x.2.size : Int)), .int .i64 la, .int .i64 ho] #[.bool false, .string uid, .string card, .int .i64 k, .int .i64 v] L F rg lm x from hW3 ▸ (HA2.out.set 3 (.int .i64 (by0 - (x.2.size : Int)))).drew)
    try rw [hW3]
    clear hW3 HA2
    obtain ⟨by1, hby1⟩ : ∃ q, by0 - (x.2.size : Int) = q := ⟨_, rfl⟩
    rw [hby1] at HA3
    have HBY := Lib.hid hby1
    have hb1a : -1000001000000 ≤ by1 := by have := HXS.out; omega
    have hb1b : by1 ≤ 1000000000000 := by have := HXS.out; omega
    clear hbz hby1
    have x0 := HA3.out.X.cell 0
    simp only [List.getElem?_toArray, List.getElem?_cons_zero, List.getElem?_cons_succ] at x0
    go_wp2_with fail
    clear x0
    have HDL := Lib.hid (fun (W : World) (hM : OC.Om W m L) => OC.om_put hM z1 uid (tok, card) _ hth)
    have HH := Lib.hid (show W3.drew.cell? ⟨g, 0, none⟩ = some (.pointer (some ⟨m, 0, none⟩)) ∧ W3.drew.cell? ⟨w.heap.size, 1, none⟩ = some (.string uid) ∧ W3.drew.cell? ⟨w.heap.size, 2, none⟩ = some (.string card) from ⟨HA3.out.drew.G.cell 0, HA3.out.drew.X.cell 1, HA3.out.drew.X.cell 2⟩)
    refine wp_region_E [([10], fun w' => w'.cell? ⟨g, 0, none⟩ = some (.pointer (some ⟨m, 0, none⟩))), ([10], fun w' => w'.cell? ⟨w.heap.size, 1, none⟩ = some (.string uid)), ([], fun w' => w'.cell? ⟨w.heap.size, 2, none⟩ = some (.string card))] (by kernel_rfl) ⟨fun _ => HH.out.1, fun _ => HH.out.2.1, fun _ => HH.out.2.2, trivial⟩ (fun hHeld => ?_)
    refine wpAnyE_take (i := 0) (v := ?_) rfl (by kernel_rfl) (by kernel_rfl) (by kernel_rfl) (by kernel_rfl) (fun _ _ _ h => h) (Or.inl ⟨by rfl, ?_⟩) hHeld (fun hHeld => ?_)
    rotate_left
    · (intro w hSw; (try dsimp only at hSw); (try simp only [List.getElem_toArray, List.getElem_cons_succ, List.getElem_cons_zero]); go_simp; try with_reducible rfl)
    try simp only [List.getElem_toArray, List.getElem_cons_succ, List.getElem_cons_zero, Act.put, List.setIfInBounds_toArray, List.set_cons_zero, List.set_cons_succ]
    refine wpAnyE_take (i := 1) (v := ?_) rfl (by kernel_rfl) (by kernel_rfl) (by kernel_rfl) (by kernel_rfl) (fun _ _ _ h => h) (Or.inl ⟨by rfl, ?_⟩) hHeld (fun hHeld => ?_)
    rotate_left
    · (intro w hSw; (try dsimp only at hSw); (try simp only [List.getElem_toArray, List.getElem_cons_succ, List.getElem_cons_zero]); go_simp; try with_reducible rfl)
    try simp only [List.getElem_toArray, List.getElem_cons_succ, List.getElem_cons_zero, Act.put, List.setIfInBounds_toArray, List.set_cons_zero, List.set_cons_succ]
    refine wpAnyE_take (i := 2) (v := ?_) rfl (by kernel_rfl) (by kernel_rfl) (by kernel_rfl) (by kernel_rfl) (fun _ _ _ h => h) (Or.inl ⟨by rfl, ?_⟩) hHeld (fun hHeld => ?_)
    rotate_left
    · (intro w hSw; (try dsimp only at hSw); (try simp only [List.getElem_toArray, List.getElem_cons_succ, List.getElem_cons_zero]); go_simp; try with_reducible rfl)
    try simp only [List.getElem_toArray, List.getElem_cons_succ, List.getElem_cons_zero, Act.put, List.setIfInBounds_toArray, List.set_cons_zero, List.set_cons_succ]
    refine wpAnyE_load (i := 3) _ _ (v := ?_) rfl (by kernel_rfl) List.mem_cons_self (by kernel_rfl) (by kernel_rfl) (by kernel_rfl) (by kernel_rfl) (fun _ _ _ h => h) (Or.inl ⟨by rfl, ?_⟩) hHeld (fun hHeld => ?_)
    rotate_left
    · (intro w hSw; (try dsimp only at hSw); (try simp only [List.getElem_toArray, List.getElem_cons_succ, List.getElem_cons_zero]); go_simp; try with_reducible rfl)
    try simp only [List.getElem_toArray, List.getElem_cons_succ, List.getElem_cons_zero, Act.put, List.setIfInBounds_toArray, List.set_cons_zero, List.set_cons_succ]
    refine wpAnyE_take (i := 4) (v := ?_) rfl (by kernel_rfl) (by kernel_rfl) (by kernel_rfl) (by kernel_rfl) (fun _ _ _ h => h) (Or.inl ⟨by rfl, ?_⟩) hHeld (fun hHeld => ?_)
    rotate_left
    · (intro w hSw; (try dsimp only at hSw); (try simp only [List.getElem_toArray, List.getElem_cons_succ, List.getElem_cons_zero]); go_simp; try with_reducible rfl)
    try simp only [List.getElem_toArray, List.getElem_cons_succ, List.getElem_cons_zero, Act.put, List.setIfInBounds_toArray, List.set_cons_zero, List.set_cons_succ]
    refine wpAnyE_load (i := 5) _ _ (v := ?_) rfl (by kernel_rfl) (List.mem_cons_of_mem _ List.mem_cons_self) (by kernel_rfl) (by kernel_rfl) (by kernel_rfl) (by kernel_rfl) (fun _ _ _ h => h) (Or.inl ⟨by rfl, ?_⟩) hHeld (fun hHeld => ?_)
    rotate_left
    · (intro w hSw; (try dsimp only at hSw); (try simp only [List.getElem_toArray, List.getElem_cons_succ, List.getElem_cons_zero]); go_simp; try with_reducible rfl)
    try simp only [List.getElem_toArray, List.getElem_cons_succ, List.getElem_cons_zero, Act.put, List.setIfInBounds_toArray, List.set_cons_zero, List.set_cons_succ]
    refine wpAnyE_take (i := 6) (v := ?_) rfl (by kernel_rfl) (by kernel_rfl) (by kernel_rfl) (by kernel_rfl) (fun _ _ _ h => h) (Or.inl ⟨by rfl, ?_⟩) hHeld (fun hHeld => ?_)
    rotate_left
    · (intro w hSw; (try dsimp only at hSw); (try simp only [List.getElem_toArray, List.getElem_cons_succ, List.getElem_cons_zero]); go_simp; try with_reducible rfl)
    try simp only [List.getElem_toArray, List.getElem_cons_succ, List.getElem_cons_zero, Act.put, List.setIfInBounds_toArray, List.set_cons_zero, List.set_cons_succ]
    refine wpAnyE_take (i := 7) (v := ?_) rfl (by kernel_rfl) (by kernel_rfl) (by kernel_rfl) (by kernel_rfl) (fun _ _ _ h => h) (Or.inl ⟨by rfl, ?_⟩) hHeld (fun hHeld => ?_)
    rotate_left
    · (intro w hSw; (try dsimp only at hSw); (try simp only [List.getElem_toArray, List.getElem_cons_succ, List.getElem_cons_zero]); go_simp; try with_reducible rfl)
    try simp only [List.getElem_toArray, List.getElem_cons_succ, List.getElem_cons_zero, Act.put, List.setIfInBounds_toArray, List.set_cons_zero, List.set_cons_succ]
    refine wpAnyE_load (i := 8) _ _ (v := ?_) rfl (by kernel_rfl) (List.mem_cons_of_mem _ (List.mem_cons_of_mem _ List.mem_cons_self)) (by kernel_rfl) (by kernel_rfl) (by kernel_rfl) (by kernel_rfl) (fun _ _ _ h => h) (Or.inl ⟨by rfl, ?_⟩) hHeld (fun hHeld => ?_)
    rotate_left
    · (intro w hSw; (try dsimp only at hSw); (try simp only [List.getElem_toArray, List.getElem_cons_succ, List.getElem_cons_zero]); go_simp; try with_reducible rfl)
    try simp only [List.getElem_toArray, List.getElem_cons_succ, List.getElem_cons_zero, Act.put, List.setIfInBounds_toArray, List.set_cons_zero, List.set_cons_succ]
    refine wpAnyE_take (i := 9) (v := ?_) rfl (by kernel_rfl) (by kernel_rfl) (by kernel_rfl) (by kernel_rfl) (fun _ _ _ h => h) (Or.inl ⟨by rfl, ?_⟩) hHeld (fun hHeld => ?_)
    rotate_left
    · (intro w hSw; (try dsimp only at hSw); (try simp only [List.getElem_toArray, List.getElem_cons_succ, List.getElem_cons_zero]); go_simp; try with_reducible rfl)
    try simp only [List.getElem_toArray, List.getElem_cons_succ, List.getElem_cons_zero, Act.put, List.setIfInBounds_toArray, List.set_cons_zero, List.set_cons_succ]
    refine wpAnyE_ready (rs := [10]) (by kernel_rfl) (by simp) (AllE.cons rfl (fun K hK => ?_) AllE.nil)
    clear hHeld
    go_simp
    refine (HDL.out _ HA3.out.drew.M).mono ?_
    rintro _ W5 ⟨rfl, hM, hko⟩
    have HA5 := Lib.hid (show Ap w W5 B g m R w.heap.size O #[.pointer (some ⟨m, 0, none⟩), .pointer (some ⟨R, 0, none⟩), .int .i64 mo, .int .i64 (by1), .int .i64 la, .int .i64 ho] #[.bool false, .string uid, .string card, .int .i64 k, .int .i64 v] (insL uid (tok, card) L) F rg lm x from HA3.out.drew.map hM hko)
    clear hM hko
    refine hK.out _ _ ⟨(fun e => absurd e (Bool.eq_false_iff.1 (by kernel_rfl))), (fun e => absurd e (Bool.eq_false_iff.1 (by kernel_rfl))), fun _ => HA5.out.X.cell 2, trivial⟩ (fun hHeld => ?_)
    clear hK K
    try simp only [List.getElem_toArray, List.getElem_cons_succ, List.getElem_cons_zero, Act.put, List.setIfInBounds_toArray, List.set_cons_zero, List.set_cons_succ]
    refine wpAnyE_done (by kernel_rfl) (only_normal ?_) _
    clear hHeld HH HDL HA3
    have hbz : IntKind.i64.wrap (by1 + (card.size : Int)) = by1 + (card.size : Int) := IntWalk.i64_in _ (by omega)
    go_wp2_with fail
    have y0 := HA5.out.drew.G.cell 3
    have z0 := HA5.out.drew.G.frozen 3
    have yy0 := HA5.out.G.cell 3
    have zz0 := HA5.out.G.frozen 3
    simp only [List.getElem?_toArray, List.getElem?_cons_zero, List.getElem?_cons_succ] at y0 yy0
    have HH := Lib.hid (show W5.drew.cell? ⟨g, 3, none⟩ = some (.int .i64 by1) ∧ W5.drew.cell? ⟨w.heap.size, 2, none⟩ = some (.string card) from ⟨HA5.out.drew.G.cell 3, HA5.out.drew.X.cell 2⟩)
    refine wp_region_E [([10], fun w' => w'.cell? ⟨g, 3, none⟩ = some (.int .i64 (by1))), ([10], fun w' => w'.cell? ⟨w.heap.size, 2, none⟩ = some (.string card))] (by kernel_rfl) ⟨fun _ => HH.out.1, fun _ => HH.out.2, trivial⟩ (fun hHeld => ?_)
    refine wpAnyE_take (i := 0) (v := ?_) rfl (by kernel_rfl) (by kernel_rfl) (by kernel_rfl) (by kernel_rfl) (fun _ _ _ h => h) (Or.inl ⟨by rfl, ?_⟩) hHeld (fun hHeld => ?_)
    rotate_left
    · (intro w hSw; (try dsimp only at hSw); (try simp only [List.getElem_toArray, List.getElem_cons_succ, List.getElem_cons_zero]); go_simp; try with_reducible rfl)
    try simp only [List.getElem_toArray, List.getElem_cons_succ, List.getElem_cons_zero, Act.put, List.setIfInBounds_toArray, List.set_cons_zero, List.set_cons_succ]
    refine wpAnyE_take (i := 1) (v := ?_) rfl (by kernel_rfl) (by kernel_rfl) (by kernel_rfl) (by kernel_rfl) (fun _ _ _ h => h) (Or.inl ⟨by rfl, ?_⟩) hHeld (fun hHeld => ?_)
    rotate_left
    · (intro w hSw; (try dsimp only at hSw); (try simp only [List.getElem_toArray, List.getElem_cons_succ, List.getElem_cons_zero]); go_simp; try with_reducible rfl)
    try simp only [List.getElem_toArray, List.getElem_cons_succ, List.getElem_cons_zero, Act.put, List.setIfInBounds_toArray, List.set_cons_zero, List.set_cons_succ]
    refine wpAnyE_take (i := 2) (v := ?_) rfl (by kernel_rfl) (by kernel_rfl) (by kernel_rfl) (by kernel_rfl) (fun _ _ _ h => h) (Or.inl ⟨by rfl, ?_⟩) hHeld (fun hHeld => ?_)
    rotate_left
    · (intro w hSw; (try dsimp only at hSw); (try simp only [List.getElem_toArray, List.getElem_cons_succ, List.getElem_cons_zero]); go_simp; try with_reducible rfl)
    try simp only [List.getElem_toArray, List.getElem_cons_succ, List.getElem_cons_zero, Act.put, List.setIfInBounds_toArray, List.set_cons_zero, List.set_cons_succ]
    refine wpAnyE_load (i := 3) _ _ (v := ?_) rfl (by kernel_rfl) List.mem_cons_self (by kernel_rfl) (by kernel_rfl) (by kernel_rfl) (by kernel_rfl) (fun _ _ _ h => h) (Or.inl ⟨by rfl, ?_⟩) hHeld (fun hHeld => ?_)
    rotate_left
    · (intro w hSw; (try dsimp only at hSw); (try simp only [List.getElem_toArray, List.getElem_cons_succ, List.getElem_cons_zero]); go_simp; try with_reducible rfl)
    try simp only [List.getElem_toArray, List.getElem_cons_succ, List.getElem_cons_zero, Act.put, List.setIfInBounds_toArray, List.set_cons_zero, List.set_cons_succ]
    refine wpAnyE_take (i := 4) (v := ?_) rfl (by kernel_rfl) (by kernel_rfl) (by kernel_rfl) (by kernel_rfl) (fun _ _ _ h => h) (Or.inl ⟨by rfl, ?_⟩) hHeld (fun hHeld => ?_)
    rotate_left
    · (intro w hSw; (try dsimp only at hSw); (try simp only [List.getElem_toArray, List.getElem_cons_succ, List.getElem_cons_zero]); go_simp; try with_reducible rfl)
    try simp only [List.getElem_toArray, List.getElem_cons_succ, List.getElem_cons_zero, Act.put, List.setIfInBounds_toArray, List.set_cons_zero, List.set_cons_succ]
    refine wpAnyE_load (i := 5) _ _ (v := ?_) rfl (by kernel_rfl) (List.mem_cons_of_mem _ List.mem_cons_self) (by kernel_rfl) (by kernel_rfl) (by kernel_rfl) (by kernel_rfl) (fun _ _ _ h => h) (Or.inl ⟨by rfl, ?_⟩) hHeld (fun hHeld => ?_)
    rotate_left
    · (intro w hSw; (try dsimp only at hSw); (try simp only [List.getElem_toArray, List.getElem_cons_succ, List.getElem_cons_zero]); go_simp; try with_reducible rfl)
    try simp only [List.getElem_toArray, List.getElem_cons_succ, List.getElem_cons_zero, Act.put, List.setIfInBounds_toArray, List.set_cons_zero, List.set_cons_succ]
    refine wpAnyE_take (i := 6) (v := ?_) rfl (by kernel_rfl) (by kernel_rfl) (by kernel_rfl) (by kernel_rfl) (fun _ _ _ h => h) (Or.inl ⟨by rfl, ?_⟩) hHeld (fun hHeld => ?_)
    rotate_left
    · (intro w hSw; (try dsimp only at hSw); (try simp only [List.getElem_toArray, List.getElem_cons_succ, List.getElem_cons_zero]); go_simp; try with_reducible rfl)
    try simp only [List.getElem_toArray, List.getElem_cons_succ, List.getElem_cons_zero, Act.put, List.setIfInBounds_toArray, List.set_cons_zero, List.set_cons_succ]
    refine wpAnyE_take (i := 7) (v := ?_) rfl (by kernel_rfl) (by kernel_rfl) (by kernel_rfl) (by kernel_rfl) (fun _ _ _ h => h) (Or.inl ⟨by rfl, ?_⟩) hHeld (fun hHeld => ?_)
    rotate_left
    · (intro w hSw; (try dsimp only at hSw); (try simp only [List.getElem_toArray, List.getElem_cons_succ, List.getElem_cons_zero]); go_simp; try with_reducible rfl)
    try simp only [List.getElem_toArray, List.getElem_cons_succ, List.getElem_cons_zero, Act.put, List.setIfInBounds_toArray, List.set_cons_zero, List.set_cons_succ]
    refine wpAnyE_take (i := 8) (v := ?_) rfl (by kernel_rfl) (by kernel_rfl) (by kernel_rfl) (by kernel_rfl) (fun _ _ _ h => h) (Or.inl ⟨by rfl, ?_⟩) hHeld (fun hHeld => ?_)
    rotate_left
    · (intro w hSw; (try dsimp only at hSw); (try simp only [List.getElem_toArray, List.getElem_cons_succ, List.getElem_cons_zero]); go_simp; try with_reducible rfl)
    try simp only [List.getElem_toArray, List.getElem_cons_succ, List.getElem_cons_zero, Act.put, List.setIfInBounds_toArray, List.set_cons_zero, List.set_cons_succ]
    refine wpAnyE_take (i := 9) (v := ?_) rfl (by kernel_rfl) (by kernel_rfl) (by kernel_rfl) (by kernel_rfl) (fun _ _ _ h => h) (Or.inl ⟨by rfl, ?_⟩) hHeld (fun hHeld => ?_)
    rotate_left
    · (intro w hSw; (try dsimp only at hSw); (try simp only [List.getElem_toArray, List.getElem_cons_succ, List.getElem_cons_zero]); go_simp; try with_reducible rfl)
    try simp only [List.getElem_toArray, List.getElem_cons_succ, List.getElem_cons_zero, Act.put, List.setIfInBounds_toArray, List.set_cons_zero, List.set_cons_succ]
    refine wpAnyE_ready (rs := [10]) (by kernel_rfl) (by simp) (AllE.cons rfl (fun K hK => ?_) AllE.nil)
    clear hHeld
    go_simp
    refine hK.out _ _ ⟨(fun e => absurd e (Bool.eq_false_iff.1 (by kernel_rfl))), (fun e => absurd e (Bool.eq_false_iff.1 (by kernel_rfl))), trivial⟩ (fun hHeld => ?_)
    clear hK K
    try simp only [List.getElem_toArray, List.getElem_cons_succ, List.getElem_cons_zero, Act.put, List.setIfInBounds_toArray, List.set_cons_zero, List.set_cons_succ]
    refine wpAnyE_done (by kernel_rfl) (only_normal ?_) _
    clear hHeld HH y0 z0 yy0 zz0
    obtain ⟨W6, hW6⟩ : ∃ W, (W5.setCell ⟨g, 3, none⟩ (.int .i64 (by1 + (card.size : Int)))).drew = W := ⟨_, rfl⟩
    have HA6 := Lib.hid (show Ap w W6 B g m R w.heap.size O #[.pointer (some ⟨m, 0, none⟩), .pointer (some ⟨R, 0, none⟩), .int .i64 mo, .int .i64 (by1 + (card.size : Int)), .int .i64 la, .int .i64 ho] #[.bool false, .string uid, .string card, .int .i64 k, .int .i64 v] (insL uid (tok, card) L) F rg lm x from hW6 ▸ (HA5.out.set 3 (.int .i64 (by1 + (card.size : Int)))).drew)
    try rw [hW6]
    clear hW6 HA5
    go_wp2_with fail
    have HPU := Lib.hid (fun (W : World) (N : Nat) (hR : RgN W B R lm F rg N) (hb : B ≤ W.heap.size) => push_full hR rfl (by omega) z2 (z3 (by omega)) hb (tok, uid) y hy G hG)
    have HH := Lib.hid (fun (W : World) (hb : Below W6.heap.size W6 W) => (⟨((HA6.out.on hb).G.cell 1), (HA6.out.on hb).X.cell 1⟩ : W.cell? ⟨g, 1, none⟩ = some (.pointer (some ⟨R, 0, none⟩)) ∧ W.cell? ⟨w.heap.size, 1, none⟩ = some (.string uid)))
    have HF0 := Lib.hid ((Below.refl W6.heap.size W6).drew)
    refine wp_region_E [([8], fun w' => w'.cell? ⟨g, 1, none⟩ = some (.pointer (some ⟨R, 0, none⟩))), ([], fun w' => w'.cell? ⟨w.heap.size, 1, none⟩ = some (.string uid))] (by kernel_rfl) ⟨fun _ => (HH.out _ HF0.out).1, fun _ => (HH.out _ HF0.out).2, trivial⟩ (fun hHeld => ?_)
    refine wpAnyE_take (i := 0) (v := ?_) rfl (by kernel_rfl) (by kernel_rfl) (by kernel_rfl) (by kernel_rfl) (fun _ _ _ h => h) (Or.inl ⟨by rfl, ?_⟩) hHeld (fun hHeld => ?_)
    rotate_left
    · (intro w hSw; (try dsimp only at hSw); (try simp only [List.getElem_toArray, List.getElem_cons_succ, List.getElem_cons_zero]); go_simp; try with_reducible rfl)
    try simp only [List.getElem_toArray, List.getElem_cons_succ, List.getElem_cons_zero, Act.put, List.setIfInBounds_toArray, List.set_cons_zero, List.set_cons_succ]
    refine wpAnyE_take (i := 1) (v := ?_) rfl (by kernel_rfl) (by kernel_rfl) (by kernel_rfl) (by kernel_rfl) (fun _ _ _ h => h) (Or.inl ⟨by rfl, ?_⟩) hHeld (fun hHeld => ?_)
    rotate_left
    · (intro w hSw; (try dsimp only at hSw); (try simp only [List.getElem_toArray, List.getElem_cons_succ, List.getElem_cons_zero]); go_simp; try with_reducible rfl)
    try simp only [List.getElem_toArray, List.getElem_cons_succ, List.getElem_cons_zero, Act.put, List.setIfInBounds_toArray, List.set_cons_zero, List.set_cons_succ]
    refine wpAnyE_take (i := 2) (v := ?_) rfl (by kernel_rfl) (by kernel_rfl) (by kernel_rfl) (by kernel_rfl) (fun _ _ _ h => h) (Or.inl ⟨by rfl, ?_⟩) hHeld (fun hHeld => ?_)
    rotate_left
    · (intro w hSw; (try dsimp only at hSw); (try simp only [List.getElem_toArray, List.getElem_cons_succ, List.getElem_cons_zero]); go_simp; try with_reducible rfl)
    try simp only [List.getElem_toArray, List.getElem_cons_succ, List.getElem_cons_zero, Act.put, List.setIfInBounds_toArray, List.set_cons_zero, List.set_cons_succ]
    refine wpAnyE_load (i := 3) _ _ (v := ?_) rfl (by kernel_rfl) List.mem_cons_self (by kernel_rfl) (by kernel_rfl) (by kernel_rfl) (by kernel_rfl) (fun _ _ _ h => h) (Or.inl ⟨by rfl, ?_⟩) hHeld (fun hHeld => ?_)
    rotate_left
    · (intro w hSw; (try dsimp only at hSw); (try simp only [List.getElem_toArray, List.getElem_cons_succ, List.getElem_cons_zero]); go_simp; try with_reducible rfl)
    try simp only [List.getElem_toArray, List.getElem_cons_succ, List.getElem_cons_zero, Act.put, List.setIfInBounds_toArray, List.set_cons_zero, List.set_cons_succ]
    refine wpAnyE_take (i := 4) (v := ?_) rfl (by kernel_rfl) (by kernel_rfl) (by kernel_rfl) (by kernel_rfl) (fun _ _ _ h => h) (Or.inl ⟨by rfl, ?_⟩) hHeld (fun hHeld => ?_)
    rotate_left
    · (intro w hSw; (try dsimp only at hSw); (try simp only [List.getElem_toArray, List.getElem_cons_succ, List.getElem_cons_zero]); go_simp; try with_reducible rfl)
    try simp only [List.getElem_toArray, List.getElem_cons_succ, List.getElem_cons_zero, Act.put, List.setIfInBounds_toArray, List.set_cons_zero, List.set_cons_succ]
    refine wpAnyE_take (i := 5) (v := ?_) rfl (by kernel_rfl) (by kernel_rfl) (by kernel_rfl) (by kernel_rfl) (fun _ _ _ h => h) (Or.inl ⟨by rfl, ?_⟩) hHeld (fun hHeld => ?_)
    rotate_left
    · (intro w hSw; (try dsimp only at hSw); (try simp only [List.getElem_toArray, List.getElem_cons_succ, List.getElem_cons_zero]); go_simp; try with_reducible rfl)
    try simp only [List.getElem_toArray, List.getElem_cons_succ, List.getElem_cons_zero, Act.put, List.setIfInBounds_toArray, List.set_cons_zero, List.set_cons_succ]
    refine wpAnyE_load (i := 6) _ _ (v := ?_) rfl (by kernel_rfl) (List.mem_cons_of_mem _ List.mem_cons_self) (by kernel_rfl) (by kernel_rfl) (by kernel_rfl) (by kernel_rfl) (fun _ _ _ h => h) (Or.inl ⟨by rfl, ?_⟩) hHeld (fun hHeld => ?_)
    rotate_left
    · (intro w hSw; (try dsimp only at hSw); (try simp only [List.getElem_toArray, List.getElem_cons_succ, List.getElem_cons_zero]); go_simp; try with_reducible rfl)
    try simp only [List.getElem_toArray, List.getElem_cons_succ, List.getElem_cons_zero, Act.put, List.setIfInBounds_toArray, List.set_cons_zero, List.set_cons_succ]
    refine wpAnyE_take (i := 7) (v := ?_) rfl (by kernel_rfl) (by kernel_rfl) (by kernel_rfl) (by kernel_rfl) (fun _ _ _ h => h) (Or.inl ⟨by rfl, ?_⟩) hHeld (fun hHeld => ?_)
    rotate_left
    · (intro w hSw; (try dsimp only at hSw); (try simp only [List.getElem_toArray, List.getElem_cons_succ, List.getElem_cons_zero]); go_simp; try with_reducible rfl)
    try simp only [List.getElem_toArray, List.getElem_cons_succ, List.getElem_cons_zero, Act.put, List.setIfInBounds_toArray, List.set_cons_zero, List.set_cons_succ]
    refine wpAnyE_ready (rs := [8, 12]) (by kernel_rfl) (by simp) (AllE.cons rfl (fun K hK => ?_) (AllE.cons rfl (fun K hK => ?_) AllE.nil))
    all_goals first
      | (
        clear hHeld
        go_simp
        refine (HPU.out _ _ HA6.out.drew.R.n HA6.out.drew.sz).mono ?_
        rintro _ w3 ⟨rfl, hR3, hk3, -⟩
        have HAX := Lib.hid (show Ap w w3 B g m R w.heap.size O #[.pointer (some ⟨m, 0, none⟩), .pointer (some ⟨R, 0, none⟩), .int .i64 mo, .int .i64 ((by1 + (card.size : Int))), .int .i64 la, .int .i64 ho] #[.bool false, .string uid, .string card, .int .i64 k, .int .i64 v] (insL uid (tok, card) L) G (rg.set F (tok, uid)) lm x from HA6.out.drew.ring hR3.rg hk3)
        clear hR3 hk3
        refine hK.out _ _ ⟨(fun e => absurd e (Bool.eq_false_iff.1 (by kernel_rfl))), fun _ => HAX.out.X.cell 1, trivial⟩ (fun hHeld => ?_)
        clear hK K
        try simp only [List.getElem_toArray, List.getElem_cons_succ, List.getElem_cons_zero, Act.put, List.setIfInBounds_toArray, List.set_cons_zero, List.set_cons_succ]
        refine wpAnyE_take (i := 9) (v := ?_) rfl (by kernel_rfl) (by kernel_rfl) (by kernel_rfl) (by kernel_rfl) (fun _ _ _ h => h) (Or.inl ⟨by rfl, ?_⟩) hHeld (fun hHeld => ?_)
        rotate_left
        · (intro w hSw; (try dsimp only at hSw); (try simp only [List.getElem_toArray, List.getElem_cons_succ, List.getElem_cons_zero]); go_simp; try with_reducible rfl)
        try simp only [List.getElem_toArray, List.getElem_cons_succ, List.getElem_cons_zero, Act.put, List.setIfInBounds_toArray, List.set_cons_zero, List.set_cons_succ]
        refine wpAnyE_take (i := 10) (v := ?_) rfl (by kernel_rfl) (by kernel_rfl) (by kernel_rfl) (by kernel_rfl) (fun _ _ _ h => h) (Or.inl ⟨by rfl, ?_⟩) hHeld (fun hHeld => ?_)
        rotate_left
        · (intro w hSw; (try dsimp only at hSw); (try simp only [List.getElem_toArray, List.getElem_cons_succ, List.getElem_cons_zero]); go_simp; try with_reducible rfl)
        try simp only [List.getElem_toArray, List.getElem_cons_succ, List.getElem_cons_zero, Act.put, List.setIfInBounds_toArray, List.set_cons_zero, List.set_cons_succ]
        refine wpAnyE_take (i := 11) (v := ?_) rfl (by kernel_rfl) (by kernel_rfl) (by kernel_rfl) (by kernel_rfl) (fun _ _ _ h => h) (Or.inl ⟨by rfl, ?_⟩) hHeld (fun hHeld => ?_)
        rotate_left
        · (intro w hSw; (try dsimp only at hSw); (try simp only [List.getElem_toArray, List.getElem_cons_succ, List.getElem_cons_zero]); go_simp; try with_reducible rfl)
        try simp only [List.getElem_toArray, List.getElem_cons_succ, List.getElem_cons_zero, Act.put, List.setIfInBounds_toArray, List.set_cons_zero, List.set_cons_succ]
        refine wpAnyE_ready (rs := [12]) (by kernel_rfl) (by simp) (AllE.cons rfl (fun K hK => ?_) AllE.nil)
        clear hHeld
        go_simp
        refine hK.out _ _ ⟨(fun e => absurd e (Bool.eq_false_iff.1 (by kernel_rfl))), fun _ => (HAX.out.X.alloc _).cell 1, trivial⟩ (fun hHeld => ?_)
        clear hK K
        try simp only [List.getElem_toArray, List.getElem_cons_succ, List.getElem_cons_zero, Act.put, List.setIfInBounds_toArray, List.set_cons_zero, List.set_cons_succ]
        refine wpAnyE_ready (rs := [13]) (by kernel_rfl) (by simp) (AllE.cons rfl (fun K hK => ?_) AllE.nil)
        clear hHeld
        go_simp
        refine hK.out _ _ ⟨(fun e => absurd e (Bool.eq_false_iff.1 (by kernel_rfl))), fun _ => (HAX.out.X.alloc _).cell 1, trivial⟩ (fun hHeld => ?_)
        clear hK K
        try simp only [List.getElem_toArray, List.getElem_cons_succ, List.getElem_cons_zero, Act.put, List.setIfInBounds_toArray, List.set_cons_zero, List.set_cons_succ]
        refine wpAnyE_take (i := 14) (v := ?_) rfl (by kernel_rfl) (by kernel_rfl) (by kernel_rfl) (by kernel_rfl) (fun _ _ _ h => h) (Or.inl ⟨by rfl, ?_⟩) hHeld (fun hHeld => ?_)
        rotate_left
        · (intro w hSw; (try dsimp only at hSw); (try simp only [List.getElem_toArray, List.getElem_cons_succ, List.getElem_cons_zero]); go_simp; try with_reducible rfl)
        try simp only [List.getElem_toArray, List.getElem_cons_succ, List.getElem_cons_zero, Act.put, List.setIfInBounds_toArray, List.set_cons_zero, List.set_cons_succ]
        refine wpAnyE_done (by kernel_rfl) (only_normal ?_) _
        clear hHeld
        obtain ⟨W9, hW9⟩ : ∃ W, w3.alloc (.cells #[.int .i64 y.1, .string y.2] 72) = W := ⟨_, rfl⟩
        obtain ⟨O2, hO2⟩ : ∃ q, w3.heap.size = q := ⟨_, rfl⟩
        have HA9 := Lib.hid (show Ap w W9 B g m R w.heap.size O #[.pointer (some ⟨m, 0, none⟩), .pointer (some ⟨R, 0, none⟩), .int .i64 mo, .int .i64 ((by1 + (card.size : Int))), .int .i64 la, .int .i64 ho] #[.bool false, .string uid, .string card, .int .i64 k, .int .i64 v] (insL uid (tok, card) L) G (rg.set F (tok, uid)) lm x from hW9 ▸ HAX.out.on ((Below.refl _ _).alloc (Nat.le_refl _) _))
        have HY9 := Lib.hid (show Blk W9 O2 72 #[.int .i64 y.1, .string y.2] from hO2 ▸ hW9 ▸ Blk.new w3 _ _)
        rw [hW9, hO2]
        clear hW9 hO2 HAX)
      | (
        clear hHeld
        go_simp
        have HB0 := Lib.hid (show Below W6.heap.size W6 (W6.alloc (.cells #[.int .i64 0, .string ⟨#[]⟩] 72)).drew from ((Below.refl _ W6).alloc (Nat.le_refl _) _).drew)
        have HYN := Lib.hid (show Blk (W6.alloc (.cells #[.int .i64 0, .string ⟨#[]⟩] 72)).drew W6.heap.size 72 #[.int .i64 0, .string ⟨#[]⟩] from (Blk.new W6 _ _).drew)
        refine hK.out _ _ ⟨fun _ => (HH.out _ HB0.out).1, fun _ => (HH.out _ HB0.out).2, trivial⟩ (fun hHeld => ?_)
        clear hK K
        try simp only [List.getElem_toArray, List.getElem_cons_succ, List.getElem_cons_zero, Act.put, List.setIfInBounds_toArray, List.set_cons_zero, List.set_cons_succ]
        refine wpAnyE_ready (rs := [8]) (by kernel_rfl) (by simp) (AllE.cons rfl (fun K hK => ?_) AllE.nil)
        clear hHeld
        go_simp
        refine (HPU.out _ W6.heap.size ((HA6.out.R.n).below HB0.out) (HA6.out.on HB0.out).sz).mono ?_
        rintro _ w3 ⟨rfl, hR3, hk3, hhi⟩
        have HAX := Lib.hid (show Ap w w3 B g m R w.heap.size O #[.pointer (some ⟨m, 0, none⟩), .pointer (some ⟨R, 0, none⟩), .int .i64 mo, .int .i64 ((by1 + (card.size : Int))), .int .i64 la, .int .i64 ho] #[.bool false, .string uid, .string card, .int .i64 k, .int .i64 v] (insL uid (tok, card) L) G (rg.set F (tok, uid)) lm x from (HA6.out.on HB0.out).ring hR3.rg hk3)
        have HRM := Lib.hid hR3
        have HYX := Lib.hid (show Blk w3 W6.heap.size 72 #[.int .i64 0, .string ⟨#[]⟩] from (hhi _ (Nat.le_refl _) HYN.out.lt (fun e => by have := (rg_lt HA6.out.R); omega)).trans HYN.out)
        have y0 := HYX.out.cell 0
        have y1 := HYX.out.cell 1
        have q0 := HYX.out.frozen 0
        have q1 := HYX.out.frozen 1
        clear hR3 hk3 hhi
        refine hK.out _ _ ⟨(fun e => absurd e (Bool.eq_false_iff.1 (by kernel_rfl))), fun _ => HAX.out.X.cell 1, trivial⟩ (fun hHeld => ?_)
        clear hK K
        try simp only [List.getElem_toArray, List.getElem_cons_succ, List.getElem_cons_zero, Act.put, List.setIfInBounds_toArray, List.set_cons_zero, List.set_cons_succ]
        refine wpAnyE_take (i := 9) (v := ?_) rfl (by kernel_rfl) (by kernel_rfl) (by kernel_rfl) (by kernel_rfl) (fun _ _ _ h => h) (Or.inl ⟨by rfl, ?_⟩) hHeld (fun hHeld => ?_)
        rotate_left
        · (intro w hSw; (try dsimp only at hSw); (try simp only [List.getElem_toArray, List.getElem_cons_succ, List.getElem_cons_zero]); go_simp; try with_reducible rfl)
        try simp only [List.getElem_toArray, List.getElem_cons_succ, List.getElem_cons_zero, Act.put, List.setIfInBounds_toArray, List.set_cons_zero, List.set_cons_succ]
        refine wpAnyE_take (i := 10) (v := ?_) rfl (by kernel_rfl) (by kernel_rfl) (by kernel_rfl) (by kernel_rfl) (fun _ _ _ h => h) (Or.inl ⟨by rfl, ?_⟩) hHeld (fun hHeld => ?_)
        rotate_left
        · (intro w hSw; (try dsimp only at hSw); (try simp only [List.getElem_toArray, List.getElem_cons_succ, List.getElem_cons_zero]); go_simp; try with_reducible rfl)
        try simp only [List.getElem_toArray, List.getElem_cons_succ, List.getElem_cons_zero, Act.put, List.setIfInBounds_toArray, List.set_cons_zero, List.set_cons_succ]
        refine wpAnyE_take (i := 11) (v := ?_) rfl (by kernel_rfl) (by kernel_rfl) (by kernel_rfl) (by kernel_rfl) (fun _ _ _ h => h) (Or.inl ⟨by rfl, ?_⟩) hHeld (fun hHeld => ?_)
        rotate_left
        · (intro w hSw; (try dsimp only at hSw); (try simp only [List.getElem_toArray, List.getElem_cons_succ, List.getElem_cons_zero]); go_simp; try with_reducible rfl)
        try simp only [List.getElem_toArray, List.getElem_cons_succ, List.getElem_cons_zero, Act.put, List.setIfInBounds_toArray, List.set_cons_zero, List.set_cons_succ]
        refine wpAnyE_ready (rs := [13]) (by kernel_rfl) (by simp) (AllE.cons rfl (fun K hK => ?_) AllE.nil)
        clear hHeld
        go_simp
        refine hK.out _ _ ⟨(fun e => absurd e (Bool.eq_false_iff.1 (by kernel_rfl))), fun _ => ((HAX.out.X.far (p := ⟨W6.heap.size, 0, none⟩) (by have := HA6.out.X.lt; show w.heap.size ≠ W6.heap.size; omega) _).far (p := ⟨W6.heap.size, 1, none⟩) (by have := HA6.out.X.lt; show w.heap.size ≠ W6.heap.size; omega) _).cell 1, trivial⟩ (fun hHeld => ?_)
        clear hK K
        try simp only [List.getElem_toArray, List.getElem_cons_succ, List.getElem_cons_zero, Act.put, List.setIfInBounds_toArray, List.set_cons_zero, List.set_cons_succ]
        refine wpAnyE_take (i := 14) (v := ?_) rfl (by kernel_rfl) (by kernel_rfl) (by kernel_rfl) (by kernel_rfl) (fun _ _ _ h => h) (Or.inl ⟨by rfl, ?_⟩) hHeld (fun hHeld => ?_)
        rotate_left
        · (intro w hSw; (try dsimp only at hSw); (try simp only [List.getElem_toArray, List.getElem_cons_succ, List.getElem_cons_zero]); go_simp; try with_reducible rfl)
        try simp only [List.getElem_toArray, List.getElem_cons_succ, List.getElem_cons_zero, Act.put, List.setIfInBounds_toArray, List.set_cons_zero, List.set_cons_succ]
        refine wpAnyE_done (by kernel_rfl) (only_normal ?_) _
        clear hHeld y0 y1 q0 q1
        obtain ⟨W9, hW9⟩ : ∃ W, (w3.setCell ⟨W6.heap.size, 0, none⟩ (.int .i64 y.1)).setCell ⟨W6.heap.size, 1, none⟩ (.string y.2) = W := ⟨_, rfl⟩
        obtain ⟨O2, hO2⟩ : ∃ q, W6.heap.size = q := ⟨_, rfl⟩
        have HA9 := Lib.hid (show Ap w W9 B g m R w.heap.size O #[.pointer (some ⟨m, 0, none⟩), .pointer (some ⟨R, 0, none⟩), .int .i64 mo, .int .i64 ((by1 + (card.size : Int))), .int .i64 la, .int .i64 ho] #[.bool false, .string uid, .string card, .int .i64 k, .int .i64 v] (insL uid (tok, card) L) G (rg.set F (tok, uid)) lm x from hW9 ▸ (HAX.out.setRow HYX.out ((HRM.out.set (Nat.le_refl _) HYN.out.lt (fun e => by have := rg_lt HA6.out.R; omega) 0 (.int .i64 y.1)).rg) (by have := HA6.out.sz; omega) 0 (.int .i64 y.1)).setRow (HYX.out.set_ 0 (.int .i64 y.1)) (((HRM.out.set (Nat.le_refl _) HYN.out.lt (fun e => by have := rg_lt HA6.out.R; omega) 0 (.int .i64 y.1)).set (Nat.le_refl _) HYN.out.lt (fun e => by have := rg_lt HA6.out.R; omega) 1 (.string y.2)).rg) (by have := HA6.out.sz; omega) 1 (.string y.2))
        have HY9 := Lib.hid (show Blk W9 O2 72 #[.int .i64 y.1, .string y.2] from hO2 ▸ hW9 ▸ (HYX.out.set_ 0 (.int .i64 y.1)).set_ 1 (.string y.2))
        rw [hW9, hO2]
        clear hW9 hO2 HAX HYX HYN HB0 HRM)
    all_goals
      have y0 := HA9.out.drew.G.cell 5
      have z0 := HA9.out.drew.G.frozen 5
      have yy0 := HA9.out.G.cell 5
      have zz0 := HA9.out.G.frozen 5
      simp only [List.getElem?_toArray, List.getElem?_cons_zero, List.getElem?_cons_succ] at y0 yy0
      have HH := Lib.hid (show W9.drew.cell? ⟨g, 5, none⟩ = some (.int .i64 ho) ∧ W9.drew.cell? ⟨O2, 0, none⟩ = some (.int .i64 y.1) from ⟨HA9.out.drew.G.cell 5, HY9.out.drew.cell 0⟩)
      go_wp2_with fail
      refine wp_region_E [([10], fun w' => w'.cell? ⟨g, 5, none⟩ = some (.int .i64 ho)), ([10], fun w' => w'.cell? ⟨O2, 0, none⟩ = some (.int .i64 y.1))] (by kernel_rfl) ⟨fun _ => HH.out.1, fun _ => HH.out.2, trivial⟩ (fun hHeld => ?_)
      refine wpAnyE_take (i := 0) (v := ?_) rfl (by kernel_rfl) (by kernel_rfl) (by kernel_rfl) (by kernel_rfl) (fun _ _ _ h => h) (Or.inl ⟨by rfl, ?_⟩) hHeld (fun hHeld => ?_)
      rotate_left
      · (intro w hSw; (try dsimp only at hSw); (try simp only [List.getElem_toArray, List.getElem_cons_succ, List.getElem_cons_zero]); go_simp; try with_reducible rfl)
      try simp only [List.getElem_toArray, List.getElem_cons_succ, List.getElem_cons_zero, Act.put, List.setIfInBounds_toArray, List.set_cons_zero, List.set_cons_succ]
      refine wpAnyE_take (i := 1) (v := ?_) rfl (by kernel_rfl) (by kernel_rfl) (by kernel_rfl) (by kernel_rfl) (fun _ _ _ h => h) (Or.inl ⟨by rfl, ?_⟩) hHeld (fun hHeld => ?_)
      rotate_left
      · (intro w hSw; (try dsimp only at hSw); (try simp only [List.getElem_toArray, List.getElem_cons_succ, List.getElem_cons_zero]); go_simp; try with_reducible rfl)
      try simp only [List.getElem_toArray, List.getElem_cons_succ, List.getElem_cons_zero, Act.put, List.setIfInBounds_toArray, List.set_cons_zero, List.set_cons_succ]
      refine wpAnyE_take (i := 2) (v := ?_) rfl (by kernel_rfl) (by kernel_rfl) (by kernel_rfl) (by kernel_rfl) (fun _ _ _ h => h) (Or.inl ⟨by rfl, ?_⟩) hHeld (fun hHeld => ?_)
      rotate_left
      · (intro w hSw; (try dsimp only at hSw); (try simp only [List.getElem_toArray, List.getElem_cons_succ, List.getElem_cons_zero]); go_simp; try with_reducible rfl)
      try simp only [List.getElem_toArray, List.getElem_cons_succ, List.getElem_cons_zero, Act.put, List.setIfInBounds_toArray, List.set_cons_zero, List.set_cons_succ]
      refine wpAnyE_take (i := 3) (v := ?_) rfl (by kernel_rfl) (by kernel_rfl) (by kernel_rfl) (by kernel_rfl) (fun _ _ _ h => h) (Or.inl ⟨by rfl, ?_⟩) hHeld (fun hHeld => ?_)
      rotate_left
      · (intro w hSw; (try dsimp only at hSw); (try simp only [List.getElem_toArray, List.getElem_cons_succ, List.getElem_cons_zero]); go_simp; try with_reducible rfl)
      try simp only [List.getElem_toArray, List.getElem_cons_succ, List.getElem_cons_zero, Act.put, List.setIfInBounds_toArray, List.set_cons_zero, List.set_cons_succ]
      refine wpAnyE_load (i := 4) _ _ (v := ?_) rfl (by kernel_rfl) List.mem_cons_self (by kernel_rfl) (by kernel_rfl) (by kernel_rfl) (by kernel_rfl) (fun _ _ _ h => h) (Or.inl ⟨by rfl, ?_⟩) hHeld (fun hHeld => ?_)
      rotate_left
      · (intro w hSw; (try dsimp only at hSw); (try simp only [List.getElem_toArray, List.getElem_cons_succ, List.getElem_cons_zero]); go_simp; try with_reducible rfl)
      try simp only [List.getElem_toArray, List.getElem_cons_succ, List.getElem_cons_zero, Act.put, List.setIfInBounds_toArray, List.set_cons_zero, List.set_cons_succ]
      refine wpAnyE_take (i := 5) (v := ?_) rfl (by kernel_rfl) (by kernel_rfl) (by kernel_rfl) (by kernel_rfl) (fun _ _ _ h => h) (Or.inl ⟨by rfl, ?_⟩) hHeld (fun hHeld => ?_)
      rotate_left
      · (intro w hSw; (try dsimp only at hSw); (try simp only [List.getElem_toArray, List.getElem_cons_succ, List.getElem_cons_zero]); go_simp; try with_reducible rfl)
      try simp only [List.getElem_toArray, List.getElem_cons_succ, List.getElem_cons_zero, Act.put, List.setIfInBounds_toArray, List.set_cons_zero, List.set_cons_succ]
      refine wpAnyE_load (i := 6) _ _ (v := ?_) rfl (by kernel_rfl) (List.mem_cons_of_mem _ List.mem_cons_self) (by kernel_rfl) (by kernel_rfl) (by kernel_rfl) (by kernel_rfl) (fun _ _ _ h => h) (Or.inl ⟨by rfl, ?_⟩) hHeld (fun hHeld => ?_)
      rotate_left
      · (intro w hSw; (try dsimp only at hSw); (try simp only [List.getElem_toArray, List.getElem_cons_succ, List.getElem_cons_zero]); go_simp; try with_reducible rfl)
      try simp only [List.getElem_toArray, List.getElem_cons_succ, List.getElem_cons_zero, Act.put, List.setIfInBounds_toArray, List.set_cons_zero, List.set_cons_succ]
      refine wpAnyE_take (i := 7) (v := ?_) rfl (by kernel_rfl) (by kernel_rfl) (by kernel_rfl) (by kernel_rfl) (fun _ _ _ h => h) (Or.inl ⟨by rfl, ?_⟩) hHeld (fun hHeld => ?_)
      rotate_left
      · (intro w hSw; (try dsimp only at hSw); (try simp only [List.getElem_toArray, List.getElem_cons_succ, List.getElem_cons_zero]); go_simp; try with_reducible rfl)
      try simp only [List.getElem_toArray, List.getElem_cons_succ, List.getElem_cons_zero, Act.put, List.setIfInBounds_toArray, List.set_cons_zero, List.set_cons_succ]
      refine wpAnyE_take (i := 8) (v := ?_) rfl (by kernel_rfl) (by kernel_rfl) (by kernel_rfl) (by kernel_rfl) (fun _ _ _ h => h) (Or.inl ⟨by rfl, ?_⟩) hHeld (fun hHeld => ?_)
      rotate_left
      · (intro w hSw; (try dsimp only at hSw); (try simp only [List.getElem_toArray, List.getElem_cons_succ, List.getElem_cons_zero]); go_simp; try with_reducible rfl)
      try simp only [List.getElem_toArray, List.getElem_cons_succ, List.getElem_cons_zero, Act.put, List.setIfInBounds_toArray, List.set_cons_zero, List.set_cons_succ]
      refine wpAnyE_take (i := 9) (v := ?_) rfl (by kernel_rfl) (by kernel_rfl) (by kernel_rfl) (by kernel_rfl) (fun _ _ _ h => h) (Or.inl ⟨by rfl, ?_⟩) hHeld (fun hHeld => ?_)
      rotate_left
      · (intro w hSw; (try dsimp only at hSw); (try simp only [List.getElem_toArray, List.getElem_cons_succ, List.getElem_cons_zero]); go_simp; try with_reducible rfl)
      try simp only [List.getElem_toArray, List.getElem_cons_succ, List.getElem_cons_zero, Act.put, List.setIfInBounds_toArray, List.set_cons_zero, List.set_cons_succ]
      refine wpAnyE_ready (rs := [10]) (by kernel_rfl) (by simp) (AllE.cons rfl (fun K hK => ?_) AllE.nil)
      clear hHeld
      go_simp
      refine hK.out _ _ ⟨(fun e => absurd e (Bool.eq_false_iff.1 (by kernel_rfl))), (fun e => absurd e (Bool.eq_false_iff.1 (by kernel_rfl))), trivial⟩ (fun hHeld => ?_)
      clear hK K
      try simp only [List.getElem_toArray, List.getElem_cons_succ, List.getElem_cons_zero, Act.put, List.setIfInBounds_toArray, List.set_cons_zero, List.set_cons_succ]
      refine wpAnyE_done (by kernel_rfl) (only_normal ?_) _
      clear hHeld HH y0 z0 yy0 zz0
      obtain ⟨hq, hhq⟩ : ∃ q, (if ho < y.1 then y.1 else ho) = q := ⟨_, rfl⟩
      have HHQ := Lib.hid (show max ho y.1 = hq by rw [← hhq]; split <;> omega)
      first | rw [hhq] | rw [HHQ.out]
      clear hhq
      obtain ⟨W10, hW10⟩ : ∃ W, (W9.setCell ⟨g, 5, none⟩ (.int .i64 hq)).drew = W := ⟨_, rfl⟩
      have HA10 := Lib.hid (show Ap w W10 B g m R w.heap.size O #[.pointer (some ⟨m, 0, none⟩), .pointer (some ⟨R, 0, none⟩), .int .i64 mo, .int .i64 ((by1 + (card.size : Int))), .int .i64 la, .int .i64 hq] #[.bool false, .string uid, .string card, .int .i64 k, .int .i64 v] (insL uid (tok, card) L) G (rg.set F (tok, uid)) lm x from hW10 ▸ (HA9.out.set 5 (.int .i64 hq)).drew)
      rw [hW10]
      clear hW10 HA9 HY9
      have g4 := HA10.out.G.cell 4
      have h4 := HA10.out.G.frozen 4
      simp only [List.getElem?_toArray, List.getElem?_cons_zero, List.getElem?_cons_succ] at g4
      go_wp2
      go_ret
      have HAE := HA10.out.set 4 (.int .i64 tok)
      refine ⟨rfl, ?_, HAE.K⟩
      rw [HYC.out]
      exact ⟨m, R, (by have := HAE.G; rw [← HBY.out] at this; first | exact this | (rw [← HHQ.out] at this; exact this)), HAE.M, HAE.R, e4, e5⟩
end Go.Proofs.Ythcjbljkokflgaa
