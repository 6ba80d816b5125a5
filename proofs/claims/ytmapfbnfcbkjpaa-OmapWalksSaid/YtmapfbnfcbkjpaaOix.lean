/- Maps over trees (values: Int): Keys. -/
import Derived.Test.YtmapfbnfcbkjpaaOiw
namespace Go.Proofs.Ytmapfbnfcbkjpaa.OI
open Go.RowKit
open Go.Lib
set_option linter.unusedVariables false
set_option linter.unusedSimpArgs false
set_option maxRecDepth 100000
open Go.Shelf
attribute [local go_sem] Oper.semAt_some
theorem info9 : (Try.prog.info? 9).map (fun i => (i.zero, i.size, i.bytes)) = some (some (.string .empty), 1, 16) := by kernel_rfl
def kvs (L : List It) : List Value := L.map fun q => .string q.1
theorem kvs_len (L : List It) : (kvs L).length = L.length := by unfold kvs; rw [List.length_map]
set_option maxHeartbeats 8000000 in
theorem om_keys {w : World} {g : Nat} {L : List It} (h : Om w g L) (hn : L.length ≤ 40000) (hks : ∀ q ∈ L, q.1.size ≤ 1000000) : Calls Try.prog 17 #[.pointer (some ⟨g, 0, none⟩)] w fun e w' => ∃ U, e = .returned U ∧ w'.ownsRow w.heap.size 9 1 U L.length (kvs L) ∧ Below w.heap.size w w' := by
  obtain ⟨i0, hi, hz0, hz1, hz2⟩ := info_parts info9
  have HLN := Lib.hid (om_len h)
  obtain ⟨t, hM, rfl, hS⟩ := h
  obtain ⟨w1, hmk, hrow1, hg1⟩ := run_make_own (P := Try.prog) w w.heap.size 27 9 i0 _ 1 Try.underlying27 hi hz0 hz1 .i64 .i64 t.ino.length (by rw [hz2]; omega) (by unfold maxLen; omega) (Nat.le_refl _)
  have hB1 : Below w.heap.size w w1 := ⟨hg1.os, hg1.tape, hg1.output, hg1.size, fun j hj => hg1.block j hj (by simp)⟩
  have HB1 := Lib.hid hB1
  have HM := Lib.hid hM
  have hd : Fence.wide.depth = none := rfl
  have hall : ∀ f, Fence.wide.fn f := fun _ => trivial
  have hro : Fence.wide.round = none := rfl
  have h1 : 1 ≤ 6 := by decide
  have hnI : (t.ino.length : Int) ≤ 40000 := by omega
  clear hM hB1
  refine (callsIn_wide (n := 6)).1 ?_
  refine callsIn_of_wp_marks Try.func17 rfl (hall _) ?_ hro
  simp only [Try.ntmps17, List.size_toArray, List.length_cons, List.length_nil, Nat.reduceAdd, Nat.reduceSub, Array.replicate_succ, Array.replicate_zero, List.push_toArray, List.append_toArray, List.nil_append, List.cons_append]
  gi_wp2_with (first
    | (gi_at_call 15; refine (callsIn_wide.2 HLN.out).mono ?_; rintro _ wz ⟨rfl, hw0⟩; replace hw0 := hw0.symm; subst hw0)
    | (gi_at_call 25; refine (callsIn_wide.2 (all_fn g _)).mono ?_; rintro _ wz ⟨rfl, hw0⟩; replace hw0 := hw0.symm; subst hw0)
    | fail)
  obtain ⟨W0, hW0⟩ : ∃ W0, ((w1.alloc (.cells #[.slice (some ⟨w.heap.size, 0, none⟩) 0 t.ino.length] 27)).alloc (.cells #[.pointer (some ⟨g, 0, none⟩)] 25)).alloc (.cells #[.string .empty] 9) = W0 := ⟨_, rfl⟩
  have hs1 : w.heap.size ≤ w1.heap.size := HB1.out.size
  have bO : Boxed W0 w1.heap.size 27 (.slice (some ⟨w.heap.size, 0, none⟩) 0 t.ino.length) := by
    rw [← hW0]; exact ((Boxed.new w1 27 _).alloc _).alloc _
  have bM : Boxed W0 (w1.heap.size + 1) 25 (.pointer (some ⟨g, 0, none⟩)) := by
    have := (Boxed.new (w1.alloc (.cells #[.slice (some ⟨w.heap.size, 0, none⟩) 0 t.ino.length] 27)) 25 (.pointer (some ⟨g, 0, none⟩))).alloc (.cells #[.string .empty] 9)
    rw [World.size_alloc] at this
    rw [← hW0]; exact this
  have bX : Boxed W0 (w1.heap.size + 1 + 1) 9 (.string .empty) := by
    have := Boxed.new ((w1.alloc (.cells #[.slice (some ⟨w.heap.size, 0, none⟩) 0 t.ino.length] 27)).alloc (.cells #[.pointer (some ⟨g, 0, none⟩)] 25)) 9 (.string .empty)
    rw [World.size_alloc, World.size_alloc] at this
    rw [← hW0]; exact this
  have hB0 : Below w1.heap.size w1 W0 := by
    rw [← hW0]; exact (((Below.refl _ w1).alloc (Nat.le_refl _) _).alloc (by simp) _).alloc (by simp; omega) _
  have hBw : Below w.heap.size w W0 := HB1.out.trans (hB0.mono hs1)
  have hrow0 : W0.ownsRow w.heap.size 9 1 (.slice (some ⟨w.heap.size, 0, none⟩) 0 t.ino.length) 0 [] := by
    rw [← hW0]; exact ((hrow1.alloc _).alloc _).alloc _
  have hM0 : Mt W0 g t := HM.out.below hBw
  have hs0 : W0.heap.size = w1.heap.size + 1 + 1 + 1 := by rw [← hW0]; simp
  have hU : Tr.und .empty t = t.ino := Tr.und_empty t
  rw [hW0]
  have hst := und_stops 5 (w1.heap.size + 1) (w1.heap.size + 1 + 1) g t .empty (by decide) W0 bM.lt bX.lt bM.cell bX.cell hM0 hks
  rw [hU] at hst
  refine wpIn_rangeFunc_ownG (F := Fence.wide) (n := 6) hro h1 (gf := 33) (lb := #[.pointer (some ⟨w1.heap.size + 1, 0, none⟩), .pointer (some ⟨w1.heap.size + 1 + 1, 0, none⟩)]) rfl (hall _) (enters_of Try.func33 (by kernel_rfl) rfl)
    hst (fun h k => h.trans k) (fun W l o o' hl h1 h2 h3 => KeepN.put (w := W0) W l o o' hl h1 h2 h3) (Below.refl _ _) (fun _ => rfl)
    (fun pre W => (∃ v, Boxed W w1.heap.size 27 v ∧ W.ownsRow w.heap.size 9 1 v (kvs pre).length (kvs pre) ∧ True) ∧ Below w.heap.size w W)
    (fun _ _ _ => False)
    (OwnFrom.and (Own.from (holdsRow_own w.heap.size w1.heap.size 27 9 1 (fun pre => (kvs pre).length) (fun pre => kvs pre) (fun _ _ => True)) _) (ownFrom_below (Nat.le_refl _) hBw.size))
    (fun _ _ _ _ _ hs _ _ => hs)
    ⟨⟨_, bO, hrow0, trivial⟩, hBw⟩
    (fun x => { tmps := #[.pointer (some ⟨g, 0, none⟩), undef, .slice none 0 0, .pointer (some ⟨w1.heap.size, 0, none⟩), .string x.1, .pointer (some ⟨g, 0, none⟩), .int .i64 (t.ino.length : Int), .slice (some ⟨w.heap.size, 0, none⟩) 0 t.ino.length, .pointer (some ⟨g, 0, none⟩), .func (.func 33) #[] #[.pointer (some ⟨w1.heap.size + 1, 0, none⟩), .pointer (some ⟨w1.heap.size + 1 + 1, 0, none⟩)], .string x.1, .int .i64 x.2, undef, undef, undef, undef, undef], defers := [] }) ?assign ?body ?done ?stop
  case assign =>
    intro l x W K hK
    simp only [enI]
    gi_wp2
    exact hK
  case body =>
    rintro l pre x W ⟨⟨v, hv, hrow, _⟩, hB⟩ hlt
    have hc := hv.cell
    have hkl : (kvs pre).length ≤ pre.length := Nat.le_of_eq (kvs_len pre)
    have hBs := hB.size
    have hplt : pre.length < 40000 := by omega
    gi_wp2_with (first
      | (gi_at_builtin; refine wpListIn_append_own _ rfl _ _ 27 rfl w.heap.size 9 i0 (.string .empty) 1 16 Try.underlying27 hi hz0 hz1 hz2 rfl (by decide) _ _ _ rfl (hrow.alloc _) ⟨W.heap.size, 0, none⟩ 1 1 [.string x.1] rfl rfl (cell_one_new _ _ _) (by simp [Value.oneCell']) (by unfold maxLen; omega) (by omega) (by simp; omega) ?_; intro v' w2 hown' hgrow _; obtain ⟨g', cap', rfl⟩ := ownsRow_succ hown'; obtain ⟨hv1, hv2, hr2, hk2, hb2⟩ := hv.appended (by decide) hrow hBs hs1 hown' hgrow; have hc1 := hv1.cell; have hf1 := hv1.frozen; have hkn := ((KeepN.of ((Below.refl _ W).alloc (Nat.le_refl _) (.cells #[.string x.1] 9))).trans (KeepN.grown (hrow.alloc _) (by decide) hgrow)).trans (KeepN.set (g := w1.heap.size) (t := 27) hv1 (by decide) 0 (.slice (some ⟨g', 0, none⟩) ((kvs pre).length + 1) cap')))
      | fail)
    have e : kvs (pre ++ [x]) = kvs pre ++ [.string x.1] := by unfold kvs; rw [List.map_append]; rfl
    exact ⟨hk2.from _, hkn, ⟨_, hv2, by rw [e, List.length_append]; exact hr2, trivial⟩, hB.trans hb2⟩
  case done =>
    rintro D ys W hD rfl ⟨⟨v, hv, hrow, _⟩, hB⟩ hK
    have hc := hv.cell
    gi_wp2
    refine ⟨by simp, .inl ⟨_, _, rfl, run_takeDeferred hK, ?_⟩⟩
    have hrow' := ownsRow_putObj hrow (.deferred none) hK rfl
    rw [kvs_len] at hrow'
    exact ⟨_, results_tmp rfl _ _ _, v, rfl, hrow', hB.trans (belowK_b (w := w) (Nat.le_refl _) W D _ _ (by omega) hK rfl rfl)⟩
  case stop =>
    rintro D c pre W _ _ h _
    exact h.elim
end Go.Proofs.Ytmapfbnfcbkjpaa.OI
