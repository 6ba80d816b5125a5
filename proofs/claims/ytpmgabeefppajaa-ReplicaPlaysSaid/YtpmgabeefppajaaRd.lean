/- The replica: Cards. -/
import Derived.Test.YtpmgabeefppajaaRc
import Derived.RangeFuncNested
namespace Go.Proofs.Ytpmgabeefppajaa
open Go.RowKit
open Go.Lib
set_option linter.unusedVariables false
set_option linter.unusedSimpArgs false
set_option maxRecDepth 100000
open Go.Shelf
attribute [local go_sem] Oper.semAt_some
theorem info41 : (Try.prog.info? 41).map (fun i => (i.zero, i.size, i.bytes)) = some (some (.agg #[.string .empty, .int .i64 0, .bool false, .string .empty]), 4, 48) := by kernel_rfl
theorem itsK_len (L : LK) : (itsK L).length = L.length := by unfold itsK; rw [List.length_map]
theorem cell_four_new (w : World) (a b c d : Value) (t : TypeId) : ∀ j u, [a, b, c, d][j]? = some u → (w.alloc (.cells #[a, b, c, d] t)).cell? ((⟨w.heap.size, 0, none⟩ : Addr).add j) = some u := by
  intro j u hj
  have e := (Blk.new w t #[a, b, c, d]).cell j
  rw [show (⟨w.heap.size, 0, none⟩ : Addr).add j = ⟨w.heap.size, j, none⟩ by unfold Addr.add; split <;> simp_all, e, ← hj]
  simp
theorem keepsFrom_below {B : Nat} {W W' : World} (h : Below W.heap.size W W') : KeepsFrom B W W' := ⟨h.size, fun k o _ hk _ => (h.block k (Array.getElem?_eq_some_iff.1 hk).1).trans hk⟩
theorem boxed_below {W W' : World} {b : Nat} {t : TypeId} {v : Value} (hv : Boxed W b t v) (h : Below W.heap.size W W') : Boxed W' b t v := (h.block b hv.lt).trans hv
theorem own_below {w1 w2 : World} {base : Nat} {e : TypeId} {k n : Nat} {v : Value} {xs : List Value} (h : w1.ownsRow base e k v n xs) (ht : Below w1.heap.size w1 w2) : w2.ownsRow base e k v n xs := by
  obtain ⟨h0, h3 | ⟨b, cap, cur, e1, e2, e3, e4⟩⟩ := h
  · exact ⟨h0, .inl h3⟩
  · exact ⟨h0, .inr ⟨b, cap, cur, e1, e2, (ht.block b (Blk.lt e3)).trans e3, e4⟩⟩
set_option maxHeartbeats 8000000 in
theorem cards_any {w : World} {g m : Nat} {L : LK} {tk : Int} {mo : Bool} (hR : Rp w g m L tk mo) (hn : L.length ≤ 40000) (hks : ∀ q ∈ L, q.1.size ≤ 1000000) : Calls Try.prog 18 #[.pointer (some ⟨g, 0, none⟩)] w fun e w' => ∃ U, e = .returned U ∧ w'.ownsRow w.heap.size 41 4 U L.length (itsC (itsK L)) ∧ Below w.heap.size w w' := by
  obtain ⟨i0, hi, hz0, hz1, hz2⟩ := info_parts info41
  have c0 := hR.1.cell 0
  have HLN := Lib.hid (OK.om_len hR.2)
  have HRB := Lib.hid hR.1
  obtain ⟨t, hM, rfl, hS⟩ := hR.2
  obtain ⟨w1, hmk, hrow1, hg1⟩ := run_make_own (P := Try.prog) w w.heap.size 28 41 i0 _ 4 Try.underlying28 hi hz0 hz1 .i64 .i64 t.ino.length (by rw [hz2]; omega) (by unfold maxLen; omega) (Nat.le_refl _)
  have hB1 : Below w.heap.size w w1 := ⟨hg1.os, hg1.tape, hg1.output, hg1.size, fun j hj => hg1.block j hj (by simp)⟩
  have HB1 := Lib.hid hB1
  have HM := Lib.hid hM
  have d0 := ((HRB.out.below hB1 HRB.out.lt).alloc (.cells #[.slice (some ⟨w.heap.size, 0, none⟩) 0 t.ino.length] 28)).cell 0
  have hd : Fence.wide.depth = none := rfl
  have hall : ∀ f, Fence.wide.fn f := fun _ => trivial
  have hro : Fence.wide.round = none := rfl
  have h1 : 1 ≤ 6 := by decide
  have hnI : (t.ino.length : Int) ≤ 40000 := by omega
  clear hM hB1 hR
  refine (callsIn_wide (n := 6)).1 ?_
  refine callsIn_of_wp_marks Try.func18 rfl (hall _) ?_ hro
  simp only [Try.ntmps18, List.size_toArray, List.length_cons, List.length_nil, Nat.reduceAdd, Nat.reduceSub, Array.replicate_succ, Array.replicate_zero, List.push_toArray, List.append_toArray, List.nil_append, List.cons_append]
  gi_wp2_with (first
    | (gi_at_call 34; refine (callsIn_wide.2 HLN.out).mono ?_; rintro _ wz ⟨rfl, hw0⟩; replace hw0 := hw0.symm; subst hw0)
    | (gi_at_call 35; refine (callsIn_wide.2 (OK.all_fn m _)).mono ?_; rintro _ wz ⟨rfl, hw0⟩; replace hw0 := hw0.symm; subst hw0)
    | fail)
  obtain ⟨W0, hW0⟩ : ∃ W0, ((w1.alloc (.cells #[.slice (some ⟨w.heap.size, 0, none⟩) 0 t.ino.length] 28)).alloc (.cells #[.pointer (some ⟨m, 0, none⟩)] 62)).alloc (.cells #[.string .empty] 9) = W0 := ⟨_, rfl⟩
  have hs1 : w.heap.size ≤ w1.heap.size := HB1.out.size
  have bO : Boxed W0 w1.heap.size 28 (.slice (some ⟨w.heap.size, 0, none⟩) 0 t.ino.length) := by
    rw [← hW0]; exact ((Boxed.new w1 28 _).alloc _).alloc _
  have bM : Boxed W0 (w1.heap.size + 1) 62 (.pointer (some ⟨m, 0, none⟩)) := by
    have := (Boxed.new (w1.alloc (.cells #[.slice (some ⟨w.heap.size, 0, none⟩) 0 t.ino.length] 28)) 62 (.pointer (some ⟨m, 0, none⟩))).alloc (.cells #[.string .empty] 9)
    rw [World.size_alloc] at this
    rw [← hW0]; exact this
  have bX : Boxed W0 (w1.heap.size + 1 + 1) 9 (.string .empty) := by
    have := Boxed.new ((w1.alloc (.cells #[.slice (some ⟨w.heap.size, 0, none⟩) 0 t.ino.length] 28)).alloc (.cells #[.pointer (some ⟨m, 0, none⟩)] 62)) 9 (.string .empty)
    rw [World.size_alloc, World.size_alloc] at this
    rw [← hW0]; exact this
  have hB0 : Below w1.heap.size w1 W0 := by
    rw [← hW0]; exact (((Below.refl _ w1).alloc (Nat.le_refl _) _).alloc (by simp) _).alloc (by simp; omega) _
  have hBw : Below w.heap.size w W0 := HB1.out.trans (hB0.mono hs1)
  have hrow0 : W0.ownsRow w.heap.size 41 4 (.slice (some ⟨w.heap.size, 0, none⟩) 0 t.ino.length) 0 [] := by
    rw [← hW0]; exact ((hrow1.alloc _).alloc _).alloc _
  have hM0 : OK.Mt W0 m t := HM.out.below hBw
  have hs0 : W0.heap.size = w1.heap.size + 1 + 1 + 1 := by rw [← hW0]; simp
  have hU : Tr.und .empty t = t.ino := Tr.und_empty t
  rw [hW0]
  have hst := OK.und_stops 5 (w1.heap.size + 1) (w1.heap.size + 1 + 1) m t .empty (by decide) W0 bM.lt bX.lt bM.cell bX.cell hM0 hks
  rw [hU] at hst
  clear d0 c0
  refine wpIn_rangeFunc_ownH (F := Fence.wide) (n := 6) hro h1 (gf := 63) (lb := #[.pointer (some ⟨w1.heap.size + 1, 0, none⟩), .pointer (some ⟨w1.heap.size + 1 + 1, 0, none⟩)]) rfl (hall _) (enters_of Try.func63 (by kernel_rfl) rfl)
    hst (fun h k => h.trans k) (fun W l o o' hl h1 h2 h3 => OK.KeepN.put (w := W0) W l o o' hl h1 h2 h3) (Below.refl _ _) (fun _ => rfl)
    (fun pre W => (∃ v, Boxed W w1.heap.size 28 v ∧ W.ownsRow w.heap.size 41 4 v pre.length (itsC (itsK pre)) ∧ True) ∧ Below w.heap.size w W)
    (fun _ _ _ => False)
    (OwnFrom.and (Own.from (holdsRow_own w.heap.size w1.heap.size 28 41 4 (fun pre => pre.length) (fun pre => itsC (itsK pre)) (fun _ _ => True)) _) (ownFrom_below (Nat.le_refl _) hBw.size))
    (fun _ _ _ _ _ hs _ _ => hs)
    ⟨⟨_, bO, hrow0, trivial⟩, hBw⟩
    (fun x a W => ∃ B, Blk W B 65 #[.int .i64 x.2.1, .string x.2.2] ∧ a = { tmps := #[.pointer (some ⟨g, 0, none⟩), undef, .slice none 0 0, .pointer (some ⟨w1.heap.size, 0, none⟩), .string x.1, .pointer (some ⟨B, 0, none⟩), .pointer (some ⟨g, 0, none⟩), .pointer (some ⟨g, 0, none⟩), .pointer (some ⟨g, 0, none⟩), .pointer (some ⟨m, 0, none⟩), .int .i64 (t.ino.length : Int), .slice (some ⟨w.heap.size, 0, none⟩) 0 t.ino.length, .pointer (some ⟨g, 0, none⟩), .pointer (some ⟨g, 0, none⟩), .pointer (some ⟨g, 0, none⟩), .pointer (some ⟨m, 0, none⟩), .func (.func 63) #[] #[.pointer (some ⟨w1.heap.size + 1, 0, none⟩), .pointer (some ⟨w1.heap.size + 1 + 1, 0, none⟩)], .string x.1, .agg #[.int .i64 x.2.1, .string x.2.2], undef, undef, undef, undef, undef, undef, undef, undef, undef, undef], defers := [] })
    (fun x a' => fun _ X Y row hs hg hr => by
      obtain ⟨B, h1, h2⟩ := hs
      exact ⟨B, h1.grown hg (fun e => by
        obtain ⟨_, o, ho, hc⟩ := hr B e.symm
        unfold Blk at h1
        rw [h1] at ho
        cases ho
        cases hc), h2⟩) ?assign ?body ?done ?stop
  case assign =>
    rintro l pre x W K ⟨⟨v, hv, hrow, _⟩, hB⟩ hK
    have HV := Lib.hid hv
    have HROW := Lib.hid hrow
    have HBB := Lib.hid hB
    clear hv hrow hB
    obtain ⟨n, hn2⟩ : ∃ n, W.heap.size = n := ⟨_, rfl⟩
    obtain ⟨W1, hW1⟩ : ∃ W1, W.alloc (.cells #[.int .i64 0, .string { data := #[] }] 65) = W1 := ⟨_, rfl⟩
    have HC1 := Lib.hid (show Below W.heap.size W W1 from hW1 ▸ (Below.refl _ W).alloc (Nat.le_refl _) _)
    have HY1 := Lib.hid (show Blk W1 n 65 #[.int .i64 0, .string .empty] from hn2 ▸ hW1 ▸ Blk.new W 65 _)
    have y0 := HY1.out.cell 0
    have y1 := HY1.out.cell 1
    have f0 := HY1.out.frozen 0
    have f1 := HY1.out.frozen 1
    have HY2 := Lib.hid ((HY1.out.set_ 0 (.int .i64 x.2.1)).set_ 1 (.string x.2.2))
    have HC2 := Lib.hid (((HC1.out.mono (Nat.le_of_eq hn2.symm)).setCell (p := ⟨n, 0, none⟩) (Nat.le_refl _) (.int .i64 x.2.1)).setCell (p := ⟨n, 1, none⟩) (Nat.le_refl _) (.string x.2.2))
    have HK := Lib.hid hK
    clear hK
    simp only [OK.enI]
    gi_wp2
    have hC' := HC2.out.mono (Nat.le_of_eq hn2)
    exact HK.out _ _ (keepsFrom_below hC') (OK.KeepN.of hC') ⟨⟨v, boxed_below HV.out hC', own_below HROW.out hC', trivial⟩, HBB.out.trans (hC'.mono HBB.out.size)⟩ ⟨n, HY2.out, rfl⟩
  case body =>
    rintro l pre x a' W _ _ ⟨⟨v, hv, hrow, _⟩, hB⟩ ⟨B, hbx, rfl⟩ hlt
    have hc := hv.cell
    have b0 := hbx.cell 0
    have b1 := hbx.cell 1
    have hBs := hB.size
    have hplt : pre.length < 40000 := by omega
    clear hbx
    gi_wp2_with (first
      | (gi_at_builtin; refine wpListIn_append_own _ rfl _ _ 28 rfl w.heap.size 41 i0 _ 4 48 Try.underlying28 hi hz0 hz1 hz2 rfl (by decide) _ _ _ rfl (hrow.alloc _) ⟨W.heap.size, 0, none⟩ 1 1 [.string x.1, .int .i64 x.2.1, .bool false, .string x.2.2] rfl rfl (cell_four_new _ _ _ _ _ _) (by simp [Value.oneCell']) (by unfold maxLen; omega) (by omega) (by simp; omega) ?_; intro v' w2 hown' hgrow _; obtain ⟨g', cap', rfl⟩ := ownsRow_succ hown'; obtain ⟨hv1, hv2, hr2, hk2, hb2⟩ := hv.appended (by decide) hrow hBs hs1 hown' hgrow; have hc1 := hv1.cell; have hf1 := hv1.frozen; have hkn := ((OK.KeepN.of ((Below.refl _ W).alloc (Nat.le_refl _) (.cells #[.string x.1, .int .i64 x.2.1, .bool false, .string x.2.2] 41))).trans (OK.KeepN.grown (hrow.alloc _) (by decide) hgrow)).trans (OK.KeepN.set (g := w1.heap.size) (t := 28) hv1 (by decide) 0 (.slice (some ⟨g', 0, none⟩) (pre.length + 1) cap')))
      | fail)
    have e : itsC (itsK (pre ++ [x])) = itsC (itsK pre) ++ [.string x.1, .int .i64 x.2.1, .bool false, .string x.2.2] := by unfold itsK; rw [List.map_append, List.map_singleton, itsC_snoc]; rfl
    exact ⟨hk2.from _, hkn, ⟨_, hv2, by rw [e, List.length_append]; exact hr2, trivial⟩, hB.trans hb2⟩
  case done =>
    rintro D ys W hD rfl ⟨⟨v, hv, hrow, _⟩, hB⟩ hK
    have hc := hv.cell
    gi_wp2
    refine ⟨by simp, .inl ⟨_, _, rfl, run_takeDeferred hK, ?_⟩⟩
    have hrow' := ownsRow_putObj hrow (.deferred none) hK rfl
    exact ⟨_, results_tmp rfl _ _ _, v, rfl, hrow', hB.trans (belowK_b (w := w) (Nat.le_refl _) W D _ _ (by omega) hK rfl rfl)⟩
  case stop =>
    rintro D c pre W _ _ h _
    exact h.elim
end Go.Proofs.Ytpmgabeefppajaa
