/- Texts of one proof, joined. -/
import Derived.Test.YtphijnkiiokieaaGreatDoorZas
set_option linter.unusedVariables false
set_option linter.unusedSimpArgs false
set_option maxRecDepth 100000
set_option maxHeartbeats 80000000
namespace Go.Proofs.YtphijnkiiokieaaGreatDoor
open Go.RowKit
open Go.Lib hiding intOf
theorem results_cell0 {fn : Func} {p : Tmp} {ty : TypeId} (h : fn.results = #[.cell p ty]) (tmps : Array Value) (P : Program) (w : World) (g : Nat) (t : TypeId) (cs : Array Value) (fr : Nat × Nat) (fs : Array Field)
  (hp : tmps.getD p undef = .pointer (some ⟨g, 0, none⟩)) (hg : w.heap[g]? = some (.cells cs t fr))
  (hu : P.underlying ty = some (.struct fs)) (hi : (P.info? ty).map (·.size) = some cs.size) :
  (results fn tmps).run P w = .ok (.agg cs) w := by
 have hp' : tmps[p]?.getD undef = .pointer (some ⟨g, 0, none⟩) := by simpa using hp
 simp [results, h, hp', asAddr, run_loadVar_row w g t ty cs fr _ hg hu rfl hi]
theorem qcond_out {cs : Array Value} (hc : cs.size = 2) {R : Ending → World → Prop} {a : Act} {w : World} {g : Nat} (h2 : a.tmps.getD 2 undef = .pointer (some ⟨g, 0, none⟩)) (hd : a.defers = []) (hg : Blk w g 23 cs)
  (hR : R (.returned (.agg cs)) w) : bodyPost Tryz.prog Tryz.f32 R .ret a w :=
 bodyPost_ret (results_cell0 (fn := Tryz.f32) rfl a.tmps Tryz.prog w g 23 cs (0, 0) _ h2 hg Tryz.underlying23 (by rw [hc]; rfl)) hd hR
structure Bw (w0 wr : World) (G g X : Nat) (t : TypeId) (cs : Array Value) (s : ByteArray) (q : Ps) (x : Bool) : Prop where
 wi : Wi wr G g s q x
 bx : Blk wr X t cs
 tw : Tw2 w0 wr G g
 hX : w0.heap.size ≤ X
 hG : G < w0.heap.size
 hg : g < w0.heap.size
section
variable {w0 wr w' : World} {G g X : Nat} {t : TypeId} {cs : Array Value} {s : ByteArray} {q q' : Ps} {x x' : Bool}
theorem Bw.start (h : Wi w0 G g s q x) (t : TypeId) (cs : Array Value) : Bw w0 (w0.alloc (.cells cs t)) G g w0.heap.size t cs s q x :=
 have hb : Below w0.heap.size w0 (w0.alloc (.cells cs t)) := (Below.refl _ _).alloc (Nat.le_refl _) _
 ⟨h.keep hb, Blk.new _ _ _, Tw2.ofBelow hb, Nat.le_refl _, h.bx.lt, Blk.lt h.rd⟩
theorem Bw.call (h : Bw w0 wr G g X t cs s q x) (hw : Wi w' G g s q' x') (ht : Tw2 wr w' G g) : Bw w0 w' G g X t cs s q' x' := by
 have h1 := h.hX; have h2 := h.hG; have h3 := h.hg
 exact ⟨hw, (ht.block X h.bx.lt (by omega) (by omega)).trans h.bx, h.tw.trans ht, h1, h2, h3⟩
theorem Bw.set (h : Bw w0 wr G g X t cs s q x) (i : Nat) (u : Value) : Bw w0 (wr.setCell ⟨X, i, none⟩ u) G g X t (cs.setIfInBounds i u) s q x := by
 have h1 := h.hX; have h2 := h.hG; have h3 := h.hg
 exact ⟨⟨h.wi.bx.far (p := ⟨X, i, none⟩) (by show G ≠ X; omega) u, Blk.far (p := ⟨X, i, none⟩) h.wi.rd (by show g ≠ X; omega) u, h.wi.ne, h.wi.hp⟩, h.bx.set_ i u, h.tw.far h1 u, h1, h2, h3⟩
end
section
variable {w : World} {G g : Nat} {s : ByteArray} {q : Ps} {x : Bool}
theorem qtext_any (h : Wi w G g s q x) (hs : s.size ≤ 1000000) (a : Int) (b : Bool) (hb : (a == 0) = !b) : Calls Tryz.prog 31 #[.pointer (some ⟨G, 0, none⟩), .int .i64 a] w fun e w' => e = .returned (.string (otP b s.data.toList q).1) ∧ Wi w' G g s (otP b s.data.toList q).2 x ∧ Tw2 w w' G g := by
 have HW := Zh h; have HF := Zh (field_any h hs); clear h
 cases b with
 | false =>
  go_enter Tryz.func31, Tryz.ntmps31
  go_wp2
  go_ret
  exact ⟨rfl, HW.out, Tw2.refl _ _ _⟩
 | true =>
  go_enter Tryz.func31, Tryz.ntmps31
  go_wp2_with fail
  refine HF.out.mono ?_; rintro _ w1 ⟨rfl, h1, h2⟩; have H1 := Zh h1; have H2 := Zh h2; clear h1 h2
  go_wp2
  go_ret
  exact ⟨rfl, H1.out, H2.out⟩
theorem qnumber_any (h : Wi w G g s q x) (hs : s.size ≤ 1000000) (a : Int) (b : Bool) (hb : (a == 0) = !b) : Calls Tryz.prog 35 #[.pointer (some ⟨G, 0, none⟩), .int .i64 a] w fun e w' => e = .returned (.int .i64 (obP b s.data.toList q x).1) ∧ Wi w' G g s (obP b s.data.toList q x).2.1 (obP b s.data.toList q x).2.2 ∧ Tw2 w w' G g := by
 have HW := Zh h; have HF := Zh (below_any h hs 2147483647); clear h
 cases b with
 | false =>
  go_enter Tryz.func35, Tryz.ntmps35
  go_wp2
  go_ret
  exact ⟨rfl, HW.out, Tw2.refl _ _ _⟩
 | true =>
  go_enter Tryz.func35, Tryz.ntmps35
  go_wp2_with fail
  refine HF.out.mono ?_; rintro _ w1 ⟨rfl, h1, h2⟩; have H1 := Zh h1; have H2 := Zh h2; clear h1 h2
  go_wp2
  go_ret
  exact ⟨rfl, H1.out, H2.out⟩
theorem qcond_any (h : Wi w G g s q x) (hs : s.size ≤ 1000000) : Calls Tryz.prog 32 #[.pointer (some ⟨G, 0, none⟩)] w fun e w' => e = .returned (.agg #[.int .i64 (condP s.data.toList q x).1.1, .int .i64 (condP s.data.toList q x).1.2]) ∧ Wi w' G g s (condP s.data.toList q x).2.1 (condP s.data.toList q x).2.2 ∧ Tw2 w w' G g := by
 have HX0 := Zh (Bw.start h 23 #[.int .i64 0, .int .i64 0]); have eC : condP s.data.toList q x = (((belowP 2147483647 s.data.toList q x).1, (numP s.data.toList (belowP 2147483647 s.data.toList q x).2.1).1), (numP s.data.toList (belowP 2147483647 s.data.toList q x).2.1).2, (belowP 2147483647 s.data.toList q x).2.2) := rfl; obtain ⟨⟨k1, q1, x1⟩, e1⟩ : ∃ z, belowP 2147483647 s.data.toList q x = z := ⟨_, rfl⟩; rw [e1] at eC; simp only at eC; obtain ⟨⟨v2, q2⟩, e2⟩ : ∃ z, numP s.data.toList q1 = z := ⟨_, rfl⟩; rw [e2] at eC; simp only at eC; rw [eC]; have HF1 := Zh (fun w0 (h : Wi w0 G g s q x) => e1 ▸ below_any h hs 2147483647); have HF2 := Zh (fun w0 (h : Wi w0 G g s q1 x1) => e2 ▸ wnum_any h hs); simp only at HF1 HF2; clear e1 e2 eC h
 go_enter Tryz.func32, Tryz.ntmps32
 go_wp2_with fail
 refine (HF1.out _ HX0.out.wi).mono ?_; rintro _ w1 ⟨rfl, h1, h2⟩; have HX1 := Zh (HX0.out.call h1 h2); have c0 := HX1.out.wi.bx.cell 0; clear h1 h2
 go_wp2_with fail
 refine (HF2.out _ HX1.out.wi).mono ?_; rintro _ w2 ⟨rfl, h1, h2⟩; have HX2 := Zh (HX1.out.call h1 h2); have b0 := HX2.out.bx.cell 0; have b1 := HX2.out.bx.cell 1; have f0 := HX2.out.bx.frozen 0; have f1 := HX2.out.bx.frozen 1; have HX3 := Zh (HX2.out.set 0 (.int .i64 k1)); have HX4 := Zh (HX3.out.set 1 (.int .i64 v2)); clear h1 h2
 go_wp2
 exact qcond_out rfl (g := w.heap.size) rfl rfl HX4.out.bx ⟨rfl, HX4.out.wi, HX4.out.tw⟩
end
structure Sq (w0 wr : World) (G g X : Nat) (cs : Array Value) (s : ByteArray) (q : Ps) (x : Bool) (v : Value) (n : Nat) (vs : List Value) : Prop where
 wi : Wi wr G g s q x
 ow : wr.ownsRow w0.heap.size 43 5 v n vs
 tw : Tw2 w0 wr G g
 bx : Blk wr X 43 cs
 hX : w0.heap.size ≤ X
 hv : v.ownBlock ≠ some X
 hG : G < w0.heap.size
 hg : g < w0.heap.size
theorem Sq.call {w0 wr w' : World} {G g X : Nat} {cs : Array Value} {s : ByteArray} {q q' : Ps} {x x' : Bool} {v : Value} {n : Nat} {vs : List Value} (h : Sq w0 wr G g X cs s q x v n vs) (hw : Wi w' G g s q' x') (ht : Tw2 wr w' G g) : Sq w0 w' G g X cs s q' x' v n vs :=
 ⟨hw, own_tw h.ow ht h.hG h.hg, h.tw.trans ht, (ht.block X h.bx.lt (by have := h.hX; have := h.hG; omega) (by have := h.hX; have := h.hg; omega)).trans h.bx, h.hX, h.hv, h.hG, h.hg⟩
theorem Sq.set {w0 wr : World} {G g X : Nat} {cs : Array Value} {s : ByteArray} {q : Ps} {x : Bool} {v : Value} {n : Nat} {vs : List Value} (h : Sq w0 wr G g X cs s q x v n vs) (i : Nat) (u : Value) : Sq w0 (wr.setCell ⟨X, i, none⟩ u) G g X (cs.setIfInBounds i u) s q x v n vs :=
 ⟨⟨h.wi.bx.far (p := ⟨X, i, none⟩) (by have := h.hX; have := h.hG; show G ≠ X; omega) u, Blk.far (p := ⟨X, i, none⟩) h.wi.rd (by have := h.hX; have := h.hg; show g ≠ X; omega) u, h.wi.ne, h.wi.hp⟩, by
  obtain ⟨h0, h3 | ⟨b, cap, cur, e1, e2, e3, e4⟩⟩ := h.ow
  ·
   exact ⟨h0, .inl h3⟩
  ·
   refine ⟨h0, .inr ⟨b, cap, cur, e1, e2, (Below.heap_setCell wr ⟨X, i, none⟩ u b ?_).trans e3, e4⟩⟩; intro e; have := h.hv; rw [e1] at this
   exact this (by show some b = some X; rw [e]), h.tw.far h.hX u, h.bx.set_ i u, h.hX, h.hv, h.hG, h.hg⟩
structure Lq (w0 wr : World) (G g : Nat) (s : ByteArray) (q : Ps) (x : Bool) (v : Value) (acc : List Opn) : Prop where
 wi : Wi wr G g s q x
 ow : wr.ownsRow w0.heap.size 43 5 v acc.length (opsC acc)
 tw : Tw2 w0 wr G g
 hG : G < w0.heap.size
 hg : g < w0.heap.size
theorem Lq.box {w0 wr w' : World} {G g : Nat} {s : ByteArray} {q q' : Ps} {x x' : Bool} {v : Value} {acc : List Opn} (h : Lq w0 wr G g s q x v acc) (hw : Wi w' G g s q' x') (ht : Tw2 wr w' G g) (cs : Array Value) : Sq w0 (w'.alloc (.cells cs 43)) G g w'.heap.size cs s q' x' v acc.length (opsC acc) :=
 have hb : Below w'.heap.size w' (w'.alloc (.cells cs 43)) := (Below.refl _ _).alloc (Nat.le_refl _) _
 ⟨hw.keep hb, (own_tw h.ow ht h.hG h.hg).alloc _, (h.tw.trans ht).trans (Tw2.ofBelow hb), Blk.new _ _ _, Nat.le_trans h.tw.size ht.size, fun e => by
  have := ((own_tw h.ow ht h.hG h.hg).lt _ e).2
  omega, h.hG, h.hg⟩
theorem Sq.fin {w0 wr w' : World} {G g X : Nat} {cs : Array Value} {s : ByteArray} {q : Ps} {x : Bool} {v : Value} {n : Nat} {vs : List Value} {o : Obj} (h : Sq w0 wr G g X cs s q x v n vs) (hg : (wr.alloc o).grownBy w' v.ownBlock) : Wi w' G g s q x ∧ Tw2 w0 w' G g := by
 have hb : Below wr.heap.size wr (wr.alloc o) := (Below.refl _ _).alloc (Nat.le_refl _) _; have hW := h.wi.keep hb; have hT := h.tw.trans (Tw2.ofBelow hb); have hr : ∀ k, v.ownBlock = some k → w0.heap.size ≤ k := fun k e => (h.ow.lt k e).1
 have h1 := h.hG; have h2 := h.hg; refine ⟨⟨hW.bx.grown hg (fun e => ?_), Blk.grown hW.rd hg (fun e => ?_), hW.ne, hW.hp⟩, ⟨hg.os.trans hT.os, hg.tape.trans hT.tape, hg.output.trans hT.output, Nat.le_trans hT.size hg.size, fun j hj h3 h4 => (hg.block j (Nat.lt_of_lt_of_le hj hT.size) (fun e => ?_)).trans (hT.block j hj h3 h4)⟩⟩
 ·
  have := hr G e.symm; omega
 ·
  have := hr g e.symm; omega
 ·
  have := hr j e.symm; omega
theorem infoOp : (Tryz.prog.info? 43).map (fun i => (i.zero, i.size, i.bytes)) = some (some (.agg #[.bool false, .string ⟨#[]⟩, .string ⟨#[]⟩, .int .i64 0, .int .i64 0]), 5, 56) := by kernel_rfl
theorem q_info_parts {e : TypeId} {z : Value} {a b : Nat} (h : (Tryz.prog.info? e).map (fun i => (i.zero, i.size, i.bytes)) = some (some z, a, b)) : ∃ i, Tryz.prog.info? e = some i ∧ i.zero = some z ∧ i.size = a ∧ i.bytes = b := by
 cases hh : Tryz.prog.info? e with
 | none => rw [hh] at h; cases h
 | some i => rw [hh] at h; simp at h; exact ⟨i, rfl, h.1, h.2.1, h.2.2⟩
section
variable {w : World} {G g : Nat} {s : ByteArray} {q : Ps} {x : Bool}
theorem qops_any (h : Wi w G g s q x) (hs : s.size ≤ 1000000) : Calls Tryz.prog 33 #[.pointer (some ⟨G, 0, none⟩)] w fun r w' => ∃ v, r = .returned v ∧ w'.ownsRow w.heap.size 43 5 v (opsR s.data.toList q x).1.length (opsC (opsR s.data.toList q x).1) ∧ Wi w' G g s (opsR s.data.toList q x).2.1 (opsR s.data.toList q x).2.2 ∧ Tw2 w w' G g := by
 have hG := h.bx.lt; have hg := Blk.lt h.rd; obtain ⟨i0, hi, hz0, hz1, hz2⟩ := q_info_parts infoOp; have HB := Zh (below_any h hs 16); have HN := Zh (belowP_nat 16 s.data.toList q x); have HR := Zh (show opsP (belowP 16 s.data.toList q x).1.toNat s.data.toList (belowP 16 s.data.toList q x).2.1 (belowP 16 s.data.toList q x).2.2 = opsR s.data.toList q x from rfl); obtain ⟨T, hT⟩ : ∃ T, opsR s.data.toList q x = T := ⟨_, rfl⟩; rw [hT] at HR ⊢; obtain ⟨⟨n, q2, x2⟩, hn⟩ : ∃ y, belowP 16 s.data.toList q x = y := ⟨_, rfl⟩; rw [hn] at HB HN HR; simp only at HB HN HR; obtain ⟨N, rfl⟩ : ∃ k : Nat, n = (k : Int) := ⟨n.toNat, by have := HN.out.1; omega⟩; have hk : N ≤ 16 := by have := HN.out.2; omega
 have hkI : (N : Int) ≤ 16 := by omega
 rw [Int.toNat_natCast] at HR; clear h hT hn HN
 go_enter Tryz.func33, Tryz.ntmps33
 go_wp2_with fail
 refine HB.out.mono ?_; rintro _ w1 ⟨rfl, h1, h2⟩; have HL0 := Zh (show Lq w w1 G g s q2 x2 (.slice none 0 0) [] from ⟨h1, World.ownsRow_nil _ _ _ _, h2, hG, hg⟩); clear h1 h2 HB
 go_wp2_with fail
 go_loopw [3, 7] (fun v i wr => ∃ (j : Nat) (acc : List Opn) (p : Ps) (y : Bool), j ≤ N ∧ i = .int .i64 (j : Int) ∧ acc.length = j ∧ Lq w wr G g s p y v acc ∧ T = (acc ++ (opsP (N - j) s.data.toList p y).1, (opsP (N - j) s.data.toList p y).2)) (fun _ i _ => N - (intOf i).toNat)
 case atStart => exact ⟨0, [], q2, x2, Nat.zero_le _, rfl, rfl, HL0.out, by rw [← HR.out]; rfl⟩
 case round =>
  obtain ⟨j, acc, p, y, hj, rfl, hal, hL, hTe⟩ := hrel; have HL := Zh hL; have HT := Zh hTe; have HAC := Zh hal; clear hL hTe hal
  by_cases hjn : j < N
  ·
   have hjI : (j : Int) < (N : Int) := by omega
   obtain ⟨m, hm⟩ : ∃ m, N - j = m + 1 := ⟨N - j - 1, by omega⟩; have hm2 : N - (j + 1) = m := by omega
   have HM := Zh hm; have HM2 := Zh hm2; obtain ⟨⟨gx, p1, y1⟩, e1⟩ : ∃ z, markP s.data.toList p y = z := ⟨_, rfl⟩; obtain ⟨⟨tu, p2⟩, e2⟩ : ∃ z, textP 20000 s.data.toList p1 = z := ⟨_, rfl⟩; obtain ⟨⟨tc, p3⟩, e3⟩ : ∃ z, otP (!gx) s.data.toList p2 = z := ⟨_, rfl⟩; obtain ⟨⟨⟨ck, cv⟩, p4, y4⟩, e4⟩ : ∃ z, condP s.data.toList p3 y1 = z := ⟨_, rfl⟩; have eO : opP s.data.toList p y = (⟨gx, tu, tc, ck, cv⟩, p4, y4) := by unfold opP; simp only [e1, e2, e3, e4]
   have H0 := Zh (show T = ((acc ++ [⟨gx, tu, tc, ck, cv⟩]) ++ (opsP (N - (j + 1)) s.data.toList p4 y4).1, (opsP (N - (j + 1)) s.data.toList p4 y4).2) by
    rw [HT.out, hm, show opsP (m + 1) s.data.toList p y = ((opP s.data.toList p y).1 :: (opsP m s.data.toList (opP s.data.toList p y).2.1 (opP s.data.toList p y).2.2).1, (opsP m s.data.toList (opP s.data.toList p y).2.1 (opP s.data.toList p y).2.2).2) from rfl, eO, hm2]
    simp)
   have HF1 := Zh (fun w0 (h : Wi w0 G g s p y) => e1 ▸ wmark_any h hs); have HF2 := Zh (fun w0 (h : Wi w0 G g s p1 y1) => e2 ▸ field_any h hs); have HF3 := Zh (fun (hgx : gx = false) w0 (h : Wi w0 G g s p2 y1) => show Calls Tryz.prog 55 #[.pointer (some ⟨G, 0, none⟩)] w0 fun r w' => r = .returned (.string tc) ∧ Wi w' G g s p3 y1 ∧ Tw2 w0 w' G g from by
    have e3' : textP 20000 s.data.toList p2 = (tc, p3) := by subst hgx; exact e3
    have := field_any h hs; rw [e3'] at this
    exact this)
   have HZ3 := Zh (fun (hgx : gx = true) => show tc = bE ∧ p3 = p2 by subst hgx; exact ⟨(congrArg Prod.fst e3).symm, (congrArg Prod.snd e3).symm⟩); have HF4 := Zh (fun w0 (h : Wi w0 G g s p3 y1) => e4 ▸ qcond_any h hs); simp only at HF1 HF2 HF4; clear eO e1 e2 e3 e4 HT HR HL0 hm hm2
   go_wp2_with fail
   refine (HF1.out _ HL.out.wi).mono ?_; rintro _ w2 ⟨rfl, h1, h2⟩; have HS2 := Zh (HL.out.box h1 h2 #[.bool gx, .string ⟨#[]⟩, .string ⟨#[]⟩, .int .i64 0, .int .i64 0]); clear h1 h2
   go_wp2_with fail
   refine (HF2.out _ HS2.out.wi).mono ?_; rintro _ w3 ⟨rfl, h1, h2⟩; have HS3 := Zh (HS2.out.call h1 h2); have g3 := HS3.out.bx.cell 1; have f3 := HS3.out.bx.frozen 1; have HS4 := Zh (HS3.out.set 1 (.string tu)); have g40 := HS4.out.bx.cell 0; clear h1 h2
   cases gx with
   | true =>
    obtain ⟨rfl, rfl⟩ := HZ3.out rfl
    go_wp2_with fail
    refine (HF4.out _ HS4.out.wi).mono ?_; rintro _ w6 ⟨rfl, h1, h2⟩; have HS6 := Zh (HS4.out.call h1 h2); have g63 := HS6.out.bx.cell 3; have f63 := HS6.out.bx.frozen 3; have g64 := HS6.out.bx.cell 4; have f64 := HS6.out.bx.frozen 4; have HS7 := Zh (HS6.out.set 3 (.int .i64 ck)); have HS9 := Zh (HS7.out.set 4 (.int .i64 cv)); have c90 := HS9.out.bx.cell 0; have c91 := HS9.out.bx.cell 1; have c92 := HS9.out.bx.cell 2; have c93 := HS9.out.bx.cell 3; have c94 := HS9.out.bx.cell 4; have HOA := Zh (HS9.out.ow.alloc (.cells #[.bool true, .string tu, .string ⟨#[]⟩, .int .i64 ck, .int .i64 cv] 43)); have HBK := Zh (show Blk (((w6.setCell ⟨w2.heap.size, 3, none⟩ (.int .i64 ck)).setCell ⟨w2.heap.size, 4, none⟩ (.int .i64 cv)).alloc (.cells #[.bool true, .string tu, .string ⟨#[]⟩, .int .i64 ck, .int .i64 cv] 43)) w6.heap.size 43 #[.bool true, .string tu, .string ⟨#[]⟩, .int .i64 ck, .int .i64 cv] from by
     have := Blk.new ((w6.setCell ⟨w2.heap.size, 3, none⟩ (.int .i64 ck)).setCell ⟨w2.heap.size, 4, none⟩ (.int .i64 cv)) 43 #[.bool true, .string tu, .string ⟨#[]⟩, .int .i64 ck, .int .i64 cv]
     simpa [World.setCell] using this)
    have HSZ := Zh (show w.heap.size ≤ (((w6.setCell ⟨w2.heap.size, 3, none⟩ (.int .i64 ck)).setCell ⟨w2.heap.size, 4, none⟩ (.int .i64 cv)).alloc (.cells #[.bool true, .string tu, .string ⟨#[]⟩, .int .i64 ck, .int .i64 cv] 43)).heap.size by
     have := HS9.out.tw.size
     simp at this ⊢; omega)
    clear h1 h2
    go_wp2_with (at_builtin; refine wpList_append_own _ rfl _ _ 24 rfl w.heap.size 43 i0 _ 5 56 Tryz.underlying24 hi hz0 hz1 hz2 rfl (by decide) _ _ _ rfl HOA.out ⟨w6.heap.size, 0, none⟩ 1 1 [.bool true, .string tu, .string ⟨#[]⟩, .int .i64 ck, .int .i64 cv] rfl rfl ?ctrue1 ?ctrue2 ?ctrue3 ?ctrue4 ?ctrue5 ?_)
    case ctrue1 =>
     intro j u hj; have e := HBK.out.cell j; rw [show (⟨w6.heap.size, 0, none⟩ : Addr).add j = ⟨w6.heap.size, j, none⟩ by unfold Addr.add; split <;> simp_all, e, ← hj]
     simp
    case ctrue2 =>
     intro u hu; simp only [List.mem_cons, List.not_mem_nil, or_false] at hu
     rcases hu with rfl | rfl | rfl | rfl | rfl <;> rfl
    case ctrue3 => have := HAC.out; unfold maxLen; omega
    case ctrue4 => have := HAC.out; omega
    case ctrue5 => exact HSZ.out
    intro v' w9 h1 h2 h3; have HO9 := Zh h1; have HF9 := Zh (HS9.out.fin h2); clear h1 h2 h3
    go_wp2
    refine ⟨⟨j + 1, acc ++ [⟨true, tu, ⟨#[]⟩, ck, cv⟩], p4, y4, by omega, by go_num, by rw [List.length_append]; have := HAC.out; show acc.length + 1 = _; omega, ⟨HF9.out.1, ?_, HF9.out.2, hG, hg⟩, H0.out⟩, by simp [intOf]; omega⟩; rw [opsC_snoc, List.length_append]
    exact HO9.out
   | false =>
    go_wp2_with fail
    refine (HF3.out (by trivial) _ HS4.out.wi).mono ?_; rintro _ w4 ⟨rfl, h1, h2⟩; have HS5 := Zh (HS4.out.call h1 h2); have g5 := HS5.out.bx.cell 2; have f5 := HS5.out.bx.frozen 2; have HS5b := Zh (HS5.out.set 2 (.string tc)); clear h1 h2
    go_wp2_with fail
    refine (HF4.out _ HS5b.out.wi).mono ?_; rintro _ w6 ⟨rfl, h1, h2⟩; have HS6 := Zh (HS5b.out.call h1 h2); have g63 := HS6.out.bx.cell 3; have f63 := HS6.out.bx.frozen 3; have g64 := HS6.out.bx.cell 4; have f64 := HS6.out.bx.frozen 4; have HS7 := Zh (HS6.out.set 3 (.int .i64 ck)); have HS9 := Zh (HS7.out.set 4 (.int .i64 cv)); have c90 := HS9.out.bx.cell 0; have c91 := HS9.out.bx.cell 1; have c92 := HS9.out.bx.cell 2; have c93 := HS9.out.bx.cell 3; have c94 := HS9.out.bx.cell 4; have HOA := Zh (HS9.out.ow.alloc (.cells #[.bool false, .string tu, .string tc, .int .i64 ck, .int .i64 cv] 43)); have HBK := Zh (show Blk (((w6.setCell ⟨w2.heap.size, 3, none⟩ (.int .i64 ck)).setCell ⟨w2.heap.size, 4, none⟩ (.int .i64 cv)).alloc (.cells #[.bool false, .string tu, .string tc, .int .i64 ck, .int .i64 cv] 43)) w6.heap.size 43 #[.bool false, .string tu, .string tc, .int .i64 ck, .int .i64 cv] from by
     have := Blk.new ((w6.setCell ⟨w2.heap.size, 3, none⟩ (.int .i64 ck)).setCell ⟨w2.heap.size, 4, none⟩ (.int .i64 cv)) 43 #[.bool false, .string tu, .string tc, .int .i64 ck, .int .i64 cv]
     simpa [World.setCell] using this)
    have HSZ := Zh (show w.heap.size ≤ (((w6.setCell ⟨w2.heap.size, 3, none⟩ (.int .i64 ck)).setCell ⟨w2.heap.size, 4, none⟩ (.int .i64 cv)).alloc (.cells #[.bool false, .string tu, .string tc, .int .i64 ck, .int .i64 cv] 43)).heap.size by
     have := HS9.out.tw.size
     simp at this ⊢; omega)
    clear h1 h2
    go_wp2_with (at_builtin; refine wpList_append_own _ rfl _ _ 24 rfl w.heap.size 43 i0 _ 5 56 Tryz.underlying24 hi hz0 hz1 hz2 rfl (by decide) _ _ _ rfl HOA.out ⟨w6.heap.size, 0, none⟩ 1 1 [.bool false, .string tu, .string tc, .int .i64 ck, .int .i64 cv] rfl rfl ?cfalse1 ?cfalse2 ?cfalse3 ?cfalse4 ?cfalse5 ?_)
    case cfalse1 =>
     intro j u hj; have e := HBK.out.cell j; rw [show (⟨w6.heap.size, 0, none⟩ : Addr).add j = ⟨w6.heap.size, j, none⟩ by unfold Addr.add; split <;> simp_all, e, ← hj]
     simp
    case cfalse2 =>
     intro u hu; simp only [List.mem_cons, List.not_mem_nil, or_false] at hu
     rcases hu with rfl | rfl | rfl | rfl | rfl <;> rfl
    case cfalse3 => have := HAC.out; unfold maxLen; omega
    case cfalse4 => have := HAC.out; omega
    case cfalse5 => exact HSZ.out
    intro v' w9 h1 h2 h3; have HO9 := Zh h1; have HF9 := Zh (HS9.out.fin h2); clear h1 h2 h3
    go_wp2
    refine ⟨⟨j + 1, acc ++ [⟨false, tu, tc, ck, cv⟩], p4, y4, by omega, by go_num, by rw [List.length_append]; have := HAC.out; show acc.length + 1 = _; omega, ⟨HF9.out.1, ?_, HF9.out.2, hG, hg⟩, H0.out⟩, by simp [intOf]; omega⟩; rw [opsC_snoc, List.length_append]
    exact HO9.out
  ·
   obtain rfl : j = N := by omega
   have e : T = (acc, p, y) := by rw [HT.out, Nat.sub_self]; simp [opsP]
   have H9 := Zh e; clear e
   go_wp2
   go_ret
   rw [H9.out]
   exact ⟨u3, rfl, HL.out.ow, HL.out.wi, HL.out.tw⟩
end
theorem bit_any (x : Bool) (w : World) : Calls Tryz.prog 29 #[.bool x] w fun e w' => e = .returned (.int .i64 (b01 x)) ∧ w' = w := by
 cases x
 ·
  go_enter Tryz.func29, Tryz.ntmps29
  go_wp2
  go_ret
  exact ⟨rfl, rfl⟩
 ·
  go_enter Tryz.func29, Tryz.ntmps29
  go_wp2
  go_ret
  exact ⟨rfl, rfl⟩
theorem rnum_on {B : Nat} {w : World} {v : Value} {l : List UInt8} (h : Own 5 B w v l) (hB : B ≤ w.heap.size) (hl : l.length ≤ 600000) (n : Int) (hn : n < 9223372036854775808) : Calls Tryz.prog 28 #[v, .int .i64 n] w fun e w' => ∃ v', e = .returned v' ∧ Own 5 B w' v' (l ++ encz n) ∧ Below w.heap.size w w' := by
 obtain ⟨A, cap, b, rfl, hb⟩ := h.byt
 exact (rnum_any hb (by omega) n hn).mono fun _ _ ⟨v', h1, h2, h3⟩ => ⟨v', h1, h2.mono hB, h3⟩
theorem rtext_on {B : Nat} {w : World} {v : Value} {l : List UInt8} (h : Own 5 B w v l) (hB : B ≤ w.heap.size) (hl : l.length ≤ 600000) (s : ByteArray) (hs : s.size ≤ 1000000) : Calls Tryz.prog 26 #[v, .string s] w fun e w' => ∃ v', e = .returned v' ∧ Own 5 B w' v' (l ++ enct s) ∧ Below w.heap.size w w' := by
 obtain ⟨A, cap, b, rfl, hb⟩ := h.byt
 exact (p_rtext_any hb (by omega) s hs).mono fun _ _ ⟨v', h1, h2, h3⟩ => ⟨v', h1, h2.mono hB, h3⟩
section
variable {w0 wr w' : World} {g : Nat} {t : TypeId} {cs : Array Value} {v v' : Value} {l l' : List UInt8}
end
structure Rr (w : World) (g : Nat) (A : Option Addr) (cap b off : Nat) (l : List UInt8) (p : Nat) (e : Int) : Prop where
 bx : Blk w g 66 #[.slice A l.length cap, .int .i64 (p : Int), .int .i64 e]
 byt : Byt w A l.length cap b off l
 ne : 0 < l.length → b ≠ g
 hp : p ≤ l.length
section
variable {w w' : World} {g : Nat} {A : Option Addr} {cap b off : Nat} {l : List UInt8} {p : Nat} {e : Int}
theorem Rr.keep (h : Rr w g A cap b off l p e) (hb : Below w.heap.size w w') : Rr w' g A cap b off l p e := ⟨h.bx.below hb h.bx.lt, h.byt.below hb, h.ne, h.hp⟩
theorem Rr.c0 (h : Rr w g A cap b off l p e) : w.cell? ⟨g, 0, none⟩ = some (.slice A l.length cap) := h.bx.cell 0
theorem Rr.c1 (h : Rr w g A cap b off l p e) : w.cell? ⟨g, 1, none⟩ = some (.int .i64 (p : Int)) := h.bx.cell 1
theorem Rr.c2 (h : Rr w g A cap b off l p e) : w.cell? ⟨g, 2, none⟩ = some (.int .i64 e) := h.bx.cell 2
def lk (l : List UInt8) (p : Nat) : Array Value := #[.int .i64 ((rt (l.drop p)).1 : Int), .int .i64 (if (rt (l.drop p)).2.2 = 0 then ((p + (rt (l.drop p)).2.1 : Nat) : Int) else 0), .int .i64 (rt (l.drop p)).2.2]
theorem look_end (h : Rr w g A cap b off l p e) (hl : l.length ≤ 1000000) (hp : p = l.length) : Calls Tryz.prog 61 #[.pointer (some ⟨g, 0, none⟩)] w fun r w' => r = .returned (.tuple #[.int .i64 0, .int .i64 0, .int .i64 14]) ∧ Below w.heap.size w w' := by
 have c0 := h.c0; have c1 := h.c1; have H0 := Zh (Below.refl w.heap.size w); have hlI : (l.length : Int) ≤ 1000000 := by omega
 have hpI : (l.length : Int) ≤ (p : Int) := by omega
 clear h
 go_enter Tryz.func61, Tryz.ntmps61
 go_wp2
 go_quiet (fail)
 go_wp2
 go_ret3
 exact ⟨rfl, below_drewN H0.out _⟩
theorem look_one (h : Rr w g A cap b off l p e) (hl : l.length ≤ 1000000) {c : UInt8} (hc : l[p]? = some c) (h8 : (c.toNat : Int) < 248) : Calls Tryz.prog 61 #[.pointer (some ⟨g, 0, none⟩)] w fun r w' => r = .returned (.tuple #[.int .i64 (c.toNat : Int), .int .i64 ((p : Int) + 1), .int .i64 0]) ∧ Below w.heap.size w w' := by
 have hpl : p < l.length := (List.getElem?_eq_some_iff.1 hc).1; have c0 := h.c0; have c1 := h.c1; obtain ⟨rfl, hbl⟩ := h.byt.addr (by omega); have cc := h.byt.cell p c hc; have hcap : l.length ≤ cap := h.byt.le; have H0 := Zh (Below.refl w.heap.size w); have hlI : (l.length : Int) ≤ 1000000 := by omega
 have hpI : (p : Int) < (l.length : Int) := by omega
 have i1 : IntKind.i64.wrap ((p : Int) + 1) = (p : Int) + 1 := IntWalk.i64_in _ (by omega); have i2 : IntKind.i64.wrap (c.toNat : Int) = (c.toNat : Int) := IntWalk.i64_in _ (by omega); have i4 := i64_of_u8 c; have i3 : IntKind.i64.wrap ((c.toNat : Int) - 247) = (c.toNat : Int) - 247 := IntWalk.i64_in _ (by omega); clear h hc
 go_enter Tryz.func61, Tryz.ntmps61
 go_wp2
 go_quiet (fail)
 go_wp2
 go_quiet (fail)
 go_wp2
 go_quiet (fail)
 go_wp2
 go_ret3
 exact ⟨rfl, by repeat (first | exact H0.out | refine below_drewN ?_ _)⟩
theorem look_cut (h : Rr w g A cap b off l p e) (hl : l.length ≤ 1000000) {c : UInt8} (hc : l[p]? = some c) (h8 : ¬ (c.toNat : Int) < 248) (hk : (l.length : Int) - (p : Int) - 1 < (c.toNat : Int) - 247) : Calls Tryz.prog 61 #[.pointer (some ⟨g, 0, none⟩)] w fun r w' => r = .returned (.tuple #[.int .i64 0, .int .i64 0, .int .i64 14]) ∧ Below w.heap.size w w' := by
 have hpl : p < l.length := (List.getElem?_eq_some_iff.1 hc).1; have c0 := h.c0; have c1 := h.c1; obtain ⟨rfl, hbl⟩ := h.byt.addr (by omega); have cc := h.byt.cell p c hc; have hcap : l.length ≤ cap := h.byt.le; have H0 := Zh (Below.refl w.heap.size w); have hlI : (l.length : Int) ≤ 1000000 := by omega
 have hpI : (p : Int) < (l.length : Int) := by omega
 have hcb := c.toNat_lt; have i4 := i64_of_u8 c; have i2 : IntKind.i64.wrap (c.toNat : Int) = (c.toNat : Int) := IntWalk.i64_in _ (by omega); have i3 : IntKind.i64.wrap ((c.toNat : Int) - 247) = (c.toNat : Int) - 247 := IntWalk.i64_in _ (by omega); have i5 : IntKind.i64.wrap ((l.length : Int) - (p : Int)) = (l.length : Int) - (p : Int) := IntWalk.i64_in _ (by omega); have i6 : IntKind.i64.wrap ((l.length : Int) - (p : Int) - 1) = (l.length : Int) - (p : Int) - 1 := IntWalk.i64_in _ (by omega); clear h hc
 go_enter Tryz.func61, Tryz.ntmps61
 go_wp2
 go_quiet (fail)
 go_wp2
 go_quiet (fail)
 go_wp2
 go_quiet (fail)
 go_wp2
 go_ret3
 exact ⟨rfl, by repeat (first | exact H0.out | refine below_drewN ?_ _)⟩
theorem look_zero (h : Rr w g A cap b off l p e) (hl : l.length ≤ 1000000) {c d : UInt8} (hc : l[p]? = some c) (h8 : ¬ (c.toNat : Int) < 248) (hk : ¬ (l.length : Int) - (p : Int) - 1 < (c.toNat : Int) - 247) (hd : l[p + 1]? = some d) (h0 : ((d.toNat : Int) == 0) = true) : Calls Tryz.prog 61 #[.pointer (some ⟨g, 0, none⟩)] w fun r w' => r = .returned (.tuple #[.int .i64 0, .int .i64 0, .int .i64 1]) ∧ Below w.heap.size w w' := by
 have hpl : p < l.length := (List.getElem?_eq_some_iff.1 hc).1; have c0 := h.c0; have c1 := h.c1; obtain ⟨rfl, hbl⟩ := h.byt.addr (by omega); have cc := h.byt.cell p c hc; have hcap : l.length ≤ cap := h.byt.le; have H0 := Zh (Below.refl w.heap.size w); have hlI : (l.length : Int) ≤ 1000000 := by omega
 have hpI : (p : Int) < (l.length : Int) := by omega
 have hcb := c.toNat_lt; have i4 := i64_of_u8 c; have i2 : IntKind.i64.wrap (c.toNat : Int) = (c.toNat : Int) := IntWalk.i64_in _ (by omega); have i3 : IntKind.i64.wrap ((c.toNat : Int) - 247) = (c.toNat : Int) - 247 := IntWalk.i64_in _ (by omega); have i5 : IntKind.i64.wrap ((l.length : Int) - (p : Int)) = (l.length : Int) - (p : Int) := IntWalk.i64_in _ (by omega); have i6 : IntKind.i64.wrap ((l.length : Int) - (p : Int) - 1) = (l.length : Int) - (p : Int) - 1 := IntWalk.i64_in _ (by omega); have i1 : IntKind.i64.wrap ((p : Int) + 1) = (p : Int) + 1 := IntWalk.i64_in _ (by omega); have j1 : (0 : Int) ≤ (p : Int) + 1 := by omega
 have j2 : (p : Int) + 1 < (l.length : Int) := by omega
 have j3 : ((p : Int) + 1).toNat = p + 1 := by omega
 have cd := h.byt.cell (p + 1) d hd; clear h hc hd
 go_enter Tryz.func61, Tryz.ntmps61
 go_wp2
 go_quiet (fail)
 go_wp2
 go_quiet (fail)
 go_wp2
 go_quiet (fail)
 go_wp2
 go_quiet (fail)
 go_wp2
 go_ret3
 exact ⟨rfl, by repeat (first | exact H0.out | refine below_drewN ?_ _)⟩
theorem look_wide (h : Rr w g A cap b off l p e) (hl : l.length ≤ 1000000) {c d : UInt8} {t : List UInt8} {K : Nat} (hc : l[p]? = some c) (h8 : ¬ (c.toNat : Int) < 248) (hK : (c.toNat : Int) = 247 + K) (hk : p + 1 + K ≤ l.length) (ht : (l.drop (p + 1)).take K = t) (hd : l[p + 1]? = some d) (h0 : ((d.toNat : Int) == 0) = false) : Calls Tryz.prog 61 #[.pointer (some ⟨g, 0, none⟩)] w fun r w' => r = .returned (.tuple (if vl t < 248 ∨ 9223372036854775807 < vl t then #[.int .i64 0, .int .i64 0, .int .i64 1] else #[.int .i64 (vl t), .int .i64 ((p + (1 + K) : Nat) : Int), .int .i64 0])) ∧ Below w.heap.size w w' := by
 have hR := Zh (fun (W : World) (hb : Below w.heap.size w W) => h.keep hb); have hpl : p < l.length := (List.getElem?_eq_some_iff.1 hc).1; have c0 := h.c0; have c1 := h.c1; obtain ⟨rfl, hbl⟩ := h.byt.addr (by omega); have cc := h.byt.cell p c hc; have hcap : l.length ≤ cap := h.byt.le; have H0 := Zh (Below.refl w.heap.size w); have hlI : (l.length : Int) ≤ 1000000 := by omega
 have hpI : (p : Int) < (l.length : Int) := by omega
 have hcb := c.toNat_lt; have i4 := i64_of_u8 c; have i2 : IntKind.i64.wrap (c.toNat : Int) = (c.toNat : Int) := IntWalk.i64_in _ (by omega); have i3 : IntKind.i64.wrap ((c.toNat : Int) - 247) = (c.toNat : Int) - 247 := IntWalk.i64_in _ (by omega); have i5 : IntKind.i64.wrap ((l.length : Int) - (p : Int)) = (l.length : Int) - (p : Int) := IntWalk.i64_in _ (by omega); have i6 : IntKind.i64.wrap ((l.length : Int) - (p : Int) - 1) = (l.length : Int) - (p : Int) - 1 := IntWalk.i64_in _ (by omega); have i1 : IntKind.i64.wrap ((p : Int) + 1) = (p : Int) + 1 := IntWalk.i64_in _ (by omega); have j1 : (0 : Int) ≤ (p : Int) + 1 := by omega
 have j2 : (p : Int) + 1 < (l.length : Int) := by omega
 have j3 : ((p : Int) + 1).toNat = p + 1 := by omega
 have j4 : ¬ (l.length : Int) - (p : Int) - 1 < (c.toNat : Int) - 247 := by omega
 have cd := h.byt.cell (p + 1) d hd; have htl : t.length = K := by rw [← ht, List.length_take, List.length_drop]; omega
 have hK8 : K ≤ 8 := by omega
 have HTG := Zh (show ∀ j, j < K → l[p + 1 + j]? = t[j]? from fun j hj => by rw [← ht, List.getElem?_take, if_pos hj, List.getElem?_drop]); obtain ⟨X, hX⟩ : ∃ X, (if vl t < 248 ∨ 9223372036854775807 < vl t then #[Value.int .i64 0, .int .i64 0, .int .i64 1] else #[.int .i64 (vl t), .int .i64 ((p + (1 + K) : Nat) : Int), .int .i64 0]) = X := ⟨_, rfl⟩; have HX := Zh hX; rw [hX]; have hkk : (c.toNat : Int) - 247 = (K : Int) := by omega
 clear h hc hd ht hX
 go_enter Tryz.func61, Tryz.ntmps61
 go_wp2
 go_quiet (fail)
 go_wp2
 go_quiet (fail)
 go_wp2
 go_quiet (fail)
 go_wp2
 go_quiet (fail)
 go_wp2
 go_loopw [6, 7] (fun u i wr => ∃ j : Nat, j ≤ K ∧ i = .int .i64 ((j : Int) + 1) ∧ u = .int .u64 (vl (t.take j) : Int) ∧ Below w.heap.size w wr) (fun _ i _ => K + 1 - (intOf i).toNat)
 case atStart => exact ⟨0, Nat.zero_le _, rfl, rfl, by repeat (first | exact H0.out | refine below_drewN ?_ _)⟩
 case round =>
  obtain ⟨j, hj, rfl, rfl, hB⟩ := hrel; have HB := Zh hB; have r0 := (hR.out _ hB).c0; have r1 := (hR.out _ hB).c1; have HBY := Zh (hR.out _ hB).byt; clear hB
  by_cases hlt : j < K
  ·
   have hjl : j < t.length := by omega
   have hsn := Zh (show t.take (j + 1) = t.take j ++ [t[j]] from List.take_succ_eq_append_getElem hjl); have hor := vl_step (t.take j) t[j] (by rw [List.length_take]; omega); have hc3 := HBY.out.cell (p + 1 + j) t[j] (by rw [HTG.out j hlt]; exact List.getElem?_eq_getElem hjl)
   generalize t[j] = dd at *
   have hjI : (j : Int) + 1 ≤ (K : Int) := by omega
   have s1 : IntKind.i64.wrap ((p : Int) + ((j : Int) + 1)) = (p : Int) + ((j : Int) + 1) := IntWalk.i64_in _ (by omega); have s2 : (0 : Int) ≤ (p : Int) + ((j : Int) + 1) := by omega
   have s3 : (p : Int) + ((j : Int) + 1) < (l.length : Int) := by omega
   have s4 : ((p : Int) + ((j : Int) + 1)).toNat = p + 1 + j := by omega
   go_wp2
   go_quiet (fail)
   have HQ := Zh (below_drewN HB.out nq)
   go_wp2
   go_roundw
   case rel => exact ⟨j + 1, by omega, by go_num, by rw [hsn.out], HQ.out⟩
   case measure => simp [intOf]; omega
  ·
   obtain rfl : j = K := by omega
   have hall : t.take j = t := List.take_of_length_le (by omega); rw [hall]; have HTL := Zh htl; have HKK := Zh hK; clear hall htl; have hjI : ¬ (j : Int) + 1 ≤ 247 + (j : Int) - 247 := by omega
   have s1 : IntKind.i64.wrap ((p : Int) + 1 + (247 + (j : Int) - 247)) = (p : Int) + 1 + (247 + (j : Int) - 247) := IntWalk.i64_in _ (by omega)
   by_cases h1 : (vl t : Int) < 248
   ·
    have H9 := Zh (show X = #[.int .i64 0, .int .i64 0, .int .i64 1] by rw [← HX.out, if_pos (.inl (by omega))])
    go_wp2
    go_ret3
    exact ⟨by rw [H9.out]; rfl, HB.out⟩
   ·
    by_cases h2 : 9223372036854775807 < (vl t : Int)
    ·
     have H9 := Zh (show X = #[.int .i64 0, .int .i64 0, .int .i64 1] by rw [← HX.out, if_pos (.inr (by omega))])
     go_wp2
     go_ret3
     exact ⟨by rw [H9.out]; rfl, HB.out⟩
    ·
     have H9 := Zh (show X = #[.int .i64 (vl t), .int .i64 ((p : Int) + 1 + (247 + (j : Int) - 247)), .int .i64 0] by rw [← HX.out, if_neg (by omega), show (p : Int) + 1 + (247 + (j : Int) - 247) = ((p + (1 + j) : Nat) : Int) by omega]); have s5 : wrap64 (vl t : Int) = (vl t : Int) := IntWalk.wrap64_in _ (by omega); have s6 : IntKind.i64.wrap (vl t : Int) = (vl t : Int) := (IntWalk.i64_left _).trans s5
     go_wp2
     go_quiet (fail)
     have HQ := Zh (below_drewN HB.out nq)
     go_wp2
     go_ret3
     exact ⟨by rw [H9.out]; rfl, HQ.out⟩
theorem look_any (h : Rr w g A cap b off l p e) (hl : l.length ≤ 1000000) : Calls Tryz.prog 61 #[.pointer (some ⟨g, 0, none⟩)] w fun r w' => r = .returned (.tuple (lk l p)) ∧ Below w.heap.size w w' := by
 have hp := h.hp; have hlen : (l.drop p).length = l.length - p := List.length_drop
 unfold lk
 match hd : l.drop p with
 | [] =>
  rw [hd] at hlen
  simp at hlen
  exact look_end h hl (by omega)
 | c :: r =>
  rw [hd] at hlen; simp only [List.length_cons] at hlen; have hc : l[p]? = some c := by have := congrArg (·[0]?) hd; simpa using this
  by_cases h1 : c.toNat < 248
  ·
   have := look_one h hl hc (by omega)
   simpa [rt, h1] using this
  ·
   by_cases h2 : r.length < c.toNat - 247
   ·
    have := look_cut h hl hc (by omega) (by have := c.toNat_lt; omega)
    simpa [rt, h1, h2] using this
   ·
    have hr : l.drop (p + 1) = r := by
     have h7 := congrArg (List.drop 1) hd; rw [List.drop_drop] at h7
     simpa using h7
    have hcl := c.toNat_lt; obtain ⟨d, t, rfl⟩ : ∃ d t, r = d :: t := by
     cases r with
     | nil => simp at h2; omega
     | cons d t => exact ⟨d, t, rfl⟩
    have hd1 : l[p + 1]? = some d := by have := congrArg (·[0]?) hr; simpa using this
    obtain ⟨K, hK⟩ : ∃ K, c.toNat - 247 = K := ⟨_, rfl⟩; have hK1 : 1 ≤ K := by omega
    have hhd : ((d :: t).take K).head? = some d := by
     obtain ⟨k, rfl⟩ : ∃ k, K = k + 1 := ⟨K - 1, by omega⟩
     rfl
    rw [rt_cons, if_neg h1, if_neg h2, hK, hhd]
    rcases Bool.eq_false_or_eq_true ((d.toNat : Int) == 0) with h0 | h0
    ·
     have hz : d = 0 := by
      have h1 : (d.toNat : Int) = 0 := by simpa using h0
      exact UInt8.toNat_inj.1 (by simp; omega)
     rw [if_pos (.inl (.inl (by rw [hz])))]
     exact look_zero h hl hc (by omega) (by omega) hd1 h0
    ·
     have hz : ¬ some d = some (0 : UInt8) := fun e => by
      have : d = 0 := by simpa using e
      subst this
      exact absurd h0 (by decide)
     have := look_wide (K := K) (t := (d :: t).take K) h hl hc (by omega) (by omega) (by rw [List.length_cons] at h2; simp only [List.length_cons] at hlen; omega) (by rw [hr]) hd1 h0; refine this.mono ?_; rintro r' w' ⟨rfl, hb⟩; refine ⟨?_, hb⟩
     by_cases h5 : vl ((d :: t).take K) < 248 ∨ 9223372036854775807 < vl ((d :: t).take K)
     ·
      rw [if_pos h5, if_pos (h5.elim (fun h => .inl (.inr h)) .inr)]
      rfl
     ·
      rw [if_neg h5, if_neg (fun h => h.elim (fun h => h.elim hz (fun h => h5 (.inl h))) (fun h => h5 (.inr h)))]
      rfl
end
def Tg (w w' : World) (g : Nat) : Prop := w.grownBy w' (some g)
section
variable {w w' w2 : World} {g : Nat} {A : Option Addr} {cap b off : Nat} {l : List UInt8} {p : Nat} {e : Int} {q : Ps}
theorem Tg.refl (w : World) (g : Nat) : Tg w w g := ⟨rfl, rfl, rfl, Nat.le_refl _, fun _ _ _ => rfl⟩
theorem Tg.of (h : Below w.heap.size w w') : Tg w w' g := ⟨h.os, h.tape, h.output, h.size, fun j hj _ => h.block j hj⟩
theorem Tg.trans (h : Tg w w' g) (k : Tg w' w2 g) : Tg w w2 g := ⟨k.os.trans h.os, k.tape.trans h.tape, k.output.trans h.output, Nat.le_trans h.size k.size, fun j hj hn => (k.block j (Nat.lt_of_lt_of_le hj h.size) hn).trans (h.block j hj hn)⟩
theorem Tg.set (h : Tg w w' g) (i : Nat) (u : Value) : Tg w (w'.setCell ⟨g, i, none⟩ u) g := ⟨h.os, h.tape, h.output, by simpa [World.setCell] using h.size, fun j hj hn => (Below.heap_setCell w' ⟨g, i, none⟩ u j (fun e => hn (by rw [e]))).trans (h.block j hj hn)⟩
theorem Tg.below {B : Nat} (h : Tg w w' g) (hg : B ≤ g) (hB : B ≤ w.heap.size) : Below B w w' := ⟨h.os, h.tape, h.output, h.size, fun j hj => h.block j (by omega) (by simp; omega)⟩
theorem Rr.setE (h : Rr w g A cap b off l p e) (c : Int) : Rr (w.setCell ⟨g, 2, none⟩ (.int .i64 c)) g A cap b off l p c :=
 ⟨h.bx.set_ 2 _, ⟨h.byt.hlen, h.byt.le, h.byt.hmax, fun hl => ⟨(h.byt.addr hl).1, by simpa [World.setCell] using (h.byt.addr hl).2⟩, fun j u hu => by
  have hl : 0 < l.length := by have := (List.getElem?_eq_some_iff.1 hu).1; omega
  exact (World.cell?_of_block (a := ⟨b, off + j, none⟩) (Below.heap_setCell _ _ _ _ (h.ne hl))).trans (h.byt.cell j u hu)⟩, h.ne, h.hp⟩
theorem Rr.setP (h : Rr w g A cap b off l p e) {p' : Nat} (hp : p' ≤ l.length) : Rr (w.setCell ⟨g, 1, none⟩ (.int .i64 (p' : Int))) g A cap b off l p' e :=
 ⟨h.bx.set_ 1 _, ⟨h.byt.hlen, h.byt.le, h.byt.hmax, fun hl => ⟨(h.byt.addr hl).1, by simpa [World.setCell] using (h.byt.addr hl).2⟩, fun j u hu => by
  have hl : 0 < l.length := by have := (List.getElem?_eq_some_iff.1 hu).1; omega
  exact (World.cell?_of_block (a := ⟨b, off + j, none⟩) (Below.heap_setCell _ _ _ _ (h.ne hl))).trans (h.byt.cell j u hu)⟩, h.ne, hp⟩
theorem xnum_any (h : Rr w g A cap b off l q.p q.e) (hl : l.length ≤ 1000000) : Calls Tryz.prog 41 #[.pointer (some ⟨g, 0, none⟩)] w fun r w' => r = .returned (.int .i64 (numP l q).1) ∧ Rr w' g A cap b off l (numP l q).2.p (numP l q).2.e ∧ Tg w w' g := by
 have c2 := h.c2; obtain ⟨P, E⟩ := q
 unfold numP
 simp only at h c2 ⊢
 by_cases he : E = 0
 ·
  subst he; rw [if_neg (by simp)]; have HL := Zh (look_any h hl)
  unfold lk at HL
  have HRI := Zh (fun hr => rt_in (l := l) (p := P) h.hp hr); obtain ⟨⟨n, k, c⟩, hr⟩ : ∃ z, rt (l.drop P) = z := ⟨_, rfl⟩; rw [hr] at HL HRI ⊢; simp only at HL HRI ⊢; have HR := Zh h; clear h hr
  by_cases hc : c = 0
  ·
   subst hc; rw [if_pos rfl]; rw [if_pos rfl] at HL; have HP := Zh (HRI.out rfl)
   go_enter Tryz.func41, Tryz.ntmps41
   go_wp2_with fail
   refine HL.out.mono ?_; rintro _ w1 ⟨rfl, hb⟩; have H1 := Zh hb; have HR1 := Zh (HR.out.keep hb); have d1 := HR1.out.c1; have f1 := HR1.out.bx.frozen 1; clear hb
   go_wp2
   go_ret
   exact ⟨rfl, HR1.out.setP HP.out, (Tg.of H1.out).set 1 _⟩
  ·
   rw [if_neg hc]; rw [if_neg hc] at HL; have hb : (c != 0) = true := by simpa using hc
   clear hc
   go_enter Tryz.func41, Tryz.ntmps41
   go_wp2_with fail
   refine HL.out.mono ?_; rintro _ w1 ⟨rfl, hb⟩; have H1 := Zh hb; have HR1 := Zh (HR.out.keep hb); have d2 := HR1.out.c2; have f2 := HR1.out.bx.frozen 2; clear hb
   go_wp2
   go_ret
   exact ⟨rfl, HR1.out.setE c, (Tg.of H1.out).set 2 _⟩
 ·
  rw [if_pos he]; have HR := Zh h; have hb : (E != 0) = true := by simpa using he
  clear h he
  go_enter Tryz.func41, Tryz.ntmps41
  go_wp2
  go_ret
  exact ⟨rfl, HR.out, Tg.refl _ _⟩
theorem left_r (h : Rr w g A cap b off l p e) (hl : l.length ≤ 1000000) : Calls Tryz.prog 42 #[.pointer (some ⟨g, 0, none⟩)] w fun r w' => r = .returned (.int .i64 ((l.length : Int) - (p : Int))) ∧ Below w.heap.size w w' := by
 have c0 := h.c0; have c1 := h.c1; have hp := h.hp; have i1 : IntKind.i64.wrap ((l.length : Int) - (p : Int)) = (l.length : Int) - (p : Int) := IntWalk.i64_in _ (by omega); have H0 := Zh (Below.refl w.heap.size w); clear h
 go_enter Tryz.func42, Tryz.ntmps42
 go_wp2
 go_quiet (fail)
 go_wp2
 go_ret
 exact ⟨rfl, by repeat (first | exact H0.out | refine below_drewN ?_ _)⟩
end
end Go.Proofs.YtphijnkiiokieaaGreatDoor
