/- Requests read: texts, numbers, conditions, ops. -/
import Derived.Test.YtphijnkiiokieaaGreatDoorZau
import Derived.OwnWalk
import Derived.Laws.AppendOwn
namespace Go.Proofs.YtphijnkiiokieaaGreatDoor
open Go.RowKit
open Go.Lib hiding intOf
set_option linter.unusedVariables false
set_option linter.unusedSimpArgs false
set_option maxRecDepth 100000
theorem results_cell0 {fn : Func} {p : Tmp} {ty : TypeId} (h : fn.results = #[.cell p ty]) (tmps : Array Value) (P : Program) (w : World) (g : Nat) (t : TypeId) (cs : Array Value) (fr : Nat × Nat) (fs : Array Field)
    (hp : tmps.getD p undef = .pointer (some ⟨g, 0, none⟩)) (hg : w.heap[g]? = some (.cells cs t fr))
    (hu : P.underlying ty = some (.struct fs)) (hi : (P.info? ty).map (·.size) = some cs.size) :
    (results fn tmps).run P w = .ok (.agg cs) w := by
  have hp' : tmps[p]?.getD undef = .pointer (some ⟨g, 0, none⟩) := by simpa using hp
  simp [results, h, hp', asAddr, run_loadVar_row w g t ty cs fr _ hg hu rfl hi]
theorem qcond_out {cs : Array Value} (hc : cs.size = 2) {R : Ending → World → Prop} {a : Act} {w : World} {g : Nat} (h2 : a.tmps.getD 2 undef = .pointer (some ⟨g, 0, none⟩)) (hd : a.defers = []) (hg : Blk w g 23 cs)
    (hR : R (.returned (.agg cs)) w) : bodyPost Tryz.prog Tryz.f32 R .ret a w :=
  bodyPost_ret (results_cell0 (fn := Tryz.f32) rfl a.tmps Tryz.prog w g 23 cs (0, 0) _ h2 hg Tryz.underlying23 (by rw [hc]; rfl)) hd hR
/-- A reader and one new box. -/
structure Bw (w0 wr : World) (G g X : Nat) (t : TypeId) (cs : Array Value) (s : ByteArray) (q : Ps) (x : Bool) : Prop where
  wi : Wi wr G g s q x
  bx : Blk wr X t cs
  tw : Tw2 w0 wr G g
  hX : w0.heap.size ≤ X
  hG : G < w0.heap.size
  hg : g < w0.heap.size
section
variable {w0 wr w' : World} {G g X : Nat} {t : TypeId} {cs : Array Value} {s : ByteArray} {q q' : Ps} {x x' : Bool}
theorem Bw.start (h : Wi w0 G g s q x) (t : TypeId) (cs : Array Value) : Bw w0 (w0.alloc (.cells cs t)) G g w0.heap.size t cs s q x :=
  have hb : Below w0.heap.size w0 (w0.alloc (.cells cs t)) := (Below.refl _ _).alloc (Nat.le_refl _) _
  ⟨h.keep hb, Blk.new _ _ _, Tw2.ofBelow hb, Nat.le_refl _, h.bx.lt, Blk.lt h.rd⟩
theorem Bw.call (h : Bw w0 wr G g X t cs s q x) (hw : Wi w' G g s q' x') (ht : Tw2 wr w' G g) : Bw w0 w' G g X t cs s q' x' := by
  have h1 := h.hX; have h2 := h.hG; have h3 := h.hg
  exact ⟨hw, (ht.block X h.bx.lt (by omega) (by omega)).trans h.bx, h.tw.trans ht, h1, h2, h3⟩
theorem Bw.set (h : Bw w0 wr G g X t cs s q x) (i : Nat) (u : Value) : Bw w0 (wr.setCell ⟨X, i, none⟩ u) G g X t (cs.setIfInBounds i u) s q x := by
  have h1 := h.hX; have h2 := h.hG; have h3 := h.hg
  exact ⟨⟨h.wi.bx.far (p := ⟨X, i, none⟩) (by show G ≠ X; omega) u, Blk.far (p := ⟨X, i, none⟩) h.wi.rd (by show g ≠ X; omega) u, h.wi.ne, h.wi.hp⟩, h.bx.set_ i u, h.tw.far h1 u, h1, h2, h3⟩
end
section
variable {w : World} {G g : Nat} {s : ByteArray} {q : Ps} {x : Bool}
theorem qtext_any (h : Wi w G g s q x) (hs : s.size ≤ 1000000) (a : Int) (b : Bool) (hb : (a == 0) = !b) : Calls Tryz.prog 31 #[.pointer (some ⟨G, 0, none⟩), .int .i64 a] w fun e w' => e = .returned (.string (otP b s.data.toList q).1) ∧ Wi w' G g s (otP b s.data.toList q).2 x ∧ Tw2 w w' G g := by
  have HW := Lib.hid h
  have HF := Lib.hid (field_any h hs)
  clear h
  cases b with
  | false =>
    go_enter Tryz.func31, Tryz.ntmps31
    go_wp2
    go_ret
    exact ⟨rfl, HW.out, Tw2.refl _ _ _⟩
  | true =>
    go_enter Tryz.func31, Tryz.ntmps31
    go_wp2_with fail
    refine HF.out.mono ?_
    rintro _ w1 ⟨rfl, h1, h2⟩
    have H1 := Lib.hid h1
    have H2 := Lib.hid h2
    clear h1 h2
    go_wp2
    go_ret
    exact ⟨rfl, H1.out, H2.out⟩
theorem qnumber_any (h : Wi w G g s q x) (hs : s.size ≤ 1000000) (a : Int) (b : Bool) (hb : (a == 0) = !b) : Calls Tryz.prog 35 #[.pointer (some ⟨G, 0, none⟩), .int .i64 a] w fun e w' => e = .returned (.int .i64 (obP b s.data.toList q x).1) ∧ Wi w' G g s (obP b s.data.toList q x).2.1 (obP b s.data.toList q x).2.2 ∧ Tw2 w w' G g := by
  have HW := Lib.hid h
  have HF := Lib.hid (below_any h hs 2147483647)
  clear h
  cases b with
  | false =>
    go_enter Tryz.func35, Tryz.ntmps35
    go_wp2
    go_ret
    exact ⟨rfl, HW.out, Tw2.refl _ _ _⟩
  | true =>
    go_enter Tryz.func35, Tryz.ntmps35
    go_wp2_with fail
    refine HF.out.mono ?_
    rintro _ w1 ⟨rfl, h1, h2⟩
    have H1 := Lib.hid h1
    have H2 := Lib.hid h2
    clear h1 h2
    go_wp2
    go_ret
    exact ⟨rfl, H1.out, H2.out⟩
set_option maxHeartbeats 2000000 in
theorem qcond_any (h : Wi w G g s q x) (hs : s.size ≤ 1000000) : Calls Tryz.prog 32 #[.pointer (some ⟨G, 0, none⟩)] w fun e w' => e = .returned (.agg #[.int .i64 (condP s.data.toList q x).1.1, .int .i64 (condP s.data.toList q x).1.2]) ∧ Wi w' G g s (condP s.data.toList q x).2.1 (condP s.data.toList q x).2.2 ∧ Tw2 w w' G g := by
  have HX0 := Lib.hid (Bw.start h 23 #[.int .i64 0, .int .i64 0])
  have eC : condP s.data.toList q x = (((belowP 2147483647 s.data.toList q x).1, (numP s.data.toList (belowP 2147483647 s.data.toList q x).2.1).1), (numP s.data.toList (belowP 2147483647 s.data.toList q x).2.1).2, (belowP 2147483647 s.data.toList q x).2.2) := rfl
  obtain ⟨⟨k1, q1, x1⟩, e1⟩ : ∃ z, belowP 2147483647 s.data.toList q x = z := ⟨_, rfl⟩
  rw [e1] at eC
  simp only at eC
  obtain ⟨⟨v2, q2⟩, e2⟩ : ∃ z, numP s.data.toList q1 = z := ⟨_, rfl⟩
  rw [e2] at eC
  simp only at eC
  rw [eC]
  have HF1 := Lib.hid (fun w0 (h : Wi w0 G g s q x) => e1 ▸ below_any h hs 2147483647)
  have HF2 := Lib.hid (fun w0 (h : Wi w0 G g s q1 x1) => e2 ▸ wnum_any h hs)
  simp only at HF1 HF2
  clear e1 e2 eC h
  go_enter Tryz.func32, Tryz.ntmps32
  go_wp2_with fail
  refine (HF1.out _ HX0.out.wi).mono ?_
  rintro _ w1 ⟨rfl, h1, h2⟩
  have HX1 := Lib.hid (HX0.out.call h1 h2)
  have c0 := HX1.out.wi.bx.cell 0
  clear h1 h2
  go_wp2_with fail
  refine (HF2.out _ HX1.out.wi).mono ?_
  rintro _ w2 ⟨rfl, h1, h2⟩
  have HX2 := Lib.hid (HX1.out.call h1 h2)
  have b0 := HX2.out.bx.cell 0
  have b1 := HX2.out.bx.cell 1
  have f0 := HX2.out.bx.frozen 0
  have f1 := HX2.out.bx.frozen 1
  have HX3 := Lib.hid (HX2.out.set 0 (.int .i64 k1))
  have HX4 := Lib.hid (HX3.out.set 1 (.int .i64 v2))
  clear h1 h2
  go_wp2
  exact qcond_out rfl (g := w.heap.size) rfl rfl HX4.out.bx ⟨rfl, HX4.out.wi, HX4.out.tw⟩
end
/-- Within a round: the reader, the op's box, what has come. -/
structure Sq (w0 wr : World) (G g X : Nat) (cs : Array Value) (s : ByteArray) (q : Ps) (x : Bool) (v : Value) (n : Nat) (vs : List Value) : Prop where
  wi : Wi wr G g s q x
  ow : wr.ownsRow w0.heap.size 43 5 v n vs
  tw : Tw2 w0 wr G g
  bx : Blk wr X 43 cs
  hX : w0.heap.size ≤ X
  hv : v.ownBlock ≠ some X
  hG : G < w0.heap.size
  hg : g < w0.heap.size
theorem Sq.call {w0 wr w' : World} {G g X : Nat} {cs : Array Value} {s : ByteArray} {q q' : Ps} {x x' : Bool} {v : Value} {n : Nat} {vs : List Value} (h : Sq w0 wr G g X cs s q x v n vs) (hw : Wi w' G g s q' x') (ht : Tw2 wr w' G g) : Sq w0 w' G g X cs s q' x' v n vs :=
  ⟨hw, own_tw h.ow ht h.hG h.hg, h.tw.trans ht, (ht.block X h.bx.lt (by have := h.hX; have := h.hG; omega) (by have := h.hX; have := h.hg; omega)).trans h.bx, h.hX, h.hv, h.hG, h.hg⟩
theorem Sq.set {w0 wr : World} {G g X : Nat} {cs : Array Value} {s : ByteArray} {q : Ps} {x : Bool} {v : Value} {n : Nat} {vs : List Value} (h : Sq w0 wr G g X cs s q x v n vs) (i : Nat) (u : Value) : Sq w0 (wr.setCell ⟨X, i, none⟩ u) G g X (cs.setIfInBounds i u) s q x v n vs :=
  ⟨⟨h.wi.bx.far (p := ⟨X, i, none⟩) (by have := h.hX; have := h.hG; show G ≠ X; omega) u, Blk.far (p := ⟨X, i, none⟩) h.wi.rd (by have := h.hX; have := h.hg; show g ≠ X; omega) u, h.wi.ne, h.wi.hp⟩, by
    obtain ⟨h0, h3 | ⟨b, cap, cur, e1, e2, e3, e4⟩⟩ := h.ow
    · exact ⟨h0, .inl h3⟩
    · refine ⟨h0, .inr ⟨b, cap, cur, e1, e2, (Below.heap_setCell wr ⟨X, i, none⟩ u b ?_).trans e3, e4⟩⟩
      intro e
      have := h.hv
      rw [e1] at this
      exact this (by show some b = some X; rw [e]), h.tw.far h.hX u, h.bx.set_ i u, h.hX, h.hv, h.hG, h.hg⟩
/-- At the loop's head. -/
structure Lq (w0 wr : World) (G g : Nat) (s : ByteArray) (q : Ps) (x : Bool) (v : Value) (acc : List Opn) : Prop where
  wi : Wi wr G g s q x
  ow : wr.ownsRow w0.heap.size 43 5 v acc.length (opsC acc)
  tw : Tw2 w0 wr G g
  hG : G < w0.heap.size
  hg : g < w0.heap.size
theorem Lq.box {w0 wr w' : World} {G g : Nat} {s : ByteArray} {q q' : Ps} {x x' : Bool} {v : Value} {acc : List Opn} (h : Lq w0 wr G g s q x v acc) (hw : Wi w' G g s q' x') (ht : Tw2 wr w' G g) (cs : Array Value) : Sq w0 (w'.alloc (.cells cs 43)) G g w'.heap.size cs s q' x' v acc.length (opsC acc) :=
  have hb : Below w'.heap.size w' (w'.alloc (.cells cs 43)) := (Below.refl _ _).alloc (Nat.le_refl _) _
  ⟨hw.keep hb, (own_tw h.ow ht h.hG h.hg).alloc _, (h.tw.trans ht).trans (Tw2.ofBelow hb), Blk.new _ _ _, Nat.le_trans h.tw.size ht.size, fun e => by
    have := ((own_tw h.ow ht h.hG h.hg).lt _ e).2
    omega, h.hG, h.hg⟩
theorem Sq.fin {w0 wr w' : World} {G g X : Nat} {cs : Array Value} {s : ByteArray} {q : Ps} {x : Bool} {v : Value} {n : Nat} {vs : List Value} {o : Obj} (h : Sq w0 wr G g X cs s q x v n vs) (hg : (wr.alloc o).grownBy w' v.ownBlock) : Wi w' G g s q x ∧ Tw2 w0 w' G g := by
  have hb : Below wr.heap.size wr (wr.alloc o) := (Below.refl _ _).alloc (Nat.le_refl _) _
  have hW := h.wi.keep hb
  have hT := h.tw.trans (Tw2.ofBelow hb)
  have hr : ∀ k, v.ownBlock = some k → w0.heap.size ≤ k := fun k e => (h.ow.lt k e).1
  have h1 := h.hG
  have h2 := h.hg
  refine ⟨⟨hW.bx.grown hg (fun e => ?_), Blk.grown hW.rd hg (fun e => ?_), hW.ne, hW.hp⟩, ⟨hg.os.trans hT.os, hg.tape.trans hT.tape, hg.output.trans hT.output, Nat.le_trans hT.size hg.size, fun j hj h3 h4 => (hg.block j (Nat.lt_of_lt_of_le hj hT.size) (fun e => ?_)).trans (hT.block j hj h3 h4)⟩⟩
  · have := hr G e.symm; omega
  · have := hr g e.symm; omega
  · have := hr j e.symm; omega
theorem infoOp : (Tryz.prog.info? 43).map (fun i => (i.zero, i.size, i.bytes)) = some (some (.agg #[.bool false, .string ⟨#[]⟩, .string ⟨#[]⟩, .int .i64 0, .int .i64 0]), 5, 56) := by kernel_rfl
theorem q_info_parts {e : TypeId} {z : Value} {a b : Nat} (h : (Tryz.prog.info? e).map (fun i => (i.zero, i.size, i.bytes)) = some (some z, a, b)) : ∃ i, Tryz.prog.info? e = some i ∧ i.zero = some z ∧ i.size = a ∧ i.bytes = b := by
  cases hh : Tryz.prog.info? e with
  | none => rw [hh] at h; cases h
  | some i => rw [hh] at h; simp at h; exact ⟨i, rfl, h.1, h.2.1, h.2.2⟩
section
variable {w : World} {G g : Nat} {s : ByteArray} {q : Ps} {x : Bool}
set_option maxHeartbeats 16000000 in
theorem qops_any (h : Wi w G g s q x) (hs : s.size ≤ 1000000) : Calls Tryz.prog 33 #[.pointer (some ⟨G, 0, none⟩)] w fun r w' => ∃ v, r = .returned v ∧ w'.ownsRow w.heap.size 43 5 v (opsR s.data.toList q x).1.length (opsC (opsR s.data.toList q x).1) ∧ Wi w' G g s (opsR s.data.toList q x).2.1 (opsR s.data.toList q x).2.2 ∧ Tw2 w w' G g := by
  have hG := h.bx.lt
  have hg := Blk.lt h.rd
  obtain ⟨i0, hi, hz0, hz1, hz2⟩ := q_info_parts infoOp
  have HB := Lib.hid (below_any h hs 16)
  have HN := Lib.hid (belowP_nat 16 s.data.toList q x)
  have HR := Lib.hid (show opsP (belowP 16 s.data.toList q x).1.toNat s.data.toList (belowP 16 s.data.toList q x).2.1 (belowP 16 s.data.toList q x).2.2 = opsR s.data.toList q x from rfl)
  obtain ⟨T, hT⟩ : ∃ T, opsR s.data.toList q x = T := ⟨_, rfl⟩
  rw [hT] at HR ⊢
  obtain ⟨⟨n, q2, x2⟩, hn⟩ : ∃ y, belowP 16 s.data.toList q x = y := ⟨_, rfl⟩
  rw [hn] at HB HN HR
  simp only at HB HN HR
  obtain ⟨N, rfl⟩ : ∃ k : Nat, n = (k : Int) := ⟨n.toNat, by have := HN.out.1; omega⟩
  have hk : N ≤ 16 := by have := HN.out.2; omega
  have hkI : (N : Int) ≤ 16 := by omega
  rw [Int.toNat_natCast] at HR
  clear h hT hn HN
  go_enter Tryz.func33, Tryz.ntmps33
  go_wp2_with fail
  refine HB.out.mono ?_
  rintro _ w1 ⟨rfl, h1, h2⟩
  have HL0 := Lib.hid (show Lq w w1 G g s q2 x2 (.slice none 0 0) [] from ⟨h1, World.ownsRow_nil _ _ _ _, h2, hG, hg⟩)
  clear h1 h2 HB
  go_wp2_with fail
  go_loopw [3, 7] (fun v i wr => ∃ (j : Nat) (acc : List Opn) (p : Ps) (y : Bool), j ≤ N ∧ i = .int .i64 (j : Int) ∧ acc.length = j ∧ Lq w wr G g s p y v acc ∧ T = (acc ++ (opsP (N - j) s.data.toList p y).1, (opsP (N - j) s.data.toList p y).2)) (fun _ i _ => N - (intOf i).toNat)
  case atStart => exact ⟨0, [], q2, x2, Nat.zero_le _, rfl, rfl, HL0.out, by rw [← HR.out]; rfl⟩
  case round =>
    obtain ⟨j, acc, p, y, hj, rfl, hal, hL, hTe⟩ := hrel
    have HL := Lib.hid hL
    have HT := Lib.hid hTe
    have HAC := Lib.hid hal
    clear hL hTe hal
    by_cases hjn : j < N
    · have hjI : (j : Int) < (N : Int) := by omega
      obtain ⟨m, hm⟩ : ∃ m, N - j = m + 1 := ⟨N - j - 1, by omega⟩
      have hm2 : N - (j + 1) = m := by omega
      have HM := Lib.hid hm
      have HM2 := Lib.hid hm2
      obtain ⟨⟨gx, p1, y1⟩, e1⟩ : ∃ z, markP s.data.toList p y = z := ⟨_, rfl⟩
      obtain ⟨⟨tu, p2⟩, e2⟩ : ∃ z, textP 20000 s.data.toList p1 = z := ⟨_, rfl⟩
      obtain ⟨⟨tc, p3⟩, e3⟩ : ∃ z, otP (!gx) s.data.toList p2 = z := ⟨_, rfl⟩
      obtain ⟨⟨⟨ck, cv⟩, p4, y4⟩, e4⟩ : ∃ z, condP s.data.toList p3 y1 = z := ⟨_, rfl⟩
      have eO : opP s.data.toList p y = (⟨gx, tu, tc, ck, cv⟩, p4, y4) := by unfold opP; simp only [e1, e2, e3, e4]
      have H0 := Lib.hid (show T = ((acc ++ [⟨gx, tu, tc, ck, cv⟩]) ++ (opsP (N - (j + 1)) s.data.toList p4 y4).1, (opsP (N - (j + 1)) s.data.toList p4 y4).2) by
        rw [HT.out, hm, show opsP (m + 1) s.data.toList p y = ((opP s.data.toList p y).1 :: (opsP m s.data.toList (opP s.data.toList p y).2.1 (opP s.data.toList p y).2.2).1, (opsP m s.data.toList (opP s.data.toList p y).2.1 (opP s.data.toList p y).2.2).2) from rfl, eO, hm2]
        simp)
      have HF1 := Lib.hid (fun w0 (h : Wi w0 G g s p y) => e1 ▸ wmark_any h hs)
      have HF2 := Lib.hid (fun w0 (h : Wi w0 G g s p1 y1) => e2 ▸ field_any h hs)
      have HF3 := Lib.hid (fun (hgx : gx = false) w0 (h : Wi w0 G g s p2 y1) => show Calls Tryz.prog 55 #[.pointer (some ⟨G, 0, none⟩)] w0 fun r w' => r = .returned (.string tc) ∧ Wi w' G g s p3 y1 ∧ Tw2 w0 w' G g from by
        have e3' : textP 20000 s.data.toList p2 = (tc, p3) := by subst hgx; exact e3
        have := field_any h hs
        rw [e3'] at this
        exact this)
      have HZ3 := Lib.hid (fun (hgx : gx = true) => show tc = bE ∧ p3 = p2 by subst hgx; exact ⟨(congrArg Prod.fst e3).symm, (congrArg Prod.snd e3).symm⟩)
      have HF4 := Lib.hid (fun w0 (h : Wi w0 G g s p3 y1) => e4 ▸ qcond_any h hs)
      simp only at HF1 HF2 HF4
      clear eO e1 e2 e3 e4 HT HR HL0 hm hm2
      go_wp2_with fail
      refine (HF1.out _ HL.out.wi).mono ?_
      rintro _ w2 ⟨rfl, h1, h2⟩
      have HS2 := Lib.hid (HL.out.box h1 h2 #[.bool gx, .string ⟨#[]⟩, .string ⟨#[]⟩, .int .i64 0, .int .i64 0])
      clear h1 h2
      go_wp2_with fail
      refine (HF2.out _ HS2.out.wi).mono ?_
      rintro _ w3 ⟨rfl, h1, h2⟩
      have HS3 := Lib.hid (HS2.out.call h1 h2)
      have g3 := HS3.out.bx.cell 1
      have f3 := HS3.out.bx.frozen 1
      have HS4 := Lib.hid (HS3.out.set 1 (.string tu))
      have g40 := HS4.out.bx.cell 0
      clear h1 h2
      cases gx with
      | true =>
        obtain ⟨rfl, rfl⟩ := HZ3.out rfl
        go_wp2_with fail
        refine (HF4.out _ HS4.out.wi).mono ?_
        rintro _ w6 ⟨rfl, h1, h2⟩
        have HS6 := Lib.hid (HS4.out.call h1 h2)
        have g63 := HS6.out.bx.cell 3
        have f63 := HS6.out.bx.frozen 3
        have g64 := HS6.out.bx.cell 4
        have f64 := HS6.out.bx.frozen 4
        have HS7 := Lib.hid (HS6.out.set 3 (.int .i64 ck))
        have HS9 := Lib.hid (HS7.out.set 4 (.int .i64 cv))
        have c90 := HS9.out.bx.cell 0
        have c91 := HS9.out.bx.cell 1
        have c92 := HS9.out.bx.cell 2
        have c93 := HS9.out.bx.cell 3
        have c94 := HS9.out.bx.cell 4
        have HOA := Lib.hid (HS9.out.ow.alloc (.cells #[.bool true, .string tu, .string ⟨#[]⟩, .int .i64 ck, .int .i64 cv] 43))
        have HBK := Lib.hid (show Blk (((w6.setCell ⟨w2.heap.size, 3, none⟩ (.int .i64 ck)).setCell ⟨w2.heap.size, 4, none⟩ (.int .i64 cv)).alloc (.cells #[.bool true, .string tu, .string ⟨#[]⟩, .int .i64 ck, .int .i64 cv] 43)) w6.heap.size 43 #[.bool true, .string tu, .string ⟨#[]⟩, .int .i64 ck, .int .i64 cv] from by
          have := Blk.new ((w6.setCell ⟨w2.heap.size, 3, none⟩ (.int .i64 ck)).setCell ⟨w2.heap.size, 4, none⟩ (.int .i64 cv)) 43 #[.bool true, .string tu, .string ⟨#[]⟩, .int .i64 ck, .int .i64 cv]
          simpa [World.setCell] using this)
        have HSZ := Lib.hid (show w.heap.size ≤ (((w6.setCell ⟨w2.heap.size, 3, none⟩ (.int .i64 ck)).setCell ⟨w2.heap.size, 4, none⟩ (.int .i64 cv)).alloc (.cells #[.bool true, .string tu, .string ⟨#[]⟩, .int .i64 ck, .int .i64 cv] 43)).heap.size by
          have := HS9.out.tw.size
          simp at this ⊢; omega)
        clear h1 h2
        go_wp2_with (at_builtin; refine wpList_append_own _ rfl _ _ 24 rfl w.heap.size 43 i0 _ 5 56 Tryz.underlying24 hi hz0 hz1 hz2 rfl (by decide) _ _ _ rfl HOA.out ⟨w6.heap.size, 0, none⟩ 1 1 [.bool true, .string tu, .string ⟨#[]⟩, .int .i64 ck, .int .i64 cv] rfl rfl ?ctrue1 ?ctrue2 ?ctrue3 ?ctrue4 ?ctrue5 ?_)
        case ctrue1 =>
          intro j u hj
          have e := HBK.out.cell j
          rw [show (⟨w6.heap.size, 0, none⟩ : Addr).add j = ⟨w6.heap.size, j, none⟩ by unfold Addr.add; split <;> simp_all, e, ← hj]
          simp
        case ctrue2 =>
          intro u hu
          simp only [List.mem_cons, List.not_mem_nil, or_false] at hu
          rcases hu with rfl | rfl | rfl | rfl | rfl <;> rfl
        case ctrue3 => have := HAC.out; unfold maxLen; omega
        case ctrue4 => have := HAC.out; omega
        case ctrue5 => exact HSZ.out
        intro v' w9 h1 h2 h3
        have HO9 := Lib.hid h1
        have HF9 := Lib.hid (HS9.out.fin h2)
        clear h1 h2 h3
        go_wp2
        refine ⟨⟨j + 1, acc ++ [⟨true, tu, ⟨#[]⟩, ck, cv⟩], p4, y4, by omega, by go_num, by rw [List.length_append]; have := HAC.out; show acc.length + 1 = _; omega, ⟨HF9.out.1, ?_, HF9.out.2, hG, hg⟩, H0.out⟩, by simp [intOf]; omega⟩
        rw [opsC_snoc, List.length_append]
        exact HO9.out
      | false =>
        go_wp2_with fail
        refine (HF3.out (by trivial) _ HS4.out.wi).mono ?_
        rintro _ w4 ⟨rfl, h1, h2⟩
        have HS5 := Lib.hid (HS4.out.call h1 h2)
        have g5 := HS5.out.bx.cell 2
        have f5 := HS5.out.bx.frozen 2
        have HS5b := Lib.hid (HS5.out.set 2 (.string tc))
        clear h1 h2
        go_wp2_with fail
        refine (HF4.out _ HS5b.out.wi).mono ?_
        rintro _ w6 ⟨rfl, h1, h2⟩
        have HS6 := Lib.hid (HS5b.out.call h1 h2)
        have g63 := HS6.out.bx.cell 3
        have f63 := HS6.out.bx.frozen 3
        have g64 := HS6.out.bx.cell 4
        have f64 := HS6.out.bx.frozen 4
        have HS7 := Lib.hid (HS6.out.set 3 (.int .i64 ck))
        have HS9 := Lib.hid (HS7.out.set 4 (.int .i64 cv))
        have c90 := HS9.out.bx.cell 0
        have c91 := HS9.out.bx.cell 1
        have c92 := HS9.out.bx.cell 2
        have c93 := HS9.out.bx.cell 3
        have c94 := HS9.out.bx.cell 4
        have HOA := Lib.hid (HS9.out.ow.alloc (.cells #[.bool false, .string tu, .string tc, .int .i64 ck, .int .i64 cv] 43))
        have HBK := Lib.hid (show Blk (((w6.setCell ⟨w2.heap.size, 3, none⟩ (.int .i64 ck)).setCell ⟨w2.heap.size, 4, none⟩ (.int .i64 cv)).alloc (.cells #[.bool false, .string tu, .string tc, .int .i64 ck, .int .i64 cv] 43)) w6.heap.size 43 #[.bool false, .string tu, .string tc, .int .i64 ck, .int .i64 cv] from by
          have := Blk.new ((w6.setCell ⟨w2.heap.size, 3, none⟩ (.int .i64 ck)).setCell ⟨w2.heap.size, 4, none⟩ (.int .i64 cv)) 43 #[.bool false, .string tu, .string tc, .int .i64 ck, .int .i64 cv]
          simpa [World.setCell] using this)
        have HSZ := Lib.hid (show w.heap.size ≤ (((w6.setCell ⟨w2.heap.size, 3, none⟩ (.int .i64 ck)).setCell ⟨w2.heap.size, 4, none⟩ (.int .i64 cv)).alloc (.cells #[.bool false, .string tu, .string tc, .int .i64 ck, .int .i64 cv] 43)).heap.size by
          have := HS9.out.tw.size
          simp at this ⊢; omega)
        clear h1 h2
        go_wp2_with (at_builtin; refine wpList_append_own _ rfl _ _ 24 rfl w.heap.size 43 i0 _ 5 56 Tryz.underlying24 hi hz0 hz1 hz2 rfl (by decide) _ _ _ rfl HOA.out ⟨w6.heap.size, 0, none⟩ 1 1 [.bool false, .string tu, .string tc, .int .i64 ck, .int .i64 cv] rfl rfl ?cfalse1 ?cfalse2 ?cfalse3 ?cfalse4 ?cfalse5 ?_)
        case cfalse1 =>
          intro j u hj
          have e := HBK.out.cell j
          rw [show (⟨w6.heap.size, 0, none⟩ : Addr).add j = ⟨w6.heap.size, j, none⟩ by unfold Addr.add; split <;> simp_all, e, ← hj]
          simp
        case cfalse2 =>
          intro u hu
          simp only [List.mem_cons, List.not_mem_nil, or_false] at hu
          rcases hu with rfl | rfl | rfl | rfl | rfl <;> rfl
        case cfalse3 => have := HAC.out; unfold maxLen; omega
        case cfalse4 => have := HAC.out; omega
        case cfalse5 => exact HSZ.out
        intro v' w9 h1 h2 h3
        have HO9 := Lib.hid h1
        have HF9 := Lib.hid (HS9.out.fin h2)
        clear h1 h2 h3
        go_wp2
        refine ⟨⟨j + 1, acc ++ [⟨false, tu, tc, ck, cv⟩], p4, y4, by omega, by go_num, by rw [List.length_append]; have := HAC.out; show acc.length + 1 = _; omega, ⟨HF9.out.1, ?_, HF9.out.2, hG, hg⟩, H0.out⟩, by simp [intOf]; omega⟩
        rw [opsC_snoc, List.length_append]
        exact HO9.out
    · obtain rfl : j = N := by omega
      have e : T = (acc, p, y) := by rw [HT.out, Nat.sub_self]; simp [opsP]
      have H9 := Lib.hid e
      clear e
      go_wp2
      go_ret
      rw [H9.out]
      exact ⟨u3, rfl, HL.out.ow, HL.out.wi, HL.out.tw⟩
end
end Go.Proofs.YtphijnkiiokieaaGreatDoor
