/- The reference's Decode: what stands while it reads. -/
import Derived.Test.YtdoldjfabgcgbaaNk
import Derived.Test.YtdoldjfabgcgbaaWy
namespace Go.Proofs.Ytdoldjfabgcgbaa
open Go.RowKit
open Go.Lib hiding intOf
set_option linter.unusedVariables false
set_option linter.unusedSimpArgs false
set_option maxRecDepth 100000
theorem Byt.past {w w' : World} {A : Option Addr} {len cap b off : Nat} {l : List UInt8} (h : Byt w A len cap b off l) (hs : w.heap.size ≤ w'.heap.size) (hb : 0 < len → w'.heap[b]? = w.heap[b]?) : Byt w' A len cap b off l :=
  ⟨h.hlen, h.le, h.hmax, fun hl => ⟨(h.addr hl).1, Nat.lt_of_lt_of_le (h.addr hl).2 hs⟩, fun j u hu => by
    have hl : 0 < len := by rw [← h.hlen]; have := (List.getElem?_eq_some_iff.1 hu).1; omega
    exact (World.cell?_of_block (a := ⟨b, off + j, none⟩) (hb hl)).trans (h.cell j u hu)⟩
theorem own_past {w w' : World} {base : Nat} {e : TypeId} {k n : Nat} {v : Value} {vs : List Value} (h : w.ownsRow base e k v n vs) (hb : ∀ j, v.ownBlock = some j → w'.heap[j]? = w.heap[j]?) : w'.ownsRow base e k v n vs := by
  obtain ⟨h0, h3 | ⟨b, cap, cur, e1, e2, e3, e4⟩⟩ := h
  · exact ⟨h0, .inl h3⟩
  · refine ⟨h0, .inr ⟨b, cap, cur, e1, e2, (hb b (by rw [e1]; rfl)).trans e3, e4⟩⟩
theorem Blk.newEq {w : World} {g : Nat} (t : TypeId) (cs : Array Value) (e : w.heap.size = g) : Blk (w.alloc (.cells cs t)) g t cs := e ▸ Blk.new w t cs
structure Dv (w0 wr : World) (g R X : Nat) (cs : Array Value) (v : Value) (n : Nat) (vs : List Value) (A : Option Addr) (cap b off : Nat) (l : List UInt8) (p : Nat) (e : Int) : Prop where
  rd : Rr wr g A cap b off l p e
  rb : Blk wr R 25 zero8
  bx : Blk wr X 25 cs
  ow : wr.ownsRow (X + 1) 39 4 v n vs
  bel : Below w0.heap.size w0 wr
  hR : w0.heap.size ≤ R
  hg : R < g
  hX : g < X
  hb : 0 < l.length → b < w0.heap.size
section
variable {w0 wr w' : World} {g R X Y : Nat} {cs ics : Array Value} {v v' : Value} {n n' : Nat} {vs vs' : List Value} {A : Option Addr} {cap b off : Nat} {l : List UInt8} {p p' : Nat} {e e' : Int}
theorem Dv.call (h : Dv w0 wr g R X cs v n vs A cap b off l p e) (hr : Rr w' g A cap b off l p' e') (ht : Tg wr w' g) : Dv w0 w' g R X cs v n vs A cap b off l p' e' := by
  have h1 := h.hR; have h2 := h.hg; have h3 := h.hX
  refine ⟨hr, (ht.block R h.rb.lt (by simp; omega)).trans h.rb, (ht.block X h.bx.lt (by simp; omega)).trans h.bx, own_past h.ow (fun j hj => ht.block j (h.ow.lt j hj).2 (by have := (h.ow.lt j hj).1; simp; omega)), h.bel.trans (ht.below (by omega) h.bel.size), h1, h2, h3, h.hb⟩
theorem Dv.keep (h : Dv w0 wr g R X cs v n vs A cap b off l p e) (hb : Below wr.heap.size wr w') : Dv w0 w' g R X cs v n vs A cap b off l p e := h.call (h.rd.keep hb) (Tg.of hb)
theorem Dv.set (h : Dv w0 wr g R X cs v n vs A cap b off l p e) (i : Nat) (u : Value) : Dv w0 (wr.setCell ⟨X, i, none⟩ u) g R X (cs.setIfInBounds i u) v n vs A cap b off l p e := by
  have h1 := h.hR; have h2 := h.hg; have h3 := h.hX
  have hne : ∀ j, j ≠ X → (wr.setCell ⟨X, i, none⟩ u).heap[j]? = wr.heap[j]? := fun j hj => Below.heap_setCell wr ⟨X, i, none⟩ u j hj
  exact ⟨⟨(hne g (by omega)).trans h.rd.bx, h.rd.byt.past (by simp [World.setCell]) (fun hl => hne b (by have := h.hb hl; omega)), h.rd.ne, h.rd.hp⟩, (hne R (by omega)).trans h.rb, h.bx.set_ i u, own_past h.ow (fun j hj => hne j (by have := (h.ow.lt j hj).1; omega)), h.bel.setCell (p := ⟨X, i, none⟩) (by show _ ≤ X; omega) u, h1, h2, h3, h.hb⟩
theorem Dv.start {w : World} {l : List UInt8} {A : Option Addr} {cap b off : Nat} (h : Byt w A l.length cap b off l) (cs : Array Value) :
    Dv w (((w.alloc (.cells zero8 25)).alloc (.cells #[.slice A l.length cap, .int .i64 0, .int .i64 0] 53)).alloc (.cells cs 25)) (w.heap.size + 1) w.heap.size (w.heap.size + 1 + 1) cs (.slice none 0 0) 0 [] A cap b off l 0 0 := by
  have b1 : Blk (w.alloc (.cells zero8 25)) w.heap.size 25 zero8 := Blk.new _ _ _
  have b2 := Blk.newEq (w := w.alloc (.cells zero8 25)) (g := w.heap.size + 1) 53 #[.slice A l.length cap, .int .i64 0, .int .i64 0] (by simp)
  have b3 := Blk.newEq (w := (w.alloc (.cells zero8 25)).alloc (.cells #[.slice A l.length cap, .int .i64 0, .int .i64 0] 53)) (g := w.heap.size + 1 + 1) 25 cs (by simp)
  have hb : Below w.heap.size w (((w.alloc (.cells zero8 25)).alloc (.cells #[.slice A l.length cap, .int .i64 0, .int .i64 0] 53)).alloc (.cells cs 25)) := ((((Below.refl _ _).alloc (Nat.le_refl _) _).alloc (by simp) _).alloc (by simp; omega) _)
  exact ⟨⟨b2.alloc _, h.below hb, fun hl => by have := (h.addr hl).2; omega, Nat.zero_le _⟩, (b1.alloc _).alloc _, b3, World.ownsRow_nil _ _ _ _, hb, Nat.le_refl _, by omega, by omega, fun hl => (h.addr hl).2⟩
/-- With an item's box. -/
structure Di (w0 wr : World) (g R X Y : Nat) (cs ics : Array Value) (v : Value) (n : Nat) (vs : List Value) (A : Option Addr) (cap b off : Nat) (l : List UInt8) (p : Nat) (e : Int) : Prop where
  dv : Dv w0 wr g R X cs v n vs A cap b off l p e
  bY : Blk wr Y 39 ics
  hY : X < Y
  hv : ∀ k, v.ownBlock = some k → k < Y
theorem Dv.item (h : Dv w0 wr g R X cs v n vs A cap b off l p e) (ics : Array Value) : Di w0 (wr.alloc (.cells ics 39)) g R X wr.heap.size cs ics v n vs A cap b off l p e :=
  ⟨h.keep ((Below.refl _ _).alloc (Nat.le_refl _) _), Blk.new _ _ _, h.bx.lt, fun k hk => (h.ow.lt k hk).2⟩
theorem Di.call (h : Di w0 wr g R X Y cs ics v n vs A cap b off l p e) (hr : Rr w' g A cap b off l p' e') (ht : Tg wr w' g) : Di w0 w' g R X Y cs ics v n vs A cap b off l p' e' := by
  have h3 := h.dv.hX; have h4 := h.hY
  exact ⟨h.dv.call hr ht, (ht.block Y h.bY.lt (by simp; omega)).trans h.bY, h4, h.hv⟩
theorem Di.set (h : Di w0 wr g R X Y cs ics v n vs A cap b off l p e) (i : Nat) (u : Value) : Di w0 (wr.setCell ⟨Y, i, none⟩ u) g R X Y cs (ics.setIfInBounds i u) v n vs A cap b off l p e := by
  have h1 := h.dv.hR; have h2 := h.dv.hg; have h3 := h.dv.hX; have h4 := h.hY
  have hne : ∀ j, j ≠ Y → (wr.setCell ⟨Y, i, none⟩ u).heap[j]? = wr.heap[j]? := fun j hj => Below.heap_setCell wr ⟨Y, i, none⟩ u j hj
  exact ⟨⟨⟨(hne g (by omega)).trans h.dv.rd.bx, h.dv.rd.byt.past (by simp [World.setCell]) (fun hl => hne b (by have := h.dv.hb hl; omega)), h.dv.rd.ne, h.dv.rd.hp⟩, (hne R (by omega)).trans h.dv.rb, (hne X (by omega)).trans h.dv.bx, own_past h.dv.ow (fun j hj => hne j (by have := h.hv j hj; omega)), h.dv.bel.setCell (p := ⟨Y, i, none⟩) (by show _ ≤ Y; omega) u, h1, h2, h3, h.dv.hb⟩, h.bY.set_ i u, h4, h.hv⟩
/-- An item is put behind the others. -/
theorem Di.fin (h : Di w0 wr g R X Y cs ics v n vs A cap b off l p e) {o : Obj} (hg : (wr.alloc o).grownBy w' v.ownBlock) (h1 : w'.ownsRow (X + 1) 39 4 v' n' vs') : Blk w' X 25 cs ∧ Dv w0 (w'.setCell ⟨X, 7, none⟩ v') g R X (cs.setIfInBounds 7 v') v' n' vs' A cap b off l p e := by
  have k := h.dv.keep ((Below.refl wr.heap.size wr).alloc (Nat.le_refl _) o)
  have a1 := k.hR; have a2 := k.hg; have a3 := k.hX
  have hlt : ∀ j, v.ownBlock = some j → X + 1 ≤ j := fun j hj => (k.ow.lt j hj).1
  have hne : ∀ j, j < (wr.alloc o).heap.size → j ≤ X → w'.heap[j]? = (wr.alloc o).heap[j]? := fun j hj hx => hg.block j hj (fun e => by have := hlt j e.symm; omega)
  have b1 : Blk w' X 25 cs := (hne X k.bx.lt (Nat.le_refl _)).trans k.bx
  have hb : Below w0.heap.size w0 w' := ⟨hg.os.trans k.bel.os, hg.tape.trans k.bel.tape, hg.output.trans k.bel.output, Nat.le_trans k.bel.size hg.size, fun j hj => (hne j (Nat.lt_of_lt_of_le hj k.bel.size) (by omega)).trans (k.bel.block j hj)⟩
  have d : Dv w0 w' g R X cs v' n' vs' A cap b off l p e := ⟨⟨(hne g (Blk.lt k.rd.bx) (by omega)).trans k.rd.bx, k.rd.byt.past hg.size (fun hl => hne b (k.rd.byt.addr hl).2 (by have := k.hb hl; omega)), k.rd.ne, k.rd.hp⟩, (hne R k.rb.lt (by omega)).trans k.rb, b1, h1, hb, a1, a2, a3, k.hb⟩
  exact ⟨b1, d.set 7 v'⟩
end
theorem decr_out {cs : Array Value} (hc : cs.size = 8) {R : Ending → World → Prop} {a : Act} {w : World} {g : Nat} (h2 : a.tmps.getD 4 undef = .pointer (some ⟨g, 0, none⟩)) (hd : a.defers = []) (hg : Blk w g 25 cs)
    (hR : R (.returned (.tuple #[.agg cs, a.tmps.getD 5 undef])) w) : bodyPost Try.prog Try.f12 R .ret a w :=
  bodyPost_ret (results_cell1 (fn := Try.f12) rfl a.tmps Try.prog w g 25 cs (0, 0) _ h2 hg Try.underlying25 (by rw [hc]; rfl)) hd hR
end Go.Proofs.Ytdoldjfabgcgbaa
