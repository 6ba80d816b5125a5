/- Texts of one proof, joined. -/
import Derived.Test.YtphijnkiiokieaaGreatDoorZat
import Derived.Lib.RuneCount
set_option linter.unusedVariables false
set_option linter.unusedSimpArgs false
set_option maxRecDepth 100000
set_option maxHeartbeats 80000000
namespace Go.Proofs.YtphijnkiiokieaaGreatDoor
open Go.RowKit
open Go.Lib hiding intOf
theorem qdec_out {cs : Array Value} (hc : cs.size = 11) {R : Ending → World → Prop} {a : Act} {w : World} {g : Nat} (h2 : a.tmps.getD 4 undef = .pointer (some ⟨g, 0, none⟩)) (hd : a.defers = []) (hg : Blk w g 26 cs)
  (hR : R (.returned (.tuple #[.agg cs, a.tmps.getD 5 undef])) w) : bodyPost Tryz.prog Tryz.f12 R .ret a w :=
 bodyPost_ret (results_cell1 (fn := Tryz.f12) rfl a.tmps Tryz.prog w g 26 cs (0, 0) _ h2 hg Tryz.underlying26 (by rw [hc]; rfl)) hd hR
def zero11 : Array Value := #[.int .i64 0, .string ⟨#[]⟩, .string ⟨#[]⟩, .string ⟨#[]⟩, .string ⟨#[]⟩, .int .i64 0, .int .i64 0, .slice none 0 0, .int .i64 0, .int .i64 0, .int .i64 0]
theorem cz11 {w : World} {b : Nat} {t : TypeId} (h : Blk w b t zero11) : w.cell? ⟨b, 0, none⟩ = some (.int .i64 0) ∧ w.frozen? ⟨b, 0, none⟩ = false ∧ w.cell? ⟨b, 1, none⟩ = some (.string ⟨#[]⟩) ∧ w.frozen? ⟨b, 1, none⟩ = false ∧ w.cell? ⟨b, 2, none⟩ = some (.string ⟨#[]⟩) ∧ w.frozen? ⟨b, 2, none⟩ = false ∧ w.cell? ⟨b, 3, none⟩ = some (.string ⟨#[]⟩) ∧ w.frozen? ⟨b, 3, none⟩ = false ∧ w.cell? ⟨b, 4, none⟩ = some (.string ⟨#[]⟩) ∧ w.frozen? ⟨b, 4, none⟩ = false ∧ w.cell? ⟨b, 5, none⟩ = some (.int .i64 0) ∧ w.frozen? ⟨b, 5, none⟩ = false ∧ w.cell? ⟨b, 6, none⟩ = some (.int .i64 0) ∧ w.frozen? ⟨b, 6, none⟩ = false ∧ w.cell? ⟨b, 7, none⟩ = some (.slice none 0 0) ∧ w.frozen? ⟨b, 7, none⟩ = false ∧ w.cell? ⟨b, 8, none⟩ = some (.int .i64 0) ∧ w.frozen? ⟨b, 8, none⟩ = false ∧ w.cell? ⟨b, 9, none⟩ = some (.int .i64 0) ∧ w.frozen? ⟨b, 9, none⟩ = false ∧ w.cell? ⟨b, 10, none⟩ = some (.int .i64 0) ∧ w.frozen? ⟨b, 10, none⟩ = false := ⟨h.cell 0, h.frozen 0, h.cell 1, h.frozen 1, h.cell 2, h.frozen 2, h.cell 3, h.frozen 3, h.cell 4, h.frozen 4, h.cell 5, h.frozen 5, h.cell 6, h.frozen 6, h.cell 7, h.frozen 7, h.cell 8, h.frozen 8, h.cell 9, h.frozen 9, h.cell 10, h.frozen 10⟩
structure Dq (w0 wr : World) (G g R X : Nat) (cs : Array Value) (s : ByteArray) (q : Ps) (x : Bool) (A : Option Addr) (cap b : Nat) (xs : List Opn) : Prop where
 wi : Wi wr G g s q x
 rb : Blk wr R 26 zero11
 bx : Blk wr X 26 cs
 bel : Below w0.heap.size w0 wr
 hR : w0.heap.size ≤ R
 hG : R < G
 hg : R < g
 hX : G < X
 hx : g < X
 js : Ops wr A xs.length cap b 0 xs
 hb : 0 < xs.length → X < b
section
variable {w0 wr w' : World} {G g R X : Nat} {cs : Array Value} {s : ByteArray} {q q' : Ps} {x x' : Bool} {A A' : Option Addr} {cap b cap' b' : Nat} {xs xs' : List Opn}
theorem Dq.call (h : Dq w0 wr G g R X cs s q x A cap b xs) (hw : Wi w' G g s q' x') (ht : Tw2 wr w' G g) : Dq w0 w' G g R X cs s q' x' A cap b xs := by
 have h1 := h.hR; have h2 := h.hG; have h3 := h.hg; have h4 := h.hX; have h5 := h.hx
 exact ⟨hw, (ht.block R h.rb.lt (by omega) (by omega)).trans h.rb, (ht.block X h.bx.lt (by omega) (by omega)).trans h.bx, h.bel.trans (ht.below (by omega) (by omega) h.bel.size), h1, h2, h3, h4, h5, h.js.blk ht.size (fun hl => ht.block b (h.js.addr hl).2 (by have := h.hb hl; omega) (by have := h.hb hl; omega)), h.hb⟩
theorem Dq.set (h : Dq w0 wr G g R X cs s q x A cap b xs) (i : Nat) (u : Value) : Dq w0 (wr.setCell ⟨X, i, none⟩ u) G g R X (cs.setIfInBounds i u) s q x A cap b xs := by
 have h1 := h.hR; have h2 := h.hG; have h3 := h.hg; have h4 := h.hX; have h5 := h.hx
 exact ⟨⟨h.wi.bx.far (p := ⟨X, i, none⟩) (by show G ≠ X; omega) u, Blk.far (p := ⟨X, i, none⟩) h.wi.rd (by show g ≠ X; omega) u, h.wi.ne, h.wi.hp⟩, h.rb.far (p := ⟨X, i, none⟩) (by show R ≠ X; omega) u, h.bx.set_ i u, h.bel.setCell (p := ⟨X, i, none⟩) (by show _ ≤ X; omega) u, h1, h2, h3, h4, h5, h.js.blk (by simp [World.setCell]) (fun hl => Below.heap_setCell _ _ _ _ (by have := h.hb hl; show b ≠ X; omega)), h.hb⟩
theorem Dq.ops (h : Dq w0 wr G g R X cs s q x A cap b xs) (hj : Ops wr A' xs'.length cap' b' 0 xs') (hb : 0 < xs'.length → X < b') : Dq w0 wr G g R X cs s q x A' cap' b' xs' :=
 ⟨h.wi, h.rb, h.bx, h.bel, h.hR, h.hG, h.hg, h.hX, h.hx, hj, hb⟩
theorem Dq.keep (h : Dq w0 wr G g R X cs s q x A cap b xs) (hb : Below wr.heap.size wr w') : Dq w0 w' G g R X cs s q x A cap b xs := h.call (h.wi.keep hb) (Tw2.ofBelow hb)
theorem Dq.start {w w1 : World} {cs : Array Value} (hb0 : Below w.heap.size w (w.alloc (.cells zero11 26))) (hW : Wi w1 G g s q x) (hg : w.heap.size + 1 ≤ g) (hG : w.heap.size + 1 ≤ G) (hb : Below (w.alloc (.cells zero11 26)).heap.size (w.alloc (.cells zero11 26)) w1) : Dq w (w1.alloc (.cells cs 26)) G g w.heap.size w1.heap.size cs s q x none 0 0 [] := by
 have hb1 : Below w1.heap.size w1 (w1.alloc (.cells cs 26)) := (Below.refl _ _).alloc (Nat.le_refl _) _; have l1 := hW.bx.lt; have l2 : g < w1.heap.size := Blk.lt hW.rd; have r0 : Blk w1 w.heap.size 26 zero11 := (Blk.new w _ _).below hb (by simp)
 exact ⟨hW.keep hb1, r0.below hb1 r0.lt, Blk.new _ _ _, (hb0.trans (hb.mono hb0.size)).trans (hb1.mono (Nat.le_trans hb0.size (Nat.le_trans (Nat.le_refl _) hb.size))), Nat.le_refl _, by omega, by omega, l1, l2, ops_none _, fun h => absurd h (by simp)⟩
end
theorem put11_0 {w : World} {R : Nat} {t : TypeId} {x0 x1 x2 x3 x4 x5 x6 x7 x8 x9 x10 : Value} (k : Blk w R t #[x0, x1, x2, x3, x4, x5, x6, x7, x8, x9, x10]) (u : Value) : Blk (w.setCell ⟨R, 0, none⟩ u) R t #[u, x1, x2, x3, x4, x5, x6, x7, x8, x9, x10] := k.set_ 0 u
theorem put11_1 {w : World} {R : Nat} {t : TypeId} {x0 x1 x2 x3 x4 x5 x6 x7 x8 x9 x10 : Value} (k : Blk w R t #[x0, x1, x2, x3, x4, x5, x6, x7, x8, x9, x10]) (u : Value) : Blk (w.setCell ⟨R, 1, none⟩ u) R t #[x0, u, x2, x3, x4, x5, x6, x7, x8, x9, x10] := k.set_ 1 u
theorem put11_2 {w : World} {R : Nat} {t : TypeId} {x0 x1 x2 x3 x4 x5 x6 x7 x8 x9 x10 : Value} (k : Blk w R t #[x0, x1, x2, x3, x4, x5, x6, x7, x8, x9, x10]) (u : Value) : Blk (w.setCell ⟨R, 2, none⟩ u) R t #[x0, x1, u, x3, x4, x5, x6, x7, x8, x9, x10] := k.set_ 2 u
theorem put11_3 {w : World} {R : Nat} {t : TypeId} {x0 x1 x2 x3 x4 x5 x6 x7 x8 x9 x10 : Value} (k : Blk w R t #[x0, x1, x2, x3, x4, x5, x6, x7, x8, x9, x10]) (u : Value) : Blk (w.setCell ⟨R, 3, none⟩ u) R t #[x0, x1, x2, u, x4, x5, x6, x7, x8, x9, x10] := k.set_ 3 u
theorem put11_4 {w : World} {R : Nat} {t : TypeId} {x0 x1 x2 x3 x4 x5 x6 x7 x8 x9 x10 : Value} (k : Blk w R t #[x0, x1, x2, x3, x4, x5, x6, x7, x8, x9, x10]) (u : Value) : Blk (w.setCell ⟨R, 4, none⟩ u) R t #[x0, x1, x2, x3, u, x5, x6, x7, x8, x9, x10] := k.set_ 4 u
theorem put11_5 {w : World} {R : Nat} {t : TypeId} {x0 x1 x2 x3 x4 x5 x6 x7 x8 x9 x10 : Value} (k : Blk w R t #[x0, x1, x2, x3, x4, x5, x6, x7, x8, x9, x10]) (u : Value) : Blk (w.setCell ⟨R, 5, none⟩ u) R t #[x0, x1, x2, x3, x4, u, x6, x7, x8, x9, x10] := k.set_ 5 u
theorem put11_6 {w : World} {R : Nat} {t : TypeId} {x0 x1 x2 x3 x4 x5 x6 x7 x8 x9 x10 : Value} (k : Blk w R t #[x0, x1, x2, x3, x4, x5, x6, x7, x8, x9, x10]) (u : Value) : Blk (w.setCell ⟨R, 6, none⟩ u) R t #[x0, x1, x2, x3, x4, x5, u, x7, x8, x9, x10] := k.set_ 6 u
theorem put11_7 {w : World} {R : Nat} {t : TypeId} {x0 x1 x2 x3 x4 x5 x6 x7 x8 x9 x10 : Value} (k : Blk w R t #[x0, x1, x2, x3, x4, x5, x6, x7, x8, x9, x10]) (u : Value) : Blk (w.setCell ⟨R, 7, none⟩ u) R t #[x0, x1, x2, x3, x4, x5, x6, u, x8, x9, x10] := k.set_ 7 u
theorem put11_8 {w : World} {R : Nat} {t : TypeId} {x0 x1 x2 x3 x4 x5 x6 x7 x8 x9 x10 : Value} (k : Blk w R t #[x0, x1, x2, x3, x4, x5, x6, x7, x8, x9, x10]) (u : Value) : Blk (w.setCell ⟨R, 8, none⟩ u) R t #[x0, x1, x2, x3, x4, x5, x6, x7, u, x9, x10] := k.set_ 8 u
theorem put11_9 {w : World} {R : Nat} {t : TypeId} {x0 x1 x2 x3 x4 x5 x6 x7 x8 x9 x10 : Value} (k : Blk w R t #[x0, x1, x2, x3, x4, x5, x6, x7, x8, x9, x10]) (u : Value) : Blk (w.setCell ⟨R, 9, none⟩ u) R t #[x0, x1, x2, x3, x4, x5, x6, x7, x8, u, x10] := k.set_ 9 u
theorem put11_10 {w : World} {R : Nat} {t : TypeId} {x0 x1 x2 x3 x4 x5 x6 x7 x8 x9 x10 : Value} (k : Blk w R t #[x0, x1, x2, x3, x4, x5, x6, x7, x8, x9, x10]) (u : Value) : Blk (w.setCell ⟨R, 10, none⟩ u) R t #[x0, x1, x2, x3, x4, x5, x6, x7, x8, x9, u] := k.set_ 10 u
theorem put11 {w : World} {R : Nat} {t : TypeId} (k : Blk w R t zero11) (p0 p1 p2 p3 p4 p5 p6 p7 p8 p9 p10 : Value) : Blk (((((((((((w.setCell ⟨R, 0, none⟩ p0).setCell ⟨R, 1, none⟩ p1).setCell ⟨R, 2, none⟩ p2).setCell ⟨R, 3, none⟩ p3).setCell ⟨R, 4, none⟩ p4).setCell ⟨R, 5, none⟩ p5).setCell ⟨R, 6, none⟩ p6).setCell ⟨R, 7, none⟩ p7).setCell ⟨R, 8, none⟩ p8).setCell ⟨R, 9, none⟩ p9).setCell ⟨R, 10, none⟩ p10) R t #[p0, p1, p2, p3, p4, p5, p6, p7, p8, p9, p10] := by
 have k0 : Blk w R t #[.int .i64 0, .string ⟨#[]⟩, .string ⟨#[]⟩, .string ⟨#[]⟩, .string ⟨#[]⟩, .int .i64 0, .int .i64 0, .slice none 0 0, .int .i64 0, .int .i64 0, .int .i64 0] := k
 exact (put11_10 (put11_9 (put11_8 (put11_7 (put11_6 (put11_5 (put11_4 (put11_3 (put11_2 (put11_1 (put11_0 k0 p0) p1) p2) p3) p4) p5) p6) p7) p8) p9) p10)
theorem bel11 {w0 w : World} {B R : Nat} (k : Below B w0 w) (hR : B ≤ R) (p0 p1 p2 p3 p4 p5 p6 p7 p8 p9 p10 : Value) : Below B w0 (((((((((((w.setCell ⟨R, 0, none⟩ p0).setCell ⟨R, 1, none⟩ p1).setCell ⟨R, 2, none⟩ p2).setCell ⟨R, 3, none⟩ p3).setCell ⟨R, 4, none⟩ p4).setCell ⟨R, 5, none⟩ p5).setCell ⟨R, 6, none⟩ p6).setCell ⟨R, 7, none⟩ p7).setCell ⟨R, 8, none⟩ p8).setCell ⟨R, 9, none⟩ p9).setCell ⟨R, 10, none⟩ p10) :=
 ((((((((((k.setCell (p := ⟨R, 0, none⟩) hR p0).setCell (p := ⟨R, 1, none⟩) hR p1).setCell (p := ⟨R, 2, none⟩) hR p2).setCell (p := ⟨R, 3, none⟩) hR p3).setCell (p := ⟨R, 4, none⟩) hR p4).setCell (p := ⟨R, 5, none⟩) hR p5).setCell (p := ⟨R, 6, none⟩) hR p6).setCell (p := ⟨R, 7, none⟩) hR p7).setCell (p := ⟨R, 8, none⟩) hR p8).setCell (p := ⟨R, 9, none⟩) hR p9).setCell (p := ⟨R, 10, none⟩) hR p10
theorem heap11 {w : World} {R j : Nat} (hj : j ≠ R) (p0 p1 p2 p3 p4 p5 p6 p7 p8 p9 p10 : Value) : (((((((((((w.setCell ⟨R, 0, none⟩ p0).setCell ⟨R, 1, none⟩ p1).setCell ⟨R, 2, none⟩ p2).setCell ⟨R, 3, none⟩ p3).setCell ⟨R, 4, none⟩ p4).setCell ⟨R, 5, none⟩ p5).setCell ⟨R, 6, none⟩ p6).setCell ⟨R, 7, none⟩ p7).setCell ⟨R, 8, none⟩ p8).setCell ⟨R, 9, none⟩ p9).setCell ⟨R, 10, none⟩ p10).heap[j]? = w.heap[j]? := by
 repeat rw [Below.heap_setCell _ _ _ _ hj]
theorem size11 {w : World} {R : Nat} (p0 p1 p2 p3 p4 p5 p6 p7 p8 p9 p10 : Value) : (((((((((((w.setCell ⟨R, 0, none⟩ p0).setCell ⟨R, 1, none⟩ p1).setCell ⟨R, 2, none⟩ p2).setCell ⟨R, 3, none⟩ p3).setCell ⟨R, 4, none⟩ p4).setCell ⟨R, 5, none⟩ p5).setCell ⟨R, 6, none⟩ p6).setCell ⟨R, 7, none⟩ p7).setCell ⟨R, 8, none⟩ p8).setCell ⟨R, 9, none⟩ p9).setCell ⟨R, 10, none⟩ p10).heap.size = w.heap.size := by simp [World.setCell]
theorem textP_size (l : List UInt8) (q : Ps) : (textP 20000 l q).1.size ≤ 20000 := by
 unfold textP
 split
 ·
  exact Nat.zero_le _
 ·
  split
  ·
   exact Nat.zero_le _
  ·
   split
   ·
    exact Nat.zero_le _
   ·
    split
    ·
     exact Nat.zero_le _
    ·
     rename_i h
     show Array.size _ ≤ _
     rw [List.size_toArray, List.length_take]
     omega
theorem otP_size (b : Bool) (l : List UInt8) (q : Ps) : (otP b l q).1.size ≤ 20000 := by
 cases b with
 | true => exact textP_size l q
 | false => exact Nat.zero_le _
theorem onP_lt (b : Bool) (l : List UInt8) (q : Ps) : (onP b l q).1 < 9223372036854775808 := by
 cases b with
 | true => exact numP_lt l q
 | false => show (0 : Int) < _; decide
theorem obP_lt (b : Bool) (l : List UInt8) (q : Ps) (x : Bool) : (obP b l q x).1 < 9223372036854775808 := by
 cases b with
 | true => have := belowP_le 2147483647 l q x; show (belowP 2147483647 l q x).1 < _; omega
 | false => show (0 : Int) < _; decide
theorem condP_lt (l : List UInt8) (q : Ps) (x : Bool) : 0 ≤ (condP l q x).1.1 ∧ (condP l q x).1.1 < 9223372036854775808 ∧ 0 ≤ (condP l q x).1.2 ∧ (condP l q x).1.2 < 9223372036854775808 :=
 ⟨(belowP_nat 2147483647 l q x).1, by have := belowP_le 2147483647 l q x; show (belowP 2147483647 l q x).1 < _; omega, numP_nat _ _, numP_lt _ _⟩
theorem ocP_lt (b : Bool) (l : List UInt8) (q : Ps) (x : Bool) : (ocP b l q x).1.1 < 9223372036854775808 ∧ (ocP b l q x).1.2 < 9223372036854775808 := by
 cases b with
 | true => exact ⟨(condP_lt l q x).2.1, (condP_lt l q x).2.2.2⟩
 | false => exact ⟨show (0 : Int) < _ by decide, show (0 : Int) < _ by decide⟩
theorem opP_fit (l : List UInt8) (q : Ps) (x : Bool) : WfO (opP l q x).1 ∧ SzO (opP l q x).1 := by
 unfold opP
 simp only
 have h1 := textP_size l (markP l q x).2.1; have h2 := otP_size (!(markP l q x).1) l (textP 20000 l (markP l q x).2.1).2; have h3 := condP_lt l (otP (!(markP l q x).1) l (textP 20000 l (markP l q x).2.1).2).2 (markP l q x).2.2; refine ⟨⟨?_, ?_, ?_, h3.2.1, ?_, h3.2.2.2⟩, ⟨?_, ?_⟩⟩
 ·
  show (textP 20000 l (markP l q x).2.1).1.size ≤ _; unfold maxLen; omega
 ·
  show (otP (!(markP l q x).1) l (textP 20000 l (markP l q x).2.1).2).1.size ≤ _; unfold maxLen; omega
 ·
  have := h3.1; show _ ≤ (condP l _ _).1.1; omega
 ·
  have := h3.2.2.1; show _ ≤ (condP l _ _).1.2; omega
 ·
  show (textP 20000 l (markP l q x).2.1).1.size ≤ _; omega
 ·
  show (otP (!(markP l q x).1) l (textP 20000 l (markP l q x).2.1).2).1.size ≤ _; omega
theorem opsP_fit (l : List UInt8) : ∀ (n : Nat) (q : Ps) (x : Bool), (opsP n l q x).1.length = n ∧ ∀ t ∈ (opsP n l q x).1, WfO t ∧ SzO t
 | 0, q, x => ⟨rfl, fun t h => by simp [opsP] at h⟩
 | n + 1, q, x => by
  have h := opsP_fit l n (opP l q x).2.1 (opP l q x).2.2
  unfold opsP
  refine ⟨by rw [List.length_cons, h.1], fun t ht => ?_⟩
  rcases List.mem_cons.1 ht with rfl | ht
  ·
   exact opP_fit l q x
  ·
   exact h.2 t ht
theorem ooP_fit (b : Bool) (l : List UInt8) (q : Ps) (x : Bool) : (ooP b l q x).1.length ≤ 16 ∧ ∀ t ∈ (ooP b l q x).1, WfO t ∧ SzO t := by
 cases b with
 | true =>
  have h := opsP_fit l (belowP 16 l q x).1.toNat (belowP 16 l q x).2.1 (belowP 16 l q x).2.2; have hb := belowP_nat 16 l q x
  exact ⟨by show (opsP _ _ _ _).1.length ≤ 16; rw [h.1]; omega, h.2⟩
 | false => exact ⟨Nat.zero_le _, fun t h => nomatch h⟩
theorem raw_fit (k : Int) (l : List UInt8) : WfQ (rawQ k l).1 ∧ SzQ (rawQ k l).1 := by
 unfold rawQ
 simp only
 have a1 := otP_size (hT k) l ⟨0, 0⟩; have a2 := otP_size (hC k) l (otP (hT k) l ⟨0, 0⟩).2; have a3 := otP_size (hU k) l (otP (hC k) l (otP (hT k) l ⟨0, 0⟩).2).2; have a4 := otP_size (hK k) l (otP (hU k) l (otP (hC k) l (otP (hT k) l ⟨0, 0⟩).2).2).2
 generalize otP (hT k) l ⟨0, 0⟩ = z1 at *
 generalize otP (hC k) l z1.2 = z2 at *
 generalize otP (hU k) l z2.2 = z3 at *
 generalize otP (hK k) l z3.2 = z4 at *
 have a5 := ocP_lt (hN k) l z4.2 false
 generalize ocP (hN k) l z4.2 false = z5 at *
 have a6 := ooP_fit (hO k) l z5.2.1 z5.2.2
 generalize ooP (hO k) l z5.2.1 z5.2.2 = z6 at *
 refine ⟨⟨a5.2, onP_lt _ _ _, obP_lt _ _ _ _, obP_lt _ _ _ _, a5.1, fun t ht => (a6.2 t ht).1⟩, ⟨?_, ?_, ?_, ?_, fun t ht => (a6.2 t ht).2, ?_⟩⟩
 ·
  show z1.1.size ≤ _; omega
 ·
  show z2.1.size ≤ _; omega
 ·
  show z3.1.size ≤ _; omega
 ·
  show z4.1.size ≤ _; omega
 ·
  show z6.1.length ≤ _; omega
def decQ (k : Int) (l : List UInt8) : Rq × Int :=
 if kindB k = false then (rqZ, 12) else if donQ k l = false then (rqZ, 1) else if checkQ (rawQ k l).1 ≠ 0 then (rqZ, checkQ (rawQ k l).1) else ((rawQ k l).1, 0)
def DecQ (w : World) (d : Rq × Int) (r : Ending) (w' : World) : Prop :=
 ∃ A cap b, r = .returned (.tuple #[rqV d.1 A d.1.ops.length cap, .int .i64 d.2]) ∧ Ops w' A d.1.ops.length cap b 0 d.1.ops ∧ (0 < d.1.ops.length → w.heap.size ≤ b) ∧ Below w.heap.size w w'
theorem decQ_none {w w' : World} {d : Rq × Int} {c : Int} (h : d = (rqZ, c)) (hb : Below w.heap.size w w') : DecQ w d (.returned (.tuple #[.agg zero11, .int .i64 c])) w' := by
 subst h
 exact ⟨none, 0, 0, rfl, ops_none _, fun h => absurd h (by simp [rqZ]), hb⟩
section
variable {w : World} {A : Option Addr} {len cap b off : Nat} {l : List UInt8}
theorem qdec_any (h : Byt w A len cap b off l) (hl : l.length ≤ 1000000) (k : Int) (hE : Env w) : Calls Tryz.prog 12 #[.int .i64 k, .slice A len cap] w (DecQ w (decQ k l)) := by
 have HP := Zh (fun W => qparts_any k W); have hb0 : Below w.heap.size w (w.alloc (.cells zero11 26)) := (Below.refl _ _).alloc (Nat.le_refl _) _
 cases hk : kindB k with
 | false =>
  have H0 := Zh (show decQ k l = (rqZ, 12) by unfold decQ; rw [if_pos hk]); rw [hk] at HP; clear hk h hl hE
  go_enter Tryz.func12, Tryz.ntmps12
  go_wp2_with fail
  refine (HP.out _).mono ?_; rintro _ x1 ⟨rfl, hw⟩; subst hw
  go_wp2
  exact qdec_out (cs := zero11) rfl (g := w.heap.size) rfl rfl (Blk.new w _ _) (decQ_none H0.out ((Below.refl _ _).alloc (Nat.le_refl _) _))
 | true =>
  have HBT := Zh (bt_parts hk); have hs : (⟨l.toArray⟩ : ByteArray).size ≤ 1000000 := by show l.toArray.size ≤ _; simpa using hl
  have HRD := Zh (wread_any (h.on hb0)); have HB0 := Zh hb0; have HE := Zh (fun W (hb : Below w.heap.size w W) => hE.on hb); have hfit := raw_fit k l; have eD : rawQ k l = rawQ k l := rfl
  conv at eD => rhs; unfold rawQ
  simp only at eD; have eN : decQ k l = if donQ k l = false then (rqZ, 1) else if checkQ (rawQ k l).1 ≠ 0 then (rqZ, checkQ (rawQ k l).1) else ((rawQ k l).1, 0) := by unfold decQ; rw [if_neg (by rw [hk]; decide)]
  have ways : hN k = false ∧ hO k = false ∧ hW k = false ∨ hN k = true ∧ hO k = false ∧ hW k = false ∨ hN k = false ∧ hO k = true ∧ hW k = false ∨ hN k = false ∧ hO k = false ∧ hW k = true := by
   rcases kind_cases hk with rfl | rfl | rfl | rfl | rfl | rfl | rfl | rfl | rfl | rfl | rfl <;> decide
  rw [hk] at HP; obtain ⟨H, hH⟩ : ∃ H, partsN k = H := ⟨_, rfl⟩; rw [hH] at HP HBT; have bt1 := not_of HBT.out.t; have bt2 := not_of HBT.out.c; have bt3 := not_of HBT.out.u; have bt4 := not_of HBT.out.cd; have bt5 := HBT.out.n; have bt6 := HBT.out.o; have bt7 := HBT.out.w; have bt8 := not_of HBT.out.m; have bt9 := not_of HBT.out.i; clear HBT hH h hb0 hE
  generalize hT k = xT at *
  generalize hC k = xC at *
  generalize hU k = xU at *
  generalize hK k = xK at *
  generalize hN k = xN at *
  generalize hO k = xO at *
  generalize hW k = xW at *
  generalize hM k = xM at *
  generalize hI k = xI at *
  obtain ⟨⟨v1, q1⟩, e1⟩ : ∃ z, otP xT l ⟨0, 0⟩ = z := ⟨_, rfl⟩; rw [e1] at eD; obtain ⟨⟨v2, q2⟩, e2⟩ : ∃ z, otP xC l q1 = z := ⟨_, rfl⟩; rw [e2] at eD; obtain ⟨⟨v3, q3⟩, e3⟩ : ∃ z, otP xU l q2 = z := ⟨_, rfl⟩; rw [e3] at eD; obtain ⟨⟨v4, q4⟩, e4⟩ : ∃ z, otP xK l q3 = z := ⟨_, rfl⟩; rw [e4] at eD; obtain ⟨⟨⟨v5, v6⟩, q5, x5⟩, e5⟩ : ∃ z, ocP xN l q4 false = z := ⟨_, rfl⟩; rw [e5] at eD; obtain ⟨⟨v7, q6, x6⟩, e6⟩ : ∃ z, ooP xO l q5 x5 = z := ⟨_, rfl⟩; simp only at eD; rw [e6] at eD; obtain ⟨⟨v8, q7⟩, e7⟩ : ∃ z, onP xW l q6 = z := ⟨_, rfl⟩; simp only at eD; rw [e7] at eD; obtain ⟨⟨v9, q8, x8⟩, e8⟩ : ∃ z, obP xM l q7 x6 = z := ⟨_, rfl⟩; simp only at eD; rw [e8] at eD; obtain ⟨⟨v10, q9, x9⟩, e9⟩ : ∃ z, obP xI l q8 x8 = z := ⟨_, rfl⟩; simp only at eD; rw [e9] at eD; simp only at eD; rw [eD] at hfit; obtain ⟨dn, hdn⟩ : ∃ z, doneP l.length q9 x9 = z := ⟨_, rfl⟩; have eDn : donQ k l = dn := by unfold donQ; rw [eD]; exact hdn
  obtain ⟨c, hc⟩ : ∃ c, checkQ ⟨k, v1, v2, v3, v4, v5, v6, v7, v8, v9, v10⟩ = c := ⟨_, rfl⟩; have HD := Zh (show decQ k l = if dn = false then (rqZ, 1) else if c ≠ 0 then (rqZ, c) else (⟨k, v1, v2, v3, v4, v5, v6, v7, v8, v9, v10⟩, 0) by rw [eN, eDn, eD]; simp only [hc]); have HF1 := Zh (fun w0 G g (h : Wi w0 G g ⟨l.toArray⟩ ⟨0, 0⟩ false) => qtext_any h hs (bits .and .i64 H 1) xT bt1); have HF2 := Zh (fun w0 G g (h : Wi w0 G g ⟨l.toArray⟩ q1 false) => qtext_any h hs (bits .and .i64 H 2) xC bt2); have HF3 := Zh (fun w0 G g (h : Wi w0 G g ⟨l.toArray⟩ q2 false) => qtext_any h hs (bits .and .i64 H 4) xU bt3); have HF4 := Zh (fun w0 G g (h : Wi w0 G g ⟨l.toArray⟩ q3 false) => qtext_any h hs (bits .and .i64 H 8) xK bt4); have HF5 := Zh (fun w0 G g (h : Wi w0 G g ⟨l.toArray⟩ q4 false) => qcond_any h hs); have HF6 := Zh (fun w0 G g (h : Wi w0 G g ⟨l.toArray⟩ q5 x5) => qops_any h hs); have HF7 := Zh (fun w0 G g (h : Wi w0 G g ⟨l.toArray⟩ q6 x6) => wnum_any h hs); have HF8 := Zh (fun w0 G g (h : Wi w0 G g ⟨l.toArray⟩ q7 x6) => qnumber_any h hs (bits .and .i64 H 128) xM bt8); have HF9 := Zh (fun w0 G g (h : Wi w0 G g ⟨l.toArray⟩ q8 x8) => qnumber_any h hs (bits .and .i64 H 256) xI bt9); have HFD := Zh (fun w0 G g (h : Wi w0 G g ⟨l.toArray⟩ q9 x9) => wdone_any h hs); have esz : (⟨l.toArray⟩ : ByteArray).size = l.length := by show l.toArray.size = _; simp
  rw [show (⟨l.toArray⟩ : ByteArray).data.toList = l from rfl] at HF1 HF2 HF3 HF4 HF5 HF6 HF7 HF8 HF9; rw [e1] at HF1; rw [e2] at HF2; rw [e3] at HF3; rw [e4] at HF4; rw [e8] at HF8; rw [e9] at HF9; rw [esz, hdn] at HFD; simp only at HF1 HF2 HF3 HF4 HF8 HF9; have HC := Zh (fun w0 A cap b (hb : Below w.heap.size w w0) (h : Ops w0 A v7.length cap b 0 v7) => hc ▸ qcheck_any (q := ⟨k, v1, v2, v3, v4, v5, v6, v7, v8, v9, v10⟩) h hfit.2 (HE.out _ hb)); have s5 : xN = true → condP l q4 false = ((v5, v6), q5, x5) := fun e => by subst e; exact e5
  have t5 : xN = false → v5 = 0 ∧ v6 = 0 ∧ q5 = q4 ∧ x5 = false := fun e => by subst e; have := e5.symm; simp [ocP] at this; exact ⟨this.1.1, this.1.2, this.2.1, this.2.2⟩
  have s6 : xO = true → opsR l q5 x5 = (v7, q6, x6) := fun e => by subst e; exact e6
  have t6 : xO = false → v7 = [] ∧ q6 = q5 ∧ x6 = x5 := fun e => by subst e; have := e6.symm; simp [ooP] at this; exact ⟨this.1, this.2.1, this.2.2⟩
  have s7 : xW = true → numP l q6 = (v8, q7) := fun e => by subst e; exact e7
  have t7 : xW = false → v8 = 0 ∧ q7 = q6 := fun e => by subst e; have := e7.symm; simp [onP] at this; exact this
  clear e1 e2 e3 e4 e5 e6 e7 e8 e9 eD eN eDn hdn hc esz hs hl hfit hk bt1 bt2 bt3 bt4 bt8 bt9
  rcases ways with ⟨rfl, rfl, rfl⟩ | ⟨rfl, rfl, rfl⟩ | ⟨rfl, rfl, rfl⟩ | ⟨rfl, rfl, rfl⟩
  ·
   skip
   obtain ⟨rfl, rfl, rfl, rfl⟩ := t5 rfl; obtain ⟨rfl, rfl, rfl⟩ := t6 rfl; obtain ⟨rfl, rfl⟩ := t7 rfl; clear s5 t5 s6 t6 s7 t7
   go_enter Tryz.func12, Tryz.ntmps12
   go_wp2_with fail
   refine (HP.out _).mono ?_; rintro _ x1 ⟨rfl, hw⟩; subst hw
   go_wp2_with fail
   refine HRD.out.mono ?_; rintro _ w1 ⟨G, g, rfl, hW, hg0, hG0, hb⟩; have HD0 := Zh (Dq.start (cs := #[.int .i64 k, .string ⟨#[]⟩, .string ⟨#[]⟩, .string ⟨#[]⟩, .string ⟨#[]⟩, .int .i64 0, .int .i64 0, .slice none 0 0, .int .i64 0, .int .i64 0, .int .i64 0]) HB0.out hW (by simpa using hg0) (by simpa using hG0) hb); clear hW hg0 hG0 hb
   go_wp2_with fail
   refine (HF1.out _ _ _ HD0.out.wi).mono ?_; rintro _ y1 ⟨rfl, h1, h2⟩; have HE1 := Zh (HD0.out.call h1 h2); have g1_1 := HE1.out.bx.cell 1; have f1_1 := HE1.out.bx.frozen 1; have HD1 := Zh (HE1.out.set 1 (.string v1)); clear h1 h2
   go_wp2_with fail
   refine (HF2.out _ _ _ HD1.out.wi).mono ?_; rintro _ y2 ⟨rfl, h1, h2⟩; have HE2 := Zh (HD1.out.call h1 h2); have g2_2 := HE2.out.bx.cell 2; have f2_2 := HE2.out.bx.frozen 2; have HD2 := Zh (HE2.out.set 2 (.string v2)); clear h1 h2
   go_wp2_with fail
   refine (HF3.out _ _ _ HD2.out.wi).mono ?_; rintro _ y3 ⟨rfl, h1, h2⟩; have HE3 := Zh (HD2.out.call h1 h2); have g3_3 := HE3.out.bx.cell 3; have f3_3 := HE3.out.bx.frozen 3; have HD3 := Zh (HE3.out.set 3 (.string v3)); clear h1 h2
   go_wp2_with fail
   refine (HF4.out _ _ _ HD3.out.wi).mono ?_; rintro _ y4 ⟨rfl, h1, h2⟩; have HE4 := Zh (HD3.out.call h1 h2); have g4_4 := HE4.out.bx.cell 4; have f4_4 := HE4.out.bx.frozen 4; have HD4 := Zh (HE4.out.set 4 (.string v4)); clear h1 h2
   go_wp2_with fail
   refine (HF8.out _ _ _ HD4.out.wi).mono ?_; rintro _ y8 ⟨rfl, h1, h2⟩; have HE8 := Zh (HD4.out.call h1 h2); have g8_9 := HE8.out.bx.cell 9; have f8_9 := HE8.out.bx.frozen 9; have HD8 := Zh (HE8.out.set 9 (.int .i64 v9)); clear h1 h2
   go_wp2_with fail
   refine (HF9.out _ _ _ HD8.out.wi).mono ?_; rintro _ y9 ⟨rfl, h1, h2⟩; have HE9 := Zh (HD8.out.call h1 h2); have g9_10 := HE9.out.bx.cell 10; have f9_10 := HE9.out.bx.frozen 10; have HD9 := Zh (HE9.out.set 10 (.int .i64 v10)); clear h1 h2
   cases dn with
   | false =>
    have H0 := Zh (show decQ k l = (rqZ, 1) from HD.out)
    go_wp2_with fail
    refine (HFD.out _ _ _ HD9.out.wi).mono ?_; rintro _ y10 ⟨rfl, hb⟩; have HK10 := Zh (HD9.out.keep hb); clear hb; obtain ⟨rc0, rf0, rc1, rf1, rc2, rf2, rc3, rf3, rc4, rf4, rc5, rf5, rc6, rf6, rc7, rf7, rc8, rf8, rc9, rf9, rc10, rf10⟩ := cz11 HK10.out.rb
    go_wp2
    exact qdec_out rfl (g := w.heap.size) rfl rfl (put11 HK10.out.rb _ _ _ _ _ _ _ _ _ _ _) (decQ_none H0.out (bel11 HK10.out.bel (Nat.le_refl _) _ _ _ _ _ _ _ _ _ _ _))
   | true =>
    have HD2 := Zh (show decQ k l = if c ≠ 0 then (rqZ, c) else (⟨k, v1, v2, v3, v4, 0, 0, [], 0, v9, v10⟩, 0) from HD.out)
    go_wp2_with fail
    refine (HFD.out _ _ _ HD9.out.wi).mono ?_; rintro _ y10 ⟨rfl, hb⟩; have HK10 := Zh (HD9.out.keep hb); clear hb HD; obtain ⟨s0, s1, s2, s3, s4, s5, s6, s7, s8, s9, s10⟩ := cs11 HK10.out.bx
    go_wp2_with fail
    refine (HC.out _ _ _ _ HK10.out.bel HK10.out.js).mono ?_; rintro _ y11 ⟨rfl, hb⟩; have HK11 := Zh (HK10.out.keep hb); clear hb; obtain ⟨rc0, rf0, rc1, rf1, rc2, rf2, rc3, rf3, rc4, rf4, rc5, rf5, rc6, rf6, rc7, rf7, rc8, rf8, rc9, rf9, rc10, rf10⟩ := cz11 HK11.out.rb; obtain ⟨t0, t1, t2, t3, t4, t5, t6, t7, t8, t9, t10⟩ := cs11 HK11.out.bx
    by_cases hz : c = 0
    ·
     have H0 := Zh (show decQ k l = (⟨k, v1, v2, v3, v4, 0, 0, [], 0, v9, v10⟩, 0) by rw [HD2.out, if_neg (by simpa using hz)]); have hz2 : (c != 0) = false := by simpa using hz
     go_wp2
     refine qdec_out rfl (g := w.heap.size) rfl rfl (put11 HK11.out.rb (.int .i64 k) (.string v1) (.string v2) (.string v3) (.string v4) (.int .i64 0) (.int .i64 0) (.slice none 0 0) (.int .i64 0) (.int .i64 v9) (.int .i64 v10)) ?_; rw [H0.out]
     exact ⟨_, _, _, rfl, HK11.out.js.blk (Nat.le_of_eq (size11 ..).symm) (fun h => heap11 (by have := HK11.out.hb h; have := HK11.out.hG; have := HK11.out.hX; omega) ..), fun h => by have := HK11.out.hb h; have := HK11.out.hG; have := HK11.out.hX; omega, bel11 HK11.out.bel (Nat.le_refl _) (.int .i64 k) (.string v1) (.string v2) (.string v3) (.string v4) (.int .i64 0) (.int .i64 0) (.slice none 0 0) (.int .i64 0) (.int .i64 v9) (.int .i64 v10)⟩
    ·
     have H0 := Zh (show decQ k l = (rqZ, c) by rw [HD2.out, if_pos hz]); have hz2 : (c != 0) = true := by simpa using hz
     go_wp2
     exact qdec_out rfl (g := w.heap.size) rfl rfl (put11 HK11.out.rb _ _ _ _ _ _ _ _ _ _ _) (decQ_none H0.out (bel11 HK11.out.bel (Nat.le_refl _) _ _ _ _ _ _ _ _ _ _ _))
  ·
   skip
   obtain ⟨rfl, rfl, rfl⟩ := t6 rfl; obtain ⟨rfl, rfl⟩ := t7 rfl; rw [s5 rfl] at HF5; simp only at HF5; clear s5 t5 s6 t6 s7 t7
   go_enter Tryz.func12, Tryz.ntmps12
   go_wp2_with fail
   refine (HP.out _).mono ?_; rintro _ x1 ⟨rfl, hw⟩; subst hw
   go_wp2_with fail
   refine HRD.out.mono ?_; rintro _ w1 ⟨G, g, rfl, hW, hg0, hG0, hb⟩; have HD0 := Zh (Dq.start (cs := #[.int .i64 k, .string ⟨#[]⟩, .string ⟨#[]⟩, .string ⟨#[]⟩, .string ⟨#[]⟩, .int .i64 0, .int .i64 0, .slice none 0 0, .int .i64 0, .int .i64 0, .int .i64 0]) HB0.out hW (by simpa using hg0) (by simpa using hG0) hb); clear hW hg0 hG0 hb
   go_wp2_with fail
   refine (HF1.out _ _ _ HD0.out.wi).mono ?_; rintro _ y1 ⟨rfl, h1, h2⟩; have HE1 := Zh (HD0.out.call h1 h2); have g1_1 := HE1.out.bx.cell 1; have f1_1 := HE1.out.bx.frozen 1; have HD1 := Zh (HE1.out.set 1 (.string v1)); clear h1 h2
   go_wp2_with fail
   refine (HF2.out _ _ _ HD1.out.wi).mono ?_; rintro _ y2 ⟨rfl, h1, h2⟩; have HE2 := Zh (HD1.out.call h1 h2); have g2_2 := HE2.out.bx.cell 2; have f2_2 := HE2.out.bx.frozen 2; have HD2 := Zh (HE2.out.set 2 (.string v2)); clear h1 h2
   go_wp2_with fail
   refine (HF3.out _ _ _ HD2.out.wi).mono ?_; rintro _ y3 ⟨rfl, h1, h2⟩; have HE3 := Zh (HD2.out.call h1 h2); have g3_3 := HE3.out.bx.cell 3; have f3_3 := HE3.out.bx.frozen 3; have HD3 := Zh (HE3.out.set 3 (.string v3)); clear h1 h2
   go_wp2_with fail
   refine (HF4.out _ _ _ HD3.out.wi).mono ?_; rintro _ y4 ⟨rfl, h1, h2⟩; have HE4 := Zh (HD3.out.call h1 h2); have g4_4 := HE4.out.bx.cell 4; have f4_4 := HE4.out.bx.frozen 4; have HD4 := Zh (HE4.out.set 4 (.string v4)); clear h1 h2
   go_wp2_with fail
   refine (HF5.out _ _ _ HD4.out.wi).mono ?_; rintro _ y5 ⟨rfl, h1, h2⟩; have HE5 := Zh (HD4.out.call h1 h2); have g5_5 := HE5.out.bx.cell 5; have f5_5 := HE5.out.bx.frozen 5; have g5_6 := HE5.out.bx.cell 6; have f5_6 := HE5.out.bx.frozen 6; have HM5_0 := Zh (HE5.out.set 5 (.int .i64 v5)); have HD5 := Zh (HM5_0.out.set 6 (.int .i64 v6)); clear h1 h2
   go_wp2_with fail
   refine (HF8.out _ _ _ HD5.out.wi).mono ?_; rintro _ y8 ⟨rfl, h1, h2⟩; have HE8 := Zh (HD5.out.call h1 h2); have g8_9 := HE8.out.bx.cell 9; have f8_9 := HE8.out.bx.frozen 9; have HD8 := Zh (HE8.out.set 9 (.int .i64 v9)); clear h1 h2
   go_wp2_with fail
   refine (HF9.out _ _ _ HD8.out.wi).mono ?_; rintro _ y9 ⟨rfl, h1, h2⟩; have HE9 := Zh (HD8.out.call h1 h2); have g9_10 := HE9.out.bx.cell 10; have f9_10 := HE9.out.bx.frozen 10; have HD9 := Zh (HE9.out.set 10 (.int .i64 v10)); clear h1 h2
   cases dn with
   | false =>
    have H0 := Zh (show decQ k l = (rqZ, 1) from HD.out)
    go_wp2_with fail
    refine (HFD.out _ _ _ HD9.out.wi).mono ?_; rintro _ y10 ⟨rfl, hb⟩; have HK10 := Zh (HD9.out.keep hb); clear hb; obtain ⟨rc0, rf0, rc1, rf1, rc2, rf2, rc3, rf3, rc4, rf4, rc5, rf5, rc6, rf6, rc7, rf7, rc8, rf8, rc9, rf9, rc10, rf10⟩ := cz11 HK10.out.rb
    go_wp2
    exact qdec_out rfl (g := w.heap.size) rfl rfl (put11 HK10.out.rb _ _ _ _ _ _ _ _ _ _ _) (decQ_none H0.out (bel11 HK10.out.bel (Nat.le_refl _) _ _ _ _ _ _ _ _ _ _ _))
   | true =>
    have HD2 := Zh (show decQ k l = if c ≠ 0 then (rqZ, c) else (⟨k, v1, v2, v3, v4, v5, v6, [], 0, v9, v10⟩, 0) from HD.out)
    go_wp2_with fail
    refine (HFD.out _ _ _ HD9.out.wi).mono ?_; rintro _ y10 ⟨rfl, hb⟩; have HK10 := Zh (HD9.out.keep hb); clear hb HD; obtain ⟨s0, s1, s2, s3, s4, s5, s6, s7, s8, s9, s10⟩ := cs11 HK10.out.bx
    go_wp2_with fail
    refine (HC.out _ _ _ _ HK10.out.bel HK10.out.js).mono ?_; rintro _ y11 ⟨rfl, hb⟩; have HK11 := Zh (HK10.out.keep hb); clear hb; obtain ⟨rc0, rf0, rc1, rf1, rc2, rf2, rc3, rf3, rc4, rf4, rc5, rf5, rc6, rf6, rc7, rf7, rc8, rf8, rc9, rf9, rc10, rf10⟩ := cz11 HK11.out.rb; obtain ⟨t0, t1, t2, t3, t4, t5, t6, t7, t8, t9, t10⟩ := cs11 HK11.out.bx
    by_cases hz : c = 0
    ·
     have H0 := Zh (show decQ k l = (⟨k, v1, v2, v3, v4, v5, v6, [], 0, v9, v10⟩, 0) by rw [HD2.out, if_neg (by simpa using hz)]); have hz2 : (c != 0) = false := by simpa using hz
     go_wp2
     refine qdec_out rfl (g := w.heap.size) rfl rfl (put11 HK11.out.rb (.int .i64 k) (.string v1) (.string v2) (.string v3) (.string v4) (.int .i64 v5) (.int .i64 v6) (.slice none 0 0) (.int .i64 0) (.int .i64 v9) (.int .i64 v10)) ?_; rw [H0.out]
     exact ⟨_, _, _, rfl, HK11.out.js.blk (Nat.le_of_eq (size11 ..).symm) (fun h => heap11 (by have := HK11.out.hb h; have := HK11.out.hG; have := HK11.out.hX; omega) ..), fun h => by have := HK11.out.hb h; have := HK11.out.hG; have := HK11.out.hX; omega, bel11 HK11.out.bel (Nat.le_refl _) (.int .i64 k) (.string v1) (.string v2) (.string v3) (.string v4) (.int .i64 v5) (.int .i64 v6) (.slice none 0 0) (.int .i64 0) (.int .i64 v9) (.int .i64 v10)⟩
    ·
     have H0 := Zh (show decQ k l = (rqZ, c) by rw [HD2.out, if_pos hz]); have hz2 : (c != 0) = true := by simpa using hz
     go_wp2
     exact qdec_out rfl (g := w.heap.size) rfl rfl (put11 HK11.out.rb _ _ _ _ _ _ _ _ _ _ _) (decQ_none H0.out (bel11 HK11.out.bel (Nat.le_refl _) _ _ _ _ _ _ _ _ _ _ _))
  ·
   skip
   obtain ⟨rfl, rfl, rfl, rfl⟩ := t5 rfl; obtain ⟨rfl, rfl⟩ := t7 rfl; rw [s6 rfl] at HF6; simp only at HF6; clear s5 t5 s6 t6 s7 t7
   go_enter Tryz.func12, Tryz.ntmps12
   go_wp2_with fail
   refine (HP.out _).mono ?_; rintro _ x1 ⟨rfl, hw⟩; subst hw
   go_wp2_with fail
   refine HRD.out.mono ?_; rintro _ w1 ⟨G, g, rfl, hW, hg0, hG0, hb⟩; have HD0 := Zh (Dq.start (cs := #[.int .i64 k, .string ⟨#[]⟩, .string ⟨#[]⟩, .string ⟨#[]⟩, .string ⟨#[]⟩, .int .i64 0, .int .i64 0, .slice none 0 0, .int .i64 0, .int .i64 0, .int .i64 0]) HB0.out hW (by simpa using hg0) (by simpa using hG0) hb); clear hW hg0 hG0 hb
   go_wp2_with fail
   refine (HF1.out _ _ _ HD0.out.wi).mono ?_; rintro _ y1 ⟨rfl, h1, h2⟩; have HE1 := Zh (HD0.out.call h1 h2); have g1_1 := HE1.out.bx.cell 1; have f1_1 := HE1.out.bx.frozen 1; have HD1 := Zh (HE1.out.set 1 (.string v1)); clear h1 h2
   go_wp2_with fail
   refine (HF2.out _ _ _ HD1.out.wi).mono ?_; rintro _ y2 ⟨rfl, h1, h2⟩; have HE2 := Zh (HD1.out.call h1 h2); have g2_2 := HE2.out.bx.cell 2; have f2_2 := HE2.out.bx.frozen 2; have HD2 := Zh (HE2.out.set 2 (.string v2)); clear h1 h2
   go_wp2_with fail
   refine (HF3.out _ _ _ HD2.out.wi).mono ?_; rintro _ y3 ⟨rfl, h1, h2⟩; have HE3 := Zh (HD2.out.call h1 h2); have g3_3 := HE3.out.bx.cell 3; have f3_3 := HE3.out.bx.frozen 3; have HD3 := Zh (HE3.out.set 3 (.string v3)); clear h1 h2
   go_wp2_with fail
   refine (HF4.out _ _ _ HD3.out.wi).mono ?_; rintro _ y4 ⟨rfl, h1, h2⟩; have HE4 := Zh (HD3.out.call h1 h2); have g4_4 := HE4.out.bx.cell 4; have f4_4 := HE4.out.bx.frozen 4; have HD4 := Zh (HE4.out.set 4 (.string v4)); clear h1 h2
   go_wp2_with fail
   refine (HF6.out _ _ _ HD4.out.wi).mono ?_; rintro _ y6 ⟨v, rfl, h0, h1, h2⟩; obtain ⟨A7, cap7, b7, rfl, hI, hB7⟩ := own_ops h0; have HE6 := Zh ((HD4.out.call h1 h2).ops hI (fun h => Nat.lt_of_lt_of_le HD4.out.bx.lt (hB7 h))); have g6_7 := HE6.out.bx.cell 7; have f6_7 := HE6.out.bx.frozen 7; have HD6 := Zh (HE6.out.set 7 (.slice A7 v7.length cap7)); clear h0 h1 h2 hI hB7
   go_wp2_with fail
   refine (HF8.out _ _ _ HD6.out.wi).mono ?_; rintro _ y8 ⟨rfl, h1, h2⟩; have HE8 := Zh (HD6.out.call h1 h2); have g8_9 := HE8.out.bx.cell 9; have f8_9 := HE8.out.bx.frozen 9; have HD8 := Zh (HE8.out.set 9 (.int .i64 v9)); clear h1 h2
   go_wp2_with fail
   refine (HF9.out _ _ _ HD8.out.wi).mono ?_; rintro _ y9 ⟨rfl, h1, h2⟩; have HE9 := Zh (HD8.out.call h1 h2); have g9_10 := HE9.out.bx.cell 10; have f9_10 := HE9.out.bx.frozen 10; have HD9 := Zh (HE9.out.set 10 (.int .i64 v10)); clear h1 h2
   cases dn with
   | false =>
    have H0 := Zh (show decQ k l = (rqZ, 1) from HD.out)
    go_wp2_with fail
    refine (HFD.out _ _ _ HD9.out.wi).mono ?_; rintro _ y10 ⟨rfl, hb⟩; have HK10 := Zh (HD9.out.keep hb); clear hb; obtain ⟨rc0, rf0, rc1, rf1, rc2, rf2, rc3, rf3, rc4, rf4, rc5, rf5, rc6, rf6, rc7, rf7, rc8, rf8, rc9, rf9, rc10, rf10⟩ := cz11 HK10.out.rb
    go_wp2
    exact qdec_out rfl (g := w.heap.size) rfl rfl (put11 HK10.out.rb _ _ _ _ _ _ _ _ _ _ _) (decQ_none H0.out (bel11 HK10.out.bel (Nat.le_refl _) _ _ _ _ _ _ _ _ _ _ _))
   | true =>
    have HD2 := Zh (show decQ k l = if c ≠ 0 then (rqZ, c) else (⟨k, v1, v2, v3, v4, 0, 0, v7, 0, v9, v10⟩, 0) from HD.out)
    go_wp2_with fail
    refine (HFD.out _ _ _ HD9.out.wi).mono ?_; rintro _ y10 ⟨rfl, hb⟩; have HK10 := Zh (HD9.out.keep hb); clear hb HD; obtain ⟨s0, s1, s2, s3, s4, s5, s6, s7, s8, s9, s10⟩ := cs11 HK10.out.bx
    go_wp2_with fail
    refine (HC.out _ _ _ _ HK10.out.bel HK10.out.js).mono ?_; rintro _ y11 ⟨rfl, hb⟩; have HK11 := Zh (HK10.out.keep hb); clear hb; obtain ⟨rc0, rf0, rc1, rf1, rc2, rf2, rc3, rf3, rc4, rf4, rc5, rf5, rc6, rf6, rc7, rf7, rc8, rf8, rc9, rf9, rc10, rf10⟩ := cz11 HK11.out.rb; obtain ⟨t0, t1, t2, t3, t4, t5, t6, t7, t8, t9, t10⟩ := cs11 HK11.out.bx
    by_cases hz : c = 0
    ·
     have H0 := Zh (show decQ k l = (⟨k, v1, v2, v3, v4, 0, 0, v7, 0, v9, v10⟩, 0) by rw [HD2.out, if_neg (by simpa using hz)]); have hz2 : (c != 0) = false := by simpa using hz
     go_wp2
     refine qdec_out rfl (g := w.heap.size) rfl rfl (put11 HK11.out.rb (.int .i64 k) (.string v1) (.string v2) (.string v3) (.string v4) (.int .i64 0) (.int .i64 0) (.slice A7 v7.length cap7) (.int .i64 0) (.int .i64 v9) (.int .i64 v10)) ?_; rw [H0.out]
     exact ⟨_, _, _, rfl, HK11.out.js.blk (Nat.le_of_eq (size11 ..).symm) (fun h => heap11 (by have := HK11.out.hb h; have := HK11.out.hG; have := HK11.out.hX; omega) ..), fun h => by have := HK11.out.hb h; have := HK11.out.hG; have := HK11.out.hX; omega, bel11 HK11.out.bel (Nat.le_refl _) (.int .i64 k) (.string v1) (.string v2) (.string v3) (.string v4) (.int .i64 0) (.int .i64 0) (.slice A7 v7.length cap7) (.int .i64 0) (.int .i64 v9) (.int .i64 v10)⟩
    ·
     have H0 := Zh (show decQ k l = (rqZ, c) by rw [HD2.out, if_pos hz]); have hz2 : (c != 0) = true := by simpa using hz
     go_wp2
     exact qdec_out rfl (g := w.heap.size) rfl rfl (put11 HK11.out.rb _ _ _ _ _ _ _ _ _ _ _) (decQ_none H0.out (bel11 HK11.out.bel (Nat.le_refl _) _ _ _ _ _ _ _ _ _ _ _))
  ·
   skip
   obtain ⟨rfl, rfl, rfl, rfl⟩ := t5 rfl; obtain ⟨rfl, rfl, rfl⟩ := t6 rfl; rw [s7 rfl] at HF7; simp only at HF7; clear s5 t5 s6 t6 s7 t7
   go_enter Tryz.func12, Tryz.ntmps12
   go_wp2_with fail
   refine (HP.out _).mono ?_; rintro _ x1 ⟨rfl, hw⟩; subst hw
   go_wp2_with fail
   refine HRD.out.mono ?_; rintro _ w1 ⟨G, g, rfl, hW, hg0, hG0, hb⟩; have HD0 := Zh (Dq.start (cs := #[.int .i64 k, .string ⟨#[]⟩, .string ⟨#[]⟩, .string ⟨#[]⟩, .string ⟨#[]⟩, .int .i64 0, .int .i64 0, .slice none 0 0, .int .i64 0, .int .i64 0, .int .i64 0]) HB0.out hW (by simpa using hg0) (by simpa using hG0) hb); clear hW hg0 hG0 hb
   go_wp2_with fail
   refine (HF1.out _ _ _ HD0.out.wi).mono ?_; rintro _ y1 ⟨rfl, h1, h2⟩; have HE1 := Zh (HD0.out.call h1 h2); have g1_1 := HE1.out.bx.cell 1; have f1_1 := HE1.out.bx.frozen 1; have HD1 := Zh (HE1.out.set 1 (.string v1)); clear h1 h2
   go_wp2_with fail
   refine (HF2.out _ _ _ HD1.out.wi).mono ?_; rintro _ y2 ⟨rfl, h1, h2⟩; have HE2 := Zh (HD1.out.call h1 h2); have g2_2 := HE2.out.bx.cell 2; have f2_2 := HE2.out.bx.frozen 2; have HD2 := Zh (HE2.out.set 2 (.string v2)); clear h1 h2
   go_wp2_with fail
   refine (HF3.out _ _ _ HD2.out.wi).mono ?_; rintro _ y3 ⟨rfl, h1, h2⟩; have HE3 := Zh (HD2.out.call h1 h2); have g3_3 := HE3.out.bx.cell 3; have f3_3 := HE3.out.bx.frozen 3; have HD3 := Zh (HE3.out.set 3 (.string v3)); clear h1 h2
   go_wp2_with fail
   refine (HF4.out _ _ _ HD3.out.wi).mono ?_; rintro _ y4 ⟨rfl, h1, h2⟩; have HE4 := Zh (HD3.out.call h1 h2); have g4_4 := HE4.out.bx.cell 4; have f4_4 := HE4.out.bx.frozen 4; have HD4 := Zh (HE4.out.set 4 (.string v4)); clear h1 h2; have d7 := HD4.out.wi.bx.cell 0
   go_wp2_with fail
   refine (HF7.out _ _ _ HD4.out.wi).mono ?_; rintro _ y7 ⟨rfl, h1, h2⟩; have HE7 := Zh (HD4.out.call h1 h2); have g7_8 := HE7.out.bx.cell 8; have f7_8 := HE7.out.bx.frozen 8; have HD7 := Zh (HE7.out.set 8 (.int .i64 v8)); clear h1 h2
   go_wp2_with fail
   refine (HF8.out _ _ _ HD7.out.wi).mono ?_; rintro _ y8 ⟨rfl, h1, h2⟩; have HE8 := Zh (HD7.out.call h1 h2); have g8_9 := HE8.out.bx.cell 9; have f8_9 := HE8.out.bx.frozen 9; have HD8 := Zh (HE8.out.set 9 (.int .i64 v9)); clear h1 h2
   go_wp2_with fail
   refine (HF9.out _ _ _ HD8.out.wi).mono ?_; rintro _ y9 ⟨rfl, h1, h2⟩; have HE9 := Zh (HD8.out.call h1 h2); have g9_10 := HE9.out.bx.cell 10; have f9_10 := HE9.out.bx.frozen 10; have HD9 := Zh (HE9.out.set 10 (.int .i64 v10)); clear h1 h2
   cases dn with
   | false =>
    have H0 := Zh (show decQ k l = (rqZ, 1) from HD.out)
    go_wp2_with fail
    refine (HFD.out _ _ _ HD9.out.wi).mono ?_; rintro _ y10 ⟨rfl, hb⟩; have HK10 := Zh (HD9.out.keep hb); clear hb; obtain ⟨rc0, rf0, rc1, rf1, rc2, rf2, rc3, rf3, rc4, rf4, rc5, rf5, rc6, rf6, rc7, rf7, rc8, rf8, rc9, rf9, rc10, rf10⟩ := cz11 HK10.out.rb
    go_wp2
    exact qdec_out rfl (g := w.heap.size) rfl rfl (put11 HK10.out.rb _ _ _ _ _ _ _ _ _ _ _) (decQ_none H0.out (bel11 HK10.out.bel (Nat.le_refl _) _ _ _ _ _ _ _ _ _ _ _))
   | true =>
    have HD2 := Zh (show decQ k l = if c ≠ 0 then (rqZ, c) else (⟨k, v1, v2, v3, v4, 0, 0, [], v8, v9, v10⟩, 0) from HD.out)
    go_wp2_with fail
    refine (HFD.out _ _ _ HD9.out.wi).mono ?_; rintro _ y10 ⟨rfl, hb⟩; have HK10 := Zh (HD9.out.keep hb); clear hb HD; obtain ⟨s0, s1, s2, s3, s4, s5, s6, s7, s8, s9, s10⟩ := cs11 HK10.out.bx
    go_wp2_with fail
    refine (HC.out _ _ _ _ HK10.out.bel HK10.out.js).mono ?_; rintro _ y11 ⟨rfl, hb⟩; have HK11 := Zh (HK10.out.keep hb); clear hb; obtain ⟨rc0, rf0, rc1, rf1, rc2, rf2, rc3, rf3, rc4, rf4, rc5, rf5, rc6, rf6, rc7, rf7, rc8, rf8, rc9, rf9, rc10, rf10⟩ := cz11 HK11.out.rb; obtain ⟨t0, t1, t2, t3, t4, t5, t6, t7, t8, t9, t10⟩ := cs11 HK11.out.bx
    by_cases hz : c = 0
    ·
     have H0 := Zh (show decQ k l = (⟨k, v1, v2, v3, v4, 0, 0, [], v8, v9, v10⟩, 0) by rw [HD2.out, if_neg (by simpa using hz)]); have hz2 : (c != 0) = false := by simpa using hz
     go_wp2
     refine qdec_out rfl (g := w.heap.size) rfl rfl (put11 HK11.out.rb (.int .i64 k) (.string v1) (.string v2) (.string v3) (.string v4) (.int .i64 0) (.int .i64 0) (.slice none 0 0) (.int .i64 v8) (.int .i64 v9) (.int .i64 v10)) ?_; rw [H0.out]
     exact ⟨_, _, _, rfl, HK11.out.js.blk (Nat.le_of_eq (size11 ..).symm) (fun h => heap11 (by have := HK11.out.hb h; have := HK11.out.hG; have := HK11.out.hX; omega) ..), fun h => by have := HK11.out.hb h; have := HK11.out.hG; have := HK11.out.hX; omega, bel11 HK11.out.bel (Nat.le_refl _) (.int .i64 k) (.string v1) (.string v2) (.string v3) (.string v4) (.int .i64 0) (.int .i64 0) (.slice none 0 0) (.int .i64 v8) (.int .i64 v9) (.int .i64 v10)⟩
    ·
     have H0 := Zh (show decQ k l = (rqZ, c) by rw [HD2.out, if_pos hz]); have hz2 : (c != 0) = true := by simpa using hz
     go_wp2
     exact qdec_out rfl (g := w.heap.size) rfl rfl (put11 HK11.out.rb _ _ _ _ _ _ _ _ _ _ _) (decQ_none H0.out (bel11 HK11.out.bel (Nat.le_refl _) _ _ _ _ _ _ _ _ _ _ _))
end
end Go.Proofs.YtphijnkiiokieaaGreatDoor
namespace Go.Proofs.YtphijnkiiokieaaGreatDoor
open Go.RowKit
open Go.Lib
attribute [local go_sem ↓] Go.wp_at_zero Go.wp_at_succ
theorem frless_any (k l : Int) (v : ByteArray) (k2 l2 : Int) (v2 : ByteArray) (w : World) : Calls Tryz.prog 125 #[fieldV k l v, fieldV k2 l2 v2] w fun e w' => e = .returned (.bool (lessF k l v k2 l2 v2)) ∧ Below w.heap.size w w' := by
 obtain ⟨r, hr⟩ : ∃ r, lessF k l v k2 l2 v2 = r := ⟨_, rfl⟩; rw [hr]; have HR := Zh (show r = if k = k2 then (if l = l2 then Op.bytesLess v.toList v2.toList else decide (l < l2)) else decide (k < k2) by rw [← hr]; rfl); clear hr
 by_cases h : k = k2
 ·
  have d : (k != k2) = false := by simpa using h
  by_cases g : l = l2
  ·
   have d2 : (l != l2) = false := by simpa using g
   have H0 := Zh (show r = Op.bytesLess v.toList v2.toList by rw [HR.out, if_pos h, if_pos g])
   go_enter Tryz.func125, Tryz.ntmps125
   go_wp2
   go_ret
   exact ⟨by rw [H0.out]; rfl, two_boxes _ _ _ _⟩
  ·
   have d2 : (l != l2) = true := by simpa using g
   have H0 := Zh (show r = decide (l < l2) by rw [HR.out, if_pos h, if_neg g])
   go_enter Tryz.func125, Tryz.ntmps125
   go_wp2
   go_ret
   exact ⟨by rw [H0.out]; rfl, two_boxes _ _ _ _⟩
 ·
  have d : (k != k2) = true := by simpa using h
  have H0 := Zh (show r = decide (k < k2) by rw [HR.out, if_neg h])
  go_enter Tryz.func125, Tryz.ntmps125
  go_wp2
  go_ret
  exact ⟨by rw [H0.out]; rfl, two_boxes _ _ _ _⟩
end Go.Proofs.YtphijnkiiokieaaGreatDoor
