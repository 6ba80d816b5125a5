/- A collection: Apply. -/
import Derived.Test.YthcjbljkokflgaaZag
set_option linter.unnecessarySimpa false
namespace Go.Proofs.Ythcjbljkokflgaa
open Go.RowKit
open Go.Lib
set_option linter.unusedVariables false
set_option linter.unusedSimpArgs false
set_option maxRecDepth 100000
def rpush (c : Cs) (x : Chg) : Cs := if (c.ring.length : Int) < c.lmost then { c with ring := c.ring ++ [x] } else { c with ring := c.ring.set c.F x, F := (c.F + 1) % c.ring.length, horizon := max c.horizon (c.ring.getD c.F (0, .empty)).1 }
def oldS (o : Option (Int × ByteArray)) : Int := ((o.getD (0, .empty)).2.size : Int)
def noC (c : Cs) (del : Bool) (uid : ByteArray) (tok : Int) : Bool := decide (tok < c.latest) || (del && !(getL uid c.L).isSome) || (!del && !(getL uid c.L).isSome && decide (c.most ≤ (c.L.length : Int)))
def yesC (c : Cs) (del : Bool) (uid card : ByteArray) (tok : Int) : Cs :=
  { rpush { c with L := if del = true then delL uid c.L else insL uid (tok, card) c.L, bytes := if del = true then c.bytes - oldS (getL uid c.L) else c.bytes - oldS (getL uid c.L) + (card.size : Int) } (tok, uid) with latest := tok }
def applyC (c : Cs) (del : Bool) (uid card : ByteArray) (tok : Int) : Bool × Cs := if noC c del uid tok = true then (false, c) else (true, yesC c del uid card tok)
def ApP (w : World) (B g : Nat) (r : Bool × Cs) (e : Ending) (w' : World) : Prop := e = .returned (.bool r.1) ∧ Cl w' B g r.2 ∧ Kc CT B w w'
/-- What a collection must be for its numbers to stay as they are. -/
structure Cz (c : Cs) : Prop where
  n : c.L.length ≤ 40000
  r : c.ring.length ≤ 1000000
  F : ¬ (c.ring.length : Int) < c.lmost → c.F < c.ring.length
  b0 : -1000000000000 ≤ c.bytes
  b1 : c.bytes ≤ 1000000000000
  s : ∀ k x, getL k c.L = some x → x.2.size ≤ 1000000
/-- What stands while Apply goes on. -/
structure Ap (w W : World) (B g m R X O : Nat) (cs opc : Array Value) (L : LK) (F : Nat) (rg : List Chg) (lm : Int) (x : Int × ByteArray) : Prop where
  G : Blk W g 74 cs
  M : OC.Om W m L
  R : Rg W B R lm F rg
  X : Blk W X 33 opc
  Y : Blk W O 68 #[.int .i64 x.1, .string x.2]
  K : Kc CT B w W
  e4 : B ≤ g
  e5 : B ≤ m
  hB : B ≤ w.heap.size
section
variable {w W W' : World} {B g m R X O : Nat} {cs cs' opc : Array Value} {L L' : LK} {F F' : Nat} {rg rg' : List Chg} {lm : Int} {x : Int × ByteArray}
theorem Ap.sz (h : Ap w W B g m R X O cs opc L F rg lm x) : B ≤ W.heap.size := Nat.le_trans h.hB h.K.size
theorem Ap.to (h : Ap w W B g m R X O cs opc L F rg lm x) {T : TypeId → Prop} (k : Kc T B W W') (hT : ∀ t, T t → CT t) (hG : Blk W' g 74 cs') (hM : OC.Om W' m L') (hR : Rg W' B R lm F' rg') : Ap w W' B g m R X O cs' opc L' F' rg' lm x :=
  ⟨hG, hM, hR, k.far X _ _ h.X (fun e => absurd (hT _ e) (by unfold CT; decide)), k.far O _ _ h.Y (fun e => absurd (hT _ e) (by unfold CT; decide)), h.K.trans (k.wide hT), h.e4, h.e5, h.hB⟩
theorem Ap.on (h : Ap w W B g m R X O cs opc L F rg lm x) (hb : Below W.heap.size W W') : Ap w W' B g m R X O cs opc L F rg lm x :=
  ⟨h.G.below hb h.G.lt, h.M.below hb, h.R.below hb, h.X.below hb h.X.lt, h.Y.below hb h.Y.lt, h.K.trans (Kc.of hb h.sz), h.e4, h.e5, h.hB⟩
theorem Ap.drewN (h : Ap w W B g m R X O cs opc L F rg lm x) (n : Nat) : Ap w (W.drewN n) B g m R X O cs opc L F rg lm x := h.on (kx_drewN (Below.refl _ _) n)
theorem Ap.drew (h : Ap w W B g m R X O cs opc L F rg lm x) : Ap w W.drew B g m R X O cs opc L F rg lm x := h.on (Below.refl _ _).drew
/-- A field of the collection's own box. -/
theorem Ap.set (h : Ap w W B g m R X O cs opc L F rg lm x) (i : Nat) (u : Value) : Ap w (W.setCell ⟨g, i, none⟩ u) B g m R X O (cs.setIfInBounds i u) opc L F rg lm x := by
  have k : Kc GT B W (W.setCell ⟨g, i, none⟩ u) := (Kc.refl GT B W).set h.G rfl h.e4 i u
  exact h.to k ct_gt (h.G.set_ i u) (om_keep h.M k (by unfold GT; decide) (by unfold GT; decide)) (h.R.keep k (by unfold GT; decide) (by unfold GT; decide))
theorem Ap.map (h : Ap w W B g m R X O cs opc L F rg lm x) (hM : OC.Om W' m L') (k : OC.Ko W W' m) : Ap w W' B g m R X O cs opc L' F rg lm x :=
  have k' : Kc MT B W W' := kc_ko k h.M h.e5 h.sz
  h.to k' ct_mt (k'.far g _ _ h.G (by unfold MT; decide)) hM (h.R.keep k' (by unfold MT; decide) (by unfold MT; decide))
/-- A store into a block of the ring's kind that isn't the ring's. -/
theorem Ap.setRow (h : Ap w W B g m R X O cs opc L F rg lm x) {j : Nat} {ds : Array Value} (hj : Blk W j 72 ds) {i : Nat} {u : Value} (hR : Rg (W.setCell ⟨j, i, none⟩ u) B R lm F rg) (hB : B ≤ j) (_ : Nat) (_ : Value) : Ap w (W.setCell ⟨j, i, none⟩ u) B g m R X O cs opc L F rg lm x :=
  have k : Kc PT B W (W.setCell ⟨j, i, none⟩ u) := (Kc.refl PT B W).set hj (.inr rfl) hB i u
  h.to k ct_pt (k.far g _ _ h.G (by unfold PT; decide)) (om_keep h.M k (by unfold PT; decide) (by unfold PT; decide)) hR
theorem Ap.ring (h : Ap w W B g m R X O cs opc L F rg lm x) (hR : Rg W' B R lm F' rg') (k : Kc PT B W W') : Ap w W' B g m R X O cs opc L F' rg' lm x :=
  h.to k ct_pt (k.far g _ _ h.G (by unfold PT; decide)) (om_keep h.M k (by unfold PT; decide) (by unfold PT; decide)) hR
end
end Go.Proofs.Ythcjbljkokflgaa
