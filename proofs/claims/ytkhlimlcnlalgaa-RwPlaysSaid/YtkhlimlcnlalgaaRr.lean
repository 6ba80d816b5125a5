/- Rows of ints: one base, one block; what keeps them. -/
import Derived.Test.YtkhlimlcnlalgaaVm
import Derived.Deep.RegionHeld3
import Derived.Deep.AppendLies
import Derived.Lib.Hide
namespace Go.Proofs.Ytkhlimlcnlalgaa
open Go.RowKit Go.Maps
open Go.Lib
set_option linter.unusedVariables false
set_option linter.unusedSimpArgs false
set_option maxRecDepth 100000
theorem info_parts {P : Program} {e : TypeId} {z : Value} {a b : Nat} (h : (P.info? e).map (fun i => (i.zero, i.size, i.bytes)) = some (some z, a, b)) : ∃ i, P.info? e = some i ∧ i.zero = some z ∧ i.size = a ∧ i.bytes = b := by
  cases hi : P.info? e with
  | none => rw [hi] at h; cases h
  | some i => rw [hi] at h; simp at h; exact ⟨i, rfl, h⟩
theorem info3 : (Try.prog.info? 3).map (fun i => (i.zero, i.size, i.bytes)) = some (some (.int .i64 0), 1, 8) := by kernel_rfl
def Sz (w0 W : World) : Prop := w0.heap.size ≤ W.heap.size
theorem Sz.refl (w : World) : Sz w w := Nat.le_refl _
theorem Sz.alloc {w0 W : World} (h : Sz w0 W) (o : Obj) : Sz w0 (W.alloc o) := Nat.le_trans h (by simp)
theorem Sz.drew {w0 W : World} (h : Sz w0 W) : Sz w0 W.drew := h
theorem Sz.grown {w0 W W' : World} {row : Option Nat} (h : Sz w0 W) (hg : W.grownBy W' row) : Sz w0 W' := Nat.le_trans h hg.size
/-- All that lies below B is as it was. -/
def KB (B : Nat) (w0 W : World) : Prop := B ≤ w0.heap.size ∧ Below B w0 W
theorem KB.alloc {B : Nat} {w0 W : World} (h : KB B w0 W) (o : Obj) : KB B w0 (W.alloc o) := ⟨h.1, h.2.alloc (Nat.le_trans h.1 h.2.size) o⟩
theorem KB.drew {B : Nat} {w0 W : World} (h : KB B w0 W) : KB B w0 W.drew := ⟨h.1, h.2.drew⟩
theorem KB.grown {B : Nat} {w0 W W' : World} {row : Option Nat} (h : KB B w0 W) (hg : W.grownBy W' row) (hr : ∀ k, row = some k → B ≤ k) : KB B w0 W' := ⟨h.1, h.2.grown hg (Nat.le_trans h.1 h.2.size) hr⟩
theorem KB.trans {B : Nat} {a b c : World} (h : KB B a b) (k : KB B b c) : KB B a c := ⟨h.1, h.2.trans k.2⟩
theorem Blk.newEq {w : World} {g : Nat} (t : TypeId) (cs : Array Value) (e : w.heap.size = g) : Blk (w.alloc (.cells cs t)) g t cs := e ▸ Blk.new w t cs
theorem pastg {Wc w2 : World} {G : Nat} {t : TypeId} {cs : Array Value} {row : Option Nat} (h : Blk Wc G t cs) (hg : Wc.grownBy w2 row) (hr : row = some G → False) : Blk w2 G t cs := (hg.block G h.lt (fun e => hr e.symm)).trans h
theorem row_keep {W w2 : World} {B : Nat} {v : Value} {n : Nat} {vs : List Value} (h : W.ownsRow B 3 1 v n vs) (hb : ∀ j, v.ownBlock = some j → w2.heap[j]? = W.heap[j]?) : w2.ownsRow B 3 1 v n vs := by
  obtain ⟨h0, h3 | ⟨b, cap, cur, e1, e2, e3, e4⟩⟩ := h
  · exact ⟨h0, .inl h3⟩
  · exact ⟨h0, .inr ⟨b, cap, cur, e1, e2, (hb b (by rw [e1]; rfl)).trans e3, e4⟩⟩
theorem row_alloc {W : World} {B : Nat} {v : Value} {n : Nat} {vs : List Value} (h : W.ownsRow B 3 1 v n vs) (o : Obj) : (W.alloc o).ownsRow B 3 1 v n vs := row_keep h (fun j hj => Below.heap_alloc W o j (h.lt j hj).2)
theorem row_drew {W : World} {B : Nat} {v : Value} {n : Nat} {vs : List Value} (h : W.ownsRow B 3 1 v n vs) : W.drew.ownsRow B 3 1 v n vs := row_keep h (fun _ _ => rfl)
theorem row_kept {W w2 : World} {B : Nat} {v : Value} {n : Nat} {vs : List Value} {row : Option Nat} (h : W.ownsRow B 3 1 v n vs) (hg : W.grownBy w2 row) (hr : ∀ j, v.ownBlock = some j → row = some j → False) : w2.ownsRow B 3 1 v n vs := row_keep h (fun j hj => hg.block j (h.lt j hj).2 (fun e => hr j hj e.symm))
theorem row_own {W : World} {B : Nat} {v : Value} {n : Nat} {vs : List Value} (h : W.ownsRow B 3 1 v n vs) (G : Nat) (hG : B ≤ G) : ∃ A cap k, v = .slice A n cap ∧ OwnG 3 W A cap k vs ∧ B ≤ k ∧ (∀ j, v.ownBlock = some j → k = j) ∧ (v.ownBlock = none → k = G) := by
  obtain ⟨h0, ⟨rfl, h2⟩ | ⟨b, cap, cur, rfl, e2, e3, e4, e5, e6, e7⟩⟩ := h
  · subst h2
    exact ⟨none, 0, G, rfl, .inl ⟨rfl, rfl, List.length_eq_zero_iff.1 (by simpa using h0)⟩, hG, fun j e => (by cases e), fun _ => rfl⟩
  · rw [Nat.mul_one] at h0 e6 e7
    exact ⟨_, cap, b, rfl, .inr ⟨cur, rfl, by rw [h0]; exact e4, e5, e3, e6, by rw [h0]; exact e7⟩, e2, fun j e => (by cases e; rfl), fun e => (by cases e)⟩
theorem own_row {W : World} {B : Nat} {A : Option Addr} {cap k : Nat} {vs : List Value} {n : Nat} (h : OwnG 3 W A cap k vs) (hl : vs.length = n) (hB : B ≤ k) : W.ownsRow B 3 1 (.slice A n cap) n vs := by
  rcases h with ⟨rfl, rfl, rfl⟩ | ⟨cur, rfl, h2, h3, h4, h5, h6⟩
  · subst hl
    exact World.ownsRow_nil _ _ _ _
  · refine ⟨by omega, .inr ⟨k, cap, cur, rfl, hB, h4, by omega, h3, by omega, ?_⟩⟩
    rw [Nat.mul_one, ← hl]
    exact h6
theorem row_blk {A : Option Addr} {n cap k : Nat} {W : World} {vs : List Value} (h : OwnG 3 W A cap k vs) : ∀ j, (Value.slice A n cap).ownBlock = some j → k = j := by
  intro j e
  rcases h with ⟨rfl, _, _⟩ | ⟨cur, rfl, _⟩
  · cases e
  · exact Option.some.inj e
section
variable {W : World} {B n cap g : Nat} {vs : List Value}
theorem row_at (h : W.ownsRow B 3 1 (.slice (some ⟨g, 0, none⟩) n cap) n vs) {j : Nat} {u : Value} (hj : vs[j]? = some u) : W.cell? ⟨g, j, none⟩ = some u ∧ W.frozen? ⟨g, j, none⟩ = false := by
  obtain ⟨h0, ⟨h3, _⟩ | ⟨b, c, cur, e1, e2, e3, e4, e5, e6, e7⟩⟩ := h
  · cases h3
  · injection e1 with e1a _ e1c
    injection e1a with e1b
    injection e1b with e1d
    subst e1d e1c
    rw [Nat.mul_one] at h0 e6 e7
    have hl := (List.getElem?_eq_some_iff.1 hj).1
    refine ⟨?_, by simp [World.frozen?, e3]⟩
    rw [cell_of_row W g j cur 3 (0, 0) e3]
    rw [← e7, List.getElem?_take, if_pos (by omega)] at hj
    rw [← Array.getElem?_toList]; exact hj
theorem row_set (h : W.ownsRow B 3 1 (.slice (some ⟨g, 0, none⟩) n cap) n vs) (j : Nat) (u : Value) : (W.setCell ⟨g, j, none⟩ u).ownsRow B 3 1 (.slice (some ⟨g, 0, none⟩) n cap) n (vs.set j u) := by
  obtain ⟨h0, ⟨h3, _⟩ | ⟨b, c, cur, e1, e2, e3, e4, e5, e6, e7⟩⟩ := h
  · cases h3
  · injection e1 with e1a _ e1c
    injection e1a with e1b
    injection e1b with e1d
    subst e1d e1c
    refine ⟨by rw [List.length_set]; exact h0, .inr ⟨g, cap, cur.setIfInBounds j u, rfl, e2, by simp [World.setCell, Array.getElem?_modify, e3], e4, e5, by rw [Array.size_setIfInBounds]; exact e6, ?_⟩⟩
    rw [Array.toList_setIfInBounds, List.take_set, e7]
theorem row_other {k : Nat} (h : W.ownsRow B 3 1 (.slice (some ⟨g, 0, none⟩) n cap) n vs) (hk : g ≠ k) (j : Nat) (u : Value) : (W.setCell ⟨k, j, none⟩ u).ownsRow B 3 1 (.slice (some ⟨g, 0, none⟩) n cap) n vs :=
  row_keep h (fun i hi => Below.heap_setCell W ⟨k, j, none⟩ u i (by obtain rfl : g = i := Option.some.inj hi; exact hk))
end
end Go.Proofs.Ytkhlimlcnlalgaa
