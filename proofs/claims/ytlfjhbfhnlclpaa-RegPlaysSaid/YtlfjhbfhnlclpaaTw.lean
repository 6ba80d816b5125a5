/- All but two blocks as they were. -/
import Derived.Test.YtlfjhbfhnlclpaaRin
import Derived.WalkKit
namespace Go.Proofs.Ytlfjhbfhnlclpaa
open Go.RowKit
set_option linter.unusedVariables false
structure Tw (w w' : World) (R g : Nat) : Prop where
  os : w'.os = w.os
  tape : w'.tape = w.tape
  output : w'.output = w.output
  size : w.heap.size ≤ w'.heap.size
  block : ∀ j, j < w.heap.size → j ≠ R → j ≠ g → w'.heap[j]? = w.heap[j]?
theorem Tw.refl (w : World) (R g : Nat) : Tw w w R g := ⟨rfl, rfl, rfl, Nat.le_refl _, fun _ _ _ _ => rfl⟩
theorem Tw.drew {w w' : World} {R g : Nat} (h : Tw w w' R g) : Tw w w'.drew R g := ⟨h.os, h.tape, h.output, h.size, h.block⟩
theorem Tw.drewN {w w' : World} {R g : Nat} (h : Tw w w' R g) (n : Nat) : Tw w (w'.drewN n) R g := ⟨h.os, h.tape, h.output, h.size, h.block⟩
theorem Tw.alloc {w w' : World} {R g : Nat} (h : Tw w w' R g) (o : Obj) : Tw w (w'.alloc o) R g :=
  ⟨h.os, h.tape, h.output, by have := h.size; simp; omega, fun j h1 h2 h3 => (Below.heap_alloc w' o j (Nat.lt_of_lt_of_le h1 h.size)).trans (h.block j h1 h2 h3)⟩
theorem Tw.setCell {w w' : World} {R g : Nat} (h : Tw w w' R g) {p : Addr} (hp : p.block = R ∨ p.block = g ∨ w.heap.size ≤ p.block) (u : Value) : Tw w (w'.setCell p u) R g := by
  have hb := (Below.refl 0 w').setCell (p := p) (Nat.zero_le _) u
  refine ⟨hb.os.trans h.os, hb.tape.trans h.tape, hb.output.trans h.output, Nat.le_trans h.size hb.size, fun j h1 h2 h3 => ?_⟩
  refine (Below.heap_setCell w' p u j ?_).trans (h.block j h1 h2 h3)
  rintro rfl
  rcases hp with hp | hp | hp
  · exact h2 hp
  · exact h3 hp
  · omega
theorem Tw.below {w w' : World} {R g B : Nat} (h : Tw w w' R g) (h1 : B ≤ R) (h2 : B ≤ g) (h3 : B ≤ w.heap.size) : Below B w w' :=
  ⟨h.os, h.tape, h.output, h.size, fun k hk => h.block k (by omega) (by omega) (by omega)⟩
theorem Tw.trans {a b c : World} {R g : Nat} (h : Tw a b R g) (k : Tw b c R g) : Tw a c R g :=
  ⟨k.os.trans h.os, k.tape.trans h.tape, k.output.trans h.output, Nat.le_trans h.size k.size, fun j h1 h2 h3 => (k.block j (Nat.lt_of_lt_of_le h1 h.size) h2 h3).trans (h.block j h1 h2 h3)⟩
theorem tw_own {A B W0 : World} {row : Option Nat} {R g : Nat} (h : Tw W0 A R g) (hg : A.grownBy B row) (hr : ∀ r, row = some r → W0.heap.size ≤ r) : Tw W0 B R g :=
  ⟨hg.os.trans h.os, hg.tape.trans h.tape, hg.output.trans h.output, Nat.le_trans h.size hg.size, fun j h1 h2 h3 => (hg.block j (Nat.lt_of_lt_of_le h1 h.size) (fun e => by have := hr j e.symm; omega)).trans (h.block j h1 h2 h3)⟩
theorem drewN_two (w : World) (a b : Nat) : (w.drewN a).drewN b = w.drewN (a + b) := by
  unfold World.drewN
  simp [Nat.add_assoc]
/-- A row of a base above both blocks. -/
theorem row_tw {w w' : World} {e : TypeId} {k B n R g : Nat} {V : Value} {l : List Value} (h : w.ownsRow B e k V n l) (ht : Tw w w' R g) (h1 : R < B) (h2 : g < B) : w'.ownsRow B e k V n l := by
  obtain ⟨h0, h3 | ⟨b, cap, cur, rfl, e2, e3, e4⟩⟩ := h
  · exact ⟨h0, .inl h3⟩
  · refine ⟨h0, .inr ⟨b, cap, cur, rfl, e2, (ht.block b ?_ (by omega) (by omega)).trans e3, e4⟩⟩
    rcases Nat.lt_or_ge b w.heap.size with hlt | hge
    · exact hlt
    · rw [Array.getElem?_eq_none hge] at e3; cases e3
end Go.Proofs.Ytlfjhbfhnlclpaa
