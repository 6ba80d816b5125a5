/- Boxes that a call holds: what stands in them while other calls come and go. -/
import Derived.Test.YtpmgabeefppajaaWords
namespace Go.Proofs.Ytpmgabeefppajaa
open Go.RowKit
structure Bxs (w0 wr : World) (l : List (Nat × TypeId × Array Value)) : Prop where
  all : ∀ g t cs, (g, t, cs) ∈ l → Blk wr g t cs
  bel : Below w0.heap.size w0 wr
section
variable {w0 wr w' : World} {l : List (Nat × TypeId × Array Value)}
theorem Bxs.start (w : World) : Bxs w w [] := ⟨fun _ _ _ h => by simp at h, Below.refl _ _⟩
theorem Bxs.get (h : Bxs w0 wr l) (i : Nat) {g : Nat} {t : TypeId} {cs : Array Value} (e : l[i]? = some (g, t, cs)) : Blk wr g t cs := h.all g t cs (List.mem_of_getElem? e)
theorem Bxs.step (h : Bxs w0 wr l) (hb : Below wr.heap.size wr w') : Bxs w0 w' l := ⟨fun g t cs hm => (h.all g t cs hm).below hb (h.all g t cs hm).lt, h.bel.trans (hb.mono h.bel.size)⟩
theorem Bxs.new (h : Bxs w0 wr l) (t : TypeId) (cs : Array Value) : Bxs w0 (wr.alloc (.cells cs t)) (l ++ [(wr.heap.size, t, cs)]) :=
  ⟨fun g u ds hm => by
    rcases List.mem_append.1 hm with hm | hm
    · exact (h.all g u ds hm).alloc _
    · simp only [List.mem_singleton, Prod.mk.injEq] at hm
      obtain ⟨rfl, rfl, rfl⟩ := hm
      exact Blk.new _ _ _, h.bel.alloc h.bel.size _⟩
theorem Bxs.alloc (h : Bxs w0 wr l) (o : Obj) : Bxs w0 (wr.alloc o) l := ⟨fun g t cs hm => (h.all g t cs hm).alloc o, h.bel.alloc h.bel.size o⟩
theorem Bxs.drewN (h : Bxs w0 wr l) (n : Nat) : Bxs w0 (wr.drewN n) l := ⟨fun g t cs hm => (h.all g t cs hm).drewN n, below_drewN h.bel n⟩
theorem Bxs.drew (h : Bxs w0 wr l) : Bxs w0 wr.drew l := h.drewN 1
end
end Go.Proofs.Ytpmgabeefppajaa
