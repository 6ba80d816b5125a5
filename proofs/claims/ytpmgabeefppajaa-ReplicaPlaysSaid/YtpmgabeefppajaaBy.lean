/- Boxes that a call holds: the parameters' ones. -/
import Derived.Test.YtpmgabeefppajaaBx
namespace Go.Proofs.Ytpmgabeefppajaa
open Go.RowKit
variable {w0 wr w' : World} {l : List (Nat × TypeId × Array Value)}
theorem Bxs.put (h : Bxs w0 wr l) (t : TypeId) (cs : Array Value) (g : Nat) (e : wr.heap.size = g) : Bxs w0 (wr.alloc (.cells cs t)) (l ++ [(g, t, cs)]) := e ▸ h.new t cs
theorem Bxs.two (w : World) (t u : TypeId) (a b : Array Value) : Bxs w ((w.alloc (.cells a t)).alloc (.cells b u)) [(w.heap.size, t, a), (w.heap.size + 1, u, b)] := ((Bxs.start w).new t a).put u b _ (by simp)
theorem Bxs.three (w : World) (t u v : TypeId) (a b c : Array Value) : Bxs w (((w.alloc (.cells a t)).alloc (.cells b u)).alloc (.cells c v)) [(w.heap.size, t, a), (w.heap.size + 1, u, b), (w.heap.size + 1 + 1, v, c)] := (Bxs.two w t u a b).put v c _ (by simp)
end Go.Proofs.Ytpmgabeefppajaa
