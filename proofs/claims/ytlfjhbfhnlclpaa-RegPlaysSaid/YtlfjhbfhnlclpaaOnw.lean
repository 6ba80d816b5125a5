/- Maps over trees (values: Int): Under and All as iterators; Keys. -/
import Derived.Test.YtlfjhbfhnlclpaaOnv
import Derived.RangeFuncWrites
import Derived.RangeFuncBox
import Derived.Maps.AppendAt
import Derived.Laws.MakeOwn
namespace Go.Proofs.Ytlfjhbfhnlclpaa.ON
open Go.RowKit
open Go.Lib
set_option linter.unusedVariables false
set_option linter.unusedSimpArgs false
set_option maxRecDepth 100000
open Go.Shelf
attribute [local go_sem] Oper.semAt_some
theorem KeepN.grown {W w1 : World} {base : Nat} {e : TypeId} {size : Nat} {v : Value} {k : Nat} {xs : List Value} (hrow : W.ownsRow base e size v k xs) (he : e ≠ 65) (hg : W.grownBy w1 v.ownBlock) : KeepN W w1 := fun b cs x => (hg.block b x.lt (fun eq => by
  rcases hrow.2 with ⟨rfl, _⟩ | ⟨g, cap, cur, rfl, _, hgb, _⟩
  · cases eq
  · obtain rfl : b = g := Option.some.inj eq
    unfold Blk at x
    rw [hgb] at x
    cases x
    exact he rfl)).trans x
theorem KeepN.put {w : World} (W : World) (l : Nat) (o o' : Obj) (_ : w.heap.size ≤ l) (h : W.heap[l]? = some o) (hc : o.isCells = false) (_ : o.isWalk = false) : KeepN W (W.putObj l o') := fun b cs x => (World.putObj_heap_other (fun e => by
  subst e
  unfold Blk at x
  rw [h] at x
  cases x
  cases hc)).trans x
set_option maxHeartbeats 4000000 in
theorem und_stops (n Bm Bx g : Nat) (t : T) (px : ByteArray) (hpx : px.size ≤ 1000000) (w : World) (hBm : Bm < w.heap.size) (hBx : Bx < w.heap.size) (cm : w.cell? ⟨Bm, 0, none⟩ = some (.pointer (some ⟨g, 0, none⟩))) (cx : w.cell? ⟨Bx, 0, none⟩ = some (.string px)) (hM : Mt w g t) (hks : ∀ q ∈ t.ino, q.1.size ≤ 1000000) :
    SeqStopsK Fence.wide n Try.prog 40 #[.pointer (some ⟨Bm, 0, none⟩), .pointer (some ⟨Bx, 0, none⟩)] enI KeepN (fun ys => ys = Tr.und px t) (fun pre => pre <+: Tr.und px t) (Tr.und px t).length w := fun l J Jx W hW hJ hJx hY h0 => by
  obtain ⟨p, hb, ht⟩ := hM.below hW
  have d0 : W.drew.cell? ⟨Bm, 0, none⟩ = some (.pointer (some ⟨g, 0, none⟩)) := (hW.cell (p := ⟨Bm, 0, none⟩) hBm).trans cm
  have d1 : W.drew.cell? ⟨Bx, 0, none⟩ = some (.string px) := (hW.cell (p := ⟨Bx, 0, none⟩) hBx).trans cx
  have d2 : W.drew.cell? ⟨g, 0, none⟩ = some (.pointer p) := hb.cell 0
  have hJd : J [] W.drew := hJ _ _ _ none h0 ⟨rfl, rfl, rfl, Nat.le_refl _, fun _ _ _ => rfl⟩ (fun r e => by cases e)
  have hp := under_in l (Tr.und px t).length W.heap.size J Jx hJ (fun m pre x W1 hj hl => YieldAt_anyDepth rfl m (hY pre x W1 hj hl)) px hpx t (n - 1) p [] W.drew (ht.keep (KeepN.drew W)) hks hJd (by simp)
  have hp2 := hp.mono (R' := fun e W' => ∃ bb, e = .returned (.bool bb) ∧ ((∃ ys, ys = Tr.und px t ∧ J ys W') ∨ (∃ pre, pre <+: Tr.und px t ∧ Jx pre W'))) (fun e W1 h => h.elim (fun ⟨he, hj, _⟩ => ⟨true, he, .inl ⟨_, rfl, by simpa using hj⟩⟩) (fun ⟨he, q, hq, hx⟩ => ⟨false, he, .inr ⟨q, hq, by simpa using hx⟩⟩))
  clear hp
  have hd : Fence.wide.depth = none := rfl
  have hall : ∀ f, Fence.wide.fn f := fun _ => trivial
  have hro : Fence.wide.round = none := rfl
  refine callsIn_of_wp Try.func40 rfl (hall _) ?_ hro
  simp only [Try.ntmps40, List.size_toArray, List.length_cons, List.length_nil, Nat.reduceAdd, Nat.reduceSub, Array.replicate_succ, Array.replicate_zero, List.push_toArray, List.append_toArray, List.nil_append, List.cons_append]
  gi_wp2
  gi_region_with (gi_at_call 41; refine hp2.mono ?_; clear hp2; rintro e W1 ⟨bb, rfl, hh⟩)
  all_goals (
    gi_wp2
    go_end0
    exact ⟨⟨_, rfl⟩, hh⟩)
theorem under_fn (g : Nat) (px : ByteArray) (w : World) : Calls Try.prog 32 #[.pointer (some ⟨g, 0, none⟩), .string px] w fun e w' => e = .returned (.func (.func 40) #[] #[.pointer (some ⟨w.heap.size, 0, none⟩), .pointer (some ⟨w.heap.size + 1, 0, none⟩)]) ∧ w' = (w.alloc (.cells #[.pointer (some ⟨g, 0, none⟩)] 51)).alloc (.cells #[.string px] 9) := by
  go_enter Try.func32, Try.ntmps32
  go_wp2
  go_ret
  exact ⟨rfl, rfl⟩
end Go.Proofs.Ytlfjhbfhnlclpaa.ON
