/- The reference's lock: what one round of its move leaves. -/
import Derived.Test.YtkhlimlcnlalgaaPe
namespace Go.Proofs.Ytkhlimlcnlalgaa
open Go.RowKit Go.Maps
open Go.Lib
set_option linter.unusedVariables false
set_option linter.unusedSimpArgs false
set_option maxRecDepth 100000
theorem rcells_one (Y : List Pq) : ∀ u ∈ rcells Y, u.oneCell' = true := by
  intro u hu
  unfold rcells at hu
  obtain ⟨s, _, hs⟩ := List.mem_flatMap.1 hu
  unfold cells2 at hs
  simp at hs
  rcases hs with rfl | rfl <;> rfl
theorem set_size (w : World) (p : Addr) (v : Value) : (w.setCell p v).heap.size = w.heap.size := by simp [World.setCell]
section
variable {w wr w4 w5 w6 w7 : World} {g C n c5 : Nat} {A5 : Option Addr} {Vi Vq V1 V2 V1' V2' U : Value} {Q Q2 H : List Pq} {c : List Int} {y : Int} {ob : Option Nat}
theorem queue_done (h : Rk w4 g C V1 V2 Q H) (hC : C ≤ w4.heap.size) (hg : (w4.alloc (.cells #[] 48)).grownBy w5 (Value.slice (some ⟨w4.heap.size, 0, none⟩) 0 0).ownBlock)
    (hv : w5.ownsRow C 48 2 (.slice A5 n c5) n (rcells Q2)) (hn : Q2.length = n)
    (ho : ∀ k, (Value.slice A5 n c5).ownBlock = some k → (Value.slice (some ⟨w4.heap.size, 0, none⟩) 0 0).ownBlock = some k ∨ (w4.alloc (.cells #[] 48)).heap.size ≤ k) :
    Rk (w5.setCell ⟨g, 1, none⟩ (.slice A5 n c5)) g C V1 (.slice A5 n c5) Q2 H ∧ Kr w4 (w5.setCell ⟨g, 1, none⟩ (.slice A5 n c5)) g V1 V2 V1 (.slice A5 n c5) := by
  subst hn
  have hgl := h.box.lt
  have hset : ∀ j, j ≠ g → (w5.setCell ⟨g, 1, none⟩ (.slice A5 Q2.length c5)).heap[j]? = w5.heap[j]? := fun j hj => Below.heap_setCell w5 ⟨g, 1, none⟩ _ j hj
  have hold : ∀ j, j < w4.heap.size → w5.heap[j]? = w4.heap[j]? := fun j hj => (hg.block j (by simp; omega) (fun e => absurd (show w4.heap.size = j from Option.some.inj e.symm) (by omega))).trans (Below.heap_alloc w4 _ j hj)
  have hown : ∀ k, (Value.slice A5 Q2.length c5).ownBlock = some k → w4.heap.size ≤ k := fun k hk => by
    rcases ho k hk with e | e
    · exact Nat.le_of_eq (Option.some.inj e)
    · simp at e; omega
  refine ⟨h.queue_ ?_ (row2_keep hv fun j hj => hset j ?_) (fun j hj => ?_) (fun j hj => .inr (hown j hj)), ⟨?_, ?_, ?_, ?_, fun j hj h1 h2 h3 => (hset j h1).trans (hold j hj), fun j hj => ?_⟩⟩
  · exact Blk.set_ ((hold g hgl).trans h.box) 1 _
  · have := hown j hj; omega
  · exact (hset j (fun e => h.ni (by rw [hj, e]))).trans (hold j (h.i.lt j hj).2)
  · exact hg.os
  · exact hg.tape
  · exact hg.output
  · have := hg.size; simp [World.setCell] at this ⊢; omega
  · rcases hj with hj | hj
    · exact .inl (.inl hj)
    · exact .inr (hown j hj)
theorem Rk.past (h : Rk w6 g C V1 V2 Q H) (hb : ∀ j, j < w6.heap.size → ob ≠ some j → w7.heap[j]? = w6.heap[j]?) (h1 : ob ≠ some g) (h2 : ∀ j, V1.ownBlock = some j → ob ≠ some j) (h3 : ∀ j, V2.ownBlock = some j → ob ≠ some j) : Rk w7 g C V1 V2 Q H :=
  ⟨(hb g h.box.lt h1).trans h.box, row2_keep h.i (fun j hj => hb j (h.i.lt j hj).2 (h2 j hj)), row2_keep h.q (fun j hj => hb j (h.q.lt j hj).2 (h3 j hj)), h.ni, h.nq, h.ap, h.ge⟩
theorem qlen_of (h : Rk w g C V1 (.slice A5 n c5) Q H) : qLen2 w g = n := by
  unfold qLen2
  rw [h.box.cell 1]; rfl
theorem mv_done (HR : wr.ownsRow w.heap.size 3 1 U c.length (ivs c)) (HK : Kr w wr g Vi Vq V1 V2) (HAP : ∀ j, U.ownBlock = some j → j ≠ g ∧ V1.ownBlock ≠ some j ∧ V2.ownBlock ≠ some j)
    (HD : Rk w6 g C V1' V2' Q2 H) (HE : Kr wr w6 g V1 V2 V1' V2') {n7 k7 : Nat}
    (HG : (w6.alloc (.cells #[.int .i64 y] 3)).grownBy w7 U.ownBlock) (HW : w7.ownsRow w.heap.size 3 1 (.slice (some ⟨n7, 0, none⟩) (c.length + 1) k7) (c.length + 1) (ivs c ++ [.int .i64 y])) (HAT : U.ownBlock = some n7 ∨ n7 = (w6.alloc (.cells #[.int .i64 y] 3)).heap.size) :
    Rk w7 g C V1' V2' Q2 H ∧ w7.ownsRow w.heap.size 3 1 (.slice (some ⟨n7, 0, none⟩) (c.length + 1) k7) (c ++ [y]).length (ivs (c ++ [y])) ∧ Kr w w7 g Vi Vq V1' V2' ∧ ∀ j, (Value.slice (some ⟨n7, 0, none⟩) (c.length + 1) k7).ownBlock = some j → j ≠ g ∧ V1'.ownBlock ≠ some j ∧ V2'.ownBlock ≠ some j := by
  have hb : ∀ j, j < w6.heap.size → U.ownBlock ≠ some j → w7.heap[j]? = w6.heap[j]? := fun j hj hu => (HG.block j (by simp; omega) (fun e => hu e.symm)).trans (Below.heap_alloc w6 _ j hj)
  have hap : ∀ j, U.ownBlock = some j → j ≠ g ∧ V1'.ownBlock ≠ some j ∧ V2'.ownBlock ≠ some j := fun j hj => by
    obtain ⟨p1, p2, p3⟩ := HAP j hj
    have hjl := (HR.lt j hj).2
    refine ⟨p1, fun e => ?_, fun e => ?_⟩
    · rcases HE.own j (.inl e) with (e | e) | e
      · exact p2 e
      · exact p3 e
      · omega
    · rcases HE.own j (.inr e) with (e | e) | e
      · exact p2 e
      · exact p3 e
      · omega
  refine ⟨HD.past (ob := U.ownBlock) hb (fun e => (hap g e).1 rfl) (fun j hj e => (hap j e).2.1 hj) (fun j hj e => (hap j e).2.2 hj), ?_, ?_, fun j hj => ?_⟩
  · rw [List.length_append, ivs_snoc]; exact HW
  · have hk := HK.trans HE
    have hsz := HG.size
    exact ⟨HG.os.trans hk.os, HG.tape.trans hk.tape, HG.output.trans hk.output, by have := hk.size; simp at hsz; omega, fun j hj h1 h2 h3 => (hb j (by have := hk.size; omega) (fun e => by have := (HR.lt j e).1; omega)).trans (hk.block j hj h1 h2 h3), hk.own⟩
  · obtain rfl : n7 = j := Option.some.inj hj
    rcases HAT with e | e
    · exact hap n7 e
    · rw [World.size_alloc] at e
      refine ⟨fun e2 => ?_, fun e2 => ?_, fun e2 => ?_⟩
      · have := HD.box.lt; omega
      · have := (HD.i.lt n7 e2).2; omega
      · have := (HD.q.lt n7 e2).2; omega
end
end Go.Proofs.Ytkhlimlcnlalgaa
