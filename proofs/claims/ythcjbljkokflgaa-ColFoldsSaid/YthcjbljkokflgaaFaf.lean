/- The reference's rise: the walk. -/
import Derived.Test.YthcjbljkokflgaaFae
import Derived.RangeFuncWrites
import Derived.RangeFuncBox
import Derived.Maps.AppendAt
import Derived.Laws.MakeOwn
import Derived.Test.YthcjbljkokflgaaFaa
import Derived.Test.YthcjbljkokflgaaFab
import Derived.Deep.AppendLies
import Derived.Laws.AppendOwn
set_option linter.unnecessarySimpa false
/- Maps over trees (values: Int × ByteArray): Under and All as iterators; Keys. -/
namespace Go.Proofs.Ythcjbljkokflgaa.OC
open Go.RowKit
open Go.Lib
set_option linter.unusedVariables false
set_option linter.unusedSimpArgs false
set_option maxRecDepth 100000
open Go.Shelf
attribute [local go_sem] Oper.semAt_some
theorem KeepN.grown {W w1 : World} {base : Nat} {e : TypeId} {size : Nat} {v : Value} {k : Nat} {xs : List Value} (hrow : W.ownsRow base e size v k xs) (he : e ≠ 110) (hg : W.grownBy w1 v.ownBlock) : KeepN W w1 := fun b cs x => (hg.block b x.lt (fun eq => by
  rcases hrow.2 with ⟨rfl, _⟩ | ⟨g, cap, cur, rfl, _, hgb, _⟩
  · cases eq
  · obtain rfl : b = g := Option.some.inj eq
    unfold Blk at x
    rw [hgb] at x
    cases x
    exact he rfl)).trans x
theorem KeepN.put {w : World} (W : World) (l : Nat) (o o' : Obj) (_ : w.heap.size ≤ l) (h : W.heap[l]? = some o) (hc : o.isCells = false) (_ : o.isWalk = false) : KeepN W (W.putObj l o') := fun b cs x => (World.putObj_heap_other (fun e => by
  subst e
  unfold Blk at x
  rw [h] at x
  cases x
  cases hc)).trans x
set_option maxHeartbeats 4000000 in
theorem und_stops (n Bm Bx g : Nat) (t : T) (px : ByteArray) (hpx : px.size ≤ 1000000) (w : World) (hBm : Bm < w.heap.size) (hBx : Bx < w.heap.size) (cm : w.cell? ⟨Bm, 0, none⟩ = some (.pointer (some ⟨g, 0, none⟩))) (cx : w.cell? ⟨Bx, 0, none⟩ = some (.string px)) (hM : Mt w g t) (hks : ∀ q ∈ t.ino, q.1.size ≤ 1000000) :
    SeqStopsK Fence.wide n Try.prog 75 #[.pointer (some ⟨Bm, 0, none⟩), .pointer (some ⟨Bx, 0, none⟩)] enI KeepN (fun ys => ys = Tr.und px t) (fun pre => pre <+: Tr.und px t) (Tr.und px t).length w := fun l J Jx W hW hJ hJx hY h0 => by
  obtain ⟨p, hb, ht⟩ := hM.below hW
  have d0 : W.drew.cell? ⟨Bm, 0, none⟩ = some (.pointer (some ⟨g, 0, none⟩)) := (hW.cell (p := ⟨Bm, 0, none⟩) hBm).trans cm
  have d1 : W.drew.cell? ⟨Bx, 0, none⟩ = some (.string px) := (hW.cell (p := ⟨Bx, 0, none⟩) hBx).trans cx
  have d2 : W.drew.cell? ⟨g, 0, none⟩ = some (.pointer p) := hb.cell 0
  have hJd : J [] W.drew := hJ _ _ _ none h0 ⟨rfl, rfl, rfl, Nat.le_refl _, fun _ _ _ => rfl⟩ (fun r e => by cases e)
  have hp := under_in l (Tr.und px t).length W.heap.size J Jx hJ (fun m pre x W1 hj hl => YieldAt_anyDepth rfl m (hY pre x W1 hj hl)) px hpx t (n - 1) p [] W.drew (ht.keep (KeepN.drew W)) hks hJd (by simp)
  have hp2 := hp.mono (R' := fun e W' => ∃ bb, e = .returned (.bool bb) ∧ ((∃ ys, ys = Tr.und px t ∧ J ys W') ∨ (∃ pre, pre <+: Tr.und px t ∧ Jx pre W'))) (fun e W1 h => h.elim (fun ⟨he, hj, _⟩ => ⟨true, he, .inl ⟨_, rfl, by simpa using hj⟩⟩) (fun ⟨he, q, hq, hx⟩ => ⟨false, he, .inr ⟨q, hq, by simpa using hx⟩⟩))
  clear hp
  have hd : Fence.wide.depth = none := rfl
  have hall : ∀ f, Fence.wide.fn f := fun _ => trivial
  have hro : Fence.wide.round = none := rfl
  refine callsIn_of_wp Try.func75 rfl (hall _) ?_ hro
  simp only [Try.ntmps75, List.size_toArray, List.length_cons, List.length_nil, Nat.reduceAdd, Nat.reduceSub, Array.replicate_succ, Array.replicate_zero, List.push_toArray, List.append_toArray, List.nil_append, List.cons_append]
  gi_wp2
  gi_region_with (gi_at_call 76; refine hp2.mono ?_; clear hp2; rintro e W1 ⟨bb, rfl, hh⟩)
  all_goals (
    gi_wp2
    go_end0
    exact ⟨⟨_, rfl⟩, hh⟩)
theorem under_fn (g : Nat) (px : ByteArray) (w : World) : Calls Try.prog 61 #[.pointer (some ⟨g, 0, none⟩), .string px] w fun e w' => e = .returned (.func (.func 75) #[] #[.pointer (some ⟨w.heap.size, 0, none⟩), .pointer (some ⟨w.heap.size + 1, 0, none⟩)]) ∧ w' = (w.alloc (.cells #[.pointer (some ⟨g, 0, none⟩)] 65)).alloc (.cells #[.string px] 9) := by
  go_enter Try.func61, Try.ntmps61
  go_wp2
  go_ret
  exact ⟨rfl, rfl⟩
theorem all_fn (g : Nat) (w : World) : Calls Try.prog 47 #[.pointer (some ⟨g, 0, none⟩)] w fun e w' => e = .returned (.func (.func 75) #[] #[.pointer (some ⟨w.heap.size, 0, none⟩), .pointer (some ⟨w.heap.size + 1, 0, none⟩)]) ∧ w' = (w.alloc (.cells #[.pointer (some ⟨g, 0, none⟩)] 65)).alloc (.cells #[.string .empty] 9) := by
  have H := Lib.hid (under_fn g .empty w)
  go_enter Try.func47, Try.ntmps47
  go_wp2_with fail
  refine H.out.mono ?_
  rintro _ wz ⟨rfl, hw0⟩
  replace hw0 := hw0.symm
  subst hw0
  go_wp2
  go_ret
  exact ⟨rfl, rfl⟩
end Go.Proofs.Ythcjbljkokflgaa.OC
/- The ring of a collection's changes. -/
namespace Go.Proofs.Ythcjbljkokflgaa
open Go.RowKit
open Go.Lib
set_option linter.unusedVariables false
set_option linter.unusedSimpArgs false
set_option maxRecDepth 100000
abbrev Chg := Int × ByteArray
def chV (c : Chg) : List Value := [.int .i64 c.1, .string c.2]
def chC (l : List Chg) : List Value := (l.map chV).flatten
theorem chC_len (l : List Chg) : (chC l).length = l.length * 2 := by
  induction l with
  | nil => rfl
  | cons t xs ih => unfold chC at *; simp only [List.map_cons, List.flatten_cons, List.length_append, List.length_cons, ih]; simp [chV]; omega
theorem chC_snoc (l : List Chg) (x : Chg) : chC (l ++ [x]) = chC l ++ chV x := by unfold chC; simp
theorem chC_get : ∀ (l : List Chg) (j : Nat) (x : Chg), l[j]? = some x → ∀ i, i < 2 → (chC l)[j * 2 + i]? = (chV x)[i]?
  | [], j, t, h => by simp at h
  | y :: xs, 0, t, h => fun i hi => by
    simp at h; subst h
    have hl : (chV y).length = 2 := rfl
    show ((chV y) ++ chC xs)[0 * 2 + i]? = _
    rw [Nat.zero_mul, Nat.zero_add, List.getElem?_append_left (by omega)]
  | y :: xs, j + 1, t, h => fun i hi => by
    have hl : (chV y).length = 2 := rfl
    show ((chV y) ++ chC xs)[(j + 1) * 2 + i]? = _
    rw [List.getElem?_append_right (by omega), hl, show (j + 1) * 2 + i - 2 = j * 2 + i by omega]
    exact chC_get xs j t (by simpa using h) i hi
theorem chC_set : ∀ (l : List Chg) (j : Nat) (x : Chg), j < l.length → chC (l.set j x) = ((chC l).set (j * 2) (.int .i64 x.1)).set (j * 2 + 1) (.string x.2)
  | [], j, x, h => by simp at h
  | y :: xs, 0, x, h => rfl
  | y :: xs, j + 1, x, h => by
    have e := chC_set xs j x (by simpa using h)
    show chV y ++ chC (xs.set j x) = ((chV y ++ chC xs).set ((j + 1) * 2) (.int .i64 x.1)).set ((j + 1) * 2 + 1) (.string x.2)
    have hl : (chV y).length = 2 := rfl
    rw [e, List.set_append_right _ _ (by omega), List.set_append_right _ _ (by omega), hl, show (j + 1) * 2 - 2 = j * 2 by omega, show (j + 1) * 2 + 1 - 2 = j * 2 + 1 by omega]
/-- What calls leave: all below B, and whatever is of another kind than T's. -/
structure Kc (T : TypeId → Prop) (B : Nat) (w w' : World) : Prop where
  os : w'.os = w.os
  tape : w'.tape = w.tape
  output : w'.output = w.output
  size : w.heap.size ≤ w'.heap.size
  low : ∀ j, j < B → w'.heap[j]? = w.heap[j]?
  far : ∀ j t cs, Blk w j t cs → ¬ T t → Blk w' j t cs
theorem Kc.refl (T : TypeId → Prop) (B : Nat) (w : World) : Kc T B w w := ⟨rfl, rfl, rfl, Nat.le_refl _, fun _ _ => rfl, fun _ _ _ h _ => h⟩
section
variable {T : TypeId → Prop} {B : Nat}
theorem Kc.of {w w' : World} (h : Below w.heap.size w w') (hB : B ≤ w.heap.size) : Kc T B w w' := ⟨h.os, h.tape, h.output, h.size, fun j hj => h.block j (by omega), fun j t cs hb _ => hb.below h hb.lt⟩
theorem Kc.trans {a b c : World} (h : Kc T B a b) (k : Kc T B b c) : Kc T B a c :=
  ⟨k.os.trans h.os, k.tape.trans h.tape, k.output.trans h.output, Nat.le_trans h.size k.size, fun j hj => (k.low j hj).trans (h.low j hj), fun j t cs hb h1 => k.far j t cs (h.far j t cs hb h1) h1⟩
theorem Kc.wide {T' : TypeId → Prop} {w w' : World} (h : Kc T B w w') (hT : ∀ t, T t → T' t) : Kc T' B w w' := ⟨h.os, h.tape, h.output, h.size, h.low, fun j t cs hb h1 => h.far j t cs hb (fun e => h1 (hT t e))⟩
theorem Kc.below {w w' : World} (h : Kc T B w w') : Below B w w' := ⟨h.os, h.tape, h.output, h.size, h.low⟩
theorem Kc.drew {w w' : World} (h : Kc T B w w') : Kc T B w w'.drew := ⟨h.os, h.tape, h.output, h.size, h.low, h.far⟩
theorem Kc.drewN {w w' : World} (h : Kc T B w w') (n : Nat) : Kc T B w (w'.drewN n) := ⟨h.os, h.tape, h.output, h.size, h.low, h.far⟩
/-- A store into one of its own. -/
theorem Kc.set {w w' : World} (h : Kc T B w w') {g : Nat} {t : TypeId} {cs : Array Value} (hb : Blk w' g t cs) (ht : T t) (hg : B ≤ g) (i : Nat) (u : Value) : Kc T B w (w'.setCell ⟨g, i, none⟩ u) :=
  h.trans ⟨rfl, rfl, rfl, by simp [World.setCell], fun j hj => Below.heap_setCell w' ⟨g, i, none⟩ u j (by show j ≠ g; omega), fun j t' cs' hb' h1 => (Below.heap_setCell w' ⟨g, i, none⟩ u j (by
    show j ≠ g
    rintro rfl
    unfold Blk at hb hb'
    rw [hb] at hb'
    cases hb'
    exact h1 ht)).trans hb'⟩
/-- A store into a block made since. -/
theorem Kc.setNew {w w' : World} (h : Kc T B w w') (hB : B ≤ w.heap.size) {g : Nat} (hg : w.heap.size ≤ g) (i : Nat) (u : Value) : Kc T B w (w'.setCell ⟨g, i, none⟩ u) :=
  ⟨h.os, h.tape, h.output, by simpa [World.setCell] using h.size, fun j hj => (Below.heap_setCell w' ⟨g, i, none⟩ u j (by show j ≠ g; omega)).trans (h.low j hj), fun j t cs hb h1 => (Below.heap_setCell w' ⟨g, i, none⟩ u j (by show j ≠ g; have := hb.lt; omega)).trans (h.far j t cs hb h1)⟩
end
/-- The row has grown. -/
theorem Kc.grown {T : TypeId → Prop} {B : Nat} {w w' w2 : World} (h : Kc T B w w') (hB : B ≤ w'.heap.size) {e : TypeId} {k n : Nat} {v : Value} {vs : List Value} (hr : w'.ownsRow B e k v n vs) (hT : T e) (hg : w'.grownBy w2 v.ownBlock) : Kc T B w w2 :=
  h.trans ⟨hg.os, hg.tape, hg.output, hg.size, fun j hj => hg.block j (by omega) (fun e => by have := (hr.lt j e.symm).1; omega), fun j t cs hb h1 => (hg.block j hb.lt (fun e0 => by
    obtain ⟨h0, h3' | ⟨b, cap, cur, e1, e2, e3, e4⟩⟩ := hr
    · rw [h3'.1] at e0; cases e0
    · rw [e1] at e0
      cases e0
      unfold Blk at hb
      have e5 : w'.heap[b]? = some (.cells cur e (0, 0)) := e3
      rw [e5] at hb
      cases hb
      exact h1 hT)).trans hb⟩
/-- A row of another kind stays. -/
theorem Kc.row {T : TypeId → Prop} {B B' : Nat} {w w' : World} (h : Kc T B w w') {e : TypeId} {k n : Nat} {v : Value} {vs : List Value} (hr : w.ownsRow B' e k v n vs) (hT : ¬ T e) : w'.ownsRow B' e k v n vs := by
  obtain ⟨h0, h3 | ⟨b, cap, cur, e1, e2, e3, e4⟩⟩ := hr
  · exact ⟨h0, .inl h3⟩
  · exact ⟨h0, .inr ⟨b, cap, cur, e1, e2, h.far b e cur e3 hT, e4⟩⟩
theorem own_keep {w w' : World} {base : Nat} {e : TypeId} {k n : Nat} {v : Value} {vs : List Value} (h : w.ownsRow base e k v n vs) (hb : ∀ j, v.ownBlock = some j → w'.heap[j]? = w.heap[j]?) : w'.ownsRow base e k v n vs := by
  obtain ⟨h0, h3 | ⟨b, cap, cur, e1, e2, e3, e4⟩⟩ := h
  · exact ⟨h0, .inl h3⟩
  · refine ⟨h0, .inr ⟨b, cap, cur, e1, e2, (hb b (by rw [e1]; rfl)).trans e3, e4⟩⟩
/-- A row of changes, read. -/
theorem own_ch {w : World} {B : Nat} {v : Value} {l : List Chg} (h : w.ownsRow B 72 2 v l.length (chC l)) : ∃ A cap b, v = .slice A l.length cap ∧ l.length ≤ cap ∧ (0 < l.length → A = some ⟨b, 0, none⟩ ∧ B ≤ b ∧ b < w.heap.size) ∧ ∀ (j : Nat) (x : Chg), l[j]? = some x → w.cell? ⟨b, j * 2, none⟩ = some (.int .i64 x.1) ∧ w.cell? ⟨b, j * 2 + 1, none⟩ = some (.string x.2) ∧ w.frozen? ⟨b, j * 2, none⟩ = false ∧ w.frozen? ⟨b, j * 2 + 1, none⟩ = false := by
  have h0 := h
  obtain ⟨h1, ⟨rfl, h2⟩ | ⟨g, cap, cur, rfl, hg, hh, hc, hm, hcs, ht⟩⟩ := h
  · have : l = [] := List.length_eq_zero_iff.1 h2
    subst this
    exact ⟨none, 0, 0, rfl, Nat.le_refl _, fun h => absurd h (by simp), fun j t hj => by simp at hj⟩
  · refine ⟨some ⟨g, 0, none⟩, cap, g, rfl, hc, fun _ => ⟨rfl, (h0.lt g rfl).1, Blk.lt hh⟩, fun j t hj => ?_⟩
    have hjl : j < l.length := (List.getElem?_eq_some_iff.1 hj).1
    have hB : Blk w g 72 cur := hh
    have key : ∀ i, i < 2 → w.cell? ⟨g, j * 2 + i, none⟩ = (chV t)[i]? := fun i hi => by
      rw [cell_of_row w g _ cur _ (0, 0) hh, ← chC_get l j t hj i hi, ← ht, List.getElem?_take, if_pos (by omega), Array.getElem?_toList]
    exact ⟨key 0 (by omega), key 1 (by omega), hB.frozen _, hB.frozen _⟩
/-- One change written over another. -/
theorem own_set {w : World} {B g cap : Nat} {l : List Chg} (h : w.ownsRow B 72 2 (.slice (some ⟨g, 0, none⟩) l.length cap) l.length (chC l)) (j : Nat) (hj : j < l.length) (x : Chg) :
    ((w.setCell ⟨g, j * 2, none⟩ (.int .i64 x.1)).setCell ⟨g, j * 2 + 1, none⟩ (.string x.2)).ownsRow B 72 2 (.slice (some ⟨g, 0, none⟩) l.length cap) l.length (chC (l.set j x)) := by
  obtain ⟨h0, h3 | ⟨b, cap', cur, e1, e2, e3, e4, e5, e6, e7⟩⟩ := h
  · exact absurd h3.2 (by omega)
  · cases e1
    have hB : Blk w g 72 cur := e3
    have hB2 := (hB.set_ (j * 2) (.int .i64 x.1)).set_ (j * 2 + 1) (.string x.2)
    refine ⟨by rw [chC_len, List.length_set], .inr ⟨g, cap, _, rfl, e2, hB2, e4, e5, ?_, ?_⟩⟩
    · simp; exact e6
    · rw [chC_set l j x hj, ← e7]
      simp only [Array.toList_setIfInBounds, List.take_set, List.length_set]
end Go.Proofs.Ythcjbljkokflgaa
/- The reference's rise: an insertion sort. -/
namespace Go.Proofs.Ythcjbljkokflgaa
open Go.RowKit
open Go.Lib
set_option linter.unusedVariables false
set_option linter.unusedSimpArgs false
set_option maxRecDepth 100000
end Go.Proofs.Ythcjbljkokflgaa
namespace Go.Proofs.Ythcjbljkokflgaa
open Go.RowKit
open Go.Lib
set_option linter.unusedVariables false
set_option linter.unusedSimpArgs false
set_option maxRecDepth 100000
theorem row_item {w : World} {B n cap g : Nat} {l : List It} (h : w.ownsRow B 62 4 (.slice (some ⟨g, 0, none⟩) n cap) n (itsC l)) {j : Nat} {x : It} (hx : l[j]? = some x) :
    w.cell? ⟨g, j * 4, none⟩ = some (.string x.u) ∧ w.cell? ⟨g, j * 4 + 1, none⟩ = some (.int .i64 x.v) ∧ w.cell? ⟨g, j * 4 + 2, none⟩ = some (.bool x.x) ∧ w.cell? ⟨g, j * 4 + 3, none⟩ = some (.string x.c) ∧ w.frozen? ⟨g, j * 4, none⟩ = false ∧ w.frozen? ⟨g, j * 4 + 1, none⟩ = false ∧ w.frozen? ⟨g, j * 4 + 2, none⟩ = false ∧ w.frozen? ⟨g, j * 4 + 3, none⟩ = false := by
  obtain ⟨h0, h3 | ⟨b, cap', cur, e1, e2, e3, e4, e5, e6, e7⟩⟩ := h
  · cases h3.1
  · cases e1
    have hB : Blk w g 62 cur := e3
    have hj := (List.getElem?_eq_some_iff.1 hx).1
    have hjn : j < n := by rw [itsC_len] at h0; omega
    have key : ∀ i, i < 4 → w.cell? ⟨g, j * 4 + i, none⟩ = (itC x)[i]? := fun i hi => by
      rw [hB.cell, ← itsC_get l j x hx i hi, ← e7, List.getElem?_take_of_lt (by omega), Array.getElem?_toList]
    exact ⟨key 0 (by omega), key 1 (by omega), key 2 (by omega), key 3 (by omega), hB.frozen _, hB.frozen _, hB.frozen _, hB.frozen _⟩
end Go.Proofs.Ythcjbljkokflgaa
