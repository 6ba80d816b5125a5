/- A row of one-cell elements that the program owns: what a push makes of it; which blocks a call may have turned. -/
import Derived.Test.YtglifomkhcikdaaWords
import Derived.Test.YtglifomkhcikdaaSlice
import Derived.Test.YtglifomkhcikdaaProg
import Derived.WalkKit
import Derived.Deep.Upon
import Derived.Lib.Hide
import Derived.KernelRfl
import Derived.OwnWalk
import Derived.BigQuiet
import Derived.RegionTactic
import Derived.Deep.QuietTactic
import Derived.Deep.RegionWith
import Derived.Laws.Rows
namespace Go.Proofs.Ytglifomkhcikdaa
open Go.RowKit
set_option linter.unusedVariables false
structure Tw (w w' : World) (R g : Nat) : Prop where
  os : w'.os = w.os
  tape : w'.tape = w.tape
  output : w'.output = w.output
  size : w.heap.size ≤ w'.heap.size
  block : ∀ j, j < w.heap.size → j ≠ R → j ≠ g → w'.heap[j]? = w.heap[j]?
theorem Tw.refl (w : World) (R g : Nat) : Tw w w R g := ⟨rfl, rfl, rfl, Nat.le_refl _, fun _ _ _ _ => rfl⟩
theorem Tw.drew {w w' : World} {R g : Nat} (h : Tw w w' R g) : Tw w w'.drew R g := ⟨h.os, h.tape, h.output, h.size, h.block⟩
theorem Tw.drewN {w w' : World} {R g : Nat} (h : Tw w w' R g) (n : Nat) : Tw w (w'.drewN n) R g := ⟨h.os, h.tape, h.output, h.size, h.block⟩
theorem Tw.alloc {w w' : World} {R g : Nat} (h : Tw w w' R g) (o : Obj) : Tw w (w'.alloc o) R g :=
  ⟨h.os, h.tape, h.output, by have := h.size; simp; omega, fun j h1 h2 h3 => (Below.heap_alloc w' o j (Nat.lt_of_lt_of_le h1 h.size)).trans (h.block j h1 h2 h3)⟩
theorem Tw.setCell {w w' : World} {R g : Nat} (h : Tw w w' R g) {p : Addr} (hp : p.block = R ∨ p.block = g ∨ w.heap.size ≤ p.block) (u : Value) : Tw w (w'.setCell p u) R g := by
  have hb := (Below.refl 0 w').setCell (p := p) (Nat.zero_le _) u
  refine ⟨hb.os.trans h.os, hb.tape.trans h.tape, hb.output.trans h.output, Nat.le_trans h.size hb.size, fun j h1 h2 h3 => ?_⟩
  refine (Below.heap_setCell w' p u j ?_).trans (h.block j h1 h2 h3)
  rintro rfl
  rcases hp with hp | hp | hp
  · exact h2 hp
  · exact h3 hp
  · omega
theorem Tw.below {w w' : World} {R g B : Nat} (h : Tw w w' R g) (h1 : B ≤ R) (h2 : B ≤ g) (h3 : B ≤ w.heap.size) : Below B w w' :=
  ⟨h.os, h.tape, h.output, h.size, fun k hk => h.block k (by omega) (by omega) (by omega)⟩
/-- The row's bytes: at block g. -/
def OwnG (e : TypeId) (w : World) (A : Option Addr) (cap g : Nat) (l : List Value) : Prop :=
  (A = none ∧ cap = 0 ∧ l = []) ∨ ∃ cur : Array Value, A = some ⟨g, 0, none⟩ ∧ l.length ≤ cap ∧ cap ≤ maxLen ∧ w.heap[g]? = some (.cells cur e (0, 0)) ∧ cur.size = cap ∧ cur.toList.take l.length = l
theorem OwnG.keep {e : TypeId} {w w' : World} {A : Option Addr} {cap g : Nat} {l : List Value} (h : OwnG e w A cap g l) (hb : w'.heap[g]? = w.heap[g]?) : OwnG e w' A cap g l :=
  h.imp id fun ⟨cur, h1, h2, h3, h4, h5⟩ => ⟨cur, h1, h2, h3, hb.trans h4, h5⟩
theorem OwnG.cell {e : TypeId} {w : World} {A : Option Addr} {cap g : Nat} {l : List Value} (h : OwnG e w A cap g l) {j : Nat} {u : Value} (hj : l[j]? = some u) : A = some ⟨g, 0, none⟩ ∧ l.length ≤ cap ∧ g < w.heap.size ∧ w.cell? ⟨g, j, none⟩ = some u ∧ w.frozen? ⟨g, j, none⟩ = false := by
  rcases h with ⟨_, _, rfl⟩ | ⟨cur, hA, h2, h3, h4, h5, h6⟩
  · simp at hj
  · have hlt : g < w.heap.size := by
      rcases Nat.lt_or_ge g w.heap.size with hlt | hge
      · exact hlt
      · rw [Array.getElem?_eq_none hge] at h4; cases h4
    refine ⟨hA, h2, hlt, ?_, by simp [World.frozen?, h4]⟩
    rw [cell_of_row w g j cur e (0, 0) h4]
    have hl := (List.getElem?_eq_some_iff.1 hj).1
    rw [← h6, List.getElem?_take, if_pos hl] at hj
    rw [← Array.getElem?_toList]; exact hj
theorem OwnG.set {e : TypeId} {w : World} {A : Option Addr} {cap g : Nat} {l : List Value} (h : OwnG e w A cap g l) (j : Nat) (u : Value) : OwnG e (w.setCell ⟨g, j, none⟩ u) A cap g (l.set j u) := by
  rcases h with ⟨h1, h2, rfl⟩ | ⟨cur, hA, h2, h3, h4, h5, h6⟩
  · exact .inl ⟨h1, h2, rfl⟩
  · refine .inr ⟨cur.setIfInBounds j u, hA, by rw [List.length_set]; exact h2, h3, by simp [World.setCell, Array.getElem?_modify, h4], by rw [Array.size_setIfInBounds]; exact h5, ?_⟩
    rw [List.length_set, Array.toList_setIfInBounds, List.take_set, h6]
theorem setCells_other (g j : Nat) (h : g ≠ j) : ∀ (vs : List Value) (o : Nat) (w : World), (w.setCells g o vs).heap[j]? = w.heap[j]? := by
  intro vs
  induction vs with
  | nil => intro o w; rfl
  | cons v vs ih => intro o w; exact (ih (o + 1) _).trans (Below.heap_setCell w ⟨g, o, none⟩ v j (fun e => h e.symm))
theorem own_push {P : Program} {e t tx ty : TypeId} {i : TypeInfo} {z : Value} (ht : P.underlying t = some (.slice e)) (hi : P.info? e = some i) (hz : i.zero = some z) (hsz : i.size = 1) (hby : i.bytes ≤ 16) (hzs : z.cells.size = 1)
    {w : World} {A : Option Addr} {cap g : Nat} {l : List Value} (h : OwnG e w A cap g l) (x u : Value) (hs : Src P 1 tx x 1 [u] w) (h63 : l.length ≤ 1000000) (R : Nat) :
    ∃ cap' g' w', (Builtin.append_ #[t, tx] ty #[.slice A l.length cap, x]).run P w = .ok (.slice (some ⟨g', 0, none⟩) (l.length + 1) cap') w' ∧ OwnG e w' (some ⟨g', 0, none⟩) cap' g' (l ++ [u]) ∧ (g' = g ∨ w.heap.size ≤ g') ∧ Tw w w' R g ∧ ∀ j, j < w.heap.size → (A = none ∨ j ≠ g) → w'.heap[j]? = w.heap[j]? := by
  have hs : Src P i.size tx x 1 [u] w := by rw [hsz]; exact hs
  by_cases hr : l.length + 1 ≤ cap
  · rcases h with ⟨_, h0, h1⟩ | ⟨cur, rfl, hle, hmax, hh, hcs, htk⟩
    · omega
    · have hrun := run_append_room_src (P := P) (ty := ty) w t tx e i ht hi g 0 l.length cap x 1 [u] hs hr (fun j hj => by
        rw [cell_of_row w g _ cur e (0, 0) hh]; simp at hj; subst hj; rw [hsz]; simp; omega) (fun j hj => by simp [World.frozen?, hh])
      refine ⟨cap, g, _, hrun, .inr ⟨cur.setIfInBounds l.length u, rfl, by rw [List.length_append]; exact hr, hmax, ?_, by rw [Array.size_setIfInBounds]; exact hcs, ?_⟩, .inl rfl, ?_⟩
      · simp [World.setCells, World.setCell, Array.getElem?_modify, hh, hsz]
      · rw [Array.toList_setIfInBounds, List.length_append, List.length_singleton, List.take_succ_eq_append_getElem (by simp; omega)]
        congr 1
        · rw [List.take_set_of_le (Nat.le_refl _), htk]
        · simp
      · refine ⟨(Tw.refl w R g).setCell (.inr (.inl rfl)) u, fun j _ h => ?_⟩
        rcases h with h | h
        · cases h
        · exact setCells_other g j (fun e => h e.symm) [u] _ w
  · have hold : (Builtin.firstCells i.size l.length (.slice A l.length cap)).run P w.drew = .ok l.toArray w.drew := by
      rcases h with ⟨rfl, _, rfl⟩ | ⟨cur, rfl, hle, hmax, hh, hcs, htk⟩
      · exact run_firstCells_none _ _ _ _ _
      · exact run_firstCells_some w.drew i.size l.length ⟨g, 0, none⟩ l.length cap l (by rw [hsz]; simp) (fun j u hu => by
          rw [add_plain, Nat.zero_add]
          show w.cell? _ = _
          rw [cell_of_row w g j cur e (0, 0) hh]
          have hl := (List.getElem?_eq_some_iff.1 hu).1
          rw [← htk, List.getElem?_take, if_pos hl] at hu
          simpa using hu)
    have hcl : l.length ≤ cap := by
      rcases h with ⟨_, _, rfl⟩ | ⟨cur, _, hle, _⟩
      · exact Nat.zero_le _
      · exact hle
    have hrun := run_append_grow_src (P := P) (ty := ty) w t tx e i z ht hi hz A l.length cap l hold x 1 [u] hs (by omega) (by omega) (by
      refine growslice_fits (by omega) ?_
      exact Nat.le_trans (Nat.mul_le_mul_left _ hby) (by omega))
    refine ⟨_, w.heap.size, _, hrun, .inr ⟨_, rfl, ?_, ?_, heap_alloc_new _ _, ?_, ?_⟩, .inr (Nat.le_refl _), (Tw.refl w R g).drew.alloc _, fun j h _ => Below.heap_alloc w.drew _ j h⟩
    · rw [List.length_append]; exact grownCap_ge _ _ _ _
    · exact grownCap_le_maxLen _ _ _ _ (by unfold maxLen; omega)
    · have := grownCap_ge w (l.length + 1) cap e
      simp [Builtin.zeroCells, hzs]
      omega
    · rw [Array.toList_append, List.take_append_of_le_length (by simp)]
      exact List.take_of_length_le (by simp)
theorem wpList_own_push {P : Program} {e t tx : TypeId} (w : World) {ops : Array Oper} {rest : List Oper} {o : Oper} {a : Act} {Q : Exit → Act → World → Prop} (hgd : o.guard = none) (s x : Operand)
    (ho : o.op = .call { callee := .builtin .append, args := #[s, x], argTypes := #[t, tx] }) {i : TypeInfo} {z : Value} (ht : P.underlying t = some (.slice e)) (hi : P.info? e = some i) (hz : i.zero = some z) (hsz : i.size = 1) (hby : i.bytes ≤ 16) (hzs : z.cells.size = 1)
    {A : Option Addr} {cap g : Nat} {l : List Value} {L : Nat} (hL : L = l.length) (hv : a.eval s = .slice A L cap) (h : OwnG e w A cap g l) (xv u : Value) (hx : a.eval x = xv) (hs : Src P 1 tx xv 1 [u] w) (h63 : l.length ≤ 1000000) (R : Nat)
    (hK : ∀ cap' g' w', OwnG e w' (some ⟨g', 0, none⟩) cap' g' (l ++ [u]) → (g' = g ∨ w.heap.size ≤ g') → Tw w w' R g → (∀ j, j < w.heap.size → (A = none ∨ j ≠ g) → w'.heap[j]? = w.heap[j]?) → wpList P ops Q rest (a.put o.dst (.slice (some ⟨g', 0, none⟩) (l.length + 1) cap')) w') : wpList P ops Q (o :: rest) a w := by
  subst hL
  refine wpList_plain hgd fun K hK' => ?_
  obtain ⟨cap', g', w', hrun, r1, r2, r3, r4⟩ := own_push (P := P) (ty := o.type) ht hi hz hsz hby hzs h xv u hs h63 R
  unfold Oper.wp
  simp [execOp, ho, resolve, invoke, builtin, hv, hx, hrun, Result.andThen]
  exact hK' _ _ (hK cap' g' w' r1 r2 r3 r4)
theorem OwnG.ne {T e : TypeId} {w : World} {A : Option Addr} {cap g R : Nat} {l : List Value} {cs : Array Value} (h : OwnG e w A cap g l) (hb : Blk w R T cs) (hT : T ≠ e) : A = none ∨ R ≠ g := by
  rcases h with ⟨h1, _⟩ | ⟨cur, _, _, _, hh, _⟩
  · exact .inl h1
  · right
    rintro rfl
    unfold Blk at hb
    rw [hb] at hh
    simp at hh
    exact hT hh.2
theorem OwnG.some_lt {e : TypeId} {w : World} {g' cap g : Nat} {l : List Value} (h : OwnG e w (some ⟨g', 0, none⟩) cap g l) : g < w.heap.size := by
  rcases h with ⟨h1, _⟩ | ⟨cur, _, _, _, hh, _⟩
  · cases h1
  · rcases Nat.lt_or_ge g w.heap.size with hlt | hge
    · exact hlt
    · rw [Array.getElem?_eq_none hge] at hh; cases hh
theorem Tw.trans {a b c : World} {R g : Nat} (h : Tw a b R g) (k : Tw b c R g) : Tw a c R g :=
  ⟨k.os.trans h.os, k.tape.trans h.tape, k.output.trans h.output, Nat.le_trans h.size k.size, fun j h1 h2 h3 => (k.block j (Nat.lt_of_lt_of_le h1 h.size) h2 h3).trans (h.block j h1 h2 h3)⟩
theorem size_setCell (w : World) (p : Addr) (u : Value) : (w.setCell p u).heap.size = w.heap.size := by simp [World.setCell]
end Go.Proofs.Ytglifomkhcikdaa
