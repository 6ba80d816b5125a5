/- An append onto bytes that the call owns, and a row that came behind them: it is left as it was. -/
import Derived.Test.YtdoldjfabgcgbaaByt
namespace Go.Proofs.Ytdoldjfabgcgbaa
open Go.RowKit
set_option linter.unusedVariables false
theorem setCells_other (g j : Nat) (h : g ≠ j) : ∀ (vs : List Value) (o : Nat) (w : World), (w.setCells g o vs).heap[j]? = w.heap[j]? := by
  intro vs
  induction vs with
  | nil => intro o w; rfl
  | cons v vs ih => intro o w; exact (ih (o + 1) _).trans (Below.heap_setCell w ⟨g, o, none⟩ v j (fun e => h e.symm))
theorem own_append2 {P : Program} {e t tx ty : TypeId} {i : TypeInfo} {z : Value} (ht : P.underlying t = some (.slice e)) (hi : P.info? e = some i) (hz : i.zero = some z) (hsz : i.size = 1) (hby : i.bytes = 1) (hzs : z.cells.size = 1)
    {B : Nat} {w0 w : World} {v : Value} {l : List UInt8} (h0 : Own e B w0 v l) (hb : Below w0.heap.size w0 w) (hB : B ≤ w.heap.size) (x : Value) (more : List UInt8) (hs : Src P 1 tx x more.length (more.map bv) w) (h63 : l.length + more.length ≤ 140737488355328) :
    ∃ v' w', (Builtin.append_ #[t, tx] ty #[v, x]).run P w = .ok v' w' ∧ Own e B w' v' (l ++ more) ∧ Below B w w' ∧ ∀ j, w0.heap.size ≤ j → j < w.heap.size → w'.heap[j]? = w.heap[j]? := by
  obtain ⟨ao, cap, rfl, hle, hmax, hrow⟩ := h0
  rw [← hsz] at hs
  have hrow : cap = 0 ∨ ∃ g cur, ao = some ⟨g, 0, none⟩ ∧ B ≤ g ∧ w.heap[g]? = some (.cells cur e (0, 0)) ∧ cur.size = cap ∧ cur.toList.take l.length = l.map bv ∧ g < w0.heap.size := hrow.imp id fun ⟨g, cur, h1, hg, hh, h2, h3⟩ => by
    have hlt : g < w0.heap.size := by
      rcases Nat.lt_or_ge g w0.heap.size with hlt | hge
      · exact hlt
      · rw [Array.getElem?_eq_none hge] at hh; cases hh
    exact ⟨g, cur, h1, hg, by rw [hb.block g hlt]; exact hh, h2, h3, hlt⟩
  by_cases hr : l.length + more.length ≤ cap
  · rcases hrow with h0 | ⟨g, cur, rfl, hg, hh, hcs, htk, hlt⟩
    · subst h0
      have hl0 : l = [] := List.length_eq_zero_iff.1 (by omega)
      have hm0 : more = [] := List.length_eq_zero_iff.1 (by omega)
      subst hl0; subst hm0
      refine ⟨.slice ao 0 0, w, run_append_nothing w t tx ty e i ht hi ao 0 0 (Nat.le_refl _) x hs, ⟨ao, 0, rfl, Nat.le_refl _, hmax, .inl rfl⟩, Below.refl _ _, fun _ _ _ => rfl⟩
    · have hrun := run_append_room_src (P := P) w t tx ty e i ht hi g 0 l.length cap x more.length (more.map bv) hs hr (fun j hj => by
        rw [cell_of_row w g _ cur e (0, 0) hh]; simp at hj; rw [hsz]; simp; omega) (fun j hj => by simp [World.frozen?, hh])
      obtain ⟨cur', h2, h3, h4⟩ := setCells_row g e (0, 0) (more.map bv) (0 + l.length * i.size) cur w hh (by rw [hsz]; simp; omega)
      refine ⟨_, _, hrun, ⟨some ⟨g, 0, none⟩, cap, by rw [List.length_append], by rw [List.length_append]; exact hr, hmax, .inr ⟨g, cur', rfl, hg, h2, h3.trans hcs, ?_⟩⟩, setCells_below B g hg _ _ _ _ (Below.refl _ _), fun j h1 _ => setCells_other g j (by omega) _ _ _⟩
      rw [hsz] at h4
      simp only [Nat.zero_add, Nat.mul_one, List.length_map] at h4
      rw [List.length_append, h4, htk, List.map_append]
  · have hold : (Builtin.firstCells i.size l.length (.slice ao l.length cap)).run P w.drew = .ok (l.map bv).toArray w.drew := by
      rcases hrow with h0 | ⟨g, cur, rfl, hg, hh, hcs, htk, hlt⟩
      · have hl0 : l = [] := List.length_eq_zero_iff.1 (by omega)
        subst hl0
        cases ao with
        | none => exact run_firstCells_none _ _ _ _ _
        | some a => exact run_firstCells_some w.drew i.size 0 a 0 cap [] (by simp) (fun j u hu => by simp at hu)
      · exact run_firstCells_some w.drew i.size l.length ⟨g, 0, none⟩ l.length cap (l.map bv) (by rw [hsz]; simp) (fun j u hu => by
          rw [add_plain, Nat.zero_add]
          show w.cell? _ = _
          rw [cell_of_row w g j cur e (0, 0) hh]
          rw [← htk, List.getElem?_take] at hu
          split at hu
          · simpa using hu
          · cases hu)
    have hrun := run_append_grow_src (P := P) w t tx ty e i z ht hi hz ao l.length cap (l.map bv) hold x more.length (more.map bv) hs (by omega) (by omega) (by rw [hby]; exact growslice_fits (by omega) (by omega))
    refine ⟨_, _, hrun, ⟨_, _, by rw [List.length_append], ?_, ?_, .inr ⟨w.heap.size, _, rfl, hB, heap_alloc_new _ _, ?_, ?_⟩⟩, ((Below.refl _ _).drew).alloc hB _, fun j _ h2 => Below.heap_alloc w.drew _ j h2⟩
    · rw [List.length_append]; exact grownCap_ge _ _ _ _
    · exact grownCap_le_maxLen _ _ _ _ (by unfold maxLen; omega)
    · have := grownCap_ge w (l.length + more.length) cap e
      simp [Builtin.zeroCells, hzs]
      omega
    · rw [List.length_append, ← List.map_append, Array.toList_append, List.take_append_of_le_length (by simp)]
      exact List.take_of_length_le (by simp)
theorem wpList_own_append2 {P : Program} {e t tx : TypeId} (w0 w : World) {ops : Array Oper} {rest : List Oper} {o : Oper} {a : Act} {Q : Exit → Act → World → Prop} (hgd : o.guard = none) (s x : Operand)
    (ho : o.op = .call { callee := .builtin .append, args := #[s, x], argTypes := #[t, tx] }) {i : TypeInfo} {z : Value} (ht : P.underlying t = some (.slice e)) (hi : P.info? e = some i) (hz : i.zero = some z) (hsz : i.size = 1) (hby : i.bytes = 1) (hzs : z.cells.size = 1)
    {B : Nat} {v : Value} {l : List UInt8} (hv : a.eval s = v) (h0 : Own e B w0 v l) (hb : Below w0.heap.size w0 w) (hB : B ≤ w.heap.size) (xv : Value) (hx : a.eval x = xv) (more : List UInt8) (hs : Src P 1 tx xv more.length (more.map bv) w) (h63 : l.length + more.length ≤ 140737488355328)
    (hK : ∀ v' w', Own e B w' v' (l ++ more) → Below B w w' → (∀ j, w0.heap.size ≤ j → j < w.heap.size → w'.heap[j]? = w.heap[j]?) → wpList P ops Q rest (a.put o.dst v') w') : wpList P ops Q (o :: rest) a w := by
  refine wpList_plain hgd fun K hK' => ?_
  obtain ⟨v', w', hrun, r1, r2, r3⟩ := own_append2 (P := P) (ty := o.type) ht hi hz hsz hby hzs h0 hb hB xv more hs h63
  unfold Oper.wp
  simp [execOp, ho, resolve, invoke, builtin, hv, hx, hrun, Result.andThen]
  exact hK' _ _ (hK v' w' r1 r2 r3)
/-- Bytes of a row that came behind are read as before. -/
theorem Own.far {e : TypeId} {B : Nat} {w w' : World} {v : Value} {l : List UInt8} (h : Own e B w v l) (hb : ∀ j, B ≤ j → j < w.heap.size → w'.heap[j]? = w.heap[j]?) : Own e B w' v l := by
  obtain ⟨ao, cap, rfl, hle, hmax, hrow⟩ := h
  refine ⟨ao, cap, rfl, hle, hmax, hrow.imp id fun ⟨g, cur, h1, hg, hh, h2⟩ => ⟨g, cur, h1, hg, ?_, h2⟩⟩
  have hlt : g < w.heap.size := by
    rcases Nat.lt_or_ge g w.heap.size with hlt | hge
    · exact hlt
    · rw [Array.getElem?_eq_none hge] at hh; cases hh
  rw [hb g hg hlt]
  exact hh
end Go.Proofs.Ytdoldjfabgcgbaa
