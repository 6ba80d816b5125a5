/- A slice of bytes that the call owns: what an append of bytes makes of it, whatever its source. -/
import Derived.Test.YtdoldjfabgcgbaaWords
import Derived.Test.YtdoldjfabgcgbaaSlice
import Derived.Deep.Upon
namespace Go.Proofs.Ytdoldjfabgcgbaa
open Go.RowKit
def bv (u : UInt8) : Value := .int .u8 (u.toNat : Int)
def Own (e : TypeId) (B : Nat) (w : World) (v : Value) (l : List UInt8) : Prop :=
  ∃ ao cap, v = .slice ao l.length cap ∧ l.length ≤ cap ∧ cap ≤ maxLen ∧ (cap = 0 ∨ ∃ g cur, ao = some ⟨g, 0, none⟩ ∧ B ≤ g ∧ w.heap[g]? = some (.cells cur e (0, 0)) ∧ cur.size = cap ∧ cur.toList.take l.length = l.map bv)
theorem setCells_row (g : Nat) (e : TypeId) (fr : Nat × Nat) : ∀ (vs : List Value) (o : Nat) (cur : Array Value) (w : World), w.heap[g]? = some (.cells cur e fr) → o + vs.length ≤ cur.size →
    ∃ cur' : Array Value, (w.setCells g o vs).heap[g]? = some (.cells cur' e fr) ∧ cur'.size = cur.size ∧ cur'.toList.take (o + vs.length) = cur.toList.take o ++ vs := by
  intro vs
  induction vs with
  | nil => intro o cur w h _; exact ⟨cur, h, rfl, by simp⟩
  | cons v vs ih =>
    intro o cur w h hl
    simp only [List.length_cons] at hl
    have h1 : (w.setCell ⟨g, o, none⟩ v).heap[g]? = some (.cells (cur.setIfInBounds o v) e fr) := by simp [World.setCell, Array.getElem?_modify, h]
    obtain ⟨cur', h2, h3, h4⟩ := ih (o + 1) _ _ h1 (by simp; omega)
    refine ⟨cur', h2, by simpa using h3, ?_⟩
    rw [List.length_cons, show o + (vs.length + 1) = o + 1 + vs.length by omega, h4]
    have : (cur.setIfInBounds o v).toList.take (o + 1) = cur.toList.take o ++ [v] := by
      rw [List.take_succ_eq_append_getElem (by simp; omega)]
      congr 1
      · simp [List.take_set_of_le]
      · simp
    rw [this]; simp
theorem setCells_below (B g : Nat) (hg : B ≤ g) : ∀ (vs : List Value) (o : Nat) (w0 w : World), Below B w0 w → Below B w0 (w.setCells g o vs) := by
  intro vs
  induction vs with
  | nil => intro o w0 w h; exact h
  | cons v vs ih => intro o w0 w h; exact ih (o + 1) w0 _ (h.setCell (p := ⟨g, o, none⟩) hg v)
theorem own_append {P : Program} {e t tx ty : TypeId} {i : TypeInfo} {z : Value} (ht : P.underlying t = some (.slice e)) (hi : P.info? e = some i) (hz : i.zero = some z) (hsz : i.size = 1) (hby : i.bytes = 1) (hzs : z.cells.size = 1)
    {B : Nat} {w : World} {v : Value} {l : List UInt8} (h : Own e B w v l) (hB : B ≤ w.heap.size) (x : Value) (more : List UInt8) (hs : Src P 1 tx x more.length (more.map bv) w) (h63 : l.length + more.length ≤ 140737488355328) :
    ∃ v' w', (Builtin.append_ #[t, tx] ty #[v, x]).run P w = .ok v' w' ∧ Own e B w' v' (l ++ more) ∧ Below B w w' := by
  obtain ⟨ao, cap, rfl, hle, hmax, hrow⟩ := h
  rw [← hsz] at hs
  by_cases hr : l.length + more.length ≤ cap
  · rcases hrow with h0 | ⟨g, cur, rfl, hg, hh, hcs, htk⟩
    · subst h0
      have hl0 : l = [] := List.length_eq_zero_iff.1 (by omega)
      have hm0 : more = [] := List.length_eq_zero_iff.1 (by omega)
      subst hl0; subst hm0
      refine ⟨.slice ao 0 0, w, run_append_nothing w t tx ty e i ht hi ao 0 0 (Nat.le_refl _) x hs, ⟨ao, 0, rfl, Nat.le_refl _, hmax, .inl rfl⟩, Below.refl _ _⟩
    · have hrun := run_append_room_src (P := P) w t tx ty e i ht hi g 0 l.length cap x more.length (more.map bv) hs hr (fun j hj => by
        rw [cell_of_row w g _ cur e (0, 0) hh]; simp at hj; rw [hsz]; simp; omega) (fun j hj => by simp [World.frozen?, hh])
      obtain ⟨cur', h2, h3, h4⟩ := setCells_row g e (0, 0) (more.map bv) (0 + l.length * i.size) cur w hh (by rw [hsz]; simp; omega)
      refine ⟨_, _, hrun, ⟨some ⟨g, 0, none⟩, cap, by rw [List.length_append], by rw [List.length_append]; exact hr, hmax, .inr ⟨g, cur', rfl, hg, h2, h3.trans hcs, ?_⟩⟩, setCells_below B g hg _ _ _ _ (Below.refl _ _)⟩
      rw [hsz] at h4
      simp only [Nat.zero_add, Nat.mul_one, List.length_map] at h4
      rw [List.length_append, h4, htk, List.map_append]
  · have hold : (Builtin.firstCells i.size l.length (.slice ao l.length cap)).run P w.drew = .ok (l.map bv).toArray w.drew := by
      rcases hrow with h0 | ⟨g, cur, rfl, hg, hh, hcs, htk⟩
      · have hl0 : l = [] := List.length_eq_zero_iff.1 (by omega)
        subst hl0
        cases ao with
        | none => exact run_firstCells_none _ _ _ _ _
        | some a => exact run_firstCells_some w.drew i.size 0 a 0 cap [] (by simp) (fun j u hu => by simp at hu)
      · exact run_firstCells_some w.drew i.size l.length ⟨g, 0, none⟩ l.length cap (l.map bv) (by rw [hsz]; simp) (fun j u hu => by
          rw [add_plain, Nat.zero_add]
          show w.cell? _ = _
          rw [cell_of_row w g j cur e (0, 0) hh]
          rw [← htk, List.getElem?_take] at hu
          split at hu
          · simpa using hu
          · cases hu)
    have hrun := run_append_grow_src (P := P) w t tx ty e i z ht hi hz ao l.length cap (l.map bv) hold x more.length (more.map bv) hs (by omega) (by omega) (by rw [hby]; exact growslice_fits (by omega) (by omega))
    refine ⟨_, _, hrun, ⟨_, _, by rw [List.length_append], ?_, ?_, .inr ⟨w.heap.size, _, rfl, hB, heap_alloc_new _ _, ?_, ?_⟩⟩, ((Below.refl _ _).drew).alloc hB _⟩
    · rw [List.length_append]; exact grownCap_ge _ _ _ _
    · exact grownCap_le_maxLen _ _ _ _ (by unfold maxLen; omega)
    · have := grownCap_ge w (l.length + more.length) cap e
      simp [Builtin.zeroCells, hzs]
      omega
    · rw [List.length_append, ← List.map_append, Array.toList_append, List.take_append_of_le_length (by simp)]
      exact List.take_of_length_le (by simp)
/-- It reads: its bytes lie behind its address. -/
theorem Own.reads {e : TypeId} {B : Nat} {w : World} {v : Value} {l : List UInt8} (h : Own e B w v l) :
    ∃ A cap b, v = .slice A l.length cap ∧ l.length ≤ cap ∧ cap ≤ maxLen ∧ (0 < l.length → A = some ⟨b, 0, none⟩ ∧ b < w.heap.size) ∧ (0 < l.length → B ≤ b) ∧ ∀ j u, l[j]? = some u → w.cell? ⟨b, 0 + j, none⟩ = some (.int .u8 (u.toNat : Int)) := by
  obtain ⟨ao, cap, rfl, hle, hmax, hrow⟩ := h
  rcases hrow with h0 | ⟨g, cur, rfl, hg, hh, hcs, htk⟩
  · have hl0 : l = [] := List.length_eq_zero_iff.1 (by omega)
    subst hl0
    exact ⟨ao, cap, 0, rfl, hle, hmax, fun h => absurd h (by simp), fun h => absurd h (by simp), fun j u hu => by simp at hu⟩
  · refine ⟨_, cap, g, rfl, hle, hmax, fun _ => ⟨rfl, ?_⟩, fun _ => hg, fun j u hu => ?_⟩
    · rcases Nat.lt_or_ge g w.heap.size with hlt | hge
      · exact hlt
      · rw [Array.getElem?_eq_none hge] at hh; cases hh
    · rw [Nat.zero_add, cell_of_row w g j cur e (0, 0) hh]
      have hj : (l.map bv)[j]? = some (bv u) := by rw [List.getElem?_map, hu]; rfl
      rw [← htk, List.getElem?_take] at hj
      split at hj
      · rw [← Array.getElem?_toList]; exact hj
      · cases hj
/-- What keeps the blocks that are there keeps it. -/
theorem Own.below {e : TypeId} {B : Nat} {w w' : World} {v : Value} {l : List UInt8} (h : Own e B w v l) (hb : Below w.heap.size w w') : Own e B w' v l := by
  obtain ⟨ao, cap, rfl, hle, hmax, hrow⟩ := h
  refine ⟨ao, cap, rfl, hle, hmax, hrow.imp id fun ⟨g, cur, h1, hg, hh, h2⟩ => ⟨g, cur, h1, hg, ?_, h2⟩⟩
  have hlt : g < w.heap.size := by
    rcases Nat.lt_or_ge g w.heap.size with hlt | hge
    · exact hlt
    · rw [Array.getElem?_eq_none hge] at hh; cases hh
  rw [hb.block g hlt]
  exact hh
theorem Own.nil (e : TypeId) (B : Nat) (w : World) (ao : Option Addr) : Own e B w (.slice ao 0 0) [] := ⟨ao, 0, rfl, Nat.le_refl _, Nat.zero_le _, .inl rfl⟩
theorem Own.mono {e : TypeId} {B B' : Nat} {w : World} {v : Value} {l : List UInt8} (h : Own e B w v l) (hb : B' ≤ B) : Own e B' w v l := by
  obtain ⟨ao, cap, h1, hle, hmax, hrow⟩ := h
  exact ⟨ao, cap, h1, hle, hmax, hrow.imp id fun ⟨g, cur, h2, hg, h3⟩ => ⟨g, cur, h2, Nat.le_trans hb hg, h3⟩⟩
end Go.Proofs.Ytdoldjfabgcgbaa
