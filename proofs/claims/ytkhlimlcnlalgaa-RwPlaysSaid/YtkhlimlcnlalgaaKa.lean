/- The lock's queue: a slice, cut ahead, of two cells each. -/
import Derived.Test.YtkhlimlcnlalgaaRr
import Derived.ArgAppend
import Derived.Laws.OwnMore
namespace Go.Proofs.Ytkhlimlcnlalgaa
open Go.RowKit Go.Maps
set_option linter.unusedVariables false
set_option linter.unusedSimpArgs false
set_option maxRecDepth 100000
abbrev Pq := Int × Int
/-- The slice V holds these askers: at whatever place of its block. -/
def Qr (w : World) (B : Nat) (V : Value) (Q : List Pq) : Prop :=
  (V = .slice none 0 0 ∧ Q = []) ∨ ∃ (g off cap : Nat) (cur : Array Value), V = .slice (some ⟨g, off, none⟩) Q.length cap ∧ B ≤ g ∧ w.heap[g]? = some (.cells cur 46 (0, 0)) ∧ Q.length ≤ cap ∧ cap ≤ maxLen ∧ off + cap * 2 ≤ cur.size ∧
    ∀ j p, Q[j]? = some p → cur[off + j * 2]? = some (.int .i64 p.1) ∧ cur[off + j * 2 + 1]? = some (.int .i64 p.2)
def pcells (p : Pq) : List Value := [.int .i64 p.1, .int .i64 p.2]
def qcells (Q : List Pq) : List Value := Q.flatMap pcells
theorem qcells_len : ∀ Q : List Pq, (qcells Q).length = Q.length * 2
  | [] => rfl
  | p :: Q => by
    unfold qcells
    rw [List.flatMap_cons, List.length_append]
    have := qcells_len Q
    unfold qcells at this
    rw [this, List.length_cons]
    show 2 + _ = _
    omega
theorem qcells_get : ∀ (Q : List Pq) (j r : Nat) (p : Pq), Q[j]? = some p → r < 2 → (qcells Q)[j * 2 + r]? = (pcells p)[r]?
  | [], j, r, p, h, _ => by simp at h
  | t :: Q, 0, r, p, h, hr => by
    cases h
    unfold qcells
    rw [List.flatMap_cons, List.getElem?_append_left (by show 0 * 2 + r < 2; omega)]
    congr 1; omega
  | t :: Q, j + 1, r, p, h, hr => by
    unfold qcells
    rw [List.flatMap_cons, List.getElem?_append_right (by show 2 ≤ _; omega)]
    have := qcells_get Q j r p (by simpa using h) hr
    unfold qcells at this
    rw [← this]
    congr 1
    show (j + 1) * 2 + r - 2 = _
    omega
theorem qcells_append (Q Y : List Pq) : qcells (Q ++ Y) = qcells Q ++ qcells Y := by unfold qcells; rw [List.flatMap_append]
theorem qcells_one (Y : List Pq) : ∀ u ∈ qcells Y, u.oneCell' = true := by
  intro u hu
  unfold qcells at hu
  obtain ⟨s, _, hs⟩ := List.mem_flatMap.1 hu
  unfold pcells at hs
  simp at hs
  rcases hs with rfl | rfl <;> rfl
/-- Which place of the cells: an asker's. -/
theorem qcells_inv {Q : List Pq} {i : Nat} {u : Value} (h : (qcells Q)[i]? = some u) : ∃ j p, Q[j]? = some p ∧ (i = j * 2 ∧ u = .int .i64 p.1 ∨ i = j * 2 + 1 ∧ u = .int .i64 p.2) := by
  have hl := (List.getElem?_eq_some_iff.1 h).1
  rw [qcells_len] at hl
  obtain ⟨p, hp⟩ : ∃ p, Q[i / 2]? = some p := ⟨Q[i / 2], List.getElem?_eq_getElem (by omega)⟩
  refine ⟨i / 2, p, hp, ?_⟩
  rcases Nat.mod_two_eq_zero_or_one i with e | e
  · have hi : i = i / 2 * 2 + 0 := by omega
    have := qcells_get Q (i / 2) 0 p hp (by omega)
    rw [← hi, h] at this
    exact .inl ⟨by omega, Option.some.inj this⟩
  · have hi : i = i / 2 * 2 + 1 := by omega
    have := qcells_get Q (i / 2) 1 p hp (by omega)
    rw [← hi, h] at this
    exact .inr ⟨by omega, Option.some.inj this⟩
section
variable {w W : World} {B : Nat} {V : Value} {Q : List Pq}
theorem Qr.sl (h : Qr w B V Q) : ∃ A cap, V = .slice A Q.length cap ∧ Q.length ≤ cap := by
  rcases h with ⟨rfl, rfl⟩ | ⟨g, off, cap, cur, rfl, _, _, h, _⟩
  · exact ⟨none, 0, rfl, by simp⟩
  · exact ⟨_, cap, rfl, h⟩
theorem Qr.lt (h : Qr w B V Q) {j : Nat} (hj : V.ownBlock = some j) : B ≤ j ∧ j < w.heap.size := by
  rcases h with ⟨rfl, rfl⟩ | ⟨g, off, cap, cur, rfl, h1, h2, _⟩
  · cases hj
  · cases hj
    refine ⟨h1, ?_⟩
    rcases Nat.lt_or_ge g w.heap.size with hlt | hge
    · exact hlt
    · rw [Array.getElem?_eq_none hge] at h2; cases h2
theorem Qr.keep (h : Qr w B V Q) (hb : ∀ j, V.ownBlock = some j → W.heap[j]? = w.heap[j]?) : Qr W B V Q := by
  rcases h with h | ⟨g, off, cap, cur, rfl, h1, h2, h3⟩
  · exact .inl h
  · exact .inr ⟨g, off, cap, cur, rfl, h1, (hb g rfl).trans h2, h3⟩
theorem Qr.at (h : Qr w B V Q) {j : Nat} {p : Pq} (hj : Q[j]? = some p) : ∃ g off cap, V = .slice (some ⟨g, off, none⟩) Q.length cap ∧ Q.length ≤ cap ∧ g < w.heap.size ∧ w.cell? ⟨g, off + j * 2, none⟩ = some (.int .i64 p.1) ∧ w.cell? ⟨g, off + j * 2 + 1, none⟩ = some (.int .i64 p.2) := by
  have hlt := fun k (hk : V.ownBlock = some k) => (h.lt hk).2
  rcases h with ⟨rfl, rfl⟩ | ⟨g, off, cap, cur, rfl, h1, h2, h3, _, h5, h6⟩
  · simp at hj
  · obtain ⟨e1, e2⟩ := h6 j p hj
    refine ⟨g, off, cap, rfl, h3, hlt g rfl, ?_, ?_⟩
    · rw [cell_of_row w g _ cur 46 (0, 0) h2]; exact e1
    · rw [cell_of_row w g _ cur 46 (0, 0) h2]; exact e2
theorem Qr.of_row {n : Nat} (h : w.ownsRow B 46 2 V n (qcells Q)) : Qr w B V Q := by
  obtain ⟨h0, ⟨rfl, h2⟩ | ⟨b, cap, cur, rfl, e2, e3, e4, e5, e6, e7⟩⟩ := h
  · rw [qcells_len] at h0
    exact .inl ⟨rfl, List.length_eq_zero_iff.1 (by omega)⟩
  · rw [qcells_len] at h0
    have hn : n = Q.length := by omega
    subst hn
    refine .inr ⟨b, 0, cap, cur, rfl, e2, e3, e4, e5, by omega, fun j p hj => ?_⟩
    have hl := (List.getElem?_eq_some_iff.1 hj).1
    have g0 := qcells_get Q j 0 p hj (by omega)
    have g1 := qcells_get Q j 1 p hj (by omega)
    rw [← e7, List.getElem?_take, if_pos (by omega), Array.getElem?_toList] at g0 g1
    rw [Nat.zero_add]
    exact ⟨g0, g1⟩
end
/-- One more, at whatever slice. -/
theorem Qr.push {w : World} {B : Nat} {V : Value} {Q : List Pq} (h : Qr w B V Q) (hB : B ≤ w.heap.size) (hn : Q.length ≤ 1000000) (ty : TypeId) {ad : Addr} {c : Nat} (p : Pq) (hc : ∀ j u, (pcells p)[j]? = some u → w.cell? (ad.add j) = some u)
    {i : TypeInfo} (hi : Try.prog.info? 46 = some i) (hz : i.zero = some (.agg #[.int .i64 0, .int .i64 0])) (hs : i.size = 2) (hby : i.bytes = 16) :
    ∃ V' w', (Builtin.append_ #[42, 42] ty #[V, .slice (some ad) 1 c]).run Try.prog w = .ok V' w' ∧ Qr w' B V' (Q ++ [p]) ∧ w.grownBy w' V.ownBlock ∧ (∀ k, V'.ownBlock = some k → V.ownBlock = some k ∨ w.heap.size ≤ k) := by
  have hone : ∀ u ∈ pcells p, u.oneCell' = true := by
    intro u hu
    unfold pcells at hu
    simp at hu
    rcases hu with rfl | rfl <;> rfl
  rcases h with ⟨rfl, rfl⟩ | ⟨g, off, cap, cur, rfl, h1, h2, h3, h4, h5, h6⟩
  · obtain ⟨v', w', hrun, r1, r2, r3⟩ := run_append_own (P := Try.prog) w w.heap.size 42 ty 46 i _ 2 16 Try.underlying42 hi hz hs hby rfl (by decide) (.slice none 0 0) 0 [] (World.ownsRow_nil w _ 46 2) ad 1 c (pcells p) rfl hc hone (by unfold maxLen; omega) (by omega) (Nat.le_refl _)
    refine ⟨v', w', hrun, ?_, r2, fun k hk => .inr (r1.lt k hk).1⟩
    have : Qr w' w.heap.size v' [p] := Qr.of_row (n := 0 + 1) (by simpa [qcells] using r1)
    rcases this with ⟨_, h⟩ | ⟨g, off, cap, cur, e, h1, h2⟩
    · cases h
    · exact .inr ⟨g, off, cap, cur, e, by omega, h2⟩
  · by_cases hr : Q.length + 1 ≤ cap
    · have hsp : ∀ j, j < (pcells p).length → (w.cell? ⟨g, off + Q.length * i.size + j, none⟩).isSome = true ∧ w.frozen? ⟨g, off + Q.length * i.size + j, none⟩ = false := by
        intro j hj
        have hj : j < 2 := hj
        rw [hs]
        refine ⟨?_, by simp [World.frozen?, h2]⟩
        rw [cell_of_row w g _ cur 46 (0, 0) h2, Array.getElem?_eq_getElem (by omega)]
        rfl
      have hrun := run_append_room_cells (P := Try.prog) w 42 ty 46 i Try.underlying42 hi g off Q.length cap ad 1 c (pcells p) (by rw [hs]; rfl) hc hone hr (fun j hj => (hsp j hj).1) (fun j hj => (hsp j hj).2)
      rw [hs] at hrun
      refine ⟨_, _, hrun, .inr ⟨g, off, cap, (cur.setIfInBounds (off + Q.length * 2) (.int .i64 p.1)).setIfInBounds (off + Q.length * 2 + 1) (.int .i64 p.2), by rw [List.length_append]; rfl, h1, ?_, by rw [List.length_append]; exact hr, h4, by simpa using h5, fun j r hj => ?_⟩, ?_, fun k hk => .inl hk⟩
      · simp [pcells, World.setCells, World.setCell, Array.getElem?_modify, h2]
      · by_cases hjl : j < Q.length
        · rw [List.getElem?_append_left hjl] at hj
          obtain ⟨e1, e2⟩ := h6 j r hj
          simp only [Array.getElem?_setIfInBounds]
          rw [if_neg (by omega), if_neg (by omega), if_neg (by omega), if_neg (by omega)]
          exact ⟨e1, e2⟩
        · have hje : j = Q.length := by
            have := (List.getElem?_eq_some_iff.1 hj).1
            rw [List.length_append] at this
            simp at this
            omega
          subst hje
          rw [List.getElem?_append_right (Nat.le_refl _), Nat.sub_self] at hj
          cases hj
          simp only [Array.getElem?_setIfInBounds, Array.size_setIfInBounds]
          rw [if_neg (by omega), if_pos trivial, if_pos (by omega), if_pos trivial, if_pos (by omega)]
          exact ⟨rfl, rfl⟩
      · refine ⟨rfl, rfl, rfl, by simp [pcells, World.setCells, World.setCell], fun j hj hne => ?_⟩
        have hne : g ≠ j := fun e => hne (by rw [← e]; rfl)
        exact setCells_other g j hne _ _ _
    · have hlt : g < w.heap.size := by
        rcases Nat.lt_or_ge g w.heap.size with hlt | hge
        · exact hlt
        · rw [Array.getElem?_eq_none hge] at h2; cases h2
      obtain ⟨v', w', hrun, r1, r2⟩ := run_append_arg_grows (P := Try.prog) w 42 ty 46 i _ 2 16 Try.underlying42 hi hz hs hby rfl (by decide) ⟨g, off, none⟩ Q.length cap (qcells Q) (qcells_len Q) (fun j u hj => by
        obtain ⟨k, r, hk, h⟩ := qcells_inv hj
        obtain ⟨e1, e2⟩ := h6 k r hk
        rw [add_plain, cell_of_row w g _ cur 46 (0, 0) h2]
        rcases h with ⟨rfl, rfl⟩ | ⟨rfl, rfl⟩
        · exact e1
        · rw [← Nat.add_assoc]; exact e2) ad 1 c (pcells p) rfl hc (by omega) (by unfold maxLen; omega) (by omega)
      refine ⟨v', w', hrun, ?_, ⟨r2.os, r2.tape, r2.output, r2.size, fun j hj _ => r2.block j hj (by simp)⟩, fun k hk => .inr (r1.lt k hk).1⟩
      have : Qr w' w.heap.size v' (Q ++ [p]) := Qr.of_row (n := Q.length + 1) (by rw [qcells_append]; simpa [qcells] using r1)
      rcases this with ⟨_, h⟩ | ⟨g, off, cap, cur, e, h1, h2⟩
      · simp at h
      · exact .inr ⟨g, off, cap, cur, e, by omega, h2⟩
theorem wpList_qpush {w : World} {ops : Array Oper} {rest : List Oper} {o : Oper} {a : Act} {K : Exit → Act → World → Prop} (hgd : o.guard = none) (s x : Operand)
    (ho : o.op = .call { callee := .builtin .append, args := #[s, x], argTypes := #[42, 42] }) {B : Nat} {V : Value} {Q : List Pq} (h : Qr w B V Q) (hB : B ≤ w.heap.size) (hn : Q.length ≤ 1000000) (hs : a.eval s = V)
    (ad : Addr) (c : Nat) (p : Pq) (hx : a.eval x = .slice (some ad) 1 c) (hc : ∀ j u, (pcells p)[j]? = some u → w.cell? (ad.add j) = some u)
    {i : TypeInfo} (hi : Try.prog.info? 46 = some i) (hz : i.zero = some (.agg #[.int .i64 0, .int .i64 0])) (hs2 : i.size = 2) (hby : i.bytes = 16)
    (hK : ∀ V' w', Qr w' B V' (Q ++ [p]) → w.grownBy w' V.ownBlock → (∀ k, V'.ownBlock = some k → V.ownBlock = some k ∨ w.heap.size ≤ k) → wpList Try.prog ops K rest (a.put o.dst V') w') : wpList Try.prog ops K (o :: rest) a w := by
  refine wpList_plain hgd fun _ hK' => ?_
  obtain ⟨V', w', hrun, h1, h2, h3⟩ := h.push hB hn o.type (ad := ad) (c := c) p hc hi hz hs2 hby
  unfold Oper.wp
  simp [execOp, ho, resolve, invoke, builtin, hs, hx, hrun, Result.andThen]
  exact hK' _ _ (hK V' w' h1 h2 h3)
theorem info46 : (Try.prog.info? 46).map (fun i => (i.zero, i.size, i.bytes)) = some (some (.agg #[.int .i64 0, .int .i64 0]), 2, 16) := by kernel_rfl
end Go.Proofs.Ytkhlimlcnlalgaa
