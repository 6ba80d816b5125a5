/- The reference's hub: who sleeps, in a row of three cells each. -/
import Derived.Test.YtgfaegnpogdneaaHu
namespace Go.Proofs.Ytgfaegnpogdneaa
open Go.RowKit Go.Maps
set_option linter.unusedVariables false
set_option linter.unusedSimpArgs false
set_option maxRecDepth 100000
theorem info52 : (Try.prog.info? 52).map (fun i => (i.zero, i.size, i.bytes)) = some (some (.agg #[.int .i64 0, .int .i64 0, .bool false]), 3, 24) := by kernel_rfl
def cells3 (s : Slp) : List Value := [.int .i64 s.who, .int .i64 s.place, .bool s.woken]
def scells (Z : List Slp) : List Value := Z.flatMap cells3
theorem scells_len : ∀ Z : List Slp, (scells Z).length = Z.length * 3
  | [] => rfl
  | s :: Z => by
    unfold scells
    rw [List.flatMap_cons, List.length_append]
    have := scells_len Z
    unfold scells at this
    rw [this, List.length_cons]
    show 3 + _ = _
    omega
theorem scells_get : ∀ (Z : List Slp) (q r : Nat) (s : Slp), Z[q]? = some s → r < 3 → (scells Z)[q * 3 + r]? = (cells3 s)[r]?
  | [], q, r, s, h, _ => by simp at h
  | t :: Z, 0, r, s, h, hr => by
    cases h
    unfold scells
    rw [List.flatMap_cons, List.getElem?_append_left (by show 0 * 3 + r < 3; omega)]
    congr 1; omega
  | t :: Z, q + 1, r, s, h, hr => by
    unfold scells
    rw [List.flatMap_cons, List.getElem?_append_right (by show 3 ≤ _; omega)]
    have := scells_get Z q r s (by simpa using h) hr
    unfold scells at this
    rw [← this]
    congr 1
    show (q + 1) * 3 + r - 3 = _
    omega
theorem scells_append (Z Y : List Slp) : scells (Z ++ Y) = scells Z ++ scells Y := by unfold scells; rw [List.flatMap_append]
theorem scells_set : ∀ (Z : List Slp) (q : Nat) (s : Slp), Z[q]? = some s → (scells Z).set (q * 3 + 2) (.bool true) = scells (Z.set q ⟨s.who, s.place, true⟩)
  | [], q, s, h => by simp at h
  | t :: Z, 0, s, h => by
    cases h
    rfl
  | t :: Z, q + 1, s, h => by
    have := scells_set Z q s (by simpa using h)
    unfold scells at *
    rw [List.set_cons_succ, List.flatMap_cons, List.flatMap_cons, ← this, List.set_append_right _ _ (by show 3 ≤ _; omega)]
    congr 2
    show (q + 1) * 3 + 2 - 3 = _
    omega
/-- Some row, in whatever memory: what stands in it. -/
theorem row3_slice {w : World} {B : Nat} {V : Value} {n : Nat} {vs : List Value} (h : w.ownsRow B 52 3 V n vs) (hn : 0 < n) : ∃ g cap, V = .slice (some ⟨g, 0, none⟩) n cap ∧ n ≤ cap ∧ cap ≤ maxLen ∧ g < w.heap.size ∧ B ≤ g ∧ ∀ j u, vs[j]? = some u → w.cell? ⟨g, j, none⟩ = some u ∧ w.frozen? ⟨g, j, none⟩ = false := by
  obtain ⟨h0, ⟨_, h2⟩ | ⟨b, cap, cur, rfl, e2, e3, e4, e5, e6, e7⟩⟩ := h
  · omega
  · have hlt : b < w.heap.size := by
      rcases Nat.lt_or_ge b w.heap.size with hlt | hge
      · exact hlt
      · rw [Array.getElem?_eq_none hge] at e3; cases e3
    refine ⟨b, cap, rfl, e4, e5, hlt, e2, fun j u hj => ⟨?_, by simp [World.frozen?, e3]⟩⟩
    rw [cell_of_row w b j cur 52 (0, 0) e3]
    have hl := (List.getElem?_eq_some_iff.1 hj).1
    rw [← e7, List.getElem?_take, if_pos (by omega)] at hj
    rw [← Array.getElem?_toList]; exact hj
theorem row3_keep {W w2 : World} {B : Nat} {v : Value} {n : Nat} {vs : List Value} (h : W.ownsRow B 52 3 v n vs) (hb : ∀ j, v.ownBlock = some j → w2.heap[j]? = W.heap[j]?) : w2.ownsRow B 52 3 v n vs := by
  obtain ⟨h0, h3 | ⟨b, cap, cur, e1, e2, e3, e4⟩⟩ := h
  · exact ⟨h0, .inl h3⟩
  · exact ⟨h0, .inr ⟨b, cap, cur, e1, e2, (hb b (by rw [e1]; rfl)).trans e3, e4⟩⟩
theorem row3_set {W : World} {B n cap g : Nat} {vs : List Value} (h : W.ownsRow B 52 3 (.slice (some ⟨g, 0, none⟩) n cap) n vs) (j : Nat) (u : Value) : (W.setCell ⟨g, j, none⟩ u).ownsRow B 52 3 (.slice (some ⟨g, 0, none⟩) n cap) n (vs.set j u) := by
  obtain ⟨h0, ⟨h3, _⟩ | ⟨b, c, cur, e1, e2, e3, e4, e5, e6, e7⟩⟩ := h
  · cases h3
  · injection e1 with e1a _ e1c
    injection e1a with e1b
    injection e1b with e1d
    subst e1d e1c
    refine ⟨by rw [List.length_set]; exact h0, .inr ⟨g, cap, cur.setIfInBounds j u, rfl, e2, by simp [World.setCell, Array.getElem?_modify, e3], e4, e5, by rw [Array.size_setIfInBounds]; exact e6, ?_⟩⟩
    rw [Array.toList_setIfInBounds, List.take_set, e7]
theorem row3_sl {w : World} {B : Nat} {V : Value} {n : Nat} {vs : List Value} (h : w.ownsRow B 52 3 V n vs) : ∃ A cap, V = .slice A n cap ∧ n ≤ cap := by
  obtain ⟨_, ⟨rfl, e⟩ | ⟨g, cap, cur, rfl, _, _, e, _⟩⟩ := h
  · exact ⟨none, 0, by rw [e], by omega⟩
  · exact ⟨_, cap, rfl, e⟩
structure Rh (w : World) (g C : Nat) (V : Value) (Z : List Slp) : Prop where
  box : Blk w g 29 #[V]
  row : w.ownsRow C 52 3 V Z.length (scells Z)
  ne : V.ownBlock ≠ some g
  ge : C ≤ g
/-- Where x sleeps: the first place. -/
def idx (x : Int) : List Slp → Nat
  | [] => 0
  | s :: Z => if s.who = x then 0 else idx x Z + 1
theorem idx_some {x : Int} : ∀ {Z : List Slp} {s : Slp}, look x Z = some s → idx x Z < Z.length ∧ Z[idx x Z]? = some s
  | [], s, h => by cases h
  | t :: Z, s, h => by
    unfold look at h
    unfold idx
    split at h
    · rename_i e
      cases h
      rw [if_pos e]
      exact ⟨by simp, rfl⟩
    · rename_i e
      rw [if_neg e]
      obtain ⟨h1, h2⟩ := idx_some h
      exact ⟨by simp; omega, by simpa using h2⟩
theorem idx_skip (x : Int) : ∀ (Z : List Slp) (q : Nat) (s : Slp), (∀ t ∈ Z.take q, t.who ≠ x) → Z[q]? = some s → s.who = x → idx x Z = q
  | [], q, s, _, h, _ => by simp at h
  | t :: Z, 0, s, _, h, hx => by
    cases h
    unfold idx
    rw [if_pos hx]
  | t :: Z, q + 1, s, h1, h, hx => by
    have e : t.who ≠ x := h1 t (by simp)
    unfold idx
    rw [if_neg e, idx_skip x Z q s (fun r hr => h1 r (by simp [hr])) (by simpa using h) hx]
section
variable {w W : World} {g C : Nat} {V : Value} {Z : List Slp}
theorem Rh.c0 (h : Rh w g C V Z) : w.cell? ⟨g, 0, none⟩ = some V := h.box.cell 0
theorem Rh.cellOf (h : Rh w g C V Z) {q : Nat} {s : Slp} (hq : Z[q]? = some s) : ∃ b cap, V = .slice (some ⟨b, 0, none⟩) Z.length cap ∧ Z.length ≤ cap ∧ b < w.heap.size ∧ b ≠ g ∧ w.cell? ⟨b, q * 3, none⟩ = some (.int .i64 s.who) ∧ w.cell? ⟨b, q * 3 + 1, none⟩ = some (.int .i64 s.place) ∧ w.cell? ⟨b, q * 3 + 2, none⟩ = some (.bool s.woken) ∧ w.frozen? ⟨b, q * 3 + 2, none⟩ = false := by
  have hl := (List.getElem?_eq_some_iff.1 hq).1
  obtain ⟨b, cap, rfl, h1, h2, h3, h4, h5⟩ := row3_slice h.row (by omega)
  exact ⟨b, cap, rfl, h1, h3, fun e => h.ne (by rw [← e]; rfl), (h5 _ _ (scells_get Z q 0 s hq (by omega))).1, (h5 _ _ (scells_get Z q 1 s hq (by omega))).1, (h5 _ _ (scells_get Z q 2 s hq (by omega))).1, (h5 _ _ (scells_get Z q 2 s hq (by omega))).2⟩
theorem Rh.kept (h : Rh w g C V Z) (hb : Below w.heap.size w W) : Rh W g C V Z :=
  ⟨(hb.block g h.box.lt).trans h.box, row3_keep h.row (fun j hj => hb.block j (h.row.lt j hj).2), h.ne, h.ge⟩
theorem rlen_any (h : Rh w g C V Z) : Calls Try.prog 21 #[.pointer (some ⟨g, 0, none⟩)] w fun e w' => e = .returned (.int .i64 Z.length) ∧ w' = w := by
  have c0 := h.c0
  obtain ⟨A, cap, rfl, _⟩ := row3_sl h.row
  clear h
  go_enter Try.func21, Try.ntmps21
  go_wp2
  go_ret
  exact ⟨rfl, rfl⟩
def idxV (x : Int) (Z : List Slp) : Int := if (look x Z).isSome then (idx x Z : Int) else -1
set_option maxHeartbeats 4000000 in
theorem ridx_any (h : Rh w g C V Z) (hn : Z.length ≤ 1000000) (x : Int) : Calls Try.prog 23 #[.pointer (some ⟨g, 0, none⟩), .int .i64 x] w fun e w' => e = .returned (.int .i64 (idxV x Z)) ∧ w' = w := by
  have c0 := h.c0
  obtain ⟨A, cap, rfl, _⟩ := row3_sl h.row
  have HR := Lib.hid h
  have hnI : (Z.length : Int) ≤ 1000000 := by omega
  obtain ⟨r, hr⟩ : ∃ r, idxV x Z = r := ⟨_, rfl⟩
  have HL := Lib.hid hr
  rw [hr]
  clear hr h
  go_enter Try.func23, Try.ntmps23
  go_wp2
  go_loop [5] (fun i => ∃ q : Nat, q ≤ Z.length ∧ i = .int .i64 (q : Int) ∧ ∀ p ∈ Z.take q, p.who ≠ x) (fun i => Z.length - (intOf i).toNat)
  case atStart => exact ⟨0, Nat.zero_le _, rfl, by simp⟩
  case round =>
    obtain ⟨q, hq, rfl, hall⟩ := hrel
    have HA := Lib.hid hall
    clear hall
    by_cases hql : q < Z.length
    · obtain ⟨s, hs⟩ : ∃ p, Z[q]? = some p := ⟨Z[q], List.getElem?_eq_getElem _⟩
      obtain ⟨b, cap', e0, l1, b1, bg, d1, d2, d3, _⟩ := HR.out.cellOf hs
      cases e0
      have hqI : (q : Int) < (Z.length : Int) := by omega
      have HT := Lib.hid (show Z.take (q + 1) = Z.take q ++ [s] from by rw [List.take_add_one, hs]; rfl)
      have HS := Lib.hid hs
      by_cases hx : s.who = x
      · have H0 := Lib.hid (show r = (q : Int) by
          rw [← HL.out]
          unfold idxV
          have hl : (look x Z).isSome = true := by
            cases hl : look x Z with
            | none => exact absurd hx (look_none hl s (List.mem_of_getElem? hs))
            | some t => rfl
          rw [if_pos hl, idx_skip x Z q s HA.out hs hx])
        have hb : (s.who == x) = true := by simpa using hx
        clear hx hs
        go_wp2
        go_ret
        rw [H0.out]
        exact ⟨rfl, rfl⟩
      · have hb : (s.who == x) = false := by simpa using hx
        have HN := Lib.hid (show ∀ p ∈ Z.take (q + 1), p.who ≠ x by
          rw [HT.out]
          intro p hp
          rcases List.mem_append.1 hp with hp | hp
          · exact HA.out p hp
          · rw [List.mem_singleton.1 hp]; exact hx)
        clear hx hs
        go_wp2
        go_round
        case rel => exact ⟨q + 1, by omega, by go_num, HN.out⟩
        case measure => simp [intOf]; omega
    · obtain rfl : q = Z.length := by omega
      have H0 := Lib.hid (show r = -1 by
        rw [← HL.out]
        unfold idxV
        have hall := HA.out
        rw [List.take_length] at hall
        rw [look_none_of hall]
        rfl)
      go_wp2
      go_ret
      rw [H0.out]
      exact ⟨rfl, rfl⟩
end
end Go.Proofs.Ytgfaegnpogdneaa
