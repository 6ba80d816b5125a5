/- The reference's clock: All: what is put where; rows that are turned. -/
import Derived.Test.YtchjgojagmhpeaaRb
namespace Go.Proofs.Ytchjgojagmhpeaa
open Go.RowKit Go.Maps
open Go.Lib
set_option linter.unusedVariables false
set_option linter.unusedSimpArgs false
set_option maxRecDepth 100000
/-- Is p ahead of q? by time, of one time by number. -/
def ahdB (p q : Int × Int) : Bool := decide (p.2 < q.2) || (decide (q.2 = p.2) && decide (p.1 < q.1))
def posP (p : Int × Int) (K : List (Int × Int)) : Nat → Nat
  | 0 => 0
  | k + 1 => match K[k]? with
    | some r => if ahdB p r = true then posP p K k else k + 1
    | none => k + 1
def putAt (p : Int × Int) (K : List (Int × Int)) (k : Nat) : List (Int × Int) := K.take k ++ p :: K.drop k
def rIns (K : List (Int × Int)) (p : Int × Int) : List (Int × Int) := putAt p K (posP p K K.length)
def rAll (now : Int) (L : List (Int × Int)) : List (Int × Int) := (L.filter (fun p => decide (p.2 ≤ now))).foldl rIns []
theorem putAt_len (p : Int × Int) (K : List (Int × Int)) (k : Nat) (h : k ≤ K.length) : (putAt p K k).length = K.length + 1 := by
  unfold putAt
  rw [List.length_append, List.length_cons, List.length_take, List.length_drop]
  omega
theorem putAt_at (p : Int × Int) (K : List (Int × Int)) (k : Nat) (h : k ≤ K.length) : (putAt p K k)[k]? = some p := by
  unfold putAt
  rw [List.getElem?_append_right (by rw [List.length_take]; omega), List.length_take, Nat.min_eq_left h, Nat.sub_self]
  rfl
theorem putAt_left (p : Int × Int) (K : List (Int × Int)) (k j : Nat) (h : k ≤ K.length) (hj : j < k) : (putAt p K k)[j]? = K[j]? := by
  unfold putAt
  rw [List.getElem?_append_left (by rw [List.length_take]; omega), List.getElem?_take, if_pos hj]
theorem putAt_end (p : Int × Int) (K : List (Int × Int)) : putAt p K K.length = K ++ [p] := by
  unfold putAt
  rw [List.take_length, List.drop_length]
/-- One place back. -/
theorem putAt_swap (p r : Int × Int) (K : List (Int × Int)) (k : Nat) (h : k + 1 ≤ K.length) (hr : K[k]? = some r) : ((putAt p K (k + 1)).set k p).set (k + 1) r = putAt p K k := by
  apply List.ext_getElem?
  intro j
  have hl := putAt_len p K (k + 1) h
  rw [List.getElem?_set, List.getElem?_set]
  by_cases h1 : k + 1 = j
  · subst h1
    rw [if_pos rfl, if_pos (by rw [List.length_set, hl]; omega)]
    unfold putAt
    rw [List.getElem?_append_right (by rw [List.length_take]; omega), List.length_take, Nat.min_eq_left (by omega), show k + 1 - k = 1 by omega, List.getElem?_cons_succ, List.getElem?_drop, Nat.add_zero, hr]
  · rw [if_neg h1]
    by_cases h2 : k = j
    · subst h2
      rw [if_pos rfl, if_pos (by rw [hl]; omega), putAt_at p K k (by omega)]
    · rw [if_neg h2]
      by_cases h3 : j < k
      · rw [putAt_left p K (k + 1) j h (by omega), putAt_left p K k j (by omega) h3]
      · unfold putAt
        rw [List.getElem?_append_right (by rw [List.length_take]; omega), List.getElem?_append_right (by rw [List.length_take]; omega), List.length_take, List.length_take, Nat.min_eq_left h, Nat.min_eq_left (by omega)]
        obtain ⟨m, rfl⟩ : ∃ m, j = k + 2 + m := ⟨j - (k + 2), by omega⟩
        rw [show k + 2 + m - (k + 1) = m + 1 by omega, show k + 2 + m - k = m + 1 + 1 by omega, List.getElem?_cons_succ, List.getElem?_cons_succ, List.getElem?_drop, List.getElem?_drop]
        congr 1
        omega
theorem rAll_snoc (now : Int) (L : List (Int × Int)) (q : Nat) (p : Int × Int) (h : L[q]? = some p) : rAll now (L.take (q + 1)) = if p.2 ≤ now then rIns (rAll now (L.take q)) p else rAll now (L.take q) := by
  unfold rAll
  rw [List.take_add_one, h]
  by_cases hp : p.2 ≤ now
  · rw [if_pos hp, List.filter_append, List.foldl_append]
    simp [hp]
  · rw [if_neg hp, List.filter_append]
    simp [hp]
theorem rIns_len (K : List (Int × Int)) (p : Int × Int) : (rIns K p).length = K.length + 1 := by
  unfold rIns
  refine putAt_len p K _ ?_
  have : ∀ k, k ≤ K.length → posP p K k ≤ K.length := by
    intro k
    induction k with
    | zero => intro _; exact Nat.zero_le _
    | succ k ih =>
      intro hk
      unfold posP
      split
      · split
        · exact ih (by omega)
        · omega
      · omega
  exact this _ (Nat.le_refl _)
theorem foldl_len : ∀ (M K : List (Int × Int)), (M.foldl rIns K).length = K.length + M.length
  | [], K => by simp
  | p :: M, K => by
    rw [List.foldl_cons, foldl_len M, rIns_len, List.length_cons]
    omega
theorem rAll_le (now : Int) (L : List (Int × Int)) : (rAll now L).length ≤ L.length := by
  unfold rAll
  rw [foldl_len, List.length_nil, Nat.zero_add]
  exact List.length_filter_le _ _
section
variable {W : World} {B n cap g : Nat} {vs : List Value}
theorem row_at (h : W.ownsRow B 3 1 (.slice (some ⟨g, 0, none⟩) n cap) n vs) {j : Nat} {u : Value} (hj : vs[j]? = some u) : W.cell? ⟨g, j, none⟩ = some u ∧ W.frozen? ⟨g, j, none⟩ = false := by
  obtain ⟨h0, ⟨h3, _⟩ | ⟨b, c, cur, e1, e2, e3, e4, e5, e6, e7⟩⟩ := h
  · cases h3
  · injection e1 with e1a _ e1c
    injection e1a with e1b
    injection e1b with e1d
    subst e1d e1c
    rw [Nat.mul_one] at h0 e6 e7
    have hl := (List.getElem?_eq_some_iff.1 hj).1
    refine ⟨?_, by simp [World.frozen?, e3]⟩
    rw [cell_of_row W g j cur 3 (0, 0) e3]
    rw [← e7, List.getElem?_take, if_pos (by omega)] at hj
    rw [← Array.getElem?_toList]; exact hj
theorem row_set (h : W.ownsRow B 3 1 (.slice (some ⟨g, 0, none⟩) n cap) n vs) (j : Nat) (u : Value) : (W.setCell ⟨g, j, none⟩ u).ownsRow B 3 1 (.slice (some ⟨g, 0, none⟩) n cap) n (vs.set j u) := by
  obtain ⟨h0, ⟨h3, _⟩ | ⟨b, c, cur, e1, e2, e3, e4, e5, e6, e7⟩⟩ := h
  · cases h3
  · injection e1 with e1a _ e1c
    injection e1a with e1b
    injection e1b with e1d
    subst e1d e1c
    refine ⟨by rw [List.length_set]; exact h0, .inr ⟨g, cap, cur.setIfInBounds j u, rfl, e2, by simp [World.setCell, Array.getElem?_modify, e3], e4, e5, by rw [Array.size_setIfInBounds]; exact e6, ?_⟩⟩
    rw [Array.toList_setIfInBounds, List.take_set, e7]
theorem row_other {k : Nat} (h : W.ownsRow B 3 1 (.slice (some ⟨g, 0, none⟩) n cap) n vs) (hk : g ≠ k) (j : Nat) (u : Value) : (W.setCell ⟨k, j, none⟩ u).ownsRow B 3 1 (.slice (some ⟨g, 0, none⟩) n cap) n vs :=
  row_keep h (fun i hi => Below.heap_setCell W ⟨k, j, none⟩ u i (by obtain rfl : g = i := Option.some.inj hi; exact hk))
end
end Go.Proofs.Ytchjgojagmhpeaa
