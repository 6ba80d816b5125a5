/- The library's Index, Delete, Clone, at rows of one's own. -/
import Derived.Test.YtgfaegnpogdneaaHa
import Derived.Test.YtgfaegnpogdneaaShelf
namespace Go.Proofs.Ytgfaegnpogdneaa
open Go.RowKit Go.Maps
open Go.Proofs Go.Sort Go.Lib
set_option linter.unusedVariables false
set_option linter.unusedSimpArgs false
set_option maxRecDepth 20000
theorem ivs_len (l : List Int) : (ivs l).length = l.length := by unfold ivs; simp
/-- A row that holds something: where it lies. -/
theorem row_slice {w : World} {B : Nat} {V : Value} {n : Nat} {vs : List Value} (h : w.ownsRow B 3 1 V n vs) (hn : 0 < n) : ∃ g cap, V = .slice (some ⟨g, 0, none⟩) n cap ∧ n ≤ cap ∧ cap ≤ maxLen ∧ g < w.heap.size ∧ B ≤ g ∧ ∀ j u, vs[j]? = some u → w.cell? ⟨g, j, none⟩ = some u ∧ w.frozen? ⟨g, j, none⟩ = false := by
  obtain ⟨h0, ⟨_, h2⟩ | ⟨b, cap, cur, rfl, e2, e3, e4, e5, e6, e7⟩⟩ := h
  · omega
  · have hlt : b < w.heap.size := by
      rcases Nat.lt_or_ge b w.heap.size with hlt | hge
      · exact hlt
      · rw [Array.getElem?_eq_none hge] at e3; cases e3
    refine ⟨b, cap, rfl, e4, e5, hlt, e2, fun j u hj => ⟨?_, by simp [World.frozen?, e3]⟩⟩
    rw [cell_of_row w b j cur 3 (0, 0) e3]
    rw [Nat.mul_one] at h0 e7
    have hl := (List.getElem?_eq_some_iff.1 hj).1
    rw [← e7, List.getElem?_take, if_pos (by omega)] at hj
    rw [← Array.getElem?_toList]; exact hj
theorem ivs_get {l : List Int} {j : Nat} (hj : j < l.length) : (ivs l)[j]? = some (.int .i64 (l.getD j 0)) := by
  unfold ivs
  rw [List.getElem?_map, List.getD_eq_getElem?_getD, List.getElem?_eq_getElem hj]
  rfl
theorem lib_index {w : World} {B : Nat} {V : Value} {l : List Int} (h : w.ownsRow B 3 1 V l.length (ivs l)) {k : Nat} {x : Int} (hk : k < l.length) (hx : l.getD k 0 = x) (hne : ∀ j, j < k → l.getD j 0 ≠ x) : Calls Try.prog 24 #[V, .int .i64 x] w fun e w' => e = .returned (.int .i64 (k : Int)) ∧ w' = w := by
  obtain ⟨g, cap, rfl, h1, h2, h3, _, h4⟩ := row_slice h (by omega)
  unfold maxLen at h2
  have := Try.slices_Index_int g 0 l.length cap l x w (Nat.le_refl _) (by omega) (fun j hj => by rw [Nat.zero_add]; exact (h4 j _ (ivs_get hj)).1)
  rw [idxOf_hit l l.length k x hk (Nat.le_refl _) hx hne] at this
  exact this
theorem lib_delete {w : World} {B g cap : Nat} {l : List Int} (h : w.ownsRow B 3 1 (.slice (some ⟨g, 0, none⟩) l.length cap) l.length (ivs l)) {k : Nat} (hk : k < l.length) : Calls Try.prog 25 #[.slice (some ⟨g, 0, none⟩) l.length cap, .int .i64 (k : Int), .int .i64 ((k : Int) + 1)] w fun e w' => e = .returned (.slice (some ⟨g, 0, none⟩) (l.length - 1) cap) ∧ w'.ownsRow B 3 1 (.slice (some ⟨g, 0, none⟩) (l.length - 1) cap) (l.length - 1) (ivs (l.eraseIdx k)) ∧ w.grownBy w' (some g) ∧ w'.heap.size = w.heap.size := by
  have H := h
  obtain ⟨g', cap', e, h1, h2, h3, hB, h4⟩ := row_slice h (by omega)
  cases e
  have hH : Holds (Value.int .i64) w g 0 l.toArray := fun j hj => by
    have hj' : j < l.length := by simpa using hj
    rw [Nat.zero_add]
    obtain ⟨c1, c2⟩ := h4 j _ (ivs_get hj')
    refine ⟨c1.trans ?_, c2⟩
    rw [getElem!_pos l.toArray j hj]
    simp [List.getD_eq_getElem?_getD, List.getElem?_eq_getElem hj']
  have := Try.slices_Delete_int g 0 cap k (k + 1) l w hH h1 (by unfold maxLen at h2; omega) (by omega) (by omega)
  rw [show (((k + 1 : Nat)) : Int) = (k : Int) + 1 by omega, show k + 1 - k = 1 by omega] at this
  refine this.mono ?_
  rintro e w' ⟨rfl, q, rfl⟩
  obtain ⟨h0, ⟨h5, _⟩ | ⟨b, c, cur, e1, e2, e3, e4, e5, e6, e7⟩⟩ := H
  · cases h5
  cases e1
  obtain ⟨d, hd⟩ : ∃ d, (l.take k ++ l.drop (k + 1) ++ List.replicate 1 0) = d := ⟨_, rfl⟩
  have hdl : d.length = l.length := by
    rw [← hd]
    simp
    omega
  rw [hd]
  have hE : l.eraseIdx k = d.take (l.length - 1) := by
    have e : (l.take k ++ l.drop (k + 1)).length = l.length - 1 := by rw [List.length_append, List.length_take, List.length_drop]; omega
    rw [← hd, List.eraseIdx_eq_take_drop_succ, ← e, List.take_left]
  refine ⟨rfl, ⟨?_, .inr ⟨g, cap, putCells (Value.int .i64) 0 d.toArray cur, rfl, e2, ?_, by omega, e5, ?_, ?_⟩⟩, ⟨rfl, rfl, rfl, ?_, fun j hj hne => ?_⟩, ?_⟩
  · rw [ivs_len, List.length_eraseIdx, if_pos hk, Nat.mul_one]
  · show (w.heap.modify g (onCells _))[g]? = _
    rw [Array.getElem?_modify, if_pos rfl, e3]
    rfl
  · unfold putCells
    rw [Array.size_mapIdx]; exact e6
  · rw [Nat.mul_one] at e6 ⊢
    apply List.ext_getElem?
    intro j
    rw [List.getElem?_take]
    by_cases hj : j < l.length - 1
    · rw [if_pos hj]
      have hjc : j < cur.size := by omega
      unfold putCells
      rw [Array.getElem?_toList, Array.getElem?_mapIdx, Array.getElem?_eq_getElem hjc, Option.map_some, if_pos ⟨Nat.zero_le _, by simp; omega⟩, hE]
      unfold ivs
      rw [List.getElem?_map, List.getElem?_take, if_pos hj, List.getElem?_eq_getElem (by omega)]
      rw [Nat.sub_zero, getElem!_pos d.toArray j (by simp; omega)]
      rfl
    · rw [if_neg hj, List.getElem?_eq_none]
      rw [ivs_len, List.length_eraseIdx, if_pos hk]; omega
  · show _ ≤ (w.heap.modify g (onCells _)).size
    rw [Array.size_modify]; exact Nat.le_refl _
  · show (w.heap.modify g (onCells _))[j]? = _
    rw [Array.getElem?_modify, if_neg (fun e => hne (by rw [e]))]
  · show (w.heap.modify g (onCells _)).size = _
    rw [Array.size_modify]
theorem lib_clone {w : World} {B : Nat} {V : Value} {l : List Int} (h : w.ownsRow B 3 1 V l.length (ivs l)) (hl : l.length ≤ 1000000) : Calls Try.prog 26 #[V] w fun e w' => ∃ V', e = .returned V' ∧ w'.ownsRow w.heap.size 3 1 V' l.length (ivs l) ∧ Below w.heap.size w w' := by
  rcases Nat.eq_zero_or_pos l.length with h0 | h0
  · have hnil : l = [] := List.length_eq_zero_iff.1 h0
    subst hnil
    obtain ⟨_, ⟨rfl, _⟩ | ⟨b, c, cur, rfl, _⟩⟩ := h
    · refine (Try.slices_Clone_int_nil 0 0 w).mono ?_
      rintro e w' ⟨rfl, rfl⟩
      exact ⟨_, rfl, World.ownsRow_nil _ _ _ _, Below.refl _ _⟩
    · refine (Try.slices_Clone_int_zero _ _ w).mono ?_
      rintro e w' ⟨v', rfl, h1, _, h2⟩
      exact ⟨_, rfl, h1, h2⟩
  · obtain ⟨g, cap, rfl, h1, h2, h3, _, h4⟩ := row_slice h h0
    refine (Try.slices_Clone_int g 0 l.length cap l w (Nat.le_refl _) (by omega) (fun j hj => by rw [Nat.zero_add]; exact (h4 j _ (ivs_get hj)).1)).mono ?_
    rintro e w' ⟨v', rfl, h1, _, h2⟩
    rw [List.take_length] at h1
    exact ⟨_, rfl, h1, h2⟩
end Go.Proofs.Ytgfaegnpogdneaa
