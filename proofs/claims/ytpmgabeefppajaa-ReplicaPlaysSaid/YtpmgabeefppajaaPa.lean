/- The reference's copy: put. -/
import Derived.Test.YtpmgabeefppajaaRd
import Derived.OwnWalk
namespace Go.Proofs.Ytpmgabeefppajaa
open Go.RowKit
open Go.Lib
set_option linter.unusedVariables false
set_option linter.unusedSimpArgs false
set_option maxRecDepth 100000
abbrev KP := ByteArray × (Int × ByteArray)
theorem srt_upto {L : LK} (h : Srt L) {q : Nat} {p : KP} (hp : L[q]? = some p) : ∀ a ∈ L.take q, klt a.1 p.1 = true := by
  intro a ha
  obtain ⟨i, hi, rfl⟩ := List.mem_iff_getElem.1 ha
  obtain ⟨hq, rfl⟩ := List.getElem?_eq_some_iff.1 hp
  simp only [List.length_take] at hi
  rw [List.getElem_take]
  unfold Srt at h
  rw [List.pairwise_iff_getElem] at h
  exact h i q (by omega) hq (by omega)
theorem take_snoc' {L : LK} {q : Nat} {p : KP} (hp : L[q]? = some p) : L.take (q + 1) = L.take q ++ [p] := by rw [List.take_add_one, hp]; rfl
/-- Behind the place. -/
theorem tk1_far {A : LK} {p : KP} {t : It} (h : klt t.u p.1 = true) : tk1 (A ++ [p]) t = tk1 A t ++ [p] := by
  unfold tk1
  split
  · rw [delL_append]
    congr 1
    refine delL_id fun a ha e => ?_
    simp only [List.mem_singleton] at ha
    subst ha
    rw [e, klt_irr] at h
    cases h
  · exact insL_left h A
/-- At the place. -/
theorem tk1_at {A : LK} {p : KP} {t : It} (hA : ∀ a ∈ A, klt a.1 t.u = true) (h : klt p.1 t.u = false) : tk1 (A ++ [p]) t = A ++ (if t.x = true then [] else [(t.u, (t.v, t.c))]) ++ (if p.1 = t.u then [] else [p]) := by
  unfold tk1
  have hne : ∀ a ∈ A, a.1 ≠ t.u := fun a ha e => by have := hA a ha; rw [e, klt_irr] at this; cases this
  by_cases hx : t.x = true
  · rw [if_pos hx, if_pos hx, delL_append, delL_id hne, List.append_nil]
    congr 1
    unfold delL
    by_cases e : p.1 = t.u
    · rw [if_pos e]; simp [e]
    · rw [if_neg e]; simp [e]
  · rw [if_neg hx, if_neg hx, insL_skip A hA, List.append_assoc]
    congr 1
    by_cases e : p.1 = t.u
    · rw [if_pos e]
      simp [insL, e, klt_irr]
    · rw [if_neg e]
      have hk : klt t.u p.1 = true := by
        rcases klt_total e with h2 | h2
        · rw [h2] at h; cases h
        · exact h2
      simp [insL, hk, Ne.symm e]
/-- Nothing at or behind the place. -/
theorem tk1_end {A : LK} {t : It} (hA : ∀ a ∈ A, klt a.1 t.u = true) : tk1 A t = A ++ (if t.x = true then [] else [(t.u, (t.v, t.c))]) := by
  unfold tk1
  have hne : ∀ a ∈ A, a.1 ≠ t.u := fun a ha e => by have := hA a ha; rw [e, klt_irr] at this; cases this
  by_cases hx : t.x = true
  · rw [if_pos hx, if_pos hx, delL_id hne, List.append_nil]
  · rw [if_neg hx, if_neg hx]
    have := insL_skip (v := (t.v, t.c)) (B := []) A hA
    rw [List.append_nil] at this
    rw [this]
    rfl
theorem itsK_append (A B : LK) : itsK (A ++ B) = itsK A ++ itsK B := by unfold itsK; rw [List.map_append]
theorem itsC_append (A B : List It) : itsC (A ++ B) = itsC A ++ itsC B := by unfold itsC; simp
theorem itsK_get {L : LK} {q : Nat} {p : KP} (hp : L[q]? = some p) : (itsK L)[q]? = some ⟨p.1, p.2.1, false, p.2.2⟩ := by unfold itsK; rw [List.getElem?_map, hp]; rfl
/-- Are these two in order, as the walk asks? -/
theorem klt_def (a b : ByteArray) : klt a b = Op.bytesLess a.toList b.toList := rfl
end Go.Proofs.Ytpmgabeefppajaa
