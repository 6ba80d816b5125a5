/- OmapPlays: a place in a rising list, and what puts and takes do there. -/
import Derived.Test.YtmapfbnfcbkjpaaLc
namespace Go.Proofs.Ytmapfbnfcbkjpaa
open Go.RowKit
open Go.Lib
set_option linter.unusedVariables false
set_option linter.unusedSimpArgs false
theorem lplace_all {x : ByteArray} (v : Int) : ∀ {L : LI}, Srt L →
    ((lplace x (keysL L)).2 = true → ∃ u, L[(lplace x (keysL L)).1]? = some (x, u)) ∧
    insL x v L = (if (lplace x (keysL L)).2 = true then L.set (lplace x (keysL L)).1 (x, v) else L.take (lplace x (keysL L)).1 ++ (x, v) :: L.drop (lplace x (keysL L)).1) ∧
    delL x L = (if (lplace x (keysL L)).2 = true then L.eraseIdx (lplace x (keysL L)).1 else L) ∧
    getL x L = (if (lplace x (keysL L)).2 = true then (L[(lplace x (keysL L)).1]?).map Prod.snd else none) ∧
    plc x L = (lplace x (keysL L)).1
  | [], _ => ⟨fun h => (by cases h), rfl, rfl, rfl, rfl⟩
  | p :: L, hs => by
    obtain ⟨h1, h2⟩ := List.pairwise_cons.1 hs
    have e : lplace x (keysL (p :: L)) = if klt p.1 x = true then ((lplace x (keysL L)).1 + 1, (lplace x (keysL L)).2) else (0, decide (p.1 = x)) := rfl
    by_cases hlt : klt p.1 x = true
    · rw [if_pos hlt] at e
      rw [e]
      obtain ⟨i1, i2, i3, i4, i5⟩ := lplace_all v h2
      have hne : p.1 ≠ x := fun e => by rw [e, klt_irr] at hlt; cases hlt
      refine ⟨fun h => ?_, ?_, ?_, ?_, ?_⟩
      · simpa using i1 h
      · have e3 : insL x v (p :: L) = p :: insL x v L := by
          conv => lhs; unfold insL
          rw [if_neg (by rw [klt_asym hlt]; decide), if_neg (fun e => hne e.symm)]
        rw [e3, i2]
        simp only
        split
        · rfl
        · rfl
      · have e3 : delL x (p :: L) = p :: delL x L := by unfold delL; rw [List.filter_cons, if_pos (by simpa using hne)]
        rw [e3, i3]
        simp only
        split
        · rfl
        · rfl
      · rw [getL_cons, if_neg (fun e => hne e.symm), i4]
        simp
      · show (List.filter _ (p :: L)).length = _
        rw [List.filter_cons, if_pos hlt, List.length_cons]
        have : plc x L = (L.filter fun q => klt q.1 x).length := rfl
        rw [← this, i5]
    · rw [if_neg hlt] at e
      rw [e]
      by_cases he : p.1 = x
      · have hgt : ∀ a ∈ L, klt x a.1 = true := fun a ha => he ▸ h1 a ha
        rw [decide_eq_true he]
        refine ⟨fun _ => ⟨p.2, ?_⟩, ?_, ?_, ?_, ?_⟩
        · show some p = _
          rw [← he]
        · conv => lhs; unfold insL
          rw [if_neg (by rw [← he, klt_irr]; decide), if_pos he.symm]
          rfl
        · show delL x (p :: L) = L
          unfold delL
          rw [List.filter_cons, if_neg (by simp [he])]
          exact delL_id (fun a ha e => by have := hgt a ha; rw [e, klt_irr] at this; cases this)
        · rw [getL_cons, if_pos he.symm]; rfl
        · show (List.filter _ (p :: L)).length = 0
          rw [List.filter_cons, if_neg hlt]
          rw [List.filter_eq_nil_iff.2 (fun a ha e => by rw [klt_asym (hgt a ha)] at e; cases e)]
          rfl
      · have hxp : klt x p.1 = true := by
          rcases klt_total he with e | e
          · exact absurd e hlt
          · exact e
        have hgt : ∀ a ∈ p :: L, klt x a.1 = true := fun a ha => by
          rcases List.mem_cons.1 ha with rfl | ha
          · exact hxp
          · exact klt_trans hxp (h1 a ha)
        rw [decide_eq_false he]
        have hne : ∀ a ∈ p :: L, a.1 ≠ x := fun a ha e => by have := hgt a ha; rw [e, klt_irr] at this; cases this
        refine ⟨fun h => (by cases h), ?_, delL_id hne, getL_none hne, ?_⟩
        · conv => lhs; unfold insL
          rw [if_pos hxp]
          rfl
        · show (List.filter _ (p :: L)).length = 0
          rw [List.filter_eq_nil_iff.2 (fun a ha e => by rw [klt_asym (hgt a ha)] at e; cases e)]
          rfl
def valsL (L : LI) : List Int := L.map Prod.snd
theorem keysL_ins (L : LI) (k : Nat) (x : ByteArray) (v : Int) : keysL (L.take k ++ (x, v) :: L.drop k) = (keysL L).take k ++ x :: (keysL L).drop k := by unfold keysL; simp [List.map_take, List.map_drop]
theorem valsL_ins (L : LI) (k : Nat) (x : ByteArray) (v : Int) : valsL (L.take k ++ (x, v) :: L.drop k) = (valsL L).take k ++ v :: (valsL L).drop k := by unfold valsL; simp [List.map_take, List.map_drop]
theorem erase_cut {α : Type} : ∀ (l : List α) (k : Nat), l.eraseIdx k = l.take k ++ l.drop (k + 1)
  | [], k => by simp
  | a :: l, 0 => rfl
  | a :: l, k + 1 => by
    show a :: l.eraseIdx k = a :: (l.take k ++ l.drop (k + 1))
    rw [erase_cut l k]
theorem keysL_del (L : LI) (k : Nat) : keysL (L.eraseIdx k) = (keysL L).take k ++ (keysL L).drop (k + 1) := by rw [erase_cut]; unfold keysL; simp [List.map_take, List.map_drop]
theorem valsL_del (L : LI) (k : Nat) : valsL (L.eraseIdx k) = (valsL L).take k ++ (valsL L).drop (k + 1) := by rw [erase_cut]; unfold valsL; simp [List.map_take, List.map_drop]
end Go.Proofs.Ytmapfbnfcbkjpaa
