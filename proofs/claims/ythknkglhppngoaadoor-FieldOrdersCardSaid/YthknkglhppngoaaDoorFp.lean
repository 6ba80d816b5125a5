/- Lines of a contact: what a line is parsed to; canonical twice. -/
import Derived.Test.YthknkglhppngoaaDoorFh
namespace Go.Proofs.YthknkglhppngoaaDoor
open Go.RowKit
open Go.Lib hiding intOf
set_option linter.unusedVariables false
set_option maxRecDepth 20000
def pairs : List (Int × Int) := [(1, 0), (1, 1), (1, 2), (1, 3), (2, 0), (2, 1), (2, 2), (2, 3), (3, 0), (3, 1), (3, 2), (3, 3), (4, 0), (4, 1), (4, 2), (4, 3), (5, 0), (5, 1), (5, 2), (5, 3), (6, 0), (6, 1), (6, 2), (6, 3)]
def fits (h v : ByteArray) (k l : Int) : Bool := (h.toList == (headW k l).toList) && mayF k l v
structure Fld where
  k : Int
  l : Int
  v : ByteArray
  e : Int
def noF : Fld := ⟨0, 0, ⟨#[]⟩, 1⟩
def cutH (s : ByteArray) : ByteArray := ⟨(cut s.data.toList [58]).1.toArray⟩
def cutV (s : ByteArray) : ByteArray := ⟨(cut s.data.toList [58]).2.1.toArray⟩
def cutO (s : ByteArray) : Bool := (cut s.data.toList [58]).2.2
def findF (h v : ByteArray) : Fld := match pairs.find? (fun p => fits h v p.1 p.2) with
  | some p => ⟨p.1, p.2, v, 0⟩
  | none => noF
def parseF (s : ByteArray) : Fld := if cutO s = true then findF (cutH s) (cutV s) else noF
theorem in_pairs {k l : Int} (h1 : 1 ≤ k) (h2 : k ≤ 6) (h3 : 0 ≤ l) (h4 : l ≤ 3) : (k, l) ∈ pairs := by
  rcases (show k = 1 ∨ k = 2 ∨ k = 3 ∨ k = 4 ∨ k = 5 ∨ k = 6 by omega) with rfl | rfl | rfl | rfl | rfl | rfl <;> rcases (show l = 0 ∨ l = 1 ∨ l = 2 ∨ l = 3 by omega) with rfl | rfl | rfl | rfl <;> decide
theorem pairs_in : ∀ p ∈ pairs, 1 ≤ p.1 ∧ p.1 ≤ 6 ∧ 0 ≤ p.2 ∧ p.2 ≤ 3 := by decide
theorem fits_head {h v : ByteArray} {k l : Int} (hf : fits h v k l = true) : h = headW k l ∧ mayF k l v = true := by
  unfold fits at hf
  rw [Bool.and_eq_true] at hf
  refine ⟨bs_ext ?_, hf.2⟩
  have := hf.1
  simp only [ByteArray.toList_eq] at this
  exact eq_of_beq this
theorem find_one {h v : ByteArray} {k l : Int} (h1 : 1 ≤ k) (h2 : k ≤ 6) (h3 : 0 ≤ l) (h4 : l ≤ 3) (hf : fits h v k l = true) : findF h v = ⟨k, l, v, 0⟩ := by
  unfold findF
  cases hq : pairs.find? (fun p => fits h v p.1 p.2) with
  | none =>
    have := List.find?_eq_none.1 hq (k, l) (in_pairs h1 h2 h3 h4)
    exact absurd hf this
  | some p =>
    have hp := List.find?_some hq
    obtain ⟨g1, g2, g3, g4⟩ := pairs_in p (List.mem_of_find?_eq_some hq)
    obtain ⟨e1, e2⟩ := head_one h1 h2 h3 h4 g1 g2 g3 g4 ((fits_head hf).1.symm.trans (fits_head hp).1)
    rw [e1, e2]
theorem find_none {h v : ByteArray} (hn : ∀ k l : Int, 1 ≤ k → k ≤ 6 → 0 ≤ l → l ≤ 3 → fits h v k l = false) : findF h v = noF := by
  unfold findF
  have : pairs.find? (fun p => fits h v p.1 p.2) = none := List.find?_eq_none.2 fun p hp => by
    obtain ⟨g1, g2, g3, g4⟩ := pairs_in p hp
    rw [hn _ _ g1 g2 g3 g4]; decide
  rw [this]
theorem find_cases (h v : ByteArray) : (∃ k l, 1 ≤ k ∧ k ≤ 6 ∧ 0 ≤ l ∧ l ≤ 3 ∧ h = headW k l ∧ mayF k l v = true ∧ findF h v = ⟨k, l, v, 0⟩) ∨ findF h v = noF := by
  unfold findF
  cases hq : pairs.find? (fun p => fits h v p.1 p.2) with
  | none => exact .inr rfl
  | some p =>
    have hp := List.find?_some hq
    obtain ⟨g1, g2, g3, g4⟩ := pairs_in p (List.mem_of_find?_eq_some hq)
    obtain ⟨e1, e2⟩ := fits_head hp
    exact .inl ⟨p.1, p.2, g1, g2, g3, g4, e1, e2, rfl⟩
theorem parse_cases (s : ByteArray) : (∃ k l v, mayF k l v = true ∧ lineF k l v = s ∧ parseF s = ⟨k, l, v, 0⟩ ∧ v.size ≤ s.size) ∨ parseF s = noF := by
  unfold parseF
  by_cases hc : (58 : UInt8) ∈ s.data.toList
  · obtain ⟨a, b, e, ha⟩ := first_at _ _ hc
    have hcut := cut_has a b 58 ha
    rw [← e] at hcut
    have h1 : cutO s = true := by unfold cutO; rw [hcut]
    rw [if_pos h1]
    rcases find_cases (cutH s) (cutV s) with ⟨k, l, _, _, _, _, h, hm, hf⟩ | h
    · refine .inl ⟨k, l, cutV s, hm, ?_, hf, ?_⟩
      · unfold lineF
        rw [if_pos hm, ← h]
        apply bs_ext
        rw [app_list, app_list, e]
        unfold cutH cutV
        rw [hcut]
        simp
      · show (cutV s).size ≤ s.size
        unfold cutV
        rw [hcut]
        show b.toArray.size ≤ s.size
        have : s.data.toList.length = s.size := by simp
        rw [e] at this
        simp at this ⊢
        omega
    · exact .inr h
  · have hcut := cut_not s.data.toList 58 hc
    have h1 : cutO s = false := by unfold cutO; rw [hcut]
    rw [h1]
    exact .inr rfl
theorem parse_line {k l : Int} {v : ByteArray} (hm : mayF k l v = true) : parseF (lineF k l v) = ⟨k, l, v, 0⟩ := by
  obtain ⟨h1, h2, h3, h4⟩ := may_kinds hm
  have e : (lineF k l v).data.toList = (headW k l).data.toList ++ 58 :: v.data.toList := by
    unfold lineF; rw [if_pos hm, app_list, app_list]; simp
  have hcut := cut_has (headW k l).data.toList v.data.toList 58 (head_colon (by omega) h2 h3 h4)
  rw [← e] at hcut
  have hh : cutH (lineF k l v) = headW k l := by unfold cutH; rw [hcut]
  have hv : cutV (lineF k l v) = v := by unfold cutV; rw [hcut]
  have ho : cutO (lineF k l v) = true := by unfold cutO; rw [hcut]
  unfold parseF
  rw [if_pos ho, hh, hv]
  refine find_one h1 h2 h3 h4 ?_
  unfold fits
  rw [hm]; simp
end Go.Proofs.YthknkglhppngoaaDoor
