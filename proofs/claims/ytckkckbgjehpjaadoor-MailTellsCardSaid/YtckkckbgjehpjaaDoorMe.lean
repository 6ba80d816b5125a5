/- Addresses: the reference's Parts, IsMail, Mail, SameMail. -/
import Derived.Test.YtckkckbgjehpjaaDoorMd
import Derived.Test.YtckkckbgjehpjaaDoorMq
import Derived.Test.YtckkckbgjehpjaaDoorRk
import Derived.Deep.RegionWith
namespace Go.Proofs.YtckkckbgjehpjaaDoor
open Go.RowKit
open Go.Lib hiding intOf
set_option linter.unusedVariables false
set_option maxRecDepth 20000
/-- The last @ among the first k. -/
def lastK (l : List UInt8) : Nat → Int
  | 0 => -1
  | k + 1 => if l.getD k 0 = 64 then (k : Int) else lastK l k
theorem lastK_range (l : List UInt8) : ∀ k, -1 ≤ lastK l k ∧ lastK l k < (k : Int)
  | 0 => by simp [lastK]
  | k + 1 => by
    have := lastK_range l k
    unfold lastK
    split <;> omega
theorem lastK_spec (l : List UInt8) : ∀ k, k ≤ l.length → (lastK l k = -1 ∧ ∀ j, j < k → l.getD j 0 ≠ 64) ∨ (∃ i : Nat, i < k ∧ lastK l k = i ∧ l.getD i 0 = 64 ∧ ∀ j, i < j → j < k → l.getD j 0 ≠ 64)
  | 0, _ => .inl ⟨rfl, fun _ h => absurd h (Nat.not_lt_zero _)⟩
  | k + 1, hk => by
    unfold lastK
    by_cases h : l.getD k 0 = 64
    · rw [if_pos h]; exact .inr ⟨k, by omega, rfl, h, fun j h1 h2 => absurd h1 (by omega)⟩
    · rw [if_neg h]
      rcases lastK_spec l k (by omega) with ⟨h1, h2⟩ | ⟨i, h1, h2, h3, h4⟩
      · exact .inl ⟨h1, fun j hj => by
          rcases Nat.lt_or_ge j k with h5 | h5
          · exact h2 j h5
          · have : j = k := by omega
            rw [this]; exact h⟩
      · exact .inr ⟨i, by omega, h2, h3, fun j h5 h6 => by
          rcases Nat.lt_or_ge j k with h7 | h7
          · exact h4 j h5 h7
          · have : j = k := by omega
            rw [this]; exact h⟩
theorem last_split (l : List UInt8) : (lastK l l.length = -1 ∧ (64 : UInt8) ∉ l) ∨ ∃ a b, l = a ++ 64 :: b ∧ (64 : UInt8) ∉ b ∧ lastK l l.length = (a.length : Int) := by
  rcases lastK_spec l l.length (Nat.le_refl _) with ⟨h1, h2⟩ | ⟨i, h1, h2, h3, h4⟩
  · refine .inl ⟨h1, fun hm => ?_⟩
    obtain ⟨j, hj, e⟩ := List.mem_iff_getElem.1 hm
    apply h2 j hj
    rw [List.getD_eq_getElem?_getD, List.getElem?_eq_getElem hj]; exact e
  · refine .inr ⟨l.take i, l.drop (i + 1), ?_, fun hm => ?_, by rw [h2, List.length_take]; omega⟩
    · have h5 : l[i] = 64 := by rw [List.getD_eq_getElem?_getD, List.getElem?_eq_getElem h1] at h3; exact h3
      have := (List.take_append_drop i l).symm
      rw [List.drop_eq_getElem_cons h1, h5] at this
      exact this
    · obtain ⟨j, hj, e⟩ := List.mem_iff_getElem.1 hm
      rw [List.length_drop] at hj
      rw [List.getElem_drop] at e
      apply h4 (i + 1 + j) (by omega) (by omega)
      rw [List.getD_eq_getElem?_getD, List.getElem?_eq_getElem (by omega)]; exact e
/-- What the reference finds at the last @. -/
theorem parts_last (s : ByteArray) (a b : List UInt8) (e : s.data.toList = a ++ 64 :: b) (hb : (64 : UInt8) ∉ b) :
    partsS s = if (decide ((s.size : Int) ≤ 64) && localB a && domB b) = true then (⟨a.toArray⟩, ⟨b.toArray⟩, true) else (⟨#[]⟩, ⟨#[]⟩, false) := by
  have hsl : s.data.toList.length = s.size := by simp
  unfold partsS partsOf
  by_cases ha : (64 : UInt8) ∈ a
  · have h1 : localB a = false := by
      cases h : localB a with
      | false => rfl
      | true => exact absurd rfl (locC_range 64 (local_chars h 64 ha)).2.2
    have h2 : domB (cut s.data.toList [64]).2.1 = false := by
      obtain ⟨p, q, e2, hp⟩ := first_at a 64 ha
      have e3 : s.data.toList = p ++ 64 :: (q ++ 64 :: b) := by rw [e, e2]; simp
      rw [e3, cut_has p _ 64 hp]
      cases h : domB (q ++ 64 :: b) with
      | false => rfl
      | true => exact absurd rfl (dom_range (dom_all h) 64 (by simp)).2.2.1
    rw [bs_list, bs_list, h1, h2]
    simp
  · rw [e, cut_has a b 64 ha, bs_list, bs_list, Bool.true_and]
theorem parts_no (s : ByteArray) (h : (64 : UInt8) ∉ s.data.toList) : partsS s = (⟨#[]⟩, ⟨#[]⟩, false) := by
  unfold partsS partsOf
  rw [cut_not _ 64 h]; rfl
end Go.Proofs.YtckkckbgjehpjaaDoor
