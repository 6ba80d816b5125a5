/- Which text is ahead: what the order bears out. -/
import Derived.Test.YtbigenlmbomoeaaDoorLs
import Derived.Sort.Walk0
namespace Go.Proofs.YtbigenlmbomoeaaDoor
open Go.RowKit
set_option linter.unusedVariables false
theorem bl_irr : ∀ l : List UInt8, Op.bytesLess l l = false
  | [] => rfl
  | a :: x => by simp [Op.bytesLess, bl_irr x]
theorem bl_asym : ∀ l m : List UInt8, Op.bytesLess l m = true → Op.bytesLess m l = false
  | _, [], h => by cases h' : ‹List UInt8› <;> simp_all [Op.bytesLess]
  | [], _ :: _, _ => by simp [Op.bytesLess]
  | a :: x, b :: y, h => by
    simp only [Op.bytesLess, Bool.or_eq_true, decide_eq_true_eq, Bool.and_eq_true, beq_iff_eq] at h
    simp only [Op.bytesLess, Bool.or_eq_false_iff, decide_eq_false_iff_not, Bool.and_eq_false_imp, beq_iff_eq]
    rcases h with h | ⟨rfl, h⟩
    · exact ⟨UInt8.lt_asymm h, fun e => by subst e; exact absurd h (UInt8.lt_irrefl _)⟩
    · exact ⟨UInt8.lt_irrefl _, fun _ => bl_asym x y h⟩
theorem bl_total : ∀ l m : List UInt8, l ≠ m → Op.bytesLess l m = true ∨ Op.bytesLess m l = true
  | [], [], h => absurd rfl h
  | [], _ :: _, _ => by simp [Op.bytesLess]
  | _ :: _, [], _ => by simp [Op.bytesLess]
  | a :: x, b :: y, h => by
    simp only [Op.bytesLess, Bool.or_eq_true, decide_eq_true_eq, Bool.and_eq_true, beq_iff_eq]
    by_cases e : a = b
    · subst e
      rcases bl_total x y (fun e => h (by rw [e])) with h1 | h1
      · exact .inl (.inr ⟨rfl, h1⟩)
      · exact .inr (.inr ⟨rfl, h1⟩)
    · rcases UInt8.lt_or_lt_of_ne e with h1 | h1
      · exact .inl (.inl h1)
      · exact .inr (.inl h1)
theorem bl_trans : ∀ l m n : List UInt8, Op.bytesLess l m = true → Op.bytesLess m n = true → Op.bytesLess l n = true
  | _, _, [], _, h => by simp [Op.bytesLess] at h
  | _, [], _ :: _, h, _ => by simp [Op.bytesLess] at h
  | [], _ :: _, _ :: _, _, _ => by simp [Op.bytesLess]
  | a :: x, b :: y, c :: z, h1, h2 => by
    simp only [Op.bytesLess, Bool.or_eq_true, decide_eq_true_eq, Bool.and_eq_true, beq_iff_eq] at h1 h2 ⊢
    rcases h1 with h1 | ⟨rfl, h1⟩
    · rcases h2 with h2 | ⟨rfl, h2⟩
      · exact .inl (UInt8.lt_trans h1 h2)
      · exact .inl h1
    · rcases h2 with h2 | ⟨rfl, h2⟩
      · exact .inl h2
      · exact .inr ⟨rfl, bl_trans x y z h1 h2⟩
theorem less_irr (a : ByteArray) : lessS a a = false := by unfold lessS; rw [if_pos rfl]; exact bl_irr _
theorem less_asym (a b : ByteArray) (h : lessS a b = true) : lessS b a = false := by
  unfold lessS at h ⊢
  by_cases e : lowS a = lowS b
  · rw [if_pos e] at h; rw [if_pos e.symm]; exact bl_asym _ _ h
  · rw [if_neg e] at h; rw [if_neg (fun h => e h.symm)]; exact bl_asym _ _ h
theorem less_total (a b : ByteArray) (h : a ≠ b) : lessS a b = true ∨ lessS b a = true := by
  unfold lessS
  by_cases e : lowS a = lowS b
  · rw [if_pos e, if_pos e.symm]
    exact bl_total _ _ (fun h' => h (bs_ext (by rwa [toL, toL] at h')))
  · rw [if_neg e, if_neg (fun h => e h.symm)]
    exact bl_total _ _ (fun h' => e (bs_ext (by rwa [toL, toL] at h')))
theorem less_trans (a b c : ByteArray) (h1 : lessS a b = true) (h2 : lessS b c = true) : lessS a c = true := by
  unfold lessS at h1 h2 ⊢
  by_cases e1 : lowS a = lowS b
  · rw [if_pos e1] at h1
    by_cases e2 : lowS b = lowS c
    · rw [if_pos e2] at h2; rw [if_pos (e1.trans e2)]; exact bl_trans _ _ _ h1 h2
    · rw [if_neg e2] at h2; rw [if_neg (by rw [e1]; exact e2), e1]; exact h2
  · rw [if_neg e1] at h1
    by_cases e2 : lowS b = lowS c
    · rw [if_pos e2] at h2; rw [if_neg (by rw [← e2]; exact e1), ← e2]; exact h1
    · rw [if_neg e2] at h2
      have h3 := bl_trans _ _ _ h1 h2
      by_cases e3 : lowS a = lowS c
      · rw [e3, bl_irr] at h3; cases h3
      · rw [if_neg e3]; exact h3
theorem low_low (c : UInt8) : low (low c) = low c := by
  unfold low
  by_cases h : 65 ≤ (c.toNat : Int) ∧ (c.toNat : Int) ≤ 90
  · have e : (UInt8.ofNat (c.toNat + 32)).toNat = c.toNat + 32 := by rw [UInt8.toNat_ofNat']; omega
    rw [if_pos h, if_neg (by rw [e]; omega)]
  · rw [if_neg h, if_neg h]
theorem lowS_lowS (a : ByteArray) : lowS (lowS a) = lowS a := by
  unfold lowS lowL
  simp [List.map_map, Function.comp_def, low_low]
theorem lowS_size (a : ByteArray) : (lowS a).size = a.size := by rw [bs_size, bs_size]; unfold lowS lowL; simp only [List.length_map]
theorem less_folded (a b : ByteArray) (h : lowS b = lowS a) : lessS a b = Op.bytesLess a.toList b.toList := by unfold lessS; rw [if_pos h.symm]
end Go.Proofs.YtbigenlmbomoeaaDoor
