/- Lines of a contact: which is ahead is a strict order. -/
import Derived.Test.YthknkglhppngoaaDoorFe
import Derived.Test.YthknkglhppngoaaDoorBo
namespace Go.Proofs.YthknkglhppngoaaDoor
open Go.RowKit
open Go.Lib hiding intOf
set_option linter.unusedVariables false
set_option maxRecDepth 100000
theorem lessF_irr (k l : Int) (v : ByteArray) : lessF k l v k l v = false := by
  unfold lessF; rw [if_pos rfl, if_pos rfl]; exact bl_irr _
theorem lessF_asym {k l : Int} {v : ByteArray} {k2 l2 : Int} {v2 : ByteArray} (h : lessF k l v k2 l2 v2 = true) : lessF k2 l2 v2 k l v = false := by
  unfold lessF at h ⊢
  by_cases h1 : k = k2
  · rw [if_pos h1] at h; rw [if_pos h1.symm]
    by_cases h2 : l = l2
    · rw [if_pos h2] at h; rw [if_pos h2.symm]; exact bl_asym _ _ h
    · rw [if_neg h2] at h; rw [if_neg (fun e => h2 e.symm)]
      have := of_decide_eq_true h
      exact decide_eq_false (by omega)
  · rw [if_neg h1] at h; rw [if_neg (fun e => h1 e.symm)]
    have := of_decide_eq_true h
    exact decide_eq_false (by omega)
theorem lessF_total {k l : Int} {v : ByteArray} {k2 l2 : Int} {v2 : ByteArray} (h : ¬ (k = k2 ∧ l = l2 ∧ v = v2)) : lessF k l v k2 l2 v2 = true ∨ lessF k2 l2 v2 k l v = true := by
  unfold lessF
  by_cases h1 : k = k2
  · rw [if_pos h1, if_pos h1.symm]
    by_cases h2 : l = l2
    · rw [if_pos h2, if_pos h2.symm]
      exact bl_total _ _ fun e => h ⟨h1, h2, bs_ext (by simpa only [ByteArray.toList_eq] using e)⟩
    · rw [if_neg h2, if_neg (fun e => h2 e.symm)]
      by_cases h3 : l < l2
      · exact .inl (decide_eq_true h3)
      · exact .inr (decide_eq_true (by omega))
  · rw [if_neg h1, if_neg (fun e => h1 e.symm)]
    by_cases h3 : k < k2
    · exact .inl (decide_eq_true h3)
    · exact .inr (decide_eq_true (by omega))
theorem lessF_trans {k l : Int} {v : ByteArray} {k2 l2 : Int} {v2 : ByteArray} {k3 l3 : Int} {v3 : ByteArray} (h : lessF k l v k2 l2 v2 = true) (g : lessF k2 l2 v2 k3 l3 v3 = true) : lessF k l v k3 l3 v3 = true := by
  unfold lessF at h g ⊢
  by_cases h1 : k = k2
  · subst h1
    rw [if_pos rfl] at h
    by_cases h3 : k = k3
    · subst h3
      rw [if_pos rfl] at g ⊢
      by_cases h2 : l = l2
      · subst h2
        rw [if_pos rfl] at h
        by_cases h4 : l = l3
        · subst h4
          rw [if_pos rfl] at g ⊢
          exact bl_trans _ _ _ h g
        · rw [if_neg h4] at g ⊢; exact g
      · rw [if_neg h2] at h
        have := of_decide_eq_true h
        by_cases h4 : l2 = l3
        · rw [if_neg (by omega)]; exact decide_eq_true (by omega)
        · rw [if_neg h4] at g
          have := of_decide_eq_true g
          rw [if_neg (by omega)]; exact decide_eq_true (by omega)
    · rw [if_neg h3] at g ⊢; exact g
  · rw [if_neg h1] at h
    have := of_decide_eq_true h
    by_cases h3 : k2 = k3
    · rw [if_neg (by omega)]; exact decide_eq_true (by omega)
    · rw [if_neg h3] at g
      have := of_decide_eq_true g
      rw [if_neg (by omega)]; exact decide_eq_true (by omega)
theorem lessF_kind {k l : Int} {v : ByteArray} {k2 l2 : Int} {v2 : ByteArray} (h : k ≠ k2) : lessF k l v k2 l2 v2 = decide (k < k2) := by
  unfold lessF; rw [if_neg h]
theorem less_on (k l : Int) (v : ByteArray) (k2 l2 : Int) (v2 : ByteArray) (r : Bool) (hr : lessF k l v k2 l2 v2 = r) (w : World) : Calls Tryd.prog 10 #[.agg #[.int .i64 k, .int .i64 l, .string v], .agg #[.int .i64 k2, .int .i64 l2, .string v2]] w fun e w' => e = .returned (.bool r) ∧ Below w.heap.size w w' := by
  have := less_any k l v k2 l2 v2 w
  rw [hr] at this
  exact this
end Go.Proofs.YthknkglhppngoaaDoor
