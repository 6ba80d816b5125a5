/- Signs: what FoldSigns asks of the program's own function. -/
import Derived.Test.YtbigenlmbomoeaaDoorRc
namespace Go.Proofs.YtbigenlmbomoeaaDoor
open Go.RowKit Go.Lib
set_option linter.unusedVariables false
/-- What is valid before a byte that continues nothing is valid. -/
theorem valid_front : ∀ (n : Nat) (l : List UInt8) (d : UInt8) (r : List UInt8), l.length ≤ n → (d.toNat < 128 ∨ 191 < d.toNat) → validD (l ++ d :: r) = true → validD l = true
  | _, [], _, _, _, _, _ => rfl
  | 0, _ :: _, _, _, h, _, _ => by simp at h
  | n + 1, c :: t, d, r, h, hd, hv => by
    by_cases hc : c.toNat < 128
    · rw [List.cons_append, validD_cons _ _ hc] at hv
      rw [validD_cons _ _ hc]
      exact valid_front n t d r (by simp at h; omega) hd hv
    · obtain ⟨k, h2, hk, hdr, hb, hm⟩ := lead_run2 ((c :: t) ++ d :: r) (by simp) (by simp; omega) hv
      by_cases hkl : k ≤ (c :: t).length
      · have e : ((c :: t) ++ d :: r).drop k = (c :: t).drop k ++ d :: r := List.drop_append_of_le_length hkl
        rw [e] at hdr
        have h3 := valid_front n ((c :: t).drop k) d r (by simp at h ⊢; omega) hd hdr
        have h4 := (hm (c :: t) hkl (fun j hj => by
          simp only [List.getD_eq_getElem?_getD]
          rw [List.getElem?_append_left (by omega)])).1
        rw [h4]; exact h3
      · have h3 := hb (c :: t).length (by omega)
        have e : ((c :: t) ++ d :: r).getD (c :: t).length 0 = d := by
          simp only [List.getD_eq_getElem?_getD]
          rw [List.getElem?_append_right (Nat.le_refl _)]
          simp
        rw [e] at h3
        have h4 := h3.2 (by simp)
        omega
theorem signs_eq (s : ByteArray) : signs s = if validD s.data.toList = true then rcL s.data.toList else 0 := by unfold signs; rw [runeCount_rcL]
theorem rcL_pos (l : List UInt8) (h : l ≠ []) : 0 < rcL l := by rw [rcL_step l h]; omega
theorem signs_app (a b : ByteArray) (ha : validD a.data.toList = true) (hb : validD b.data.toList = true) : signs (a ++ b) = signs a + signs b := by
  have e : (a ++ b).data.toList = a.data.toList ++ b.data.toList := by simp [ByteArray.data_append]
  rw [signs_eq, signs_eq, signs_eq, e, if_pos ha, if_pos hb, if_pos (by rw [whole_of _ ha]; exact hb), rcL_app _ _ _ (Nat.le_refl _) ha]
theorem signs_cut (a b : ByteArray) (hb : validD b.data.toList = false) (d : UInt8) (r : List UInt8) (hd : b.data.toList = d :: r) (h : d.toNat < 128 ∨ 191 < d.toNat) : signs (a ++ b) = 0 := by
  have e : (a ++ b).data.toList = a.data.toList ++ b.data.toList := by simp [ByteArray.data_append]
  rw [signs_eq, e]
  by_cases hv : validD (a.data.toList ++ b.data.toList) = true
  · have ha : validD a.data.toList = true := by rw [hd] at hv; exact valid_front _ _ d r (Nat.le_refl _) h hv
    rw [whole_of _ ha, hb] at hv
    cases hv
  · rw [if_neg hv]
theorem signs_zero (a : ByteArray) : signs a = 0 ↔ (a.data.toList = [] ∨ validD a.data.toList = false) := by
  rw [signs_eq]
  constructor
  · intro h
    by_cases hv : validD a.data.toList = true
    · rw [if_pos hv] at h
      by_cases he : a.data.toList = []
      · exact .inl he
      · have := rcL_pos _ he; omega
    · exact .inr (by simpa using hv)
  · rintro (h | h)
    · rw [h]; rfl
    · rw [h]; rfl
end Go.Proofs.YtbigenlmbomoeaaDoor
