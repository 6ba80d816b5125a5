/- Valid texts, one behind the other; squeezed. -/
import Derived.Test.YthknkglhppngoaaDoorPq
import Derived.Lib.ValidLaws
namespace Go.Proofs.YthknkglhppngoaaDoor
open Go.RowKit Go.Lib
set_option linter.unusedVariables false
set_option maxHeartbeats 2000000 in
theorem lead_run (l : List UInt8) (hne : l ≠ []) (h0 : 128 ≤ (l.getD 0 0).toNat) (hv : validD l = true) :
    ∃ k, 2 ≤ k ∧ k ≤ l.length ∧ validD (l.drop k) = true ∧ (∀ j, j < k → 128 ≤ (l.getD j 0).toNat) ∧ ∀ m : List UInt8, k ≤ m.length → (∀ j, j < k → m.getD j 0 = l.getD j 0) → validD m = validD (m.drop k) := by
  rw [validD_lead l hne h0] at hv
  have fin : ∀ sz lo hi, firstT (l.getD 0 0).toNat % 8 = sz → accLo (firstT (l.getD 0 0).toNat / 16) = lo → accHi (firstT (l.getD 0 0).toNat / 16) = hi → (sz = 2 ∨ sz = 3 ∨ sz = 4 → 128 ≤ lo) → (sz = 2 ∨ sz = 3 ∨ sz = 4 ∨ (sz ≠ 2 ∧ sz ≠ 3 ∧ sz ≠ 4)) →
      ∃ k, 2 ≤ k ∧ k ≤ l.length ∧ validD (l.drop k) = true ∧ (∀ j, j < k → 128 ≤ (l.getD j 0).toNat) ∧ ∀ m : List UInt8, k ≤ m.length → (∀ j, j < k → m.getD j 0 = l.getD j 0) → validD m = validD (m.drop k) := by
    intro sz lo hi e1 e2 e3 hlo hsz
    rw [e1, e2, e3] at hv
    have hm : ∀ (k : Nat) (m : List UInt8), 2 ≤ k → k ≤ m.length → (∀ j, j < k → m.getD j 0 = l.getD j 0) → checkN m.length (m.getD 1 0).toNat (m.getD 2 0).toNat (m.getD 3 0).toNat sz lo hi = some k → validD m = validD (m.drop k) := by
      intro k m h2 hk he hc
      have h00 := he 0 (by omega)
      rw [validD_lead m (by rintro rfl; simp at hk; omega) (by rw [h00]; exact h0), h00, e1, e2, e3, hc]
    rcases hsz with rfl | rfl | rfl | ⟨n2, n3, n4⟩
    · have hlo := hlo (by decide)
      unfold checkN at hv hm
      simp only [if_true] at hv hm
      split at hv
      next h => split at h <;> simp_all
      next k h =>
        split at h
        · cases h
        · obtain rfl := Option.some.inj h
          refine ⟨2, by omega, by omega, hv, fun j hj => ?_, fun m hk he => hm 2 m (by omega) hk he ?_⟩
          · match j, hj with
            | 0, _ => exact h0
            | 1, _ => omega
          · rw [he 1 (by omega), if_neg (by omega)]
    · have hlo := hlo (by decide)
      unfold checkN at hv hm
      simp only [if_true, show ¬ (3 = 2) by decide, if_false] at hv hm
      split at hv
      next h => split at h <;> simp_all
      next k h =>
        split at h
        · cases h
        · obtain rfl := Option.some.inj h
          refine ⟨3, by omega, by omega, hv, fun j hj => ?_, fun m hk he => hm 3 m (by omega) hk he ?_⟩
          · match j, hj with
            | 0, _ => exact h0
            | 1, _ => omega
            | 2, _ => omega
          · rw [he 1 (by omega), he 2 (by omega), if_neg (by omega)]
    · have hlo := hlo (by decide)
      unfold checkN at hv hm
      simp only [if_true, show ¬ (4 = 2) by decide, show ¬ (4 = 3) by decide, if_false] at hv hm
      split at hv
      next h => split at h <;> simp_all
      next k h =>
        split at h
        · cases h
        · obtain rfl := Option.some.inj h
          refine ⟨4, by omega, by omega, hv, fun j hj => ?_, fun m hk he => hm 4 m (by omega) hk he ?_⟩
          · match j, hj with
            | 0, _ => exact h0
            | 1, _ => omega
            | 2, _ => omega
            | 3, _ => omega
          · rw [he 1 (by omega), he 2 (by omega), he 3 (by omega), if_neg (by omega)]
    · unfold checkN at hv
      rw [if_neg n2, if_neg n3, if_neg n4] at hv
      cases hv
  refine fin _ _ _ rfl rfl rfl ?_ (by omega)
  rcases firstT_cases (l.getD 0 0).toNat with h | h | h | h | h | h | h | h | h <;> rw [h] <;> decide
/-- o, and whatever stands behind it, is valid as that is. -/
def Whole (o : List UInt8) : Prop := ∀ r, validD (o ++ r) = validD r
theorem Whole.nil : Whole [] := fun _ => rfl
theorem Whole.app {o p : List UInt8} (h : Whole o) (k : Whole p) : Whole (o ++ p) := fun r => by rw [List.append_assoc, h, k]
theorem Whole.one {c : UInt8} (h : c.toNat < 128) : Whole [c] := fun r => validD_cons c r h
theorem Whole.valid {o : List UInt8} (h : Whole o) : validD o = true := by have := h []; simpa [validD_nil] using this
theorem lead_whole (l : List UInt8) (k : Nat) (hk : k ≤ l.length) (h : ∀ m : List UInt8, k ≤ m.length → (∀ j, j < k → m.getD j 0 = l.getD j 0) → validD m = validD (m.drop k)) : Whole (l.take k) := by
  intro r
  have hl : (l.take k).length = k := by simp; omega
  rw [h (l.take k ++ r) (by simp; omega) (fun j hj => by
    simp only [List.getD_eq_getElem?_getD]
    rw [List.getElem?_append_left (by omega), List.getElem?_take, if_pos hj]), List.drop_append_of_le_length (by omega), List.drop_of_length_le (by omega)]
  rfl
theorem valid_whole : ∀ (n : Nat) (l : List UInt8), l.length ≤ n → validD l = true → Whole l
  | _, [], _, _ => Whole.nil
  | 0, _ :: _, h, _ => by simp at h
  | n + 1, c :: t, h, hv => by
    by_cases hc : c.toNat < 128
    · rw [validD_cons c t hc] at hv
      exact (Whole.one hc).app (valid_whole n t (by simp at h; omega) hv)
    · obtain ⟨k, h2, hk, hd, _, hm⟩ := lead_run (c :: t) (by simp) (by simp; omega) hv
      have := (lead_whole _ k hk hm).app (valid_whole n ((c :: t).drop k) (by simp at h ⊢; omega) hd)
      rwa [List.take_append_drop] at this
theorem run_solid : ∀ (p : List UInt8) (o : List UInt8), (∀ c ∈ p, c ≠ 32) → run (false, o) p = (false, o ++ p)
  | [], o, _ => by simp [run]
  | c :: p, o, h => by
    rw [run_cons, step_n _ _ (h c List.mem_cons_self)]
    simp only [Bool.false_eq_true, false_and, if_false]
    rw [run_solid p _ (fun d hd => h d (List.mem_cons.2 (.inr hd)))]
    simp
theorem run_whole : ∀ (n : Nat) (l : List UInt8) (g : Bool) (o : List UInt8), l.length ≤ n → validD l = true → Whole o → Whole (run (g, o) l).2
  | _, [], _, _, _, _, h => h
  | 0, _ :: _, _, _, h, _, _ => by simp at h
  | n + 1, c :: t, g, o, h, hv, ho => by
    have ho2 : Whole (if g = true ∧ o ≠ [] then o ++ [32] else o) := by
      split
      · exact ho.app (Whole.one (by decide))
      · exact ho
    by_cases hc : c.toNat < 128
    · rw [validD_cons c t hc] at hv
      rw [run_cons]
      by_cases h32 : c = 32
      · subst h32; rw [step_b]; exact run_whole n t _ _ (by simp at h; omega) hv ho
      · rw [step_n _ _ h32]; exact run_whole n t _ _ (by simp at h; omega) hv (ho2.app (Whole.one hc))
    · obtain ⟨k, h2, hk, hd, hb, hm⟩ := lead_run (c :: t) (by simp) (by simp; omega) hv
      have hw := lead_whole _ k hk hm
      have hne : ∀ d ∈ (c :: t).take k, d ≠ 32 := by
        intro d hd2 e
        obtain ⟨j, hj, he⟩ := List.getElem_of_mem hd2
        have hj' : j < k := by simp at hj; omega
        have := hb j hj'
        rw [List.getElem_take] at he
        simp only [List.getD_eq_getElem?_getD] at this
        rw [List.getElem?_eq_getElem (by simp at hj; omega)] at this
        simp only [Option.getD_some] at this
        rw [he, e] at this
        exact absurd this (by decide)
      have e1 : run (g, o) (c :: t) = run (run (g, o) ((c :: t).take k)) ((c :: t).drop k) := by rw [← run_app, List.take_append_drop]
      have e2 : (c :: t).take k = c :: t.take (k - 1) := by
        cases k with
        | zero => omega
        | succ k => rfl
      have e3 : run (g, o) ((c :: t).take k) = (false, (if g = true ∧ o ≠ [] then o ++ [32] else o) ++ (c :: t).take k) := by
        rw [e2] at hne ⊢
        rw [run_cons, step_n _ _ (hne c List.mem_cons_self), run_solid _ _ (fun d hd => hne d (List.mem_cons.2 (.inr hd)))]
        simp
      rw [e1, e3]
      exact run_whole n _ _ _ (by simp at h ⊢; omega) hd (ho2.app hw)
theorem sq_whole (l : List UInt8) (h : validD l = true) : Whole (sq l) := run_whole l.length l false [] (Nat.le_refl _) h Whole.nil
theorem whole_of (l : List UInt8) (h : validD l = true) : Whole l := valid_whole l.length l (Nat.le_refl _) h
end Go.Proofs.YthknkglhppngoaaDoor
