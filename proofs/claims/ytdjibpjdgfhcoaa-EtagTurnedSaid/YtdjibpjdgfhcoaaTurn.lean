/- A tag with one sign turned: plain lists. -/
import Derived.Test.YtdjibpjdgfhcoaaMath
namespace Go.Proofs.Ytdjibpjdgfhcoaa
set_option linter.unusedVariables false
theorem sg_inj {a b : Nat} (ha : a < 32) (hb : b < 32) (h : sg a = sg b) : a = b := by
  have h1 := ix_sg a ha
  have h2 := ix_sg b hb
  rw [h] at h1
  omega
theorem chk_set (D : List UInt8) (j : Nat) (hj : j < D.length) (c' : UInt8) (h : ix D[j] % 31 ≠ ix c' % 31) : chk (D.set j c') ≠ chk D := by
  have e1 : D.set j c' = D.take j ++ c' :: D.drop (j + 1) := by
    rw [List.set_eq_take_append_cons_drop, if_pos hj]
  have e2 : D = D.take j ++ D[j] :: D.drop (j + 1) := by
    conv => lhs; rw [← List.take_append_drop j D, List.drop_eq_getElem_cons hj]
  rw [e1]
  conv => rhs; rw [e2]
  exact chk_turned _ _ _ _ (fun e => h e.symm)
/-- A tag's list with one sign turned is no tag's list. -/
theorem turned (n u k q : Nat) (hk1 : 1 ≤ k) (hk2 : k < (shL n).length - 1) (hq : q < 32) (hne : ix ((shL n)[k]'(by omega)) % 31 ≠ (q : Int) % 31) : (shL n).set k (sg q) ≠ shL u := by
  intro h
  have hl := congrArg List.length h
  rw [List.length_set, shL_len, shL_len] at hl
  obtain ⟨j, rfl⟩ : ∃ j, k = j + 1 := ⟨k - 1, by omega⟩
  rw [shL_len] at hk2
  simp only [shL, List.set_cons_succ, List.cons.injEq, true_and] at h
  simp only [shL, List.getElem_cons_succ] at hne
  rcases Nat.lt_or_ge j (digs n).length with hj | hj
  · rw [List.set_append_left _ _ hj] at h
    obtain ⟨h1, h2⟩ := List.append_inj h (by rw [List.length_set]; omega)
    rw [List.getElem_append_left hj] at hne
    have e := chk_set (digs n) j hj (sg q) (by rw [ix_sg q hq]; exact hne)
    rw [h1] at e
    injection h2 with h2 _
    have a := chk_rng (digs n)
    have b := chk_rng (digs u)
    have := sg_inj (by omega) (by omega) h2
    omega
  · have hj' : j = (digs n).length := by omega
    subst hj'
    rw [List.set_append_right _ _ (Nat.le_refl _), Nat.sub_self] at h
    obtain ⟨h1, h2⟩ := List.append_inj h (by omega)
    rw [List.getElem_append_right (Nat.le_refl _)] at hne
    simp only [Nat.sub_self, List.getElem_cons_zero] at hne
    simp only [List.set_cons_zero] at h2
    injection h2 with h2 _
    rw [← h1] at h2
    have a := chk_rng (digs n)
    have := sg_inj hq (by omega) h2
    rw [← this, ix_sg q hq] at hne
    exact hne rfl
theorem sh_digit (n k : Nat) (hk1 : 1 ≤ k) (hk2 : k < (shL n).length - 1) : 0 ≤ ix ((shL n)[k]'(by omega)) := by
  obtain ⟨j, rfl⟩ : ∃ j, k = j + 1 := ⟨k - 1, by omega⟩
  rw [shL_len] at hk2
  simp only [shL, List.getElem_cons_succ]
  rcases Nat.lt_or_ge j (digs n).length with hj | hj
  · rw [List.getElem_append_left hj]
    exact digs_all n _ (List.getElem_mem _)
  · have hj' : j = (digs n).length := by omega
    subst hj'
    rw [List.getElem_append_right (Nat.le_refl _)]
    simp only [Nat.sub_self, List.getElem_cons_zero]
    have a := chk_rng (digs n)
    exact sg_lt _ (by omega)
end Go.Proofs.Ytdjibpjdgfhcoaa
