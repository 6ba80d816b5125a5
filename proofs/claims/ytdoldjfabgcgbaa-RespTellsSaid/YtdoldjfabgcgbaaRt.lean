/- What the reader reads of bytes, as a function of the bytes; and what is put is read. -/
import Derived.Test.YtdoldjfabgcgbaaRd
namespace Go.Proofs.Ytdoldjfabgcgbaa
open Go.RowKit
set_option linter.unusedVariables false
set_option maxRecDepth 20000
def rt : List UInt8 → Nat × Nat × Int
  | [] => (0, 0, 14)
  | c :: r => if c.toNat < 248 then (c.toNat, 1, 0) else if r.length < c.toNat - 247 then (0, 0, 14) else
      if ((r.take (c.toNat - 247)).head? = some 0 ∨ vl (r.take (c.toNat - 247)) < 248) ∨ 9223372036854775807 < vl (r.take (c.toNat - 247)) then (0, 0, 1) else (vl (r.take (c.toNat - 247)), 1 + (c.toNat - 247), 0)
theorem rt_cons (c : UInt8) (r : List UInt8) : rt (c :: r) = if c.toNat < 248 then (c.toNat, 1, 0) else if r.length < c.toNat - 247 then (0, 0, 14) else
      if ((r.take (c.toNat - 247)).head? = some 0 ∨ vl (r.take (c.toNat - 247)) < 248) ∨ 9223372036854775807 < vl (r.take (c.toNat - 247)) then (0, 0, 1) else (vl (r.take (c.toNat - 247)), 1 + (c.toNat - 247), 0) := rfl
def rta (l : List UInt8) : Array Value := #[.int .i64 ((rt l).1 : Int), .int .i64 ((rt l).2.1 : Int), .int .i64 (rt l).2.2]
theorem rdn_any {w : World} {g : Nat} {s : ByteArray} {P : Nat} (h : Rd w g s P 0) (hs : s.size ≤ 1000000) (hP : P ≤ s.size) :
    Calls Try.prog 42 #[.pointer (some ⟨g, 0, none⟩)] w fun r w' => r = .returned (.tuple (rta (s.data.toList.drop P))) ∧ Below w.heap.size w w' := by
  have hlen : (s.data.toList.drop P).length = s.size - P := by rw [List.length_drop, Array.length_toList]; rfl
  match hd : s.data.toList.drop P with
  | [] =>
    rw [hd] at hlen
    simp at hlen
    exact rdn_end h hs (by omega)
  | c :: r =>
    rw [hd] at hlen
    simp only [List.length_cons] at hlen
    have hp : s.data.toList[P]? = some c := by have := congrArg (·[0]?) hd; simpa using this
    by_cases h1 : c.toNat < 248
    · have := rdn_one h hs hp (by omega)
      simpa [rta, rt, h1] using this
    · by_cases h2 : r.length < c.toNat - 247
      · have := rdn_cut h hs hp (by omega) (by omega)
        simpa [rta, rt, h1, h2] using this
      · have hr : s.data.toList.drop (P + 1) = r := by
          have h7 := congrArg (List.drop 1) hd
          rw [List.drop_drop] at h7
          simpa using h7
        have := rdn_wide (K := c.toNat - 247) (l := r.take (c.toNat - 247)) h hs hp (by omega) (by omega) (by omega) (by rw [hr])
        have e : (r.take (c.toNat - 247)).length = c.toNat - 247 := by rw [List.length_take]; omega
        unfold rwide at this
        unfold rta
        rw [rt_cons, if_neg h1, if_neg h2]
        split at this
        · next h3 => rw [if_pos h3]; exact this
        · next h3 => rw [if_neg h3]; rw [e] at this; simpa using this
theorem head_append {α : Type} (l m : List α) (h : l ≠ []) : (l ++ m).head? = l.head? := by
  cases l with
  | nil => exact absurd rfl h
  | cons a l => rfl
theorem vl_dgs : ∀ n : Nat, vl (dgs n) = n := by
  intro n
  induction n using Nat.strongRecOn with
  | _ n ih =>
    rcases Nat.eq_zero_or_pos n with rfl | hp
    · rw [dgs_zero]; rfl
    · rw [dgs_pos hp, vl_snoc, ih (n / 256) (by omega), UInt8.toNat_ofNat']
      omega
theorem dgs_head : ∀ n : Nat, (dgs n).head? ≠ some 0 := by
  intro n
  induction n using Nat.strongRecOn with
  | _ n ih =>
    rcases Nat.eq_zero_or_pos n with rfl | hp
    · rw [dgs_zero]; simp
    · rw [dgs_pos hp]
      rcases Nat.eq_zero_or_pos (n / 256) with h0 | h0
      · rw [h0, dgs_zero]
        intro h
        have h2 := congrArg UInt8.toNat (Option.some.inj h)
        rw [UInt8.toNat_ofNat'] at h2
        simp at h2
        omega
      · rw [head_append _ _ (by rw [dgs_pos h0]; simp)]
        exact ih _ (by omega)
theorem dgs_vl : ∀ (m : Nat) (t : List UInt8), t.length = m → t.head? ≠ some 0 → dgs (vl t) = t := by
  intro m
  induction m with
  | zero => intro t h _; have := List.length_eq_zero_iff.1 h; subst this; exact dgs_zero
  | succ m ih =>
    intro t h hh
    rcases List.eq_nil_or_concat t with rfl | ⟨i, c, rfl⟩
    · simp at h
    · rw [List.concat_eq_append] at h hh ⊢
      have hc := c.toNat_lt
      have hl : i.length = m := by simpa using h
      rw [vl_snoc]
      by_cases hi : i = []
      · subst hi
        have h0 : c.toNat ≠ 0 := by
          intro e
          exact hh (by rw [show c = 0 from UInt8.toNat_inj.1 (by rw [e]; rfl)]; rfl)
        rw [dgs_pos (by simp [vl]; omega)]
        simp [vl, dgs_zero, show c.toNat / 256 = 0 by omega]
      · have hi2 : dgs (vl i) = i := ih i hl (by rw [head_append _ _ hi] at hh; exact hh)
        have hp : 0 < vl i := by
          rcases Nat.eq_zero_or_pos (vl i) with h0 | h0
          · rw [h0, dgs_zero] at hi2; exact absurd hi2.symm hi
          · exact h0
        rw [dgs_pos (by omega), show (vl i * 256 + c.toNat) / 256 = vl i by omega, hi2]
        congr 2
        apply UInt8.toNat_inj.1
        rw [UInt8.toNat_ofNat']
        omega
theorem hdb_nat (n : Nat) (hn : n < 9223372036854775808) : (hdb n).toNat = 247 + sz n := by
  have := sz_le 8 n (by omega)
  unfold hdb
  rw [UInt8.toNat_ofNat']
  omega
theorem rt_enc (n : Nat) (hn : n < 9223372036854775808) (more : List UInt8) : rt (enc n ++ more) = (n, (enc n).length, 0) := by
  unfold enc
  by_cases h : n < 248
  · rw [if_pos h]
    show rt (UInt8.ofNat n :: more) = _
    have e : (UInt8.ofNat n).toNat = n := by rw [UInt8.toNat_ofNat']; omega
    rw [rt_cons, e, if_pos h]
    rfl
  · rw [if_neg h]
    show rt (hdb n :: (dgs n ++ more)) = _
    have e := hdb_nat n hn
    have h8 : 1 ≤ sz n := by rw [sz_pos (by omega)]; omega
    have ht : (dgs n ++ more).take (sz n) = dgs n := by
      exact List.take_left' rfl
    rw [rt_cons, e, if_neg (by omega), show 247 + sz n - 247 = sz n by omega, if_neg (by rw [List.length_append]; show ¬ sz n + _ < sz n; omega), ht, vl_dgs, if_neg (fun h2 => h2.elim (fun h2 => h2.elim (dgs_head n) h) (by omega))]
    simp only [List.length_cons]
    show (n, 1 + sz n, (0 : Int)) = (n, sz n + 1, 0)
    rw [Nat.add_comm]
theorem rt_ok {l : List UInt8} {n k : Nat} (h : rt l = (n, k, 0)) : enc n = l.take k ∧ 1 ≤ k ∧ k ≤ l.length ∧ n < 9223372036854775808 := by
  match l, h with
  | [], h => exact absurd (show (14 : Int) = 0 from congrArg (·.2.2) h) (by decide)
  | c :: r, h =>
    rw [rt_cons] at h
    have hc := c.toNat_lt
    by_cases h1 : c.toNat < 248
    · rw [if_pos h1] at h
      simp only [Prod.mk.injEq] at h
      obtain ⟨rfl, rfl, _⟩ := h
      refine ⟨?_, by omega, by simp, by omega⟩
      unfold enc
      rw [if_pos h1]
      simp
    · rw [if_neg h1] at h
      by_cases h2 : r.length < c.toNat - 247
      · rw [if_pos h2] at h
        simp at h
      · rw [if_neg h2] at h
        split at h
        · simp at h
        · next h3 =>
          simp only [Prod.mk.injEq] at h
          obtain ⟨rfl, rfl, _⟩ := h
          have e1 : (r.take (c.toNat - 247)).head? ≠ some 0 := fun e => h3 (.inl (.inl e))
          have e2 : ¬ vl (r.take (c.toNat - 247)) < 248 := fun e => h3 (.inl (.inr e))
          have e3 : ¬ 9223372036854775807 < vl (r.take (c.toNat - 247)) := fun e => h3 (.inr e)
          have hl : (r.take (c.toNat - 247)).length = c.toNat - 247 := by rw [List.length_take]; omega
          have hd := dgs_vl _ _ rfl e1
          refine ⟨?_, by omega, by simp only [List.length_cons]; omega, by omega⟩
          unfold enc
          rw [if_neg e2, hd, Nat.add_comm 1, List.take_succ_cons]
          congr 1
          unfold hdb sz
          rw [hd, hl]
          apply UInt8.toNat_inj.1
          rw [UInt8.toNat_ofNat']
          omega
theorem rt_bad {l : List UInt8} (h : (rt l).2.2 ≠ 0) : (rt l).1 = 0 ∧ (rt l).2.1 = 0 := by
  match l, h with
  | [], h => exact ⟨rfl, rfl⟩
  | c :: r, h =>
    rw [rt_cons] at h ⊢
    split
    · next h1 => rw [if_pos h1] at h; exact absurd rfl h
    · next h1 =>
      rw [if_neg h1] at h
      split
      · exact ⟨rfl, rfl⟩
      · next h2 =>
        rw [if_neg h2] at h
        split
        · exact ⟨rfl, rfl⟩
        · next h3 => rw [if_neg h3] at h; exact absurd rfl h
end Go.Proofs.Ytdoldjfabgcgbaa
