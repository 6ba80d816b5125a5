/- The reference's Clean. -/
import Derived.Test.YtckkckbgjehpjaaDoorSg
import Derived.Test.YtckkckbgjehpjaaDoorCl
import Derived.Test.YtckkckbgjehpjaaDoorApp
namespace Go.Proofs.YtckkckbgjehpjaaDoor
open Go.RowKit
open Go.Lib hiding intOf
set_option linter.unusedVariables false
set_option maxRecDepth 20000
/-- What the reference has, where the program has X: the blank that came last stands there already. -/
def outS (X : Bool × List UInt8) : List UInt8 := if (X.1 && !X.2.isEmpty) = true then X.2 ++ [32] else X.2
theorem sq_last (l : List UInt8) : ∀ k, k ≤ l.length → (sqAt l k).2.getLast? ≠ some 32
  | 0, _ => by simp [sqAt]
  | k + 1, h => by
    have ih := sq_last l k (by omega)
    rw [sqAt_succ l k (by omega)]
    unfold sqStep
    by_cases hc : ((l[k].toNat : Int) == 32) = true
    · rw [if_pos hc]; exact ih
    · rw [if_neg hc]
      simp only [List.getLast?_append, List.getLast?_singleton, Option.some_or, ne_eq, Option.some.injEq]
      intro e
      rw [e] at hc
      exact hc rfl
theorem out_blank (X : Bool × List UInt8) (c : UInt8) (hc : (c.toNat : Int) = 32) (hX : X.2.getLast? ≠ some 32) :
    ((outS X = [] ∨ (outS X).getLast? = some 32) → outS (sqStep X c) = outS X) ∧ (outS X ≠ [] → (outS X).getLast? ≠ some 32 → outS (sqStep X c) = outS X ++ [32]) := by
  obtain ⟨g, o⟩ := X
  have e : sqStep (g, o) c = (true, o) := by unfold sqStep; rw [if_pos (by simpa using hc)]
  rw [e]
  cases o with
  | nil => simp [outS]
  | cons x t =>
    cases g with
    | true => exact ⟨fun _ => rfl, fun _ h => absurd (show (((x :: t) ++ [32] : List UInt8)).getLast? = some 32 by rw [List.getLast?_append]; rfl) h⟩
    | false =>
      refine ⟨fun h => ?_, fun _ _ => rfl⟩
      rcases h with h | h
      · simp [outS] at h
      · exact absurd h hX
theorem out_other (X : Bool × List UInt8) (c : UInt8) (hc : ¬ (c.toNat : Int) = 32) : outS (sqStep X c) = outS X ++ [c] := by
  obtain ⟨g, o⟩ := X
  unfold sqStep
  rw [if_neg (by simpa using hc)]
  cases o with
  | nil => simp [outS]
  | cons x t => cases g <;> simp [outS] <;> omega
theorem out_len (l : List UInt8) : ∀ k, k ≤ l.length → (outS (sqAt l k)).length ≤ k
  | 0, _ => by simp [sqAt, outS]
  | k + 1, h => by
    have ih := out_len l k (by omega)
    have hX := sq_last l k (by omega)
    rw [sqAt_succ l k (by omega)]
    by_cases hc : ((l[k]).toNat : Int) = 32
    · have hb := out_blank (sqAt l k) l[k] hc hX
      by_cases h1 : outS (sqAt l k) = [] ∨ (outS (sqAt l k)).getLast? = some 32
      · rw [hb.1 h1]; omega
      · rw [hb.2 (fun e => h1 (.inl e)) (fun e => h1 (.inr e))]; simp; omega
    · rw [out_other _ _ hc]; simp; omega
theorem out_fin (X : Bool × List UInt8) (hX : X.2.getLast? ≠ some 32) : ((outS X).getLast? = some 32 → X.2 = (outS X).dropLast ∧ X.2 ≠ []) ∧ ((outS X).getLast? ≠ some 32 → X.2 = outS X) := by
  obtain ⟨g, o⟩ := X
  cases o with
  | nil => simp [outS]
  | cons x t =>
    cases g with
    | true => exact ⟨fun _ => ⟨by simp only [outS, List.isEmpty_cons, Bool.not_false, Bool.and_self, if_true]; rw [List.dropLast_concat], by simp⟩, fun h => absurd (show (((x :: t) ++ [32] : List UInt8)).getLast? = some 32 by rw [List.getLast?_append]; rfl) h⟩
    | false => exact ⟨fun h => absurd h hX, fun _ => rfl⟩
/-- The bytes of a sign of several are above 127. -/
theorem signN_high (l : List UInt8) (h : 128 ≤ (l.getD 0 0).toNat) : ∀ j, j < signN l → 128 ≤ (l.getD j 0).toNat := by
  have acc : 128 ≤ accLo (firstT (l.getD 0 0).toNat / 16) ∨ firstT (l.getD 0 0).toNat = 241 ∨ firstT (l.getD 0 0).toNat = 240 := by
    generalize (l.getD 0 0).toNat = b0 at h
    rcases firstT_cases b0 with e | e | e | e | e | e | e | e | e <;> rw [e] <;> decide
  intro j hj
  unfold signN at hj
  rw [if_neg (by omega)] at hj
  cases hc : checkN l.length (l.getD 1 0).toNat (l.getD 2 0).toNat (l.getD 3 0).toNat (firstT (l.getD 0 0).toNat % 8) (accLo (firstT (l.getD 0 0).toNat / 16)) (accHi (firstT (l.getD 0 0).toNat / 16)) with
  | none => rw [hc] at hj; exact absurd hj (Nat.not_lt_zero _)
  | some k =>
    rw [hc] at hj
    simp only [Option.getD_some] at hj
    rcases acc with acc | acc | acc
    · unfold checkN at hc
      repeat' split at hc
      all_goals cases hc
      · obtain rfl | rfl : j = 0 ∨ j = 1 := by omega
        all_goals omega
      · obtain rfl | rfl | rfl : j = 0 ∨ j = 1 ∨ j = 2 := by omega
        all_goals omega
      · obtain rfl | rfl | rfl | rfl : j = 0 ∨ j = 1 ∨ j = 2 ∨ j = 3 := by omega
        all_goals omega
    · rw [acc] at hc; cases hc
    · rw [acc] at hc; cases hc
theorem any_high (l : List UInt8) : ∀ k, k ≤ l.length → (∀ j, j < k → 128 ≤ (l.getD j 0).toNat) → l.any ctl = (l.drop k).any ctl := by
  intro k
  induction k generalizing l with
  | zero => intro _ _; rfl
  | succ k ih =>
    intro hk h
    cases l with
    | nil => simp at hk
    | cons c t =>
      have h0 := h 0 (by omega)
      have hc : ctl c = false := by
        unfold ctl
        simp only [List.getD_cons_zero] at h0
        simp only [Bool.or_eq_false_iff, decide_eq_false_iff_not, beq_eq_false_iff_ne, ne_eq]
        omega
      rw [List.any_cons, hc, Bool.false_or, List.drop_succ_cons]
      exact ih t (by simpa using hk) (fun j hj => by have := h (j + 1) (by omega); simpa using this)
/-- A sign: a control, or none of its bytes is one. -/
theorem sign_ctl (l : List UInt8) (hne : l ≠ []) (h0 : signN l ≠ 0) (hc : ctl (l.getD 0 0) = false) : l.any ctl = (l.drop (signN l)).any ctl := by
  by_cases h : (l.getD 0 0).toNat < 128
  · rw [signN_low l h]
    cases l with
    | nil => exact absurd rfl hne
    | cons c t => simp only [List.getD_cons_zero] at hc; simp [hc]
  · exact any_high l _ (signN_width l hne h0).2.2 (signN_high l (by omega))
theorem ctl_any (l : List UInt8) (hne : l ≠ []) (hc : ctl (l.getD 0 0) = true) : l.any ctl = true := by
  cases l with
  | nil => exact absurd rfl hne
  | cons c t => simp only [List.getD_cons_zero] at hc; simp [hc]
end Go.Proofs.YtckkckbgjehpjaaDoor
