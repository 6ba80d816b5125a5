/- How many signs a text has, by its bytes from the front. -/
import Derived.Test.YtckkckbgjehpjaaDoorPv
import Derived.Lib.TrimUEq
import Derived.Lib.RuneCount
namespace Go.Proofs.YtckkckbgjehpjaaDoor
open Go.RowKit Go.Lib
set_option linter.unusedVariables false
def rcG : Nat → List UInt8 → Nat
  | 0, _ => 0
  | f + 1, l => if l = [] then 0 else 1 + rcG f (l.drop (decodeL l).2)
theorem rc_list (s : ByteArray) : ∀ fuel pos, runeCountFrom s fuel pos = rcG fuel (s.data.toList.drop pos)
  | 0, _ => rfl
  | f + 1, pos => by
    have ih := rc_list s f (pos + (Utf8.decode s pos).2)
    unfold runeCountFrom rcG
    by_cases h : pos < s.size
    · rw [if_pos h, if_neg (fun e => by have := congrArg List.length e; simp at this; omega), ih, decodeL_drop, List.drop_drop]
    · rw [if_neg h, if_pos (List.drop_of_length_le (by simp; omega))]
theorem rcG_nil : ∀ n, rcG n [] = 0
  | 0 => rfl
  | _ + 1 => by simp [rcG]
theorem rcG_fuel : ∀ (n m : Nat) (l : List UInt8), l.length ≤ n → l.length ≤ m → rcG n l = rcG m l
  | 0, m, l, hn, _ => by
    obtain rfl : l = [] := List.eq_nil_of_length_eq_zero (by omega)
    rw [rcG_nil, rcG_nil]
  | n + 1, 0, l, _, hm => by
    obtain rfl : l = [] := List.eq_nil_of_length_eq_zero (by omega)
    rw [rcG_nil, rcG_nil]
  | n + 1, m + 1, l, hn, hm => by
    unfold rcG
    by_cases hne : l = []
    · rw [if_pos hne, if_pos hne]
    · have hw := decodeL_width l
      have hl : 0 < l.length := List.length_pos_iff.2 hne
      rw [if_neg hne, if_neg hne, rcG_fuel n m _ (by simp; omega) (by simp; omega)]
def rcL (l : List UInt8) : Nat := rcG l.length l
theorem runeCount_rcL (s : ByteArray) : runeCount s = rcL s.data.toList := by
  unfold runeCount rcL
  rw [rc_list, List.drop_zero]
  simp
theorem rcL_nil : rcL [] = 0 := rfl
theorem rcL_step (l : List UInt8) (hne : l ≠ []) : rcL l = 1 + rcL (l.drop (decodeL l).2) := by
  have hw := decodeL_width l
  have hl : 0 < l.length := List.length_pos_iff.2 hne
  obtain ⟨n, hn⟩ : ∃ n, l.length = n + 1 := ⟨l.length - 1, by omega⟩
  have e : rcL l = rcG (n + 1) l := by unfold rcL; rw [hn]
  rw [e]
  unfold rcG rcL
  rw [if_neg hne, rcG_fuel n (l.drop (decodeL l).2).length _ (by simp; omega) (Nat.le_refl _)]
theorem rcL_cons (c : UInt8) (t : List UInt8) (h : c.toNat < 128) : rcL (c :: t) = 1 + rcL t := by
  rw [rcL_step _ (by simp), decodeL_ascii c t h]; rfl
set_option maxHeartbeats 2000000 in
theorem lead_run2 (l : List UInt8) (hne : l ≠ []) (h0 : 128 ≤ (l.getD 0 0).toNat) (hv : validD l = true) :
    ∃ k, 2 ≤ k ∧ k ≤ l.length ∧ validD (l.drop k) = true ∧ (∀ j, j < k → 128 ≤ (l.getD j 0).toNat ∧ (0 < j → (l.getD j 0).toNat ≤ 191)) ∧ ∀ m : List UInt8, k ≤ m.length → (∀ j, j < k → m.getD j 0 = l.getD j 0) → validD m = validD (m.drop k) ∧ (decodeL m).2 = k := by
  rw [validD_lead l hne h0] at hv
  have fin : ∀ sz lo hi, firstT (l.getD 0 0).toNat % 8 = sz → accLo (firstT (l.getD 0 0).toNat / 16) = lo → accHi (firstT (l.getD 0 0).toNat / 16) = hi → (sz = 2 ∨ sz = 3 ∨ sz = 4 → 128 ≤ lo ∧ hi ≤ 191) → (sz = 2 ∨ sz = 3 ∨ sz = 4 ∨ (sz ≠ 2 ∧ sz ≠ 3 ∧ sz ≠ 4)) →
      ∃ k, 2 ≤ k ∧ k ≤ l.length ∧ validD (l.drop k) = true ∧ (∀ j, j < k → 128 ≤ (l.getD j 0).toNat ∧ (0 < j → (l.getD j 0).toNat ≤ 191)) ∧ ∀ m : List UInt8, k ≤ m.length → (∀ j, j < k → m.getD j 0 = l.getD j 0) → validD m = validD (m.drop k) ∧ (decodeL m).2 = k := by
    intro sz lo hi e1 e2 e3 hlo hsz
    rw [e1, e2, e3] at hv
    have hm : ∀ (k : Nat) (m : List UInt8), 2 ≤ k → k ≤ m.length → (∀ j, j < k → m.getD j 0 = l.getD j 0) → checkN m.length (m.getD 1 0).toNat (m.getD 2 0).toNat (m.getD 3 0).toNat sz lo hi = some k → validD m = validD (m.drop k) ∧ (decodeL m).2 = k := by
      intro k m h2 hk he hc
      have h00 := he 0 (by omega)
      refine ⟨by rw [validD_lead m (by rintro rfl; simp at hk; omega) (by rw [h00]; exact h0), h00, e1, e2, e3, hc], ?_⟩
      rw [decodeL_N]
      rcases check_decode m.length (m.getD 0 0).toNat (m.getD 1 0).toNat (m.getD 2 0).toNat (m.getD 3 0).toNat (by omega) (by rw [h00]; exact h0) (m.getD 0 0).toNat_lt (m.getD 1 0).toNat_lt (m.getD 2 0).toNat_lt (m.getD 3 0).toNat_lt with ⟨hc', _⟩ | ⟨k', _, hc', hd⟩
      · rw [h00, e1, e2, e3, hc] at hc'; cases hc'
      · rw [h00, e1, e2, e3, hc] at hc'
        rw [hd]; exact (Option.some.inj hc').symm
    rcases hsz with rfl | rfl | rfl | ⟨n2, n3, n4⟩
    · have hlo := hlo (by decide)
      unfold checkN at hv hm
      simp only [if_true] at hv hm
      split at hv
      next h => split at h <;> simp_all
      next k h =>
        split at h
        · cases h
        · obtain rfl := Option.some.inj h
          refine ⟨2, by omega, by omega, hv, fun j hj => ?_, fun m hk he => hm 2 m (by omega) hk he ?_⟩
          · match j, hj with
            | 0, _ => exact ⟨h0, fun h => absurd h (by omega)⟩
            | 1, _ => omega
          · rw [he 1 (by omega), if_neg (by omega)]
    · have hlo := hlo (by decide)
      unfold checkN at hv hm
      simp only [if_true, show ¬ (3 = 2) by decide, if_false] at hv hm
      split at hv
      next h => split at h <;> simp_all
      next k h =>
        split at h
        · cases h
        · obtain rfl := Option.some.inj h
          refine ⟨3, by omega, by omega, hv, fun j hj => ?_, fun m hk he => hm 3 m (by omega) hk he ?_⟩
          · match j, hj with
            | 0, _ => exact ⟨h0, fun h => absurd h (by omega)⟩
            | 1, _ => omega
            | 2, _ => omega
          · rw [he 1 (by omega), he 2 (by omega), if_neg (by omega)]
    · have hlo := hlo (by decide)
      unfold checkN at hv hm
      simp only [if_true, show ¬ (4 = 2) by decide, show ¬ (4 = 3) by decide, if_false] at hv hm
      split at hv
      next h => split at h <;> simp_all
      next k h =>
        split at h
        · cases h
        · obtain rfl := Option.some.inj h
          refine ⟨4, by omega, by omega, hv, fun j hj => ?_, fun m hk he => hm 4 m (by omega) hk he ?_⟩
          · match j, hj with
            | 0, _ => exact ⟨h0, fun h => absurd h (by omega)⟩
            | 1, _ => omega
            | 2, _ => omega
            | 3, _ => omega
          · rw [he 1 (by omega), he 2 (by omega), he 3 (by omega), if_neg (by omega)]
    · unfold checkN at hv
      rw [if_neg n2, if_neg n3, if_neg n4] at hv
      cases hv
  refine fin _ _ _ rfl rfl rfl ?_ (by omega)
  rcases firstT_cases (l.getD 0 0).toNat with h | h | h | h | h | h | h | h | h <;> rw [h] <;> decide
theorem lead_app (l : List UInt8) (k : Nat) (hk : k ≤ l.length) (h : ∀ m : List UInt8, k ≤ m.length → (∀ j, j < k → m.getD j 0 = l.getD j 0) → validD m = validD (m.drop k) ∧ (decodeL m).2 = k) (r : List UInt8) : (decodeL (l.take k ++ r)).2 = k := by
  have hl : (l.take k).length = k := by simp; omega
  exact (h (l.take k ++ r) (by simp; omega) (fun j hj => by
    simp only [List.getD_eq_getElem?_getD]
    rw [List.getElem?_append_left (by omega), List.getElem?_take, if_pos hj])).2
/-- A valid text and whatever stands behind it: as many signs as both. -/
theorem rcL_app : ∀ (n : Nat) (l r : List UInt8), l.length ≤ n → validD l = true → rcL (l ++ r) = rcL l + rcL r
  | _, [], r, _, _ => by rw [List.nil_append, rcL_nil]; omega
  | 0, _ :: _, _, h, _ => by simp at h
  | n + 1, c :: t, r, h, hv => by
    by_cases hc : c.toNat < 128
    · rw [validD_cons c t hc] at hv
      rw [List.cons_append, rcL_cons _ _ hc, rcL_cons _ _ hc, rcL_app n t r (by simp at h; omega) hv]; omega
    · obtain ⟨k, h2, hk, hd, _, hm⟩ := lead_run2 (c :: t) (by simp) (by simp; omega) hv
      have e1 : c :: t = (c :: t).take k ++ (c :: t).drop k := (List.take_append_drop _ _).symm
      have w1 : (decodeL (c :: t)).2 = k := by have := lead_app _ k hk hm ((c :: t).drop k); rwa [← e1] at this
      have e2 : (c :: t) ++ r = (c :: t).take k ++ ((c :: t).drop k ++ r) := by rw [← List.append_assoc, ← e1]
      have w2 : (decodeL ((c :: t) ++ r)).2 = k := by rw [e2]; exact lead_app _ k hk hm _
      have d2 : ((c :: t) ++ r).drop k = (c :: t).drop k ++ r := List.drop_append_of_le_length hk
      rw [rcL_step ((c :: t) ++ r) (by simp), w2, d2, rcL_step (c :: t) (by simp), w1, rcL_app n _ r (by simp at h ⊢; omega) hd]
      omega
end Go.Proofs.YtckkckbgjehpjaaDoor
