/- A sign's width as the reference reckons it, against the tables' one: plain numbers. -/
import Derived.Test.YtckkckbgjehpjaaDoorRc
import Derived.Laws.BitsAllLaws
namespace Go.Proofs.YtckkckbgjehpjaaDoor
open Go.RowKit Go.Lib
set_option linter.unusedVariables false
theorem i64_or (a b : Int) (h1 : 0 ≤ a) (h2 : a < 9223372036854775808) (h3 : 0 ≤ b) (h4 : b < 9223372036854775808) : bits .or .i64 a b = ((a.toNat ||| b.toNat : Nat) : Int) := by
  obtain ⟨A, rfl⟩ := Int.eq_ofNat_of_zero_le h1
  obtain ⟨B, rfl⟩ := Int.eq_ofNat_of_zero_le h3
  have hx : A ||| B < 2 ^ 63 := Nat.or_lt_two_pow (by omega) (by omega)
  show IntKind.i64.wrap ((BitVec.ofInt 64 (A : Int) ||| BitVec.ofInt 64 (B : Int)).toNat : Int) = _
  rw [BitVec.toNat_or, ofInt_u64 A (by omega), ofInt_u64 B (by omega), IntWalk.i64_in _ (by omega)]
  rfl
theorem or_join (i : Nat) (a b : Int) (h0 : 0 ≤ a) (h1 : a < 9223372036854775808) (hm : a.toNat % 2 ^ i = 0) (h2 : 0 ≤ b) (h3 : b < 2 ^ i) (hi : i < 63) : bits .or .i64 a b = a + b := by
  have hp : (2 : Int) ^ i ≤ 2 ^ 62 := by exact_mod_cast Nat.pow_le_pow_right (by omega) (show i ≤ 62 by omega)
  have hb : b.toNat < 2 ^ i := by have : ((b.toNat : Int)) < ((2 ^ i : Nat) : Int) := by push_cast; omega
                                  exact_mod_cast this
  rw [i64_or a b h0 (by omega) h2 (by omega), nat_join i _ _ hm hb]
  omega
theorem fin_all {p : Nat → Prop} [∀ n, Decidable (p n)] (h : ∀ n : Fin 256, p n) (b : UInt8) : p b.toNat := h ⟨b.toNat, b.toNat_lt⟩
theorem and_top (b : UInt8) : bits .and .u8 (b.toNat : Int) 192 = ((b.toNat / 64 * 64 : Nat) : Int) := fin_all (p := fun n => bits .and .u8 (n : Int) 192 = ((n / 64 * 64 : Nat) : Int)) (by decide +kernel) b
theorem and_63 (b : UInt8) : bits .and .u8 (b.toNat : Int) 63 = ((b.toNat % 64 : Nat) : Int) := fin_all (p := fun n => bits .and .u8 (n : Int) 63 = ((n % 64 : Nat) : Int)) (by decide +kernel) b
theorem and_31 (b : UInt8) : bits .and .u8 (b.toNat : Int) 31 = ((b.toNat % 32 : Nat) : Int) := fin_all (p := fun n => bits .and .u8 (n : Int) 31 = ((n % 32 : Nat) : Int)) (by decide +kernel) b
theorem and_15 (b : UInt8) : bits .and .u8 (b.toNat : Int) 15 = ((b.toNat % 16 : Nat) : Int) := fin_all (p := fun n => bits .and .u8 (n : Int) 15 = ((n % 16 : Nat) : Int)) (by decide +kernel) b
theorem and_7 (b : UInt8) : bits .and .u8 (b.toNat : Int) 7 = ((b.toNat % 8 : Nat) : Int) := fin_all (p := fun n => bits .and .u8 (n : Int) 7 = ((n % 8 : Nat) : Int)) (by decide +kernel) b
/-- How many bytes the sign at a text's beginning has; 0: none. -/
def signN (l : List UInt8) : Nat :=
  if (l.getD 0 0).toNat < 128 then 1 else (checkN l.length (l.getD 1 0).toNat (l.getD 2 0).toNat (l.getD 3 0).toNat (firstT (l.getD 0 0).toNat % 8) (accLo (firstT (l.getD 0 0).toNat / 16)) (accHi (firstT (l.getD 0 0).toNat / 16))).getD 0
/-- What the reference has gathered behind j bytes more. -/
def vS (l : List UInt8) (v0 : Nat) : Nat → Nat
  | 0 => v0
  | j + 1 => vS l v0 j * 64 + (l.getD (j + 1) 0).toNat % 64
def cont (l : List UInt8) (j : Nat) : Prop := 128 ≤ (l.getD j 0).toNat ∧ (l.getD j 0).toNat ≤ 191
theorem checkN_2 (n b1 b2 b3 lo hi : Nat) : checkN n b1 b2 b3 2 lo hi = if n < 2 ∨ b1 < lo ∨ hi < b1 then none else some 2 := rfl
theorem checkN_3 (n b1 b2 b3 lo hi : Nat) : checkN n b1 b2 b3 3 lo hi = if n < 3 ∨ b1 < lo ∨ hi < b1 ∨ b2 < 128 ∨ 191 < b2 then none else some 3 := rfl
theorem checkN_4 (n b1 b2 b3 lo hi : Nat) : checkN n b1 b2 b3 4 lo hi = if n < 4 ∨ b1 < lo ∨ hi < b1 ∨ b2 < 128 ∨ 191 < b2 ∨ b3 < 128 ∨ 191 < b3 then none else some 4 := rfl
theorem signN_low (l : List UInt8) (h : (l.getD 0 0).toNat < 128) : signN l = 1 := by unfold signN; rw [if_pos h]
theorem signN_bad (l : List UInt8) (h : (128 ≤ (l.getD 0 0).toNat ∧ (l.getD 0 0).toNat < 194) ∨ 245 ≤ (l.getD 0 0).toNat) : signN l = 0 := by
  have e : firstT (l.getD 0 0).toNat = 241 := by
    unfold firstT
    repeat' split
    all_goals omega
  unfold signN; rw [if_neg (by omega), e]; rfl
/-- The reference's last look. -/
def fine (least v : Nat) : Prop := ¬ v < least ∧ ¬ 1114111 < v ∧ ¬ (55296 ≤ v ∧ v ≤ 57343)
theorem signN_short (l : List UInt8) (n : Nat) (hn : (194 ≤ (l.getD 0 0).toNat ∧ (l.getD 0 0).toNat ≤ 223 ∧ n = 2) ∨ (224 ≤ (l.getD 0 0).toNat ∧ (l.getD 0 0).toNat ≤ 239 ∧ n = 3) ∨ (240 ≤ (l.getD 0 0).toNat ∧ (l.getD 0 0).toNat ≤ 244 ∧ n = 4))
    (h : l.length < n ∨ ∃ j, 1 ≤ j ∧ j < n ∧ ¬ cont l j) : signN l = 0 := by
  unfold cont at h
  have hlo : (l.getD 0 0).toNat < 245 := by omega
  generalize hb0 : (l.getD 0 0).toNat = b0 at hn hlo
  have key : checkN l.length (l.getD 1 0).toNat (l.getD 2 0).toNat (l.getD 3 0).toNat (firstT b0 % 8) (accLo (firstT b0 / 16)) (accHi (firstT b0 / 16)) = none := by
    have acc : ∀ x, x ≤ 4 → 128 ≤ accLo x ∧ accHi x ≤ 191 := by decide
    have hf : firstT b0 / 16 ≤ 4 ∧ firstT b0 % 8 = n := by
      unfold firstT; repeat' split
      all_goals omega
    have ha := acc _ hf.1
    rw [hf.2]
    rcases hn with ⟨_, _, rfl⟩ | ⟨_, _, rfl⟩ | ⟨_, _, rfl⟩
    · rw [checkN_2, if_pos]
      rcases h with h | ⟨j, h1, h2, h3⟩
      · omega
      · obtain rfl : j = 1 := by omega
        omega
    · rw [checkN_3, if_pos]
      rcases h with h | ⟨j, h1, h2, h3⟩
      · omega
      · obtain rfl | rfl : j = 1 ∨ j = 2 := by omega
        all_goals omega
    · rw [checkN_4, if_pos]
      rcases h with h | ⟨j, h1, h2, h3⟩
      · omega
      · obtain rfl | rfl | rfl : j = 1 ∨ j = 2 ∨ j = 3 := by omega
        all_goals omega
  unfold signN; rw [hb0, if_neg (by omega), key]; rfl
theorem signN_long (l : List UInt8) (n least v0 : Nat) (hn : (194 ≤ (l.getD 0 0).toNat ∧ (l.getD 0 0).toNat ≤ 223 ∧ n = 2 ∧ least = 128 ∧ v0 = (l.getD 0 0).toNat % 32) ∨ (224 ≤ (l.getD 0 0).toNat ∧ (l.getD 0 0).toNat ≤ 239 ∧ n = 3 ∧ least = 2048 ∧ v0 = (l.getD 0 0).toNat % 16) ∨ (240 ≤ (l.getD 0 0).toNat ∧ (l.getD 0 0).toNat ≤ 244 ∧ n = 4 ∧ least = 65536 ∧ v0 = (l.getD 0 0).toNat % 8))
    (hl : n ≤ l.length) (h : ∀ j, 1 ≤ j → j < n → cont l j) : (fine least (vS l v0 (n - 1)) → signN l = n) ∧ (¬ fine least (vS l v0 (n - 1)) → signN l = 0) := by
  unfold cont at h
  have hlo : (l.getD 0 0).toNat < 245 := by omega
  unfold signN
  generalize hb0 : (l.getD 0 0).toNat = b0 at hn hlo
  rw [if_neg (show ¬ b0 < 128 by omega)]
  unfold fine
  rcases hn with ⟨h1, h2, rfl, rfl, rfl⟩ | ⟨h1, h2, rfl, rfl, rfl⟩ | ⟨h1, h2, rfl, rfl, rfl⟩
  · have c1 := h 1 (by omega) (by omega)
    rw [firstT_C2 ⟨h1, by omega⟩, checkN_2]
    simp only [vS, show (2 : Nat) - 1 = 0 + 1 from rfl, Nat.zero_add]
    have a1 : accLo (2 / 16) = 128 := rfl
    have a2 : accHi (2 / 16) = 191 := rfl
    rw [a1, a2, if_neg (by omega)]
    exact ⟨fun _ => rfl, fun hf => by exfalso; omega⟩
  · have c1 := h 1 (by omega) (by omega)
    have c2 := h 2 (by omega) (by omega)
    simp only [vS, show (3 : Nat) - 1 = 0 + 1 + 1 from rfl, Nat.zero_add, show (1 : Nat) + 1 = 2 from rfl]
    generalize (l.getD 1 0).toNat = b1 at c1 ⊢
    generalize (l.getD 2 0).toNat = b2 at c2 ⊢
    rcases (show b0 = 224 ∨ ((225 ≤ b0 ∧ b0 < 237) ∨ (238 ≤ b0 ∧ b0 < 240)) ∨ b0 = 237 by omega) with h3 | h3 | h3
    · rw [firstT_E0 h3, checkN_3, show accLo (19 / 16) = 160 from rfl, show accHi (19 / 16) = 191 from rfl]
      constructor
      · intro hf; rw [if_neg (by omega)]; rfl
      · intro hf; rw [if_pos (by omega)]; rfl
    · rw [firstT_E1 h3, checkN_3, show accLo (3 / 16) = 128 from rfl, show accHi (3 / 16) = 191 from rfl]
      constructor
      · intro hf; rw [if_neg (by omega)]; rfl
      · intro hf; exfalso; omega
    · rw [firstT_ED h3, checkN_3, show accLo (35 / 16) = 128 from rfl, show accHi (35 / 16) = 159 from rfl]
      constructor
      · intro hf; rw [if_neg (by omega)]; rfl
      · intro hf; rw [if_pos (by omega)]; rfl
  · have c1 := h 1 (by omega) (by omega)
    have c2 := h 2 (by omega) (by omega)
    have c3 := h 3 (by omega) (by omega)
    simp only [vS, show (4 : Nat) - 1 = 0 + 1 + 1 + 1 from rfl, Nat.zero_add, show (1 : Nat) + 1 = 2 from rfl, show (2 : Nat) + 1 = 3 from rfl]
    generalize (l.getD 1 0).toNat = b1 at c1 ⊢
    generalize (l.getD 2 0).toNat = b2 at c2 ⊢
    generalize (l.getD 3 0).toNat = b3 at c3 ⊢
    rcases (show b0 = 240 ∨ (241 ≤ b0 ∧ b0 < 244) ∨ b0 = 244 by omega) with h3 | h3 | h3
    · rw [firstT_F0 h3, checkN_4, show accLo (52 / 16) = 144 from rfl, show accHi (52 / 16) = 191 from rfl]
      constructor
      · intro hf; rw [if_neg (by omega)]; rfl
      · intro hf; rw [if_pos (by omega)]; rfl
    · rw [firstT_F1 h3, checkN_4, show accLo (4 / 16) = 128 from rfl, show accHi (4 / 16) = 191 from rfl]
      constructor
      · intro hf; rw [if_neg (by omega)]; rfl
      · intro hf; exfalso; omega
    · rw [firstT_F4 h3, checkN_4, show accLo (68 / 16) = 128 from rfl, show accHi (68 / 16) = 143 from rfl]
      constructor
      · intro hf; rw [if_neg (by omega)]; rfl
      · intro hf; rw [if_pos (by omega)]; rfl
theorem vS_lt (l : List UInt8) (v0 : Nat) (h : v0 < 32) : ∀ j, j ≤ 3 → vS l v0 j < 32 * 64 ^ j
  | 0, _ => by simpa [vS] using h
  | j + 1, hj => by
    have ih := vS_lt l v0 h j (by omega)
    rw [Nat.pow_succ]
    simp only [vS]
    have := Nat.mod_lt (l.getD (j + 1) 0).toNat (show 0 < 64 by decide)
    omega
theorem checkN_le {n b1 b2 b3 sz lo hi k : Nat} (hk : checkN n b1 b2 b3 sz lo hi = some k) : k ≠ 0 ∧ k ≤ n := by
  unfold checkN at hk
  repeat' split at hk
  all_goals cases hk
  all_goals omega
/-- What the tables' decoder says of a text, by its first sign. -/
theorem signN_valid (l : List UInt8) (hne : l ≠ []) : validD l = (decide (signN l ≠ 0) && validD (l.drop (signN l))) := by
  by_cases h : (l.getD 0 0).toNat < 128
  · rw [signN_low l h]
    cases l with
    | nil => exact absurd rfl hne
    | cons c t => rw [validD_cons c t (by simpa using h)]; simp
  · rw [validD_lead l hne (by omega)]
    unfold signN
    rw [if_neg h]
    split
    next e => rw [e]; simp
    next k e => rw [e]; simp [(checkN_le e).1]
theorem signN_width (l : List UInt8) (hne : l ≠ []) (h0 : signN l ≠ 0) : (decodeL l).2 = signN l ∧ 1 ≤ signN l ∧ signN l ≤ l.length := by
  have hw := decodeL_width l
  have hl : 0 < l.length := List.length_pos_iff.2 hne
  have e : (decodeL l).2 = signN l := by
    by_cases h : (l.getD 0 0).toNat < 128
    · rw [signN_low l h]
      cases l with
      | nil => exact absurd rfl hne
      | cons c t => rw [decodeL_ascii c t (by simpa using h)]
    · unfold signN at h0 ⊢
      rw [if_neg h] at h0 ⊢
      rw [decodeL_N]
      rcases check_decode l.length (l.getD 0 0).toNat (l.getD 1 0).toNat (l.getD 2 0).toNat (l.getD 3 0).toNat hl (by omega) (l.getD 0 0).toNat_lt (l.getD 1 0).toNat_lt (l.getD 2 0).toNat_lt (l.getD 3 0).toNat_lt with ⟨hc, _⟩ | ⟨k, hk, hc, hd⟩
      · rw [hc] at h0; exact absurd rfl h0
      · rw [hc]; exact hd
  refine ⟨e, by omega, ?_⟩
  by_cases h : (l.getD 0 0).toNat < 128
  · rw [signN_low l h]; omega
  · unfold signN at h0 ⊢
    rw [if_neg h] at h0 ⊢
    cases hc : checkN l.length (l.getD 1 0).toNat (l.getD 2 0).toNat (l.getD 3 0).toNat (firstT (l.getD 0 0).toNat % 8) (accLo (firstT (l.getD 0 0).toNat / 16)) (accHi (firstT (l.getD 0 0).toNat / 16)) with
    | none => rw [hc] at h0; exact absurd rfl h0
    | some k => exact (checkN_le hc).2
end Go.Proofs.YtckkckbgjehpjaaDoor
