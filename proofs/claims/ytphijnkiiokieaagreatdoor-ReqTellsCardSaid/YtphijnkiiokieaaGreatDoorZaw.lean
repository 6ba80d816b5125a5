/- Texts of one proof, joined. -/
import Derived.Test.YtphijnkiiokieaaGreatDoorZav
set_option linter.unusedVariables false
set_option linter.unusedSimpArgs false
set_option maxRecDepth 100000
set_option maxHeartbeats 80000000
namespace Go.Proofs.YtphijnkiiokieaaGreatDoor
open Go.RowKit Go.Lib
theorem i64_or (a b : Int) (h1 : 0 ≤ a) (h2 : a < 9223372036854775808) (h3 : 0 ≤ b) (h4 : b < 9223372036854775808) : bits .or .i64 a b = ((a.toNat ||| b.toNat : Nat) : Int) := by
  obtain ⟨A, rfl⟩ := Int.eq_ofNat_of_zero_le h1; obtain ⟨B, rfl⟩ := Int.eq_ofNat_of_zero_le h3; have hx : A ||| B < 2 ^ 63 := Nat.or_lt_two_pow (by omega) (by omega)
  show IntKind.i64.wrap ((BitVec.ofInt 64 (A : Int) ||| BitVec.ofInt 64 (B : Int)).toNat : Int) = _
  rw [BitVec.toNat_or, ofInt_u64 A (by omega), ofInt_u64 B (by omega), IntWalk.i64_in _ (by omega)]
  rfl
theorem or_join (i : Nat) (a b : Int) (h0 : 0 ≤ a) (h1 : a < 9223372036854775808) (hm : a.toNat % 2 ^ i = 0) (h2 : 0 ≤ b) (h3 : b < 2 ^ i) (hi : i < 63) : bits .or .i64 a b = a + b := by
  have hp : (2 : Int) ^ i ≤ 2 ^ 62 := by exact_mod_cast Nat.pow_le_pow_right (by omega) (show i ≤ 62 by omega)
  have hb : b.toNat < 2 ^ i := by have : ((b.toNat : Int)) < ((2 ^ i : Nat) : Int) := by push_cast; omega
                                  exact_mod_cast this
  rw [i64_or a b h0 (by omega) h2 (by omega), nat_join i _ _ hm hb]
  omega
theorem fin_all {p : Nat → Prop} [∀ n, Decidable (p n)] (h : ∀ n : Fin 256, p n) (b : UInt8) : p b.toNat := h ⟨b.toNat, b.toNat_lt⟩
theorem and_top (b : UInt8) : bits .and .u8 (b.toNat : Int) 192 = ((b.toNat / 64 * 64 : Nat) : Int) := fin_all (p := fun n => bits .and .u8 (n : Int) 192 = ((n / 64 * 64 : Nat) : Int)) (by decide +kernel) b
theorem and_63 (b : UInt8) : bits .and .u8 (b.toNat : Int) 63 = ((b.toNat % 64 : Nat) : Int) := fin_all (p := fun n => bits .and .u8 (n : Int) 63 = ((n % 64 : Nat) : Int)) (by decide +kernel) b
theorem and_31 (b : UInt8) : bits .and .u8 (b.toNat : Int) 31 = ((b.toNat % 32 : Nat) : Int) := fin_all (p := fun n => bits .and .u8 (n : Int) 31 = ((n % 32 : Nat) : Int)) (by decide +kernel) b
theorem and_15 (b : UInt8) : bits .and .u8 (b.toNat : Int) 15 = ((b.toNat % 16 : Nat) : Int) := fin_all (p := fun n => bits .and .u8 (n : Int) 15 = ((n % 16 : Nat) : Int)) (by decide +kernel) b
theorem and_7 (b : UInt8) : bits .and .u8 (b.toNat : Int) 7 = ((b.toNat % 8 : Nat) : Int) := fin_all (p := fun n => bits .and .u8 (n : Int) 7 = ((n % 8 : Nat) : Int)) (by decide +kernel) b
def signN (l : List UInt8) : Nat :=
  if (l.getD 0 0).toNat < 128 then 1 else (checkN l.length (l.getD 1 0).toNat (l.getD 2 0).toNat (l.getD 3 0).toNat (firstT (l.getD 0 0).toNat % 8) (accLo (firstT (l.getD 0 0).toNat / 16)) (accHi (firstT (l.getD 0 0).toNat / 16))).getD 0
def vS (l : List UInt8) (v0 : Nat) : Nat → Nat
  | 0 => v0
  | j + 1 => vS l v0 j * 64 + (l.getD (j + 1) 0).toNat % 64
def cont (l : List UInt8) (j : Nat) : Prop := 128 ≤ (l.getD j 0).toNat ∧ (l.getD j 0).toNat ≤ 191
theorem checkN_2 (n b1 b2 b3 lo hi : Nat) : checkN n b1 b2 b3 2 lo hi = if n < 2 ∨ b1 < lo ∨ hi < b1 then none else some 2 := rfl
theorem checkN_3 (n b1 b2 b3 lo hi : Nat) : checkN n b1 b2 b3 3 lo hi = if n < 3 ∨ b1 < lo ∨ hi < b1 ∨ b2 < 128 ∨ 191 < b2 then none else some 3 := rfl
theorem checkN_4 (n b1 b2 b3 lo hi : Nat) : checkN n b1 b2 b3 4 lo hi = if n < 4 ∨ b1 < lo ∨ hi < b1 ∨ b2 < 128 ∨ 191 < b2 ∨ b3 < 128 ∨ 191 < b3 then none else some 4 := rfl
theorem signN_low (l : List UInt8) (h : (l.getD 0 0).toNat < 128) : signN l = 1 := by unfold signN; rw [if_pos h]
theorem signN_bad (l : List UInt8) (h : (128 ≤ (l.getD 0 0).toNat ∧ (l.getD 0 0).toNat < 194) ∨ 245 ≤ (l.getD 0 0).toNat) : signN l = 0 := by
  have e : firstT (l.getD 0 0).toNat = 241 := by
    unfold firstT
    repeat' split
    all_goals omega
  unfold signN; rw [if_neg (by omega), e]; rfl
def fine (least v : Nat) : Prop := ¬ v < least ∧ ¬ 1114111 < v ∧ ¬ (55296 ≤ v ∧ v ≤ 57343)
theorem signN_short (l : List UInt8) (n : Nat) (hn : (194 ≤ (l.getD 0 0).toNat ∧ (l.getD 0 0).toNat ≤ 223 ∧ n = 2) ∨ (224 ≤ (l.getD 0 0).toNat ∧ (l.getD 0 0).toNat ≤ 239 ∧ n = 3) ∨ (240 ≤ (l.getD 0 0).toNat ∧ (l.getD 0 0).toNat ≤ 244 ∧ n = 4))
    (h : l.length < n ∨ ∃ j, 1 ≤ j ∧ j < n ∧ ¬ cont l j) : signN l = 0 := by
  unfold cont at h
  have hlo : (l.getD 0 0).toNat < 245 := by omega
  generalize hb0 : (l.getD 0 0).toNat = b0 at hn hlo
  have key : checkN l.length (l.getD 1 0).toNat (l.getD 2 0).toNat (l.getD 3 0).toNat (firstT b0 % 8) (accLo (firstT b0 / 16)) (accHi (firstT b0 / 16)) = none := by
    have acc : ∀ x, x ≤ 4 → 128 ≤ accLo x ∧ accHi x ≤ 191 := by decide
    have hf : firstT b0 / 16 ≤ 4 ∧ firstT b0 % 8 = n := by
      unfold firstT; repeat' split
      all_goals omega
    have ha := acc _ hf.1; rw [hf.2]
    rcases hn with ⟨_, _, rfl⟩ | ⟨_, _, rfl⟩ | ⟨_, _, rfl⟩
    · rw [checkN_2, if_pos]
      rcases h with h | ⟨j, h1, h2, h3⟩
      · omega
      · obtain rfl : j = 1 := by omega
        omega
    · rw [checkN_3, if_pos]
      rcases h with h | ⟨j, h1, h2, h3⟩
      · omega
      · obtain rfl | rfl : j = 1 ∨ j = 2 := by omega
        all_goals omega
    · rw [checkN_4, if_pos]
      rcases h with h | ⟨j, h1, h2, h3⟩
      · omega
      · obtain rfl | rfl | rfl : j = 1 ∨ j = 2 ∨ j = 3 := by omega
        all_goals omega
  unfold signN; rw [hb0, if_neg (by omega), key]; rfl
theorem signN_long (l : List UInt8) (n least v0 : Nat) (hn : (194 ≤ (l.getD 0 0).toNat ∧ (l.getD 0 0).toNat ≤ 223 ∧ n = 2 ∧ least = 128 ∧ v0 = (l.getD 0 0).toNat % 32) ∨ (224 ≤ (l.getD 0 0).toNat ∧ (l.getD 0 0).toNat ≤ 239 ∧ n = 3 ∧ least = 2048 ∧ v0 = (l.getD 0 0).toNat % 16) ∨ (240 ≤ (l.getD 0 0).toNat ∧ (l.getD 0 0).toNat ≤ 244 ∧ n = 4 ∧ least = 65536 ∧ v0 = (l.getD 0 0).toNat % 8))
    (hl : n ≤ l.length) (h : ∀ j, 1 ≤ j → j < n → cont l j) : (fine least (vS l v0 (n - 1)) → signN l = n) ∧ (¬ fine least (vS l v0 (n - 1)) → signN l = 0) := by
  unfold cont at h
  have hlo : (l.getD 0 0).toNat < 245 := by omega
  unfold signN
  generalize hb0 : (l.getD 0 0).toNat = b0 at hn hlo
  rw [if_neg (show ¬ b0 < 128 by omega)]
  unfold fine
  rcases hn with ⟨h1, h2, rfl, rfl, rfl⟩ | ⟨h1, h2, rfl, rfl, rfl⟩ | ⟨h1, h2, rfl, rfl, rfl⟩
  · have c1 := h 1 (by omega) (by omega)
    rw [firstT_C2 ⟨h1, by omega⟩, checkN_2]; simp only [vS, show (2 : Nat) - 1 = 0 + 1 from rfl, Nat.zero_add]; have a1 : accLo (2 / 16) = 128 := rfl; have a2 : accHi (2 / 16) = 191 := rfl; rw [a1, a2, if_neg (by omega)]
    exact ⟨fun _ => rfl, fun hf => by exfalso; omega⟩
  · have c1 := h 1 (by omega) (by omega)
    have c2 := h 2 (by omega) (by omega); simp only [vS, show (3 : Nat) - 1 = 0 + 1 + 1 from rfl, Nat.zero_add, show (1 : Nat) + 1 = 2 from rfl]
    generalize (l.getD 1 0).toNat = b1 at c1 ⊢
    generalize (l.getD 2 0).toNat = b2 at c2 ⊢
    rcases (show b0 = 224 ∨ ((225 ≤ b0 ∧ b0 < 237) ∨ (238 ≤ b0 ∧ b0 < 240)) ∨ b0 = 237 by omega) with h3 | h3 | h3
    · rw [firstT_E0 h3, checkN_3, show accLo (19 / 16) = 160 from rfl, show accHi (19 / 16) = 191 from rfl]
      constructor
      · intro hf; rw [if_neg (by omega)]; rfl
      · intro hf; rw [if_pos (by omega)]; rfl
    · rw [firstT_E1 h3, checkN_3, show accLo (3 / 16) = 128 from rfl, show accHi (3 / 16) = 191 from rfl]
      constructor
      · intro hf; rw [if_neg (by omega)]; rfl
      · intro hf; exfalso; omega
    · rw [firstT_ED h3, checkN_3, show accLo (35 / 16) = 128 from rfl, show accHi (35 / 16) = 159 from rfl]
      constructor
      · intro hf; rw [if_neg (by omega)]; rfl
      · intro hf; rw [if_pos (by omega)]; rfl
  · have c1 := h 1 (by omega) (by omega)
    have c2 := h 2 (by omega) (by omega); have c3 := h 3 (by omega) (by omega); simp only [vS, show (4 : Nat) - 1 = 0 + 1 + 1 + 1 from rfl, Nat.zero_add, show (1 : Nat) + 1 = 2 from rfl, show (2 : Nat) + 1 = 3 from rfl]
    generalize (l.getD 1 0).toNat = b1 at c1 ⊢
    generalize (l.getD 2 0).toNat = b2 at c2 ⊢
    generalize (l.getD 3 0).toNat = b3 at c3 ⊢
    rcases (show b0 = 240 ∨ (241 ≤ b0 ∧ b0 < 244) ∨ b0 = 244 by omega) with h3 | h3 | h3
    · rw [firstT_F0 h3, checkN_4, show accLo (52 / 16) = 144 from rfl, show accHi (52 / 16) = 191 from rfl]
      constructor
      · intro hf; rw [if_neg (by omega)]; rfl
      · intro hf; rw [if_pos (by omega)]; rfl
    · rw [firstT_F1 h3, checkN_4, show accLo (4 / 16) = 128 from rfl, show accHi (4 / 16) = 191 from rfl]
      constructor
      · intro hf; rw [if_neg (by omega)]; rfl
      · intro hf; exfalso; omega
    · rw [firstT_F4 h3, checkN_4, show accLo (68 / 16) = 128 from rfl, show accHi (68 / 16) = 143 from rfl]
      constructor
      · intro hf; rw [if_neg (by omega)]; rfl
      · intro hf; rw [if_pos (by omega)]; rfl
theorem vS_lt (l : List UInt8) (v0 : Nat) (h : v0 < 32) : ∀ j, j ≤ 3 → vS l v0 j < 32 * 64 ^ j
  | 0, _ => by simpa [vS] using h
  | j + 1, hj => by
    have ih := vS_lt l v0 h j (by omega); rw [Nat.pow_succ]; simp only [vS]; have := Nat.mod_lt (l.getD (j + 1) 0).toNat (show 0 < 64 by decide)
    omega
theorem checkN_le {n b1 b2 b3 sz lo hi k : Nat} (hk : checkN n b1 b2 b3 sz lo hi = some k) : k ≠ 0 ∧ k ≤ n := by
  unfold checkN at hk
  repeat' split at hk
  all_goals cases hk
  all_goals omega
theorem signN_valid (l : List UInt8) (hne : l ≠ []) : validD l = (decide (signN l ≠ 0) && validD (l.drop (signN l))) := by
  by_cases h : (l.getD 0 0).toNat < 128
  · rw [signN_low l h]
    cases l with
    | nil => exact absurd rfl hne
    | cons c t => rw [validD_cons c t (by simpa using h)]; simp
  · rw [validD_lead l hne (by omega)]
    unfold signN
    rw [if_neg h]
    split
    next e => rw [e]; simp
    next k e => rw [e]; simp [(checkN_le e).1]
theorem signN_width (l : List UInt8) (hne : l ≠ []) (h0 : signN l ≠ 0) : (decodeL l).2 = signN l ∧ 1 ≤ signN l ∧ signN l ≤ l.length := by
  have hw := decodeL_width l; have hl : 0 < l.length := List.length_pos_iff.2 hne; have e : (decodeL l).2 = signN l := by
    by_cases h : (l.getD 0 0).toNat < 128
    · rw [signN_low l h]
      cases l with
      | nil => exact absurd rfl hne
      | cons c t => rw [decodeL_ascii c t (by simpa using h)]
    · unfold signN at h0 ⊢
      rw [if_neg h] at h0 ⊢; rw [decodeL_N]
      rcases check_decode l.length (l.getD 0 0).toNat (l.getD 1 0).toNat (l.getD 2 0).toNat (l.getD 3 0).toNat hl (by omega) (l.getD 0 0).toNat_lt (l.getD 1 0).toNat_lt (l.getD 2 0).toNat_lt (l.getD 3 0).toNat_lt with ⟨hc, _⟩ | ⟨k, hk, hc, hd⟩
      · rw [hc] at h0; exact absurd rfl h0
      · rw [hc]; exact hd
  refine ⟨e, by omega, ?_⟩
  by_cases h : (l.getD 0 0).toNat < 128
  · rw [signN_low l h]; omega
  · unfold signN at h0 ⊢
    rw [if_neg h] at h0 ⊢
    cases hc : checkN l.length (l.getD 1 0).toNat (l.getD 2 0).toNat (l.getD 3 0).toNat (firstT (l.getD 0 0).toNat % 8) (accLo (firstT (l.getD 0 0).toNat / 16)) (accHi (firstT (l.getD 0 0).toNat / 16)) with
    | none => rw [hc] at h0; exact absurd rfl h0
    | some k => exact (checkN_le hc).2
end Go.Proofs.YtphijnkiiokieaaGreatDoor
namespace Go.Proofs.YtphijnkiiokieaaGreatDoor
open Go.RowKit
open Go.Lib hiding intOf
theorem drop_getD (s : ByteArray) (i j : Nat) (h : i + j < s.size) : (s.data.toList.drop i).getD j 0 = s[i + j] := by
 rw [List.getD_eq_getElem?_getD, List.getElem?_drop, List.getElem?_eq_getElem (by simpa using h)]; rfl
theorem drop_getD0 (s : ByteArray) (i : Nat) (h : i < s.size) : (s.data.toList.drop i).getD 0 0 = s[i] := drop_getD s i 0 h
theorem top_cont (b : UInt8) (h : 128 ≤ b.toNat ∧ b.toNat ≤ 191) : bits .and .u8 (b.toNat : Int) 192 = 128 := by
 rw [and_top]; omega
theorem top_not (b : UInt8) (h : ¬ (128 ≤ b.toNat ∧ b.toNat ≤ 191)) : ∃ q : Int, bits .and .u8 (b.toNat : Int) 192 = q ∧ (q != 128) = true := by
 refine ⟨_, rfl, ?_⟩; rw [and_top]; simp only [bne_iff_ne, ne_eq]
 omega
theorem sign_2 (s : ByteArray) (hs : s.size ≤ 1000000) (i : Nat) (hi : i < s.size) (h1 : 194 ≤ (s[i].toNat : Int)) (h2 : (s[i].toNat : Int) ≤ 223) (w : World) :
  Calls Tryz.prog 136 #[.string s, .int .i64 (i : Int)] w fun e w' => e = .returned (.int .i64 (signN (s.data.toList.drop i) : Int)) ∧ w' = w := by
 obtain ⟨r, hr⟩ : ∃ r, signN (s.data.toList.drop i) = r := ⟨_, rfl⟩; rw [hr]; have HR := Zh hr; clear hr; have e1 := and_31 s[i]; obtain ⟨v0, hv0⟩ : ∃ v0, s[i].toNat % 32 = v0 := ⟨_, rfl⟩; rw [hv0] at e1; have HV := Zh hv0; have hv : v0 < 32 := by omega
 clear hv0; have HC0 := Zh (drop_getD0 s i hi)
 by_cases hl : (s.size : Int) - (i : Int) < 2
 ·
  have H0 := Zh (show r = 0 by rw [← HR.out]; exact signN_short _ 2 (by rw [HC0.out]; omega) (.inl (by simp; omega)))
  go_enter Tryz.func136, Tryz.ntmps136
  go_wp2
  go_ret
  exact ⟨by rw [H0.out]; rfl, rfl⟩
 ·
  have HL := Zh (signN_long (s.data.toList.drop i) 2 128 v0 (by rw [HC0.out]; have := HV.out; omega) (by simp; omega)); have HSh := Zh (signN_short (s.data.toList.drop i) 2 (by rw [HC0.out]; omega)); obtain ⟨l, hdl⟩ : ∃ l, s.data.toList.drop i = l := ⟨_, rfl⟩; rw [hdl] at HL HSh HR; have HG := Zh (fun j h => hdl ▸ drop_getD s i j h); clear hdl HC0
  go_enter Tryz.func136, Tryz.ntmps136
  go_wp2
  go_loop [8, 9] (fun v k => ∃ j : Nat, j ≤ 2 - 1 ∧ k = .int .i64 ((j : Int) + 1) ∧ v = .int .i64 (vS l v0 j : Int) ∧ ∀ m, 1 ≤ m → m ≤ j → cont l m) (fun _ k => (2 - intOf k).toNat)
  case atStart => exact ⟨0, by omega, rfl, rfl, fun m h1 h2 => absurd h1 (by omega)⟩
  case round =>
   obtain ⟨j, hj, rfl, rfl, hc⟩ := hrel; have HC := Zh hc; clear hc; have hV3 := vS_lt l v0 hv j (by omega); have HVS := Zh (show vS l v0 (j + 1) = vS l v0 j * 64 + (l.getD (j + 1) 0).toNat % 64 from rfl); obtain ⟨V, hV⟩ : ∃ V, vS l v0 j = V := ⟨_, rfl⟩; rw [hV] at hV3 HVS; simp only [hV]; have HVV := Zh hV; clear hV; have hVI : (V : Int) < 8388608 := by
    have : (64 : Nat) ^ j ≤ 64 ^ 3 := Nat.pow_le_pow_right (by decide) (by omega); have : (64 : Nat) ^ 3 = 262144 := by decide
    omega
   have HV2 := Zh (show (j : Int) + 1 < 2 → V ≤ 1000000 by
    intro h; have : (64 : Nat) ^ j ≤ 64 ^ 2 := Nat.pow_le_pow_right (by decide) (by omega); have : (64 : Nat) ^ 2 = 4096 := by decide
    omega)
   clear hV3
   by_cases hlt : (j : Int) + 1 < 2
   ·
    have hx : i + (j + 1) < s.size := by omega
    have HB := Zh (HG.out (j + 1) hx); obtain ⟨c, hcc⟩ : ∃ c, s[i + (j + 1)] = c := ⟨_, rfl⟩; rw [hcc] at HB
    by_cases hct : 128 ≤ c.toNat ∧ c.toNat ≤ 191
    ·
     have e2 := top_cont _ hct; have e3 := and_63 c; obtain ⟨b, hb⟩ : ∃ b, c.toNat % 64 = b := ⟨_, rfl⟩; rw [hb] at e3; have hb64 : b < 64 := by omega
     have HCT := Zh hct; have HBB := Zh hb; clear hct hb; have e4 : bits .or .i64 ((V : Int) * 64) (b : Int) = (V : Int) * 64 + (b : Int) := or_join 6 _ _ (by omega) (by omega) (by omega) (by omega) (by omega) (by omega); have hV2 : (V : Int) ≤ 1000000 := by have := HV2.out hlt; omega
     clear hVI
     go_wp2
     exact ⟨⟨j + 1, by omega, by go_num, by rw [HVS.out, HB.out, HBB.out]; go_num, fun m h1 h2 => by
      by_cases hm : m ≤ j
      ·
       exact HC.out m h1 hm
      ·
       obtain rfl : m = j + 1 := by omega
       unfold cont; rw [HB.out]; exact HCT.out⟩, by simp [intOf]; omega⟩
    ·
     obtain ⟨q, e2, hq⟩ := top_not _ hct; have H0 := Zh (show r = 0 by rw [← HR.out]; exact HSh.out (.inr ⟨j + 1, by omega, by omega, by unfold cont; rw [HB.out]; exact hct⟩)); clear hct hVI
     go_wp2
     go_ret
     exact ⟨by rw [H0.out]; rfl, rfl⟩
   ·
    obtain rfl : j = 2 - 1 := by omega
    have HE := Zh (HL.out (fun m h1 h2 => HC.out m h1 (by omega))); rw [HVV.out] at HE
    by_cases a1 : (V : Int) < 128
    ·
     have H0 := Zh (show r = 0 by rw [← HR.out]; exact HE.out.2 (by unfold fine; omega))
     go_wp2
     go_ret
     exact ⟨by rw [H0.out]; rfl, rfl⟩
    ·
     by_cases a2 : (V : Int) > 1114111
     ·
      have H0 := Zh (show r = 0 by rw [← HR.out]; exact HE.out.2 (by unfold fine; omega))
      go_wp2
      go_ret
      exact ⟨by rw [H0.out]; rfl, rfl⟩
     ·
      by_cases a3 : (V : Int) ≥ 55296
      ·
       by_cases a4 : (V : Int) ≤ 57343
       ·
        have H0 := Zh (show r = 0 by rw [← HR.out]; exact HE.out.2 (by unfold fine; omega))
        go_wp2
        go_ret
        exact ⟨by rw [H0.out]; rfl, rfl⟩
       ·
        have H0 := Zh (show r = 2 by rw [← HR.out]; exact HE.out.1 (by unfold fine; omega))
        go_wp2
        go_ret
        exact ⟨by rw [H0.out]; rfl, rfl⟩
      ·
       have H0 := Zh (show r = 2 by rw [← HR.out]; exact HE.out.1 (by unfold fine; omega))
       go_wp2
       go_ret
       exact ⟨by rw [H0.out]; rfl, rfl⟩
theorem sign_3 (s : ByteArray) (hs : s.size ≤ 1000000) (i : Nat) (hi : i < s.size) (h1 : 224 ≤ (s[i].toNat : Int)) (h2 : (s[i].toNat : Int) ≤ 239) (w : World) :
  Calls Tryz.prog 136 #[.string s, .int .i64 (i : Int)] w fun e w' => e = .returned (.int .i64 (signN (s.data.toList.drop i) : Int)) ∧ w' = w := by
 obtain ⟨r, hr⟩ : ∃ r, signN (s.data.toList.drop i) = r := ⟨_, rfl⟩; rw [hr]; have HR := Zh hr; clear hr; have e1 := and_15 s[i]; obtain ⟨v0, hv0⟩ : ∃ v0, s[i].toNat % 16 = v0 := ⟨_, rfl⟩; rw [hv0] at e1; have HV := Zh hv0; have hv : v0 < 32 := by omega
 clear hv0; have HC0 := Zh (drop_getD0 s i hi)
 by_cases hl : (s.size : Int) - (i : Int) < 3
 ·
  have H0 := Zh (show r = 0 by rw [← HR.out]; exact signN_short _ 3 (by rw [HC0.out]; omega) (.inl (by simp; omega)))
  go_enter Tryz.func136, Tryz.ntmps136
  go_wp2
  go_ret
  exact ⟨by rw [H0.out]; rfl, rfl⟩
 ·
  have HL := Zh (signN_long (s.data.toList.drop i) 3 2048 v0 (by rw [HC0.out]; have := HV.out; omega) (by simp; omega)); have HSh := Zh (signN_short (s.data.toList.drop i) 3 (by rw [HC0.out]; omega)); obtain ⟨l, hdl⟩ : ∃ l, s.data.toList.drop i = l := ⟨_, rfl⟩; rw [hdl] at HL HSh HR; have HG := Zh (fun j h => hdl ▸ drop_getD s i j h); clear hdl HC0
  go_enter Tryz.func136, Tryz.ntmps136
  go_wp2
  go_loop [8, 9] (fun v k => ∃ j : Nat, j ≤ 3 - 1 ∧ k = .int .i64 ((j : Int) + 1) ∧ v = .int .i64 (vS l v0 j : Int) ∧ ∀ m, 1 ≤ m → m ≤ j → cont l m) (fun _ k => (3 - intOf k).toNat)
  case atStart => exact ⟨0, by omega, rfl, rfl, fun m h1 h2 => absurd h1 (by omega)⟩
  case round =>
   obtain ⟨j, hj, rfl, rfl, hc⟩ := hrel; have HC := Zh hc; clear hc; have hV3 := vS_lt l v0 hv j (by omega); have HVS := Zh (show vS l v0 (j + 1) = vS l v0 j * 64 + (l.getD (j + 1) 0).toNat % 64 from rfl); obtain ⟨V, hV⟩ : ∃ V, vS l v0 j = V := ⟨_, rfl⟩; rw [hV] at hV3 HVS; simp only [hV]; have HVV := Zh hV; clear hV; have hVI : (V : Int) < 8388608 := by
    have : (64 : Nat) ^ j ≤ 64 ^ 3 := Nat.pow_le_pow_right (by decide) (by omega); have : (64 : Nat) ^ 3 = 262144 := by decide
    omega
   have HV2 := Zh (show (j : Int) + 1 < 3 → V ≤ 1000000 by
    intro h; have : (64 : Nat) ^ j ≤ 64 ^ 2 := Nat.pow_le_pow_right (by decide) (by omega); have : (64 : Nat) ^ 2 = 4096 := by decide
    omega)
   clear hV3
   by_cases hlt : (j : Int) + 1 < 3
   ·
    have hx : i + (j + 1) < s.size := by omega
    have HB := Zh (HG.out (j + 1) hx); obtain ⟨c, hcc⟩ : ∃ c, s[i + (j + 1)] = c := ⟨_, rfl⟩; rw [hcc] at HB
    by_cases hct : 128 ≤ c.toNat ∧ c.toNat ≤ 191
    ·
     have e2 := top_cont _ hct; have e3 := and_63 c; obtain ⟨b, hb⟩ : ∃ b, c.toNat % 64 = b := ⟨_, rfl⟩; rw [hb] at e3; have hb64 : b < 64 := by omega
     have HCT := Zh hct; have HBB := Zh hb; clear hct hb; have e4 : bits .or .i64 ((V : Int) * 64) (b : Int) = (V : Int) * 64 + (b : Int) := or_join 6 _ _ (by omega) (by omega) (by omega) (by omega) (by omega) (by omega); have hV2 : (V : Int) ≤ 1000000 := by have := HV2.out hlt; omega
     clear hVI
     go_wp2
     exact ⟨⟨j + 1, by omega, by go_num, by rw [HVS.out, HB.out, HBB.out]; go_num, fun m h1 h2 => by
      by_cases hm : m ≤ j
      ·
       exact HC.out m h1 hm
      ·
       obtain rfl : m = j + 1 := by omega
       unfold cont; rw [HB.out]; exact HCT.out⟩, by simp [intOf]; omega⟩
    ·
     obtain ⟨q, e2, hq⟩ := top_not _ hct; have H0 := Zh (show r = 0 by rw [← HR.out]; exact HSh.out (.inr ⟨j + 1, by omega, by omega, by unfold cont; rw [HB.out]; exact hct⟩)); clear hct hVI
     go_wp2
     go_ret
     exact ⟨by rw [H0.out]; rfl, rfl⟩
   ·
    obtain rfl : j = 3 - 1 := by omega
    have HE := Zh (HL.out (fun m h1 h2 => HC.out m h1 (by omega))); rw [HVV.out] at HE
    by_cases a1 : (V : Int) < 2048
    ·
     have H0 := Zh (show r = 0 by rw [← HR.out]; exact HE.out.2 (by unfold fine; omega))
     go_wp2
     go_ret
     exact ⟨by rw [H0.out]; rfl, rfl⟩
    ·
     by_cases a2 : (V : Int) > 1114111
     ·
      have H0 := Zh (show r = 0 by rw [← HR.out]; exact HE.out.2 (by unfold fine; omega))
      go_wp2
      go_ret
      exact ⟨by rw [H0.out]; rfl, rfl⟩
     ·
      by_cases a3 : (V : Int) ≥ 55296
      ·
       by_cases a4 : (V : Int) ≤ 57343
       ·
        have H0 := Zh (show r = 0 by rw [← HR.out]; exact HE.out.2 (by unfold fine; omega))
        go_wp2
        go_ret
        exact ⟨by rw [H0.out]; rfl, rfl⟩
       ·
        have H0 := Zh (show r = 3 by rw [← HR.out]; exact HE.out.1 (by unfold fine; omega))
        go_wp2
        go_ret
        exact ⟨by rw [H0.out]; rfl, rfl⟩
      ·
       have H0 := Zh (show r = 3 by rw [← HR.out]; exact HE.out.1 (by unfold fine; omega))
       go_wp2
       go_ret
       exact ⟨by rw [H0.out]; rfl, rfl⟩
theorem sign_4 (s : ByteArray) (hs : s.size ≤ 1000000) (i : Nat) (hi : i < s.size) (h1 : 240 ≤ (s[i].toNat : Int)) (h2 : (s[i].toNat : Int) ≤ 244) (w : World) :
  Calls Tryz.prog 136 #[.string s, .int .i64 (i : Int)] w fun e w' => e = .returned (.int .i64 (signN (s.data.toList.drop i) : Int)) ∧ w' = w := by
 obtain ⟨r, hr⟩ : ∃ r, signN (s.data.toList.drop i) = r := ⟨_, rfl⟩; rw [hr]; have HR := Zh hr; clear hr; have e1 := and_7 s[i]; obtain ⟨v0, hv0⟩ : ∃ v0, s[i].toNat % 8 = v0 := ⟨_, rfl⟩; rw [hv0] at e1; have HV := Zh hv0; have hv : v0 < 32 := by omega
 clear hv0; have HC0 := Zh (drop_getD0 s i hi)
 by_cases hl : (s.size : Int) - (i : Int) < 4
 ·
  have H0 := Zh (show r = 0 by rw [← HR.out]; exact signN_short _ 4 (by rw [HC0.out]; omega) (.inl (by simp; omega)))
  go_enter Tryz.func136, Tryz.ntmps136
  go_wp2
  go_ret
  exact ⟨by rw [H0.out]; rfl, rfl⟩
 ·
  have HL := Zh (signN_long (s.data.toList.drop i) 4 65536 v0 (by rw [HC0.out]; have := HV.out; omega) (by simp; omega)); have HSh := Zh (signN_short (s.data.toList.drop i) 4 (by rw [HC0.out]; omega)); obtain ⟨l, hdl⟩ : ∃ l, s.data.toList.drop i = l := ⟨_, rfl⟩; rw [hdl] at HL HSh HR; have HG := Zh (fun j h => hdl ▸ drop_getD s i j h); clear hdl HC0
  go_enter Tryz.func136, Tryz.ntmps136
  go_wp2
  go_loop [8, 9] (fun v k => ∃ j : Nat, j ≤ 4 - 1 ∧ k = .int .i64 ((j : Int) + 1) ∧ v = .int .i64 (vS l v0 j : Int) ∧ ∀ m, 1 ≤ m → m ≤ j → cont l m) (fun _ k => (4 - intOf k).toNat)
  case atStart => exact ⟨0, by omega, rfl, rfl, fun m h1 h2 => absurd h1 (by omega)⟩
  case round =>
   obtain ⟨j, hj, rfl, rfl, hc⟩ := hrel; have HC := Zh hc; clear hc; have hV3 := vS_lt l v0 hv j (by omega); have HVS := Zh (show vS l v0 (j + 1) = vS l v0 j * 64 + (l.getD (j + 1) 0).toNat % 64 from rfl); obtain ⟨V, hV⟩ : ∃ V, vS l v0 j = V := ⟨_, rfl⟩; rw [hV] at hV3 HVS; simp only [hV]; have HVV := Zh hV; clear hV; have hVI : (V : Int) < 8388608 := by
    have : (64 : Nat) ^ j ≤ 64 ^ 3 := Nat.pow_le_pow_right (by decide) (by omega); have : (64 : Nat) ^ 3 = 262144 := by decide
    omega
   have HV2 := Zh (show (j : Int) + 1 < 4 → V ≤ 1000000 by
    intro h; have : (64 : Nat) ^ j ≤ 64 ^ 2 := Nat.pow_le_pow_right (by decide) (by omega); have : (64 : Nat) ^ 2 = 4096 := by decide
    omega)
   clear hV3
   by_cases hlt : (j : Int) + 1 < 4
   ·
    have hx : i + (j + 1) < s.size := by omega
    have HB := Zh (HG.out (j + 1) hx); obtain ⟨c, hcc⟩ : ∃ c, s[i + (j + 1)] = c := ⟨_, rfl⟩; rw [hcc] at HB
    by_cases hct : 128 ≤ c.toNat ∧ c.toNat ≤ 191
    ·
     have e2 := top_cont _ hct; have e3 := and_63 c; obtain ⟨b, hb⟩ : ∃ b, c.toNat % 64 = b := ⟨_, rfl⟩; rw [hb] at e3; have hb64 : b < 64 := by omega
     have HCT := Zh hct; have HBB := Zh hb; clear hct hb; have e4 : bits .or .i64 ((V : Int) * 64) (b : Int) = (V : Int) * 64 + (b : Int) := or_join 6 _ _ (by omega) (by omega) (by omega) (by omega) (by omega) (by omega); have hV2 : (V : Int) ≤ 1000000 := by have := HV2.out hlt; omega
     clear hVI
     go_wp2
     exact ⟨⟨j + 1, by omega, by go_num, by rw [HVS.out, HB.out, HBB.out]; go_num, fun m h1 h2 => by
      by_cases hm : m ≤ j
      ·
       exact HC.out m h1 hm
      ·
       obtain rfl : m = j + 1 := by omega
       unfold cont; rw [HB.out]; exact HCT.out⟩, by simp [intOf]; omega⟩
    ·
     obtain ⟨q, e2, hq⟩ := top_not _ hct; have H0 := Zh (show r = 0 by rw [← HR.out]; exact HSh.out (.inr ⟨j + 1, by omega, by omega, by unfold cont; rw [HB.out]; exact hct⟩)); clear hct hVI
     go_wp2
     go_ret
     exact ⟨by rw [H0.out]; rfl, rfl⟩
   ·
    obtain rfl : j = 4 - 1 := by omega
    have HE := Zh (HL.out (fun m h1 h2 => HC.out m h1 (by omega))); rw [HVV.out] at HE
    by_cases a1 : (V : Int) < 65536
    ·
     have H0 := Zh (show r = 0 by rw [← HR.out]; exact HE.out.2 (by unfold fine; omega))
     go_wp2
     go_ret
     exact ⟨by rw [H0.out]; rfl, rfl⟩
    ·
     by_cases a2 : (V : Int) > 1114111
     ·
      have H0 := Zh (show r = 0 by rw [← HR.out]; exact HE.out.2 (by unfold fine; omega))
      go_wp2
      go_ret
      exact ⟨by rw [H0.out]; rfl, rfl⟩
     ·
      by_cases a3 : (V : Int) ≥ 55296
      ·
       by_cases a4 : (V : Int) ≤ 57343
       ·
        have H0 := Zh (show r = 0 by rw [← HR.out]; exact HE.out.2 (by unfold fine; omega))
        go_wp2
        go_ret
        exact ⟨by rw [H0.out]; rfl, rfl⟩
       ·
        have H0 := Zh (show r = 4 by rw [← HR.out]; exact HE.out.1 (by unfold fine; omega))
        go_wp2
        go_ret
        exact ⟨by rw [H0.out]; rfl, rfl⟩
      ·
       have H0 := Zh (show r = 4 by rw [← HR.out]; exact HE.out.1 (by unfold fine; omega))
       go_wp2
       go_ret
       exact ⟨by rw [H0.out]; rfl, rfl⟩
theorem sign_any (s : ByteArray) (hs : s.size ≤ 1000000) (i : Nat) (hi : i < s.size) (w : World) :
  Calls Tryz.prog 136 #[.string s, .int .i64 (i : Int)] w fun e w' => e = .returned (.int .i64 (signN (s.data.toList.drop i) : Int)) ∧ w' = w := by
 have hb := s[i].toNat_lt; have HC0 := Zh (drop_getD0 s i hi)
 rcases (show (s[i].toNat : Int) < 128 ∨ (128 ≤ (s[i].toNat : Int) ∧ (s[i].toNat : Int) < 194) ∨ (194 ≤ (s[i].toNat : Int) ∧ (s[i].toNat : Int) ≤ 223) ∨ (224 ≤ (s[i].toNat : Int) ∧ (s[i].toNat : Int) ≤ 239) ∨ (240 ≤ (s[i].toNat : Int) ∧ (s[i].toNat : Int) ≤ 244) ∨ 245 ≤ (s[i].toNat : Int) by omega) with h | ⟨h1, h2⟩ | ⟨h1, h2⟩ | ⟨h1, h2⟩ | ⟨h1, h2⟩ | h
 ·
  rw [signN_low _ (by rw [HC0.out]; omega)]
  go_enter Tryz.func136, Tryz.ntmps136
  go_wp2
  go_ret
  exact ⟨rfl, rfl⟩
 ·
  rw [signN_bad _ (by rw [HC0.out]; omega)]
  go_enter Tryz.func136, Tryz.ntmps136
  go_wp2
  go_ret
  exact ⟨rfl, rfl⟩
 ·
  exact sign_2 s hs i hi h1 h2 w
 ·
  exact sign_3 s hs i hi h1 h2 w
 ·
  exact sign_4 s hs i hi h1 h2 w
 ·
  rw [signN_bad _ (by rw [HC0.out]; omega)]
  go_enter Tryz.func136, Tryz.ntmps136
  go_wp2
  go_ret
  exact ⟨rfl, rfl⟩
def outS (X : Bool × List UInt8) : List UInt8 := if (X.1 && !X.2.isEmpty) = true then X.2 ++ [32] else X.2
theorem sq_last (l : List UInt8) : ∀ k, k ≤ l.length → (sqAt l k).2.getLast? ≠ some 32
 | 0, _ => by simp [sqAt]
 | k + 1, h => by
  have ih := sq_last l k (by omega); rw [sqAt_succ l k (by omega)]
  unfold sqStep
  by_cases hc : ((l[k].toNat : Int) == 32) = true
  ·
   rw [if_pos hc]; exact ih
  ·
   rw [if_neg hc]; simp only [List.getLast?_append, List.getLast?_singleton, Option.some_or, ne_eq, Option.some.injEq]; intro e; rw [e] at hc
   exact hc rfl
theorem out_blank (X : Bool × List UInt8) (c : UInt8) (hc : (c.toNat : Int) = 32) (hX : X.2.getLast? ≠ some 32) :
  ((outS X = [] ∨ (outS X).getLast? = some 32) → outS (sqStep X c) = outS X) ∧ (outS X ≠ [] → (outS X).getLast? ≠ some 32 → outS (sqStep X c) = outS X ++ [32]) := by
 obtain ⟨g, o⟩ := X; have e : sqStep (g, o) c = (true, o) := by unfold sqStep; rw [if_pos (by simpa using hc)]
 rw [e]
 cases o with
 | nil => simp [outS]
 | cons x t =>
  cases g with
  | true => exact ⟨fun _ => rfl, fun _ h => absurd (show (((x :: t) ++ [32] : List UInt8)).getLast? = some 32 by rw [List.getLast?_append]; rfl) h⟩
  | false =>
   refine ⟨fun h => ?_, fun _ _ => rfl⟩
   rcases h with h | h
   ·
    simp [outS] at h
   ·
    exact absurd h hX
theorem out_other (X : Bool × List UInt8) (c : UInt8) (hc : ¬ (c.toNat : Int) = 32) : outS (sqStep X c) = outS X ++ [c] := by
 obtain ⟨g, o⟩ := X
 unfold sqStep
 rw [if_neg (by simpa using hc)]
 cases o with
 | nil => simp [outS]
 | cons x t => cases g <;> simp [outS] <;> omega
theorem out_len (l : List UInt8) : ∀ k, k ≤ l.length → (outS (sqAt l k)).length ≤ k
 | 0, _ => by simp [sqAt, outS]
 | k + 1, h => by
  have ih := out_len l k (by omega); have hX := sq_last l k (by omega); rw [sqAt_succ l k (by omega)]
  by_cases hc : ((l[k]).toNat : Int) = 32
  ·
   have hb := out_blank (sqAt l k) l[k] hc hX
   by_cases h1 : outS (sqAt l k) = [] ∨ (outS (sqAt l k)).getLast? = some 32
   ·
    rw [hb.1 h1]; omega
   ·
    rw [hb.2 (fun e => h1 (.inl e)) (fun e => h1 (.inr e))]; simp; omega
  ·
   rw [out_other _ _ hc]; simp; omega
theorem out_fin (X : Bool × List UInt8) (hX : X.2.getLast? ≠ some 32) : ((outS X).getLast? = some 32 → X.2 = (outS X).dropLast ∧ X.2 ≠ []) ∧ ((outS X).getLast? ≠ some 32 → X.2 = outS X) := by
 obtain ⟨g, o⟩ := X
 cases o with
 | nil => simp [outS]
 | cons x t =>
  cases g with
  | true => exact ⟨fun _ => ⟨by simp only [outS, List.isEmpty_cons, Bool.not_false, Bool.and_self, if_true]; rw [List.dropLast_concat], by simp⟩, fun h => absurd (show (((x :: t) ++ [32] : List UInt8)).getLast? = some 32 by rw [List.getLast?_append]; rfl) h⟩
  | false => exact ⟨fun h => absurd h hX, fun _ => rfl⟩
theorem signN_high (l : List UInt8) (h : 128 ≤ (l.getD 0 0).toNat) : ∀ j, j < signN l → 128 ≤ (l.getD j 0).toNat := by
 have acc : 128 ≤ accLo (firstT (l.getD 0 0).toNat / 16) ∨ firstT (l.getD 0 0).toNat = 241 ∨ firstT (l.getD 0 0).toNat = 240 := by
  generalize (l.getD 0 0).toNat = b0 at h
  rcases firstT_cases b0 with e | e | e | e | e | e | e | e | e <;> rw [e] <;> decide
 intro j hj
 unfold signN at hj
 rw [if_neg (by omega)] at hj
 cases hc : checkN l.length (l.getD 1 0).toNat (l.getD 2 0).toNat (l.getD 3 0).toNat (firstT (l.getD 0 0).toNat % 8) (accLo (firstT (l.getD 0 0).toNat / 16)) (accHi (firstT (l.getD 0 0).toNat / 16)) with
 | none => rw [hc] at hj; exact absurd hj (Nat.not_lt_zero _)
 | some k =>
  rw [hc] at hj; simp only [Option.getD_some] at hj
  rcases acc with acc | acc | acc
  ·
   unfold checkN at hc
   repeat' split at hc
   all_goals cases hc
   ·
    obtain rfl | rfl : j = 0 ∨ j = 1 := by omega
    all_goals omega
   ·
    obtain rfl | rfl | rfl : j = 0 ∨ j = 1 ∨ j = 2 := by omega
    all_goals omega
   ·
    obtain rfl | rfl | rfl | rfl : j = 0 ∨ j = 1 ∨ j = 2 ∨ j = 3 := by omega
    all_goals omega
  ·
   rw [acc] at hc; cases hc
  ·
   rw [acc] at hc; cases hc
theorem any_high (l : List UInt8) : ∀ k, k ≤ l.length → (∀ j, j < k → 128 ≤ (l.getD j 0).toNat) → l.any ctl = (l.drop k).any ctl := by
 intro k
 induction k generalizing l with
 | zero => intro _ _; rfl
 | succ k ih =>
  intro hk h
  cases l with
  | nil => simp at hk
  | cons c t =>
   have h0 := h 0 (by omega); have hc : ctl c = false := by
    unfold ctl
    simp only [List.getD_cons_zero] at h0; simp only [Bool.or_eq_false_iff, decide_eq_false_iff_not, beq_eq_false_iff_ne, ne_eq]
    omega
   rw [List.any_cons, hc, Bool.false_or, List.drop_succ_cons]
   exact ih t (by simpa using hk) (fun j hj => by have := h (j + 1) (by omega); simpa using this)
theorem sign_ctl (l : List UInt8) (hne : l ≠ []) (h0 : signN l ≠ 0) (hc : ctl (l.getD 0 0) = false) : l.any ctl = (l.drop (signN l)).any ctl := by
 by_cases h : (l.getD 0 0).toNat < 128
 ·
  rw [signN_low l h]
  cases l with
  | nil => exact absurd rfl hne
  | cons c t => simp only [List.getD_cons_zero] at hc; simp [hc]
 ·
  exact any_high l _ (signN_width l hne h0).2.2 (signN_high l (by omega))
theorem ctl_any (l : List UInt8) (hne : l ≠ []) (hc : ctl (l.getD 0 0) = true) : l.any ctl = true := by
 cases l with
 | nil => exact absurd rfl hne
 | cons c t => simp only [List.getD_cons_zero] at hc; simp [hc]
end Go.Proofs.YtphijnkiiokieaaGreatDoor
