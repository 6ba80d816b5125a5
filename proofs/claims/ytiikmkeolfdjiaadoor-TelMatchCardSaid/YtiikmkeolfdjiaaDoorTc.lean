/- TelMatch. -/
import Derived.Test.YtiikmkeolfdjiaaDoorTa
namespace Go.Proofs.YtiikmkeolfdjiaaDoor
open Go.RowKit
open Go.Lib hiding intOf
set_option linter.unusedVariables false
set_option maxRecDepth 100000
theorem i64_and (a b : Int) (h3 : 0 ≤ b) (h4 : b < 9223372036854775808) : bits .and .i64 a b = (((BitVec.ofInt 64 a).toNat &&& b.toNat : Nat) : Int) := by
  obtain ⟨B, rfl⟩ := Int.eq_ofNat_of_zero_le h3
  have hx : (BitVec.ofInt 64 a).toNat &&& B < 2 ^ 63 := Nat.and_lt_two_pow _ (by omega)
  show IntKind.i64.wrap ((BitVec.ofInt 64 a &&& BitVec.ofInt 64 (B : Int)).toNat : Int) = _
  rw [BitVec.toNat_and, ofInt_u64 B (by omega), IntWalk.i64_in _ (by omega)]
  rfl
theorem i64_low (a : Int) (i : Nat) (hi : i < 63) : bits .and .i64 a (2 ^ i - 1) = a % 2 ^ i := by
  have hp : (2 : Int) ^ i ≤ 2 ^ 62 := by exact_mod_cast Nat.pow_le_pow_right (by omega) (show i ≤ 62 by omega)
  have hq : (0 : Int) < 2 ^ i := by exact_mod_cast Nat.two_pow_pos i
  have e : ((2 : Int) ^ i - 1).toNat = 2 ^ i - 1 := by have : ((2 : Int) ^ i) = ((2 ^ i : Nat) : Int) := by push_cast; rfl
                                                       omega
  rw [i64_and a _ (by omega) (by omega), e, Nat.and_two_pow_sub_one_eq_mod, BitVec.toNat_ofInt]
  have h64 : ((2 : Int) ^ i) ∣ 2 ^ 64 := by exact_mod_cast Int.natCast_dvd_natCast.2 (Nat.pow_dvd_pow 2 (show i ≤ 64 by omega))
  rw [Int.natCast_emod, Int.toNat_of_nonneg (Int.emod_nonneg _ (by decide))]
  rw [show (((2 ^ i : Nat) : Int)) = 2 ^ i by exact_mod_cast rfl]
  exact Int.emod_emod_of_dvd _ h64
def dgt (m : Nat) : UInt8 := UInt8.ofNat (48 + m % 10)
def decF : Nat → Nat → List UInt8 → List UInt8
  | 0, _, s => s
  | f + 1, m, s => if m / 10 = 0 then dgt m :: s else decF f (m / 10) (dgt m :: s)
def decL (n : Nat) : List UInt8 := decF 20 n []
theorem dgt_nat (m : Nat) : (dgt m).toNat = 48 + m % 10 := by unfold dgt; rw [UInt8.toNat_ofNat']; omega
theorem dgt_dig (m : Nat) : isDig (dgt m) = true := by rw [dig_iff, dgt_nat]; omega
theorem decF_all : ∀ (f m : Nat) (s : List UInt8), (∀ c ∈ s, isDig c = true) → ∀ c ∈ decF f m s, isDig c = true
  | 0, _, s, h => h
  | f + 1, m, s, h => by
    have h2 : ∀ c ∈ dgt m :: s, isDig c = true := fun c hc => by
      rcases List.mem_cons.1 hc with rfl | hc
      · exact dgt_dig m
      · exact h c hc
    unfold decF
    split
    · exact h2
    · exact decF_all f (m / 10) _ h2
theorem decF_head : ∀ (f m : Nat) (s : List UInt8), m < 10 ^ f → m ≠ 0 → ∃ c t, decF f m s = c :: t ∧ c ≠ 48
  | 0, m, s, h, h0 => absurd (show m = 0 by simpa using h) h0
  | f + 1, m, s, h, h0 => by
    unfold decF
    split
    next hz => exact ⟨_, _, rfl, fun e => by have := dgt_nat m; rw [e] at this; have : (48 : UInt8).toNat = 48 := rfl; omega⟩
    next hz => exact decF_head f (m / 10) _ (by rw [Nat.pow_succ] at h; omega) hz
theorem decF_len : ∀ (f m : Nat) (s : List UInt8), (decF f m s).length ≤ s.length + f
  | 0, _, s => by simp [decF]
  | f + 1, m, s => by
    unfold decF
    split
    · simp
    · have := decF_len f (m / 10) (dgt m :: s); simp at this; omega
theorem decL_one : decL 0 = [48] := rfl
theorem decL_dgs (n : Nat) : dgsL (decL n) = decL n := by
  have h := decF_all 20 n [] (fun c hc => by cases hc)
  unfold dgsL trimPrefix
  rw [if_neg]
  intro e
  unfold hasPrefix at e
  cases hd : decL n with
  | nil => rw [hd] at e; cases e
  | cons c t =>
    rw [hd] at e
    simp [List.isPrefixOf] at e
    have := (dig_iff c).1 (h c (by show c ∈ decL n; rw [hd]; simp))
    rw [← e] at this
    exact absurd this (by decide)
theorem decL_row (n : Nat) (hn : n < 1000000000) (h : telB (decL n) = true) : rowL (decL n) = decL n := by
  unfold rowL trimLeftB
  rw [decL_dgs]
  by_cases h0 : n = 0
  · subst h0; rw [decL_one] at h; exact absurd h (by decide)
  · obtain ⟨c, t, e, hc⟩ := decF_head 20 n [] (by omega) h0
    show List.dropWhile _ (decF 20 n []) = decF 20 n []
    rw [e, List.dropWhile_cons, if_neg (by simpa using hc)]
theorem zeros_row (n k : Nat) (hn : n < 1000000000) (h : telB (decL n) = true) : rowL (List.replicate k 48 ++ decL n) = decL n := by
  have hd : dgsL (List.replicate k 48 ++ decL n) = List.replicate k 48 ++ decL n := by
    cases k with
    | zero => simpa using decL_dgs n
    | succ k => unfold dgsL trimPrefix; rw [if_neg]; simp [hasPrefix, List.replicate_succ, List.isPrefixOf]
  have hr := decL_row n hn h
  unfold rowL trimLeftB at hr ⊢
  rw [decL_dgs] at hr
  rw [hd, List.dropWhile_append_of_pos (by simp), hr]
theorem plus_row (n : Nat) : rowL ([43, 52, 57] ++ decL n) = [52, 57] ++ decL n := by
  unfold rowL trimLeftB dgsL trimPrefix
  rw [if_pos (by simp [hasPrefix, List.isPrefixOf])]
  rfl
theorem suffix_app (p d : List UInt8) : hasSuffix (p ++ d) d = true := by
  unfold hasSuffix
  exact List.isSuffixOf_iff_suffix.2 (List.suffix_append p d)
theorem match_longer (p d : List UInt8) : matchL d (p ++ d) = decide (5 ≤ (d.length : Int)) ∧ matchL (p ++ d) d = decide (5 ≤ (d.length : Int)) := by
  have h := suffix_app p d
  unfold matchL
  rw [List.length_append]
  constructor
  · by_cases hp : d.length < p.length + d.length
    · rw [if_pos hp, h, Bool.and_true]
    · have : p = [] := List.eq_nil_of_length_eq_zero (by omega)
      subst this
      rw [if_neg hp]
      simp only [List.nil_append] at h ⊢
      rw [h, Bool.and_true]; simp
  · rw [if_neg (by omega), h, Bool.and_true]
theorem match_all (n : Nat) (hn : n < 1000000000) (s : List UInt8) (p : List UInt8) (hs : telB (decL n) = true → rowL s = p ++ decL n) (h1 : telB (decL n) = true) (h2 : telB s = true) :
    matchB (decL n) s = decide (5 ≤ ((decL n).length : Int)) ∧ matchB s (decL n) = decide (5 ≤ ((decL n).length : Int)) ∧ matchB (decL n) (decL n) = decide (5 ≤ ((decL n).length : Int)) := by
  obtain ⟨a, b⟩ := match_longer p (decL n)
  have c := (match_longer [] (decL n)).1
  unfold matchB
  rw [h1, h2, hs h1, decL_row n hn h1]
  exact ⟨by simpa using a, by simpa using b, by simpa using c⟩
theorem match_none (a b : List UInt8) (h : telB a = false ∨ telB b = false) : matchB a b = false := by
  unfold matchB
  rcases h with h | h <;> rw [h] <;> simp
theorem one_text (W : World) (c : UInt8) : (convert 36 9 (.slice (some ⟨W.heap.size, 0, none⟩) 1 1)).run Tryd.prog (W.alloc (.cells #[.int .u8 (c.toNat : Int)] 5)) = .ok (.string ⟨#[c]⟩) (W.alloc (.cells #[.int .u8 (c.toNat : Int)] 5)) :=
  run_convert_bytes_back _ 36 9 5 _ 1 [c] Tryd.underlying36 Tryd.underlying5 Tryd.underlying9 (fun j hj => by
    have : j = 0 := by simpa using hj
    subst this
    rw [add_plain, Nat.zero_add, (Blk.new W 5 #[.int .u8 (c.toNat : Int)]).cell 0]; rfl)
set_option maxHeartbeats 2000000 in
theorem digits10_any (n : Nat) (hn : n < 1000000000) (w : World) : Calls Tryd.prog 15 #[.int .i64 (n : Int)] w fun e w' => e = .returned (.string ⟨(decL n).toArray⟩) ∧ Below w.heap.size w w' := by
  obtain ⟨r, hr⟩ : ∃ r, decL n = r := ⟨_, rfl⟩
  have HR := Lib.hid hr
  rw [hr]
  clear hr
  have HN := Lib.hid hn
  have HT := Lib.hid one_text
  clear hn
  go_enter Tryd.func15, Tryd.ntmps15
  go_wp2
  go_loopw [0, 3, 4] (fun n' s' i wr => ∃ k m : Nat, ∃ S : ByteArray, n' = .int .i64 (m : Int) ∧ s' = .string S ∧ i = .int .i64 (k : Int) ∧ k ≤ 8 ∧ S.size = k ∧ m * 10 ^ k ≤ n ∧ decF (20 - k) m S.data.toList = decL n ∧ Below w.heap.size w wr) (fun _ _ i _ => 20 - (intOf i).toNat)
  case atStart => exact ⟨0, n, ⟨#[]⟩, rfl, rfl, rfl, by omega, rfl, by omega, rfl, Below.refl _ _⟩
  case round =>
    obtain ⟨k, m, S, rfl, rfl, rfl, hk, hS, hmn, hd, hb⟩ := hrel
    have HD := Lib.hid hd
    have HM := Lib.hid hmn
    have HB := Lib.hid hb
    have HS := Lib.hid hS
    clear hd hmn hb hS
    have HC := Lib.hid (dgt_nat m)
    obtain ⟨c, hc⟩ : ∃ c, dgt m = c := ⟨_, rfl⟩
    rw [hc] at HC
    have HCC := Lib.hid hc
    clear hc
    have h48 : IntKind.u8.wrap (48 + (m : Int) % 10) = (c.toNat : Int) := by rw [IntKind.wrap_u8']; have := HC.out; omega
    have h48b : 48 + (m : Int) % 10 = (c.toNat : Int) := by have := HC.out; omega
    have hcz : (c.toNat : Int) ≤ 57 := by have := HC.out; omega
    have hcv := HT.out wr c
    have hk20 : (k : Int) < 20 := by omega
    have hSz : ((⟨#[c]⟩ : ByteArray).size : Int) = 1 := rfl
    have hSI : (S.size : Int) ≤ 8 := by have := HS.out; omega
    obtain ⟨q, hq⟩ : ∃ q : Nat, m / 10 = q := ⟨_, rfl⟩
    have hqI : (m : Int) / 10 = (q : Int) := by omega
    have HQ := Lib.hid hq
    clear hq
    have hw64 : wrap64 (q : Int) = (q : Int) := by
      have h1 := HM.out
      have h2 := HQ.out
      have h3 := HN.out
      have h4 : m ≤ m * 10 ^ k := Nat.le_mul_of_pos_right _ (Nat.pow_pos (by decide))
      unfold wrap64; omega
    have HE := Lib.hid (show decF (20 - k) m S.data.toList = if q = 0 then c :: S.data.toList else decF (20 - (k + 1)) q (c :: S.data.toList) by
      have : 20 - k = (20 - (k + 1)) + 1 := by omega
      rw [this]; show (if m / 10 = 0 then _ else _) = _; rw [HQ.out, HCC.out])
    have HL := Lib.hid (show ((⟨#[c]⟩ : ByteArray) ++ S).data.toList = c :: S.data.toList by simp [ByteArray.data_append])
    have HLs := Lib.hid (show ((⟨#[c]⟩ : ByteArray) ++ S).size = S.size + 1 by rw [ByteArray.size_append]; show 1 + _ = _; omega)
    by_cases hq0 : q = 0
    · subst hq0
      have H0 := Lib.hid (show (⟨r.toArray⟩ : ByteArray) = (⟨#[c]⟩ : ByteArray) ++ S by
        apply bs_ext
        rw [HL.out, ← HR.out, ← HD.out, HE.out, if_pos rfl])
      go_wp2
      go_ret
      exact ⟨by rw [H0.out]; rfl, HB.out.alloc HB.out.size _⟩
    · have hqz : ((q : Int) == 0) = false := by rw [beq_eq_false_iff_ne]; omega
      have HK := Lib.hid (show k + 1 ≤ 8 ∧ q * 10 ^ (k + 1) ≤ n by
        have h1 := HM.out
        have h2 := HQ.out
        have h3 : q * 10 ^ (k + 1) ≤ n := by
          rw [Nat.pow_succ, Nat.mul_comm (10 ^ k) 10, ← Nat.mul_assoc]
          exact Nat.le_trans (Nat.mul_le_mul_right _ (by omega)) h1
        refine ⟨?_, h3⟩
        have h4 : 10 ^ (k + 1) ≤ n := Nat.le_trans (Nat.le_mul_of_pos_left _ (by omega)) h3
        have h5 : (10 : Nat) ^ (k + 1) < 10 ^ 9 := Nat.lt_of_le_of_lt h4 HN.out
        have := (Nat.pow_lt_pow_iff_right (a := 10) (by decide)).1 h5
        omega)
      go_wp2
      exact ⟨⟨k + 1, q, (⟨#[c]⟩ : ByteArray) ++ S, by go_num, rfl, by go_num, HK.out.1, by rw [HLs.out, HS.out], HK.out.2, by rw [HL.out, ← HD.out, HE.out, if_neg hq0], HB.out.alloc HB.out.size _⟩, by simp [intOf]; omega⟩
theorem digits10_on {w : World} (n : Nat) (hn : n < 1000000000) (r : ByteArray) (hr : (⟨(decL n).toArray⟩ : ByteArray) = r) (v : World) (h : Below w.heap.size w v) : Calls Tryd.prog 15 #[.int .i64 (n : Int)] v fun e v' => e = .returned (.string r) ∧ Below w.heap.size w v' := by
  refine (digits10_any n hn v).mono ?_
  rintro e v' ⟨rfl, h2⟩
  exact ⟨by rw [hr], h.trans (h2.mono h.size)⟩
set_option maxHeartbeats 4000000 in
theorem match_plus (w : World) (hT : Tabs w) (a0 x : Int) (wx : (Lit.int .u64 a0).wf = true) (n z : Nat) (hn : a0.tmod 1000000000 = (n : Int)) (hw : wrap64 (n : Int) = (n : Int)) (hn9 : n < 1000000000) (hz : bits .and .i64 x 3 = (z : Int)) (hz3 : z ≤ 3)  :
    Calls Tryd.prog 5 #[.int .u64 a0, .int .i64 x, .bool true] w fun e w' => e = .returned (.bool true) ∧ Below w.heap.size w w' := by
  have HF := Lib.hid (first_on hT)
  have HB0 := Lib.hid (Below.refl w.heap.size w)
  have hdz := decF_len 20 n []
  have hdr := fun h => decL_row n hn9 h
  have HZR := Lib.hid (fun k h => zeros_row n k hn9 h)
  have HMA := Lib.hid (fun s p hs h1 h2 => match_all n hn9 s p hs h1 h2)
  have HPR := Lib.hid (plus_row n)
  obtain ⟨d, hd⟩ : ∃ d : ByteArray, (⟨(decL n).toArray⟩ : ByteArray) = d := ⟨_, rfl⟩
  have HD := Lib.hid (fun v => digits10_on (w := w) n hn9 d hd v)
  have HDL := Lib.hid (show d.data.toList = decL n by rw [← hd])
  have hds : (d.size : Int) ≤ 20 := by
    have h1 : d.size = (decL n).length := by rw [← HDL.out]; simp
    have h2 : (decL n).length ≤ 20 := by simpa [decL] using hdz
    omega
  have HN9 := Lib.hid hn9
  have HMN := Lib.hid match_none
  clear hn9 hd hdz hdr HZR
  go_enter Tryd.func5, Tryd.ntmps5
  go_wp2_with (go_at_call 6; (with_reducible refine (HF.out _ HB0.out).mono ?_); rintro e v1 ⟨rfl, hb⟩; have HB1 := Lib.hid hb; clear hb)
  go_wp2_with (go_at_call 15; (with_reducible refine (HD.out _ HB1.out).mono ?_); rintro e v2 ⟨rfl, hb⟩; have HB2 := Lib.hid hb; clear hb)
  go_wp2
  go_loop [8, 9] (fun s' i => ∃ k : Nat, ∃ S : ByteArray, k ≤ z ∧ i = .int .i64 (k : Int) ∧ s' = .string S ∧ S.data.toList = List.replicate k 48 ++ d.data.toList ∧ (S.size : Int) = (k : Int) + (d.size : Int)) (fun _ i => z - (intOf i).toNat)
  case atStart => exact ⟨0, d, by omega, rfl, rfl, rfl, by omega⟩
  case round =>
    obtain ⟨k, S, hk, rfl, rfl, hS, hSz⟩ := hrel
    have HS := Lib.hid hS
    have HSz := Lib.hid hSz
    have hSI : (S.size : Int) ≤ 30 := by omega
    clear hS hSz
    by_cases hlt : (k : Int) < (z : Int)
    · have HL := Lib.hid (show ((⟨#[48]⟩ : ByteArray) ++ S).data.toList = 48 :: S.data.toList by simp [ByteArray.data_append])
      have HLs := Lib.hid (show ((⟨#[48]⟩ : ByteArray) ++ S).size = S.size + 1 by rw [ByteArray.size_append]; show 1 + _ = _; omega)
      have hSo : ((⟨#[48]⟩ : ByteArray).size : Int) = 1 := rfl
      go_wp2
      exact ⟨⟨k + 1, (⟨#[48]⟩ : ByteArray) ++ S, by omega, by go_num, rfl, by rw [HL.out, HS.out, List.replicate_succ]; rfl, by have := HLs.out; have := HSz.out; omega⟩, by simp [intOf]; omega⟩
    · have hkz : k = z := by omega
      subst hkz
      have hSo : ((⟨#[43, 52, 57]⟩ : ByteArray).size : Int) = 3 := rfl
      obtain ⟨T, hT'⟩ : ∃ T : ByteArray, (⟨#[43, 52, 57]⟩ : ByteArray) ++ d = T := ⟨_, rfl⟩
      have HTL := Lib.hid (show T.data.toList = [43, 52, 57] ++ decL n by rw [← hT', ← HDL.out]; simp [ByteArray.data_append])
      have hTs : (T.size : Int) ≤ 30 := by rw [← hT', ByteArray.size_append]; omega
      have HRW := Lib.hid (show telB (decL n) = true → rowL T.data.toList = [52, 57] ++ decL n from fun _ => by rw [HTL.out, HPR.out])
      clear HS HSz hSI
      have HLen := Lib.hid (show (decL n).length = d.size by rw [← HDL.out]; simp)
      cases td : telB d.data.toList with
      | false =>
        have HI := Lib.hid (fun v => is_on (w := w) d (by omega) false td v)
        have HM := Lib.hid (fun v => match_on (w := w) d T (by omega) (by omega) false (HMN.out _ _ (.inl td)) v)
        clear td hT
        go_wp2_with (go_at_call 9; (with_reducible refine (HI.out _ HB2.out).mono ?_); rintro e v3 ⟨rfl, hb⟩; have HB3 := Lib.hid hb; clear hb)
        go_wp2_with (go_at_call 13; (with_reducible refine (HM.out _ HB3.out).mono ?_); rintro e v4 ⟨rfl, hb⟩; have HB4 := Lib.hid hb; clear hb)
        go_wp2
        go_ret
        exact ⟨rfl, HB4.out⟩
      | true =>
        cases ts : telB T.data.toList with
        | false =>
          have HI := Lib.hid (fun v => is_on (w := w) d (by omega) true td v)
          have HJ := Lib.hid (fun v => is_on (w := w) T (by omega) false ts v)
          have HM := Lib.hid (fun v => match_on (w := w) d T (by omega) (by omega) false (HMN.out _ _ (.inr ts)) v)
          clear td ts hT
          go_wp2_with (go_at_call 9; (with_reducible refine (HI.out _ HB2.out).mono ?_); rintro e v3 ⟨rfl, hb⟩; have HB3 := Lib.hid hb; clear hb)
          go_wp2_with (go_at_call 9; (with_reducible refine (HJ.out _ HB3.out).mono ?_); rintro e v4 ⟨rfl, hb⟩; have HB4 := Lib.hid hb; clear hb)
          go_wp2_with (go_at_call 13; (with_reducible refine (HM.out _ HB4.out).mono ?_); rintro e v5 ⟨rfl, hb⟩; have HB5 := Lib.hid hb; clear hb)
          go_wp2
          go_ret
          exact ⟨rfl, HB5.out⟩
        | true =>
          have HA := Lib.hid (HMA.out T.data.toList _ HRW.out (by rw [← HDL.out]; exact td) ts)
          have hl5 : decide (5 ≤ ((decL n).length : Int)) = decide (5 ≤ (d.size : Int)) := by rw [HLen.out]
          rw [hl5, ← HDL.out] at HA
          have HI := Lib.hid (fun v => is_on (w := w) d (by omega) true td v)
          have HJ := Lib.hid (fun v => is_on (w := w) T (by omega) true ts v)
          have HM := Lib.hid (fun v => match_on (w := w) d T (by omega) (by omega) _ HA.out.1 v)
          have HP := Lib.hid (fun v => match_on (w := w) T d (by omega) (by omega) _ HA.out.2.1 v)
          have HQ := Lib.hid (fun v => match_on (w := w) d d (by omega) (by omega) _ HA.out.2.2 v)
          clear td ts hT HA hl5
          have e0 : ∀ b : Bool, (b == b) = true := by simp
          by_cases h5 : 5 ≤ (d.size : Int)
          · rw [decide_eq_true h5] at HM HP HQ
            go_wp2_with (go_at_call 9; (with_reducible refine (HI.out _ HB2.out).mono ?_); rintro e v3 ⟨rfl, hb⟩; have HB3 := Lib.hid hb; clear hb)
            go_wp2_with (go_at_call 9; (with_reducible refine (HJ.out _ HB3.out).mono ?_); rintro e v4 ⟨rfl, hb⟩; have HB4 := Lib.hid hb; clear hb)
            go_wp2_with (go_at_call 13; (with_reducible refine (HM.out _ HB4.out).mono ?_); rintro e v5 ⟨rfl, hb⟩; have HB5 := Lib.hid hb; clear hb)
            go_wp2_with (go_at_call 13; (with_reducible refine (HP.out _ HB5.out).mono ?_); rintro e v6 ⟨rfl, hb⟩; have HB6 := Lib.hid hb; clear hb)
            go_wp2_with (go_at_call 13; (with_reducible refine (HQ.out _ HB6.out).mono ?_); rintro e v7 ⟨rfl, hb⟩; have HB7 := Lib.hid hb; clear hb)
            go_wp2
            go_ret
            exact ⟨rfl, HB7.out⟩
          · rw [decide_eq_false h5] at HM HP HQ
            have h5' : decide (5 ≤ (d.size : Int)) = false := by simpa using h5
            go_wp2_with (go_at_call 9; (with_reducible refine (HI.out _ HB2.out).mono ?_); rintro e v3 ⟨rfl, hb⟩; have HB3 := Lib.hid hb; clear hb)
            go_wp2_with (go_at_call 9; (with_reducible refine (HJ.out _ HB3.out).mono ?_); rintro e v4 ⟨rfl, hb⟩; have HB4 := Lib.hid hb; clear hb)
            go_wp2_with (go_at_call 13; (with_reducible refine (HM.out _ HB4.out).mono ?_); rintro e v5 ⟨rfl, hb⟩; have HB5 := Lib.hid hb; clear hb)
            go_wp2_with (go_at_call 13; (with_reducible refine (HP.out _ HB5.out).mono ?_); rintro e v6 ⟨rfl, hb⟩; have HB6 := Lib.hid hb; clear hb)
            go_wp2_with (go_at_call 13; (with_reducible refine (HQ.out _ HB6.out).mono ?_); rintro e v7 ⟨rfl, hb⟩; have HB7 := Lib.hid hb; clear hb)
            go_wp2
            go_ret
            exact ⟨rfl, HB7.out⟩
set_option maxHeartbeats 4000000 in
theorem match_zero (w : World) (hT : Tabs w) (a0 x : Int) (wx : (Lit.int .u64 a0).wf = true) (n z : Nat) (hn : a0.tmod 1000000000 = (n : Int)) (hw : wrap64 (n : Int) = (n : Int)) (hn9 : n < 1000000000) (hz : bits .and .i64 x 3 = (z : Int)) (hz3 : z ≤ 3)  :
    Calls Tryd.prog 5 #[.int .u64 a0, .int .i64 x, .bool false] w fun e w' => e = .returned (.bool true) ∧ Below w.heap.size w w' := by
  have HF := Lib.hid (first_on hT)
  have HB0 := Lib.hid (Below.refl w.heap.size w)
  have hdz := decF_len 20 n []
  have hdr := fun h => decL_row n hn9 h
  have HZR := Lib.hid (fun k h => zeros_row n k hn9 h)
  have HMA := Lib.hid (fun s p hs h1 h2 => match_all n hn9 s p hs h1 h2)
  have HPR := Lib.hid (plus_row n)
  obtain ⟨d, hd⟩ : ∃ d : ByteArray, (⟨(decL n).toArray⟩ : ByteArray) = d := ⟨_, rfl⟩
  have HD := Lib.hid (fun v => digits10_on (w := w) n hn9 d hd v)
  have HDL := Lib.hid (show d.data.toList = decL n by rw [← hd])
  have hds : (d.size : Int) ≤ 20 := by
    have h1 : d.size = (decL n).length := by rw [← HDL.out]; simp
    have h2 : (decL n).length ≤ 20 := by simpa [decL] using hdz
    omega
  have HN9 := Lib.hid hn9
  have HMN := Lib.hid match_none
  clear hn9 hd hdz hdr
  go_enter Tryd.func5, Tryd.ntmps5
  go_wp2_with (go_at_call 6; (with_reducible refine (HF.out _ HB0.out).mono ?_); rintro e v1 ⟨rfl, hb⟩; have HB1 := Lib.hid hb; clear hb)
  go_wp2_with (go_at_call 15; (with_reducible refine (HD.out _ HB1.out).mono ?_); rintro e v2 ⟨rfl, hb⟩; have HB2 := Lib.hid hb; clear hb)
  go_wp2
  go_loop [8, 9] (fun s' i => ∃ k : Nat, ∃ S : ByteArray, k ≤ z ∧ i = .int .i64 (k : Int) ∧ s' = .string S ∧ S.data.toList = List.replicate k 48 ++ d.data.toList ∧ (S.size : Int) = (k : Int) + (d.size : Int)) (fun _ i => z - (intOf i).toNat)
  case atStart => exact ⟨0, d, by omega, rfl, rfl, rfl, by omega⟩
  case round =>
    obtain ⟨k, S, hk, rfl, rfl, hS, hSz⟩ := hrel
    have HS := Lib.hid hS
    have HSz := Lib.hid hSz
    have hSI : (S.size : Int) ≤ 30 := by omega
    clear hS hSz
    by_cases hlt : (k : Int) < (z : Int)
    · have HL := Lib.hid (show ((⟨#[48]⟩ : ByteArray) ++ S).data.toList = 48 :: S.data.toList by simp [ByteArray.data_append])
      have HLs := Lib.hid (show ((⟨#[48]⟩ : ByteArray) ++ S).size = S.size + 1 by rw [ByteArray.size_append]; show 1 + _ = _; omega)
      have hSo : ((⟨#[48]⟩ : ByteArray).size : Int) = 1 := rfl
      go_wp2
      exact ⟨⟨k + 1, (⟨#[48]⟩ : ByteArray) ++ S, by omega, by go_num, rfl, by rw [HL.out, HS.out, List.replicate_succ]; rfl, by have := HLs.out; have := HSz.out; omega⟩, by simp [intOf]; omega⟩
    · have hkz : k = z := by omega
      subst hkz
      have HRW := Lib.hid (show telB (decL n) = true → rowL S.data.toList = [] ++ decL n from fun h => by rw [HS.out, HDL.out, HZR.out k h]; rfl)
      clear HS HSz
      have HLen := Lib.hid (show (decL n).length = d.size by rw [← HDL.out]; simp)
      cases td : telB d.data.toList with
      | false =>
        have HI := Lib.hid (fun v => is_on (w := w) d (by omega) false td v)
        have HM := Lib.hid (fun v => match_on (w := w) d S (by omega) (by omega) false (HMN.out _ _ (.inl td)) v)
        clear td hT
        go_wp2_with (go_at_call 9; (with_reducible refine (HI.out _ HB2.out).mono ?_); rintro e v3 ⟨rfl, hb⟩; have HB3 := Lib.hid hb; clear hb)
        go_wp2_with (go_at_call 13; (with_reducible refine (HM.out _ HB3.out).mono ?_); rintro e v4 ⟨rfl, hb⟩; have HB4 := Lib.hid hb; clear hb)
        go_wp2
        go_ret
        exact ⟨rfl, HB4.out⟩
      | true =>
        cases ts : telB S.data.toList with
        | false =>
          have HI := Lib.hid (fun v => is_on (w := w) d (by omega) true td v)
          have HJ := Lib.hid (fun v => is_on (w := w) S (by omega) false ts v)
          have HM := Lib.hid (fun v => match_on (w := w) d S (by omega) (by omega) false (HMN.out _ _ (.inr ts)) v)
          clear td ts hT
          go_wp2_with (go_at_call 9; (with_reducible refine (HI.out _ HB2.out).mono ?_); rintro e v3 ⟨rfl, hb⟩; have HB3 := Lib.hid hb; clear hb)
          go_wp2_with (go_at_call 9; (with_reducible refine (HJ.out _ HB3.out).mono ?_); rintro e v4 ⟨rfl, hb⟩; have HB4 := Lib.hid hb; clear hb)
          go_wp2_with (go_at_call 13; (with_reducible refine (HM.out _ HB4.out).mono ?_); rintro e v5 ⟨rfl, hb⟩; have HB5 := Lib.hid hb; clear hb)
          go_wp2
          go_ret
          exact ⟨rfl, HB5.out⟩
        | true =>
          have HA := Lib.hid (HMA.out S.data.toList _ HRW.out (by rw [← HDL.out]; exact td) ts)
          have hl5 : decide (5 ≤ ((decL n).length : Int)) = decide (5 ≤ (d.size : Int)) := by rw [HLen.out]
          rw [hl5, ← HDL.out] at HA
          have HI := Lib.hid (fun v => is_on (w := w) d (by omega) true td v)
          have HJ := Lib.hid (fun v => is_on (w := w) S (by omega) true ts v)
          have HM := Lib.hid (fun v => match_on (w := w) d S (by omega) (by omega) _ HA.out.1 v)
          have HP := Lib.hid (fun v => match_on (w := w) S d (by omega) (by omega) _ HA.out.2.1 v)
          have HQ := Lib.hid (fun v => match_on (w := w) d d (by omega) (by omega) _ HA.out.2.2 v)
          clear td ts hT HA hl5
          have e0 : ∀ b : Bool, (b == b) = true := by simp
          by_cases h5 : 5 ≤ (d.size : Int)
          · rw [decide_eq_true h5] at HM HP HQ
            go_wp2_with (go_at_call 9; (with_reducible refine (HI.out _ HB2.out).mono ?_); rintro e v3 ⟨rfl, hb⟩; have HB3 := Lib.hid hb; clear hb)
            go_wp2_with (go_at_call 9; (with_reducible refine (HJ.out _ HB3.out).mono ?_); rintro e v4 ⟨rfl, hb⟩; have HB4 := Lib.hid hb; clear hb)
            go_wp2_with (go_at_call 13; (with_reducible refine (HM.out _ HB4.out).mono ?_); rintro e v5 ⟨rfl, hb⟩; have HB5 := Lib.hid hb; clear hb)
            go_wp2_with (go_at_call 13; (with_reducible refine (HP.out _ HB5.out).mono ?_); rintro e v6 ⟨rfl, hb⟩; have HB6 := Lib.hid hb; clear hb)
            go_wp2_with (go_at_call 13; (with_reducible refine (HQ.out _ HB6.out).mono ?_); rintro e v7 ⟨rfl, hb⟩; have HB7 := Lib.hid hb; clear hb)
            go_wp2
            go_ret
            exact ⟨rfl, HB7.out⟩
          · rw [decide_eq_false h5] at HM HP HQ
            have h5' : decide (5 ≤ (d.size : Int)) = false := by simpa using h5
            go_wp2_with (go_at_call 9; (with_reducible refine (HI.out _ HB2.out).mono ?_); rintro e v3 ⟨rfl, hb⟩; have HB3 := Lib.hid hb; clear hb)
            go_wp2_with (go_at_call 9; (with_reducible refine (HJ.out _ HB3.out).mono ?_); rintro e v4 ⟨rfl, hb⟩; have HB4 := Lib.hid hb; clear hb)
            go_wp2_with (go_at_call 13; (with_reducible refine (HM.out _ HB4.out).mono ?_); rintro e v5 ⟨rfl, hb⟩; have HB5 := Lib.hid hb; clear hb)
            go_wp2_with (go_at_call 13; (with_reducible refine (HP.out _ HB5.out).mono ?_); rintro e v6 ⟨rfl, hb⟩; have HB6 := Lib.hid hb; clear hb)
            go_wp2_with (go_at_call 13; (with_reducible refine (HQ.out _ HB6.out).mono ?_); rintro e v7 ⟨rfl, hb⟩; have HB7 := Lib.hid hb; clear hb)
            go_wp2
            go_ret
            exact ⟨rfl, HB7.out⟩
theorem telMatch_walk (w : World) (hT : Tabs w) (a0 : Int) (w0 : (Lit.int .u64 a0).wf = true) (x : Int) (w1 : (Lit.int .i64 x).wf = true) (p : Bool) :
    Calls Tryd.prog 5 #[.int .u64 a0, .int .i64 x, .bool p] w fun e w' => e = .returned (.bool true) ∧ Below w.heap.size w w' := by
  have h0 : 0 ≤ a0 ∧ a0 ≤ 18446744073709551615 := by simpa [Lit.wf, IntKind.min, IntKind.max, IntKind.signed, IntKind.bits] using w0
  have hz := i64_low x 2 (by omega)
  obtain ⟨n, hn⟩ : ∃ n : Nat, a0 % 1000000000 = (n : Int) := ⟨(a0 % 1000000000).toNat, by omega⟩
  obtain ⟨z, hz2⟩ : ∃ z : Nat, x % 2 ^ 2 = (z : Int) := ⟨(x % 2 ^ 2).toNat, by omega⟩
  have hn2 : a0.tmod 1000000000 = (n : Int) := by rw [Int.tmod_eq_emod_of_nonneg h0.1]; exact hn
  have hw : wrap64 (n : Int) = (n : Int) := by unfold wrap64; omega
  cases p with
  | true => exact match_plus w hT a0 x w0 n z hn2 hw (by omega) (hz.trans hz2) (by omega)
  | false => exact match_zero w hT a0 x w0 n z hn2 hw (by omega) (hz.trans hz2) (by omega)
end Go.Proofs.YtiikmkeolfdjiaaDoor
