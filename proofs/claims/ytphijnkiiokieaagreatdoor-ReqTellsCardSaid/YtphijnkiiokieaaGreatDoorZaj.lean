/- Texts of one proof, joined. -/
import Derived.Test.YtphijnkiiokieaaGreatDoorZai
import Derived.Lib.AppendIntMem
import Derived.Deep.DrawnRows
import Derived.Deep.RegionHeld3
set_option linter.unusedVariables false
set_option linter.unusedSimpArgs false
set_option maxRecDepth 100000
set_option maxHeartbeats 80000000
namespace Go.Proofs.YtphijnkiiokieaaGreatDoor
open Go.RowKit
open Go.Lib hiding intOf
theorem isMail_any (s : ByteArray) (hs : s.size ≤ 1000000) (w : World) (hM : Mx w) : Calls Tryz.prog 164 #[.string s] w fun e w' => e = .returned (.bool (mailB s.data.toList)) ∧ Below w.heap.size w w' := by
 have hP := parts_any s hs w hM; have ho := parts_ok s; obtain ⟨⟨p, q, b⟩, hr⟩ : ∃ r, partsS s = r := ⟨_, rfl⟩; rw [hr] at hP ho; simp only at hP ho; rw [← ho]; have HP := Zh hP; clear hP ho hr
 go_enter Tryz.func164, Tryz.ntmps164
 go_wp2_with (go_at_call 182; (with_reducible refine (HP.out).mono ?_); rintro e w1 ⟨rfl, h1⟩; have HB1 := Zh h1; clear h1)
 go_ret
 exact ⟨rfl, HB1.out⟩
theorem last_range (t : ByteArray) : -1 ≤ lastIndexByte t 64 ∧ lastIndexByte t 64 < t.size := by
 unfold lastIndexByte
 rcases lastIdx_spec t 64 t.size with ⟨h, _⟩ | ⟨i, hi, h, _⟩ <;> rw [h] <;> omega
theorem tabs_on {B : Nat} {w w' : World} (h : Tabs w) (hb : Below B w w') (h2 : 1 < B ∧ 2 < B) : Tabs w' := by
 obtain ⟨h3, h4⟩ := h2; refine ⟨fun c hc => ?_, fun i hi => ⟨?_, ?_⟩⟩
 ·
  have := h.1 c hc; simp only [World.cell?] at this ⊢
  rw [hb.block 1 (by omega)]; exact this
 ·
  have := (h.2 i hi).1; simp only [World.cell?] at this ⊢
  rw [hb.block 2 (by omega)]; exact this
 ·
  have := (h.2 i hi).2; simp only [World.cell?] at this ⊢
  rw [hb.block 2 (by omega)]; exact this
theorem tabs_size {w : World} (h : Tabs w) : 1 < w.heap.size ∧ 2 < w.heap.size := by
 constructor
 ·
  have h1 := h.1 0 (by decide)
  cases hh : w.heap[1]? with
  | none => simp [World.cell?, hh] at h1
  | some o => exact (Array.getElem?_eq_some_iff.1 hh).1
 ·
  have h1 := (h.2 0 (by decide)).1
  cases hh : w.heap[2]? with
  | none => simp [World.cell?, hh] at h1
  | some o => exact (Array.getElem?_eq_some_iff.1 hh).1
theorem clean_le (s : ByteArray) (hs : s.size ≤ 1000000) : (cleanS s).1.size ≤ 64 := by
 unfold cleanS cleanOf
 repeat' split
 all_goals first | (show (squeezeS s).size ≤ 64; omega) | (show (0 : Nat) ≤ 64; omega)
theorem mcanon_any (s : ByteArray) (hs : s.size ≤ 1000000) (w : World) (hT : Tabs w) (hM : Mx w) : Calls Tryz.prog 142 #[.string s] w fun e w' => e = .returned (.tuple #[.string (mailS s).1, .int .i64 (mailS s).2]) ∧ Below w.heap.size w w' := by
 have hC := clean_any s hs w hT; have htz := clean_le s hs; have hlt := hM.lt; obtain ⟨r, hr⟩ : ∃ r, mailS s = r := ⟨_, rfl⟩; rw [hr]; have hrr : r = mailOf (cleanS s).1 (cleanS s).2 := by rw [← hr]; rfl
 clear hr; obtain ⟨⟨t, k⟩, ht⟩ : ∃ t, cleanS s = t := ⟨_, rfl⟩; rw [ht] at hC htz hrr; simp only at hC htz hrr; have HC := Zh hC; have HB0 := Zh (Below.refl w.heap.size w); have hLr := last_range t; have HLI := Zh (fun w => Tryz.strings_LastIndexByte t 64 (by omega) w); have hn0 : lowAt t = t.extract 0 (atN t) ++ lowS (t.extract (atN t) t.size) := rfl; have hat : atN t = (lastIndexByte t 64 + 1).toNat := rfl; obtain ⟨j, hj⟩ : ∃ j, lastIndexByte t 64 = j := ⟨_, rfl⟩; rw [hj] at hLr hat; have HLj := HLI.out; rw [hj] at HLj; obtain ⟨n, hn⟩ : ∃ n, atN t = n := ⟨_, rfl⟩; rw [hn] at hn0 hat; have hjn : j + 1 = (n : Int) := by omega
 have hnt : n ≤ t.size := by omega
 have hwn : IntKind.i64.wrap (n : Int) = (n : Int) := IntWalk.i64_in _ (by omega); have hn0I : 0 ≤ (n : Int) := by omega
 obtain ⟨u, hu⟩ : ∃ u, lowS (t.extract n t.size) = u := ⟨_, rfl⟩; have hus : u.size = t.size - n := by rw [← hu]; show (lowL (t.extract n t.size).data.toList).toArray.size = _; unfold lowL; simp
 have hxz : (t.extract 0 n).size = n := by rw [ByteArray.size_extract]; omega
 have HF : Hid (∀ v, Below w.heap.size w v → Calls Tryz.prog 163 #[.string (t.extract n t.size)] v fun e v' => e = .returned (.string u) ∧ Below w.heap.size w v') :=
  Zh fun v h => (fold_any (t.extract n t.size) (by rw [ByteArray.size_extract]; omega) v).mono (by rintro e v' ⟨rfl, h2⟩; exact ⟨by rw [hu], h.trans (h2.mono h.size)⟩)
 rw [hu] at hn0; have HI : Hid (∀ v, Below w.heap.size w v → Calls Tryz.prog 164 #[.string (t.extract 0 n ++ u)] v fun e v' => e = .returned (.bool (mailB (lowAt t).data.toList)) ∧ Below w.heap.size w v') :=
  Zh fun v h => (isMail_any (t.extract 0 n ++ u) (by rw [ByteArray.size_append]; omega) v (hM.keep h hlt)).mono (by rintro e v' ⟨rfl, h2⟩; exact ⟨by rw [hn0], h.trans (h2.mono h.size)⟩)
 have HR := Zh (show r = if k = 0 then (if mailB (lowAt t).data.toList = true then (t.extract 0 n ++ u, 0) else (⟨#[]⟩, 1)) else (⟨#[]⟩, k) by rw [hrr]; unfold mailOf; rw [hn0]); obtain ⟨b, hb⟩ : ∃ b, mailB (lowAt t).data.toList = b := ⟨_, rfl⟩; rw [hb] at HI HR; have HLJ := Zh HLj; have htI : (t.size : Int) ≤ 64 := by omega
 have huI : (u.size : Int) ≤ 64 := by omega
 have hxI : ((t.extract 0 n).size : Int) ≤ 64 := by omega
 have hntI : (n : Int) ≤ (t.size : Int) := by omega
 clear HLj hC ht hrr HLI hn0 hat hj hn hu hb hus hxz
 by_cases hk : k = 0
 ·
  subst hk; have HR2 := Zh (show r = if b = true then (t.extract 0 n ++ u, 0) else (⟨#[]⟩, 1) by rw [HR.out]; rfl); clear HR
  cases b with
  | true =>
   have H0 := Zh (show r = (t.extract 0 n ++ u, 0) by rw [HR2.out]; rfl)
   go_enter Tryz.func142, Tryz.ntmps142
   go_wp2_with (first | (go_at_call 143; (with_reducible refine (HC.out).mono ?_); rintro e v1 ⟨rfl, hb⟩; have HB1 := Zh hb; clear hb) | (go_at_call 162; (with_reducible refine (HLJ.out _).mono ?_); rintro e v2 ⟨rfl, hw⟩; replace hw := hw.symm; subst hw))
   go_region_with (go_at_call 163; (with_reducible refine (HF.out _ (by first | exact HB1.out | exact HB1.out.drew | exact HB1.out.drew.drew)).mono ?_); rintro e v3 ⟨rfl, hb⟩; have HB3 := Zh hb; clear hb)
   go_wp2_with (go_at_call 164; (with_reducible refine (HI.out _ HB3.out).mono ?_); rintro e v4 ⟨rfl, hb⟩; have HB4 := Zh hb; clear hb)
   go_ret2
   exact ⟨by rw [H0.out]; rfl, HB4.out⟩
  | false =>
   have H0 := Zh (show r = (⟨#[]⟩, 1) by rw [HR2.out]; rfl)
   go_enter Tryz.func142, Tryz.ntmps142
   go_wp2_with (first | (go_at_call 143; (with_reducible refine (HC.out).mono ?_); rintro e v1 ⟨rfl, hb⟩; have HB1 := Zh hb; clear hb) | (go_at_call 162; (with_reducible refine (HLJ.out _).mono ?_); rintro e v2 ⟨rfl, hw⟩; replace hw := hw.symm; subst hw))
   go_region_with (go_at_call 163; (with_reducible refine (HF.out _ (by first | exact HB1.out | exact HB1.out.drew | exact HB1.out.drew.drew)).mono ?_); rintro e v3 ⟨rfl, hb⟩; have HB3 := Zh hb; clear hb)
   go_wp2_with (go_at_call 164; (with_reducible refine (HI.out _ HB3.out).mono ?_); rintro e v4 ⟨rfl, hb⟩; have HB4 := Zh hb; clear hb)
   go_ret2
   exact ⟨by rw [H0.out]; rfl, HB4.out⟩
 ·
  have hk' : (k != 0) = true := by simpa using hk
  have H0 := Zh (show r = (⟨#[]⟩, k) by rw [HR.out, if_neg hk]); clear hk
  go_enter Tryz.func142, Tryz.ntmps142
  go_wp2_with (go_at_call 143; (with_reducible refine (HC.out).mono ?_); rintro e w1 ⟨rfl, h1⟩; have HB1 := Zh h1; clear h1)
  go_ret2
  exact ⟨by rw [H0.out]; rfl, HB1.out⟩
end Go.Proofs.YtphijnkiiokieaaGreatDoor
/- Dates: the number that digits show. -/
namespace Go.Proofs.YtphijnkiiokieaaGreatDoor.Day
open Go.RowKit
set_option linter.unusedVariables false
set_option maxRecDepth 20000
def isD (c : UInt8) : Bool := decide (48 ≤ (c.toNat : Int) ∧ (c.toNat : Int) ≤ 57)
def valD (l : List UInt8) : Int := l.foldl (fun n c => n * 10 + ((c.toNat : Int) - 48)) 0
def numD (l : List UInt8) : Int := if l.all isD = true then valD l else -1
theorem valD_snoc (l : List UInt8) (c : UInt8) : valD (l ++ [c]) = valD l * 10 + ((c.toNat : Int) - 48) := by
  unfold valD; rw [List.foldl_append]; rfl
theorem fold_bd (l : List UInt8) (a : Int) (h : l.all isD = true) (ha : 0 ≤ a) : 0 ≤ l.foldl (fun n c => n * 10 + ((c.toNat : Int) - 48)) a ∧ l.foldl (fun n c => n * 10 + ((c.toNat : Int) - 48)) a < (a + 1) * 10 ^ l.length := by
  induction l generalizing a with
  | nil => simp; omega
  | cons c l ih =>
    simp only [List.all_cons, Bool.and_eq_true] at h
    obtain ⟨h1, h2⟩ := h
    have hc : 48 ≤ (c.toNat : Int) ∧ (c.toNat : Int) ≤ 57 := by simpa [isD] using h1
    obtain ⟨q1, q2⟩ := ih (a * 10 + ((c.toNat : Int) - 48)) h2 (by omega)
    refine ⟨q1, Int.lt_of_lt_of_le q2 ?_⟩
    rw [List.length_cons, Int.pow_succ, Int.mul_comm (10 ^ l.length) 10, ← Int.mul_assoc]
    exact Int.mul_le_mul_of_nonneg_right (by omega) (Int.pow_nonneg (by decide))
theorem valD_bd (l : List UInt8) (h : l.all isD = true) : 0 ≤ valD l ∧ valD l < 10 ^ l.length := by
  have := fold_bd l 0 h (by decide)
  simpa [valD] using this
theorem take_snoc (s : ByteArray) (k : Nat) (h : k < s.size) : s.data.toList.take (k + 1) = s.data.toList.take k ++ [s[k]] := by
  rw [List.take_succ_eq_append_getElem (by simpa using h)]; rfl
theorem all_take (s : ByteArray) (k : Nat) (h : k < s.size) (hn : isD s[k] = false) : s.data.toList.all isD = false := by
  rw [List.all_eq_false]
  exact ⟨s[k], by rw [show s[k] = s.data.toList[k]'(by simpa using h) from rfl]; exact List.getElem_mem _, by simp [hn]⟩
theorem number_any (s : ByteArray) (hs : s.size ≤ 8) (w : World) : Calls Tryz.prog 169 #[.string s] w fun e w' => e = .returned (.int .i64 (numD s.data.toList)) ∧ w' = w := by
  go_enter Tryz.func169, Tryz.ntmps169
  go_wp2
  go_loop [3, 7] (fun n i => ∃ k : Nat, k ≤ s.size ∧ i = .int .i64 (k : Int) ∧ n = .int .i64 (valD (s.data.toList.take k)) ∧ (s.data.toList.take k).all isD = true) (fun _ i => s.size - (intOf i).toNat)
  case atStart => exact ⟨0, Nat.zero_le _, rfl, rfl, rfl⟩
  case round =>
    obtain ⟨k, hk, rfl, rfl, hall⟩ := hrel
    obtain ⟨v0, v1⟩ := valD_bd _ hall
    have hp : (10 : Int) ^ (s.data.toList.take k).length ≤ 10 ^ 8 := by
      have : (s.data.toList.take k).length ≤ 8 := by have := List.length_take_le k s.data.toList; omega
      exact_mod_cast Nat.pow_le_pow_right (by omega) this
    have v2 : valD (s.data.toList.take k) ≤ 100000000 := by omega
    obtain ⟨v, hv⟩ : ∃ v, valD (s.data.toList.take k) = v := ⟨_, rfl⟩
    rw [hv] at v0 v2 ⊢
    have HV := Zh hv
    have HALL := Zh hall
    clear hv hall v1 hp
    by_cases hlt : k < s.size
    · obtain ⟨c, hc⟩ : ∃ c, s[k] = c := ⟨_, rfl⟩
      have HC := Zh hc
      have hc255 : (c.toNat : Int) ≤ 255 := by have := c.toNat_lt; omega
      by_cases c1 : (c.toNat : Int) < 48
      · go_wp2
        go_ret
        exact ⟨ret_i64 (by unfold numD; rw [if_neg]; rw [all_take s k hlt (by rw [HC.out]; unfold isD; simp; omega)]; simp), rfl⟩
      · by_cases c2 : (c.toNat : Int) > 57
        · go_wp2
          go_ret
          exact ⟨ret_i64 (by unfold numD; rw [if_neg]; rw [all_take s k hlt (by rw [HC.out]; unfold isD; simp; omega)]; simp), rfl⟩
        · have HN := Zh (show valD (s.data.toList.take (k + 1)) = v * 10 + ((c.toNat : Int) - 48) by rw [take_snoc s k hlt, valD_snoc, HV.out, HC.out])
          have HA := Zh (show (s.data.toList.take (k + 1)).all isD = true by rw [take_snoc s k hlt, List.all_append, HALL.out, HC.out]; simp [isD]; omega)
          go_wp2
          go_round
          case rel => exact ⟨k + 1, by omega, by go_num, by rw [HN.out], HA.out⟩
          case measure => simp [intOf]; omega
    · go_wp2
      go_ret
      have hks : k = s.size := by omega
      have ht : s.data.toList.take k = s.data.toList := List.take_of_length_le (by simp; omega)
      exact ⟨ret_i64 (by unfold numD; rw [ht] at HALL HV; rw [if_pos HALL.out, HV.out]), rfl⟩
end Go.Proofs.YtphijnkiiokieaaGreatDoor.Day
/- Dates: digits, how a date is shown. -/
namespace Go.Proofs.YtphijnkiiokieaaGreatDoor.Day
open Go.RowKit
set_option linter.unusedVariables false
set_option maxRecDepth 20000
attribute [local go_sem ↓] Go.wp_at_zero Go.wp_at_succ
abbrev Tab (B : Nat) (w : World) : Prop := Lib.TabBelow Tryz.prog B w "internal/strconv.uint64pow10" .u64 Lib.pow10Tab
def dg (n : Nat) : UInt8 := UInt8.ofNat (48 + n % 10)
def dig2 (n : Nat) : List UInt8 := [dg (n / 10), dg n]
def dig4 (n : Nat) : List UInt8 := [dg (n / 1000), dg (n / 100), dg (n / 10), dg n]
theorem dec1 {n : Nat} (h : n < 10) : Lib.decDigits n = [dg n] := by
  rw [Lib.decDigits, dif_pos h]; unfold dg; rw [Nat.mod_eq_of_lt h]
theorem decS {n : Nat} (h : ¬ n < 10) : Lib.decDigits n = Lib.decDigits (n / 10) ++ [dg n] := by
  rw [Lib.decDigits, dif_neg h]; rfl
theorem pad2 (n : Nat) (h : n < 100) : Lib.repeatL [48] (2 - (Lib.decDigits n).length) ++ Lib.decDigits n = dig2 n := by
  by_cases h1 : n < 10
  · rw [dec1 h1]
    have : n / 10 = 0 := by omega
    simp [dig2, this, Lib.repeatL, dg]
  · rw [decS h1, dec1 (by omega : n / 10 < 10)]
    simp [dig2, Lib.repeatL]
theorem pad4 (n : Nat) (h : n < 10000) : Lib.repeatL [48] (4 - (Lib.decDigits n).length) ++ Lib.decDigits n = dig4 n := by
  by_cases h1 : n < 10
  · rw [dec1 h1]
    have e1 : n / 10 = 0 := by omega
    have e2 : n / 100 = 0 := by omega
    have e3 : n / 1000 = 0 := by omega
    simp [dig4, e1, e2, e3, Lib.repeatL, dg]
  · rw [decS h1]
    by_cases h2 : n / 10 < 10
    · rw [dec1 h2]
      have e2 : n / 100 = 0 := by omega
      have e3 : n / 1000 = 0 := by omega
      simp [dig4, e2, e3, Lib.repeatL, dg]
    · rw [decS h2, Nat.div_div_eq_div_mul]
      by_cases h3 : n / 100 < 10
      · rw [dec1 h3]
        have e3 : n / 1000 = 0 := by omega
        simp [dig4, e3, Lib.repeatL, dg]
      · rw [decS h3, Nat.div_div_eq_div_mul, dec1 (by omega : n / (10 * 10 * 10) < 10)]
        simp [dig4, Lib.repeatL]
theorem decL2 (n : Nat) (h : n < 100) : (Lib.decDigits n).length ≤ 2 := by
  by_cases h1 : n < 10
  · rw [dec1 h1]; simp
  · rw [decS h1, dec1 (by omega : n / 10 < 10)]; simp
theorem decL4 (n : Nat) (h : n < 10000) : (Lib.decDigits n).length ≤ 4 := by
  by_cases h1 : n < 10
  · rw [dec1 h1]; simp
  · have := decL2 (n / 100) (by omega)
    rw [decS h1]
    by_cases h2 : n / 10 < 10
    · rw [dec1 h2]; simp
    · rw [decS h2, Nat.div_div_eq_div_mul]; simp; omega
set_option maxHeartbeats 1000000 in
theorem digits_any (n wd : Nat) (w : World) (ht : Tab w.heap.size w) (h1 : n < 10000) (h2 : (Lib.decDigits n).length ≤ wd) (h3 : wd ≤ 4) : Calls Tryz.prog 187 #[.int .i64 (n : Int), .int .i64 (wd : Int)] w fun e w' => e = .returned (.string ⟨(Lib.repeatL [48] (wd - (Lib.decDigits n).length) ++ Lib.decDigits n).toArray⟩) ∧ Below w.heap.size w w' := by
  obtain ⟨D, hD⟩ : ∃ D : ByteArray, (⟨(Lib.decDigits n).toArray⟩ : ByteArray) = D := ⟨_, rfl⟩
  have hDs : D.size = (Lib.decDigits n).length := by rw [← hD]; simp [ByteArray.size]
  obtain ⟨q, hq⟩ : ∃ q : Nat, wd - D.size = q := ⟨_, rfl⟩
  have hqi : (wd : Int) - (D.size : Int) = (q : Int) := by omega
  obtain ⟨R, hR⟩ : ∃ R : ByteArray, (⟨(Lib.repeatL [48] q).toArray⟩ : ByteArray) = R := ⟨_, rfl⟩
  have hRs : R.size = q := by rw [← hR]; simp [ByteArray.size, Lib.repeatL_length]
  have HI := Zh (Tryz.strconv_Itoa (n : Int) (by omega) (by omega) w ht.here)
  have HE := Zh (show (⟨(Lib.itoa (n : Int)).toArray⟩ : ByteArray) = D by rw [Lib.itoa_nonneg, hD])
  have HR := Zh hR
  have hno : ¬ (9223372036854775807 < R.size + D.size) := by omega
  have HQ := Zh (show q ≤ 4 by omega)
  have HA := Zh (show (⟨(Lib.repeatL [48] (wd - (Lib.decDigits n).length) ++ Lib.decDigits n).toArray⟩ : ByteArray) = R ++ D by
    apply ByteArray.ext
    apply Array.toList_inj.1
    rw [← hDs, hq, ← hR, ← hD]
    simp)
  rw [HA.out]
  have HRP := Zh (fun W => (show Calls Tryz.prog 196 #[.string ⟨#[48]⟩, .int .i64 (q : Int)] W fun e w' => e = .returned (.string R) ∧ Below W.heap.size W w' by
    rw [← hR]
    exact Tryz.strings_Repeat ⟨#[48]⟩ q W (by omega) (by show 1 * q ≤ _; omega)))
  have HX := Zh hDs
  clear hD hR hq ht hDs hRs
  go_enter Tryz.func187, Tryz.ntmps187
  go_wp2_with (first
    | (go_at_call 195
       refine HI.out.mono ?_
       rintro _ w2 ⟨rfl, kk, os, hw2⟩
       rw [HE.out]
       have hb2 := Zh (show Below w.heap.size w w2 by rw [hw2]; exact Lib.below_grow _ _ (Nat.le_refl _) _ _)
       clear hw2)
    | (go_at_call 196
       refine (HRP.out _).mono ?_
       rintro _ w3 ⟨rfl, hb⟩
       have hb3 := Zh (hb2.out.trans (hb.mono hb2.out.size))
       clear hb)
    | fail)
  go_ret
  exact ⟨rfl, hb3.out⟩
theorem digits2 (n : Nat) (w : World) (ht : Tab w.heap.size w) (h : n < 100) : Calls Tryz.prog 187 #[.int .i64 (n : Int), .int .i64 2] w fun e w' => e = .returned (.string ⟨(dig2 n).toArray⟩) ∧ Below w.heap.size w w' := by
  have := digits_any n 2 w ht (by omega) (decL2 n h) (by omega)
  rwa [pad2 n h] at this
theorem digits4 (n : Nat) (w : World) (ht : Tab w.heap.size w) (h : n < 10000) : Calls Tryz.prog 187 #[.int .i64 (n : Int), .int .i64 4] w fun e w' => e = .returned (.string ⟨(dig4 n).toArray⟩) ∧ Below w.heap.size w w' := by
  have := digits_any n 4 w ht h (decL4 n h) (by omega)
  rwa [pad4 n h] at this
end Go.Proofs.YtphijnkiiokieaaGreatDoor.Day
/- Dates: how a date is shown, and what a text shows. -/
namespace Go.Proofs.YtphijnkiiokieaaGreatDoor.Day
open Go.RowKit
set_option linter.unusedVariables false
set_option maxRecDepth 20000
attribute [local go_sem ↓] Go.wp_at_zero Go.wp_at_succ
def headL (y : Nat) : List UInt8 := if y = 0 then [45, 45] else dig4 y ++ [45]
def showL (y m d : Nat) : List UInt8 := headL y ++ dig2 m ++ [45] ++ dig2 d
def showS (y m d : Int) : ByteArray := if mayB y m d = true then ⟨(showL y.toNat m.toNat d.toNat).toArray⟩ else ⟨#[]⟩
theorem bs_ext {a b : ByteArray} (h : a.data.toList = b.data.toList) : a = b := ByteArray.ext (Array.toList_inj.1 h)
theorem bs_size (a : ByteArray) : a.size = a.data.toList.length := by simp
theorem Lib.TabBelow.mono' {w : World} {B C : Nat} (h : Tab B w) (hBC : B ≤ C) : Tab C w := fun w' hb => h w' (hb.mono hBC)
/-- The table goes on reading so behind a call. -/
theorem tab_on {w w' : World} (h : Tab w.heap.size w) (hb : Below w.heap.size w w') : Tab w'.heap.size w' := Lib.TabBelow.mono' (h.on hb) hb.size
set_option maxHeartbeats 2000000 in
theorem show_any (y m d : Int) (w : World) (ht : Tab w.heap.size w) : Calls Tryz.prog 171 #[.agg #[.int .i64 y, .int .i64 m, .int .i64 d]] w fun e w' => e = .returned (.string (showS y m d)) ∧ Below w.heap.size w w' := by
  cases hm : mayB y m d
  · have HM := Zh hm
    clear hm
    go_enter Tryz.func171, Tryz.ntmps171
    go_wp2_with (first
      | (go_at_call 170; refine (may_any _ _ _ _).mono ?_; rintro _ w2 ⟨rfl, hb⟩; rw [HM.out]; have HB := Zh hb; clear hb)
      | fail)
    go_ret
    exact ⟨by unfold showS; rw [HM.out]; rfl, ((Below.refl _ _).alloc (Nat.le_refl _) _).trans (HB.out.mono (by simp))⟩
  · have HM := Zh hm
    obtain ⟨m1, m2, m3, m4, m5, m6⟩ := may_iff.1 hm
    have m7 := (dim_bd y m).2
    have HSH := Zh (show showS y m d = ⟨(showL y.toNat m.toNat d.toNat).toArray⟩ by unfold showS; rw [if_pos hm])
    rw [HSH.out]
    clear HSH hm
    obtain ⟨Y, rfl⟩ := Int.eq_ofNat_of_zero_le m1
    obtain ⟨M, rfl⟩ := Int.eq_ofNat_of_zero_le (show 0 ≤ m by omega)
    obtain ⟨D, rfl⟩ := Int.eq_ofNat_of_zero_le (show 0 ≤ d by omega)
    simp only [Int.toNat_natCast]
    have HY := Zh (show Y < 10000 by omega)
    have HMM := Zh (show M < 100 by omega)
    have HDD := Zh (show D < 100 by omega)
    clear m2 m3 m4 m5 m6 m7 m1
    have HT0 := Zh (show Tab (w.alloc (.cells #[.int .i64 (Y : Int), .int .i64 (M : Int), .int .i64 (D : Int)] 130)).heap.size (w.alloc (.cells #[.int .i64 (Y : Int), .int .i64 (M : Int), .int .i64 (D : Int)] 130)) from tab_on ht ((Below.refl _ _).alloc (Nat.le_refl _) _))
    obtain ⟨Q, hQ⟩ : ∃ Q : ByteArray, (⟨(dig4 Y).toArray⟩ : ByteArray) = Q := ⟨_, rfl⟩
    obtain ⟨P, hP⟩ : ∃ P : ByteArray, (⟨(dig2 M).toArray⟩ : ByteArray) = P := ⟨_, rfl⟩
    obtain ⟨R, hR⟩ : ∃ R : ByteArray, (⟨(dig2 D).toArray⟩ : ByteArray) = R := ⟨_, rfl⟩
    have hQs : Q.size = 4 := by rw [← hQ]; rfl
    have hPs : P.size = 2 := by rw [← hP]; rfl
    have hRs : R.size = 2 := by rw [← hR]; rfl
    have HQ := Zh hQ
    have HP := Zh hP
    have HR := Zh hR
    clear hQ hP hR
    by_cases h0 : Y = 0
    · have HL := Zh (show (⟨(showL Y M D).toArray⟩ : ByteArray) = ⟨#[45, 45]⟩ ++ P ++ ⟨#[45]⟩ ++ R by
        apply bs_ext
        rw [← HP.out, ← HR.out]
        simp [showL, headL, h0])
      rw [HL.out]
      have h0' : ((Y : Int) == 0) = true := by simp [h0]
      have H0 := Zh h0
      clear h0
      go_enter Tryz.func171, Tryz.ntmps171
      go_wp2_with (first
        | (go_at_call 170; refine (may_any _ _ _ _).mono ?_; rintro _ w2 ⟨rfl, hb⟩; rw [HM.out]; have HX2 := Zh ((Blk.new w 130 #[.int .i64 (Y : Int), .int .i64 (M : Int), .int .i64 (D : Int)]).below hb (by simp)); have HT2 := Zh (tab_on HT0.out hb); have HB := Zh (((Below.refl w.heap.size w).alloc (Nat.le_refl _) _).trans (hb.mono (by simp))); obtain ⟨a0, a1, a2⟩ := Blk3.cells HX2.out; clear hb)
        | fail)
      have b1 : w2.drew.cell? ⟨w.heap.size, 1, none⟩ = some (.int .i64 (M : Int)) := HX2.out.cell 1
      have b2 : w2.drew.cell? ⟨w.heap.size, 2, none⟩ = some (.int .i64 (D : Int)) := HX2.out.cell 2
      have HTD := Zh (show Tab w2.drew.heap.size w2.drew from tab_on HT2.out (Below.refl _ _).drew)
      have HLT := Zh HX2.out.lt
      go_region_held3 (fun w' => w'.cell? ⟨w.heap.size, 1, none⟩ = some (.int .i64 (M : Int)) ∧ w'.cell? ⟨w.heap.size, 2, none⟩ = some (.int .i64 (D : Int))) (refine ⟨?_, ?_⟩ <;> assumption) (first
        | (go_at_call 187
           (with_reducible refine (digits2 M _ HTD.out HMM.out).mono ?_)
           rintro _ w5 ⟨rfl, hb⟩
           rw [HP.out]
           have HX5 := Zh ((HX2.out.drew).below hb HLT.out)
           have c1 : w5.cell? ⟨w.heap.size, 1, none⟩ = some (.int .i64 (M : Int)) := HX5.out.cell 1
           have c2 : w5.cell? ⟨w.heap.size, 2, none⟩ = some (.int .i64 (D : Int)) := HX5.out.cell 2
           have HT5 := Zh (tab_on HTD.out hb)
           have HB5 := Zh (HB.out.drew.trans (hb.mono HB.out.size))
           clear hb HTD)
        | (go_at_call 187
           (with_reducible refine (digits2 D _ HT5.out HDD.out).mono ?_)
           rintro _ w6 ⟨rfl, hb⟩
           rw [HR.out]
           have HX6 := Zh (HX5.out.below hb HX5.out.lt)
           have d1 : w6.cell? ⟨w.heap.size, 1, none⟩ = some (.int .i64 (M : Int)) := HX6.out.cell 1
           have d2 : w6.cell? ⟨w.heap.size, 2, none⟩ = some (.int .i64 (D : Int)) := HX6.out.cell 2
           have HB6 := Zh (HB5.out.trans (hb.mono HB5.out.size))
           clear hb))
      all_goals (
        go_wp2
        go_ret
        exact ⟨rfl, HB6.out⟩)
    · have HL := Zh (show (⟨(showL Y M D).toArray⟩ : ByteArray) = Q ++ ⟨#[45]⟩ ++ P ++ ⟨#[45]⟩ ++ R by
        apply bs_ext
        rw [← HP.out, ← HR.out, ← HQ.out]
        simp [showL, headL, h0])
      rw [HL.out]
      have h0' : ((Y : Int) == 0) = false := by simpa using h0
      have H0 := Zh h0
      clear h0
      go_enter Tryz.func171, Tryz.ntmps171
      go_wp2_with (first
        | (go_at_call 170; refine (may_any _ _ _ _).mono ?_; rintro _ w2 ⟨rfl, hb⟩; rw [HM.out]; have HX2 := Zh ((Blk.new w 130 #[.int .i64 (Y : Int), .int .i64 (M : Int), .int .i64 (D : Int)]).below hb (by simp)); have HT2 := Zh (tab_on HT0.out hb); have HB := Zh (((Below.refl w.heap.size w).alloc (Nat.le_refl _) _).trans (hb.mono (by simp))); obtain ⟨a0, a1, a2⟩ := Blk3.cells HX2.out; clear hb)
        | (go_at_call 187
           (with_reducible refine (digits4 Y _ HT2.out HY.out).mono ?_)
           rintro _ w3 ⟨rfl, hb⟩
           rw [HQ.out]
           have HX3 := Zh (HX2.out.below hb HX2.out.lt)
           have HT3 := Zh (tab_on HT2.out hb)
           have HB3 := Zh (HB.out.trans (hb.mono HB.out.size))
           clear hb HX2 HT2 HB a0 a1 a2)
        | fail)
      have b1 : w3.drew.cell? ⟨w.heap.size, 1, none⟩ = some (.int .i64 (M : Int)) := HX3.out.cell 1
      have b2 : w3.drew.cell? ⟨w.heap.size, 2, none⟩ = some (.int .i64 (D : Int)) := HX3.out.cell 2
      have HTD := Zh (show Tab w3.drew.heap.size w3.drew from tab_on HT3.out (Below.refl _ _).drew)
      have HLT := Zh HX3.out.lt
      go_region_held3 (fun w' => w'.cell? ⟨w.heap.size, 1, none⟩ = some (.int .i64 (M : Int)) ∧ w'.cell? ⟨w.heap.size, 2, none⟩ = some (.int .i64 (D : Int))) (refine ⟨?_, ?_⟩ <;> assumption) (first
        | (go_at_call 187
           (with_reducible refine (digits2 M _ HTD.out HMM.out).mono ?_)
           rintro _ w5 ⟨rfl, hb⟩
           rw [HP.out]
           have HX5 := Zh ((HX3.out.drew).below hb HLT.out)
           have c1 : w5.cell? ⟨w.heap.size, 1, none⟩ = some (.int .i64 (M : Int)) := HX5.out.cell 1
           have c2 : w5.cell? ⟨w.heap.size, 2, none⟩ = some (.int .i64 (D : Int)) := HX5.out.cell 2
           have HT5 := Zh (tab_on HTD.out hb)
           have HB5 := Zh (HB3.out.drew.trans (hb.mono HB3.out.size))
           clear hb HTD)
        | (go_at_call 187
           (with_reducible refine (digits2 D _ HT5.out HDD.out).mono ?_)
           rintro _ w6 ⟨rfl, hb⟩
           rw [HR.out]
           have HX6 := Zh (HX5.out.below hb HX5.out.lt)
           have d1 : w6.cell? ⟨w.heap.size, 1, none⟩ = some (.int .i64 (M : Int)) := HX6.out.cell 1
           have d2 : w6.cell? ⟨w.heap.size, 2, none⟩ = some (.int .i64 (D : Int)) := HX6.out.cell 2
           have HB6 := Zh (HB5.out.trans (hb.mono HB5.out.size))
           clear hb))
      all_goals (
        go_wp2
        go_ret
        exact ⟨rfl, HB6.out⟩)
end Go.Proofs.YtphijnkiiokieaaGreatDoor.Day
/- Dates: what a text shows. -/
namespace Go.Proofs.YtphijnkiiokieaaGreatDoor.Day
open Go.RowKit
set_option linter.unusedVariables false
set_option maxRecDepth 20000
attribute [local go_sem ↓] Go.wp_at_zero Go.wp_at_succ
/-- What number, month and day are read out of what stands behind the year. -/
def rest3 (s rest : ByteArray) (y : Int) : Option (Int × Int × Int) :=
  if rest.size = 5 ∧ mayB y (numD (rest.data.toList.take 2)) (numD (rest.data.toList.drop 3)) = true ∧ showS y (numD (rest.data.toList.take 2)) (numD (rest.data.toList.drop 3)) = s then some (y, numD (rest.data.toList.take 2), numD (rest.data.toList.drop 3)) else none
def prs (s : ByteArray) : Option (Int × Int × Int) :=
  if Lib.hasPrefix s.data.toList [45, 45] = true then rest3 s ⟨(Lib.trimPrefix s.data.toList [45, 45]).toArray⟩ 0
  else if s.size < 5 then none else rest3 s (s.extract 5 s.size) (numD (s.data.toList.take 4))
def dateV : Option (Int × Int × Int) → Value
  | some (y, m, d) => .agg #[.int .i64 y, .int .i64 m, .int .i64 d]
  | none => .agg #[.int .i64 0, .int .i64 0, .int .i64 0]
def errV : Option (Int × Int × Int) → Value
  | some _ => .int .i64 0
  | none => .int .i64 1
theorem ext_take (a : ByteArray) (k : Nat) : (a.extract 0 k).data.toList = a.data.toList.take k := by simp [ByteArray.data_extract]
theorem ext_drop (a : ByteArray) (k : Nat) : (a.extract k a.size).data.toList = a.data.toList.drop k := by
  simp [ByteArray.data_extract]
  rw [List.take_of_length_le (by simp)]
theorem results_cell1 {fn : Func} {p u : Tmp} {ty : TypeId} (h : fn.results = #[.cell p ty, .tmp u]) (tmps : Array Value) (P : Program) (w : World) (g : Nat) (t : TypeId) (cs : Array Value) (fr : Nat × Nat) (fs : Array Field)
    (hp : tmps.getD p undef = .pointer (some ⟨g, 0, none⟩)) (hg : w.heap[g]? = some (.cells cs t fr))
    (hu : P.underlying ty = some (.struct fs)) (hi : (P.info? ty).map (·.size) = some cs.size) :
    (results fn tmps).run P w = .ok (.tuple #[.agg cs, tmps.getD u undef]) w := by
  have hp' : tmps[p]?.getD undef = .pointer (some ⟨g, 0, none⟩) := by simpa using hp
  simp [results, h, hp', asAddr, run_loadVar_row w g t ty cs fr _ hg hu rfl hi]
theorem parse_out {cs : Array Value} (hc : cs.size = 3) {R : Ending → World → Prop} {a : Act} {w : World} {g : Nat} (h2 : a.tmps.getD 2 undef = .pointer (some ⟨g, 0, none⟩)) (hd : a.defers = []) (hg : Blk w g 130 cs)
    (hR : R (.returned (.tuple #[.agg cs, a.tmps.getD 3 undef])) w) : bodyPost Tryz.prog Tryz.f144 R .ret a w :=
  bodyPost_ret (results_cell1 (fn := Tryz.f144) rfl a.tmps Tryz.prog w g 130 cs (0, 0) _ h2 hg Tryz.underlying130 (by rw [hc]; rfl)) hd hR
theorem Blk3.put {w : World} {g : Nat} {a b c : Value} (h : Blk w g 130 #[a, b, c]) (x y z : Value) : Blk (((w.setCell ⟨g, 0, none⟩ x).setCell ⟨g, 1, none⟩ y).setCell ⟨g, 2, none⟩ z) g 130 #[x, y, z] := ((h.set_ 0 x).set_ 1 y).set_ 2 z
theorem Blk3.bel {w0 w : World} {B g : Nat} (h : Below B w0 w) (hg : B ≤ g) (x y z : Value) : Below B w0 (((w.setCell ⟨g, 0, none⟩ x).setCell ⟨g, 1, none⟩ y).setCell ⟨g, 2, none⟩ z) := ((h.setCell (p := ⟨g, 0, none⟩) hg x).setCell (p := ⟨g, 1, none⟩) hg y).setCell (p := ⟨g, 2, none⟩) hg z
theorem ne_str {a b : ByteArray} (h : a ≠ b) : (a.toList == b.toList) = false := by
  rw [ByteArray.toList_eq, ByteArray.toList_eq, beq_eq_false_iff_ne]
  exact fun e => h (bs_ext e)
set_option maxHeartbeats 2000000 in
theorem parse_cut (s : ByteArray) (hs : s.size ≤ 64) (w : World) (ht : Tab w.heap.size w) (hp : Lib.hasPrefix s.data.toList [45, 45] = true) : Calls Tryz.prog 144 #[.string s] w fun e w' => e = .returned (.tuple #[dateV (prs s), errV (prs s)]) ∧ Below w.heap.size w w' := by
  obtain ⟨r, hr⟩ : ∃ r : ByteArray, (⟨(Lib.trimPrefix s.data.toList [45, 45]).toArray⟩ : ByteArray) = r := ⟨_, rfl⟩
  have HPR := Zh (show prs s = rest3 s r 0 by unfold prs; rw [if_pos hp, hr])
  have HCP := Zh (fun W => (show Calls Tryz.prog 168 #[.string s, .string ⟨#[45, 45]⟩] W fun e w' => e = .returned (.tuple #[.string r, .bool true]) ∧ w' = W by
    have := Tryz.strings_CutPrefix s ⟨#[45, 45]⟩ W
    rw [← hr, ← hp]
    exact this))
  rw [HPR.out]
  clear hr hp
  by_cases h5 : r.size = 5
  · obtain ⟨m, hm⟩ : ∃ m, numD (r.data.toList.take 2) = m := ⟨_, rfl⟩
    obtain ⟨d, hd⟩ : ∃ d, numD (r.data.toList.drop 3) = d := ⟨_, rfl⟩
    have HN1 := Zh (fun W => (show Calls Tryz.prog 169 #[.string (r.extract 0 2)] W fun e w' => e = .returned (.int .i64 m) ∧ w' = W by
      have := number_any (r.extract 0 2) (by rw [ByteArray.size_extract]; omega) W
      rwa [ext_take, hm] at this))
    have HN2 := Zh (fun W => (show Calls Tryz.prog 169 #[.string (r.extract 3 5)] W fun e w' => e = .returned (.int .i64 d) ∧ w' = W by
      have := number_any (r.extract 3 r.size) (by rw [ByteArray.size_extract]; omega) W
      rwa [ext_drop, hd, h5] at this))
    go_enter Tryz.func144, Tryz.ntmps144
    go_wp2_with (first
      | (go_at_call 168; refine (HCP.out _).mono ?_; rintro _ w2 ⟨rfl, hw2⟩; replace hw2 := hw2; subst hw2)
      | fail)
    go_region_with (first
      | (go_at_call 169; (with_reducible refine (HN1.out _).mono ?_); rintro _ w3 ⟨rfl, hw3⟩; subst hw3)
      | (go_at_call 169; (with_reducible refine (HN2.out _).mono ?_); rintro _ w3 ⟨rfl, hw3⟩; subst hw3))
    have HX : Hid (Bx2 w ((w.alloc (.cells #[.int .i64 0, .int .i64 0, .int .i64 0] 130)).alloc (.cells #[.int .i64 0, .int .i64 m, .int .i64 d] 130)).drew w.heap.size (w.heap.size + 1) 0 0 0 0 m d) :=
      Zh ⟨((Blk.new w 130 _).alloc _).drew, by have := (Blk.new (w.alloc (.cells #[.int .i64 0, .int .i64 0, .int .i64 0] 130)) 130 #[.int .i64 0, .int .i64 m, .int .i64 d]).drew; simpa using this, (((Below.refl _ _).alloc (Nat.le_refl _) _).alloc (by simp) _).drew⟩
    have HT := Zh (tab_on ht HX.out.bel)
    by_cases hok : mayB 0 m d = true ∧ showS 0 m d = s
    · have HR3 := Zh (show rest3 s r 0 = some (0, m, d) by unfold rest3; rw [hm, hd, if_pos ⟨h5, hok⟩])
      have HM := Zh hok.1
      have HS := Zh hok.2
      clear hok hm hd ht
      go_wp2_with (first
        | (go_at_call 170; refine (may_any _ _ _ _).mono ?_; rintro _ w4 ⟨rfl, hb⟩; rw [HM.out]; have HX4 := Zh (HX.out.step hb); have HT4 := Zh (tab_on HT.out hb); have a0 := HX4.out.two.cell 0; have a1 := HX4.out.two.cell 1; have a2 := HX4.out.two.cell 2; clear hb)
        | (go_at_call 171; refine (show_any _ _ _ _ HT4.out).mono ?_; rintro _ w5 ⟨rfl, hb⟩; rw [HS.out]; have HX5 := Zh (HX4.out.step hb); have b0 := HX5.out.two.cell 0; have b1 := HX5.out.two.cell 1; have b2 := HX5.out.two.cell 2; have c0 := HX5.out.one.cell 0; have c1 := HX5.out.one.cell 1; have c2 := HX5.out.one.cell 2; have f0 := HX5.out.one.frozen 0; have f1 := HX5.out.one.frozen 1; have f2 := HX5.out.one.frozen 2; clear hb a0 a1 a2)
        | fail)
      (try simp only [Exit.inBlock, Exit.then])
      rw [HR3.out]
      refine parse_out (cs := #[.int .i64 0, .int .i64 m, .int .i64 d]) (g := w.heap.size) rfl rfl rfl ?_ ⟨rfl, ?_⟩
      · exact Blk3.put HX5.out.one _ _ _
      · exact Blk3.bel HX5.out.bel (Nat.le_refl _) _ _ _
    · have HR3 := Zh (show rest3 s r 0 = none by unfold rest3; rw [hm, hd, if_neg (fun h => hok h.2)])
      clear hm hd ht
      cases hmm : mayB 0 m d
      · have HM := Zh hmm
        clear hmm hok
        go_wp2_with (first
          | (go_at_call 170; refine (may_any _ _ _ _).mono ?_; rintro _ w4 ⟨rfl, hb⟩; rw [HM.out]; have HX4 := Zh (HX.out.step hb); have c0 := HX4.out.one.cell 0; have c1 := HX4.out.one.cell 1; have c2 := HX4.out.one.cell 2; have f0 := HX4.out.one.frozen 0; have f1 := HX4.out.one.frozen 1; have f2 := HX4.out.one.frozen 2; clear hb)
          | fail)
        (try simp only [Exit.inBlock, Exit.then])
        rw [HR3.out]
        refine parse_out (cs := #[.int .i64 0, .int .i64 0, .int .i64 0]) (g := w.heap.size) rfl rfl rfl ?_ ⟨rfl, ?_⟩
        · exact Blk3.put HX4.out.one _ _ _
        · exact Blk3.bel HX4.out.bel (Nat.le_refl _) _ _ _
      · have hne := ne_str (fun e => hok ⟨hmm, e⟩)
        have HM := Zh hmm
        clear hmm hok
        obtain ⟨T, hT⟩ : ∃ T, showS 0 m d = T := ⟨_, rfl⟩
        rw [hT] at hne
        have HS := Zh hT
        clear hT
        go_wp2_with (first
          | (go_at_call 170; refine (may_any _ _ _ _).mono ?_; rintro _ w4 ⟨rfl, hb⟩; rw [HM.out]; have HX4 := Zh (HX.out.step hb); have HT4 := Zh (tab_on HT.out hb); have a0 := HX4.out.two.cell 0; have a1 := HX4.out.two.cell 1; have a2 := HX4.out.two.cell 2; clear hb)
          | (go_at_call 171; refine (show_any _ _ _ _ HT4.out).mono ?_; rintro _ w5 ⟨rfl, hb⟩; rw [HS.out]; have HX5 := Zh (HX4.out.step hb); have c0 := HX5.out.one.cell 0; have c1 := HX5.out.one.cell 1; have c2 := HX5.out.one.cell 2; have f0 := HX5.out.one.frozen 0; have f1 := HX5.out.one.frozen 1; have f2 := HX5.out.one.frozen 2; clear hb a0 a1 a2)
          | fail)
        (try simp only [Exit.inBlock, Exit.then])
        rw [HR3.out]
        refine parse_out (cs := #[.int .i64 0, .int .i64 0, .int .i64 0]) (g := w.heap.size) rfl rfl rfl ?_ ⟨rfl, ?_⟩
        · exact Blk3.put HX5.out.one _ _ _
        · exact Blk3.bel HX5.out.bel (Nat.le_refl _) _ _ _
  · go_enter Tryz.func144, Tryz.ntmps144
    go_wp2_with (first
      | (go_at_call 168; refine (HCP.out _).mono ?_; rintro _ w2 ⟨rfl, hw2⟩; replace hw2 := hw2; subst hw2)
      | fail)
    have HR3 := Zh (show rest3 s r 0 = none by unfold rest3; rw [if_neg (fun h => h5 h.1)])
    rw [HR3.out]
    exact bodyPost_ret (v := .tuple #[.agg #[.int .i64 0, .int .i64 0, .int .i64 0], .int .i64 1]) (by simp [results, Tryz.results144, go_sem]) rfl ⟨rfl, ((Below.refl _ _).alloc (Nat.le_refl _) _).alloc (by simp) _⟩
set_option maxHeartbeats 2000000 in
theorem parse_num (s : ByteArray) (hs : s.size ≤ 64) (w : World) (ht : Tab w.heap.size w) (hp : Lib.hasPrefix s.data.toList [45, 45] = false) : Calls Tryz.prog 144 #[.string s] w fun e w' => e = .returned (.tuple #[dateV (prs s), errV (prs s)]) ∧ Below w.heap.size w w' := by
  have HCP := Zh (fun W => (show Calls Tryz.prog 168 #[.string s, .string ⟨#[45, 45]⟩] W fun e w' => e = .returned (.tuple #[.string ⟨(Lib.trimPrefix s.data.toList [45, 45]).toArray⟩, .bool false]) ∧ w' = W by
    have := Tryz.strings_CutPrefix s ⟨#[45, 45]⟩ W
    rw [← hp]
    exact this))
  by_cases hs5 : s.size < 5
  · have HPR := Zh (show prs s = none by unfold prs; rw [if_neg (by rw [hp]; simp), if_pos hs5])
    rw [HPR.out]
    have hs5i : (s.size : Int) < 5 := by omega
    go_enter Tryz.func144, Tryz.ntmps144
    go_wp2_with (first
      | (go_at_call 168; refine (HCP.out _).mono ?_; rintro _ w2 ⟨rfl, hw2⟩; replace hw2 := hw2; subst hw2)
      | fail)
    exact bodyPost_ret (v := .tuple #[.agg #[.int .i64 0, .int .i64 0, .int .i64 0], .int .i64 1]) (by simp [results, Tryz.results144, go_sem]) rfl ⟨rfl, ((Below.refl _ _).alloc (Nat.le_refl _) _).alloc (by simp) _⟩
  obtain ⟨r, hr⟩ : ∃ r : ByteArray, s.extract 5 s.size = r := ⟨_, rfl⟩
  obtain ⟨y, hy⟩ : ∃ y, numD (s.data.toList.take 4) = y := ⟨_, rfl⟩
  have HPR := Zh (show prs s = rest3 s r y by unfold prs; rw [if_neg (by rw [hp]; simp), if_neg hs5, hr, hy])
  have HNY := Zh (fun W => (show Calls Tryz.prog 169 #[.string (s.extract 0 4)] W fun e w' => e = .returned (.int .i64 y) ∧ w' = W by
    have := number_any (s.extract 0 4) (by rw [ByteArray.size_extract]; omega) W
    rwa [ext_take, hy] at this))
  have hs5i : ¬ (s.size : Int) < 5 := by omega
  have hs6i : (4 : Int) ≤ (s.size : Int) := by omega
  have hs7i : (5 : Int) ≤ (s.size : Int) := by omega
  rw [HPR.out]
  clear hp hy
  by_cases h5 : r.size = 5
  · obtain ⟨m, hm⟩ : ∃ m, numD (r.data.toList.take 2) = m := ⟨_, rfl⟩
    obtain ⟨d, hd⟩ : ∃ d, numD (r.data.toList.drop 3) = d := ⟨_, rfl⟩
    have HN1 := Zh (fun W => (show Calls Tryz.prog 169 #[.string (r.extract 0 2)] W fun e w' => e = .returned (.int .i64 m) ∧ w' = W by
      have := number_any (r.extract 0 2) (by rw [ByteArray.size_extract]; omega) W
      rwa [ext_take, hm] at this))
    have HN2 := Zh (fun W => (show Calls Tryz.prog 169 #[.string (r.extract 3 5)] W fun e w' => e = .returned (.int .i64 d) ∧ w' = W by
      have := number_any (r.extract 3 r.size) (by rw [ByteArray.size_extract]; omega) W
      rwa [ext_drop, hd, h5] at this))
    go_enter Tryz.func144, Tryz.ntmps144
    go_wp2_with (first
      | (go_at_call 168; refine (HCP.out _).mono ?_; rintro _ w2 ⟨rfl, hw2⟩; replace hw2 := hw2; subst hw2)
      | (go_at_call 169; refine (HNY.out _).mono ?_; rintro _ w2 ⟨rfl, hw2⟩; subst hw2)
      | fail)
    go_region_with (first
      | (go_at_call 169; (with_reducible refine (HN1.out _).mono ?_); rintro _ w3 ⟨rfl, hw3⟩; subst hw3)
      | (go_at_call 169; (with_reducible refine (HN2.out _).mono ?_); rintro _ w3 ⟨rfl, hw3⟩; subst hw3))
    have HX : Hid (Bx2 w ((w.alloc (.cells #[.int .i64 0, .int .i64 0, .int .i64 0] 130)).alloc (.cells #[.int .i64 y, .int .i64 m, .int .i64 d] 130)).drew w.heap.size (w.heap.size + 1) 0 0 0 y m d) :=
      Zh ⟨((Blk.new w 130 _).alloc _).drew, by have := (Blk.new (w.alloc (.cells #[.int .i64 0, .int .i64 0, .int .i64 0] 130)) 130 #[.int .i64 y, .int .i64 m, .int .i64 d]).drew; simpa using this, (((Below.refl _ _).alloc (Nat.le_refl _) _).alloc (by simp) _).drew⟩
    have HT := Zh (tab_on ht HX.out.bel)
    by_cases hok : mayB y m d = true ∧ showS y m d = s
    · have HR3 := Zh (show rest3 s r y = some (y, m, d) by unfold rest3; rw [hm, hd, if_pos ⟨h5, hok⟩])
      have HM := Zh hok.1
      have HS := Zh hok.2
      clear hok hm hd ht
      go_wp2_with (first
        | (go_at_call 170; refine (may_any _ _ _ _).mono ?_; rintro _ w4 ⟨rfl, hb⟩; rw [HM.out]; have HX4 := Zh (HX.out.step hb); have HT4 := Zh (tab_on HT.out hb); have a0 := HX4.out.two.cell 0; have a1 := HX4.out.two.cell 1; have a2 := HX4.out.two.cell 2; clear hb)
        | (go_at_call 171; refine (show_any _ _ _ _ HT4.out).mono ?_; rintro _ w5 ⟨rfl, hb⟩; rw [HS.out]; have HX5 := Zh (HX4.out.step hb); have b0 := HX5.out.two.cell 0; have b1 := HX5.out.two.cell 1; have b2 := HX5.out.two.cell 2; have c0 := HX5.out.one.cell 0; have c1 := HX5.out.one.cell 1; have c2 := HX5.out.one.cell 2; have f0 := HX5.out.one.frozen 0; have f1 := HX5.out.one.frozen 1; have f2 := HX5.out.one.frozen 2; clear hb a0 a1 a2)
        | fail)
      (try simp only [Exit.inBlock, Exit.then])
      rw [HR3.out]
      refine parse_out (cs := #[.int .i64 y, .int .i64 m, .int .i64 d]) (g := w.heap.size) rfl rfl rfl ?_ ⟨rfl, ?_⟩
      · exact Blk3.put HX5.out.one _ _ _
      · exact Blk3.bel HX5.out.bel (Nat.le_refl _) _ _ _
    · have HR3 := Zh (show rest3 s r y = none by unfold rest3; rw [hm, hd, if_neg (fun h => hok h.2)])
      clear hm hd ht
      cases hmm : mayB y m d
      · have HM := Zh hmm
        clear hmm hok
        go_wp2_with (first
          | (go_at_call 170; refine (may_any _ _ _ _).mono ?_; rintro _ w4 ⟨rfl, hb⟩; rw [HM.out]; have HX4 := Zh (HX.out.step hb); have c0 := HX4.out.one.cell 0; have c1 := HX4.out.one.cell 1; have c2 := HX4.out.one.cell 2; have f0 := HX4.out.one.frozen 0; have f1 := HX4.out.one.frozen 1; have f2 := HX4.out.one.frozen 2; clear hb)
          | fail)
        (try simp only [Exit.inBlock, Exit.then])
        rw [HR3.out]
        refine parse_out (cs := #[.int .i64 0, .int .i64 0, .int .i64 0]) (g := w.heap.size) rfl rfl rfl ?_ ⟨rfl, ?_⟩
        · exact Blk3.put HX4.out.one _ _ _
        · exact Blk3.bel HX4.out.bel (Nat.le_refl _) _ _ _
      · have hne := ne_str (fun e => hok ⟨hmm, e⟩)
        have HM := Zh hmm
        clear hmm hok
        obtain ⟨T, hT⟩ : ∃ T, showS y m d = T := ⟨_, rfl⟩
        rw [hT] at hne
        have HS := Zh hT
        clear hT
        go_wp2_with (first
          | (go_at_call 170; refine (may_any _ _ _ _).mono ?_; rintro _ w4 ⟨rfl, hb⟩; rw [HM.out]; have HX4 := Zh (HX.out.step hb); have HT4 := Zh (tab_on HT.out hb); have a0 := HX4.out.two.cell 0; have a1 := HX4.out.two.cell 1; have a2 := HX4.out.two.cell 2; clear hb)
          | (go_at_call 171; refine (show_any _ _ _ _ HT4.out).mono ?_; rintro _ w5 ⟨rfl, hb⟩; rw [HS.out]; have HX5 := Zh (HX4.out.step hb); have c0 := HX5.out.one.cell 0; have c1 := HX5.out.one.cell 1; have c2 := HX5.out.one.cell 2; have f0 := HX5.out.one.frozen 0; have f1 := HX5.out.one.frozen 1; have f2 := HX5.out.one.frozen 2; clear hb a0 a1 a2)
          | fail)
        (try simp only [Exit.inBlock, Exit.then])
        rw [HR3.out]
        refine parse_out (cs := #[.int .i64 0, .int .i64 0, .int .i64 0]) (g := w.heap.size) rfl rfl rfl ?_ ⟨rfl, ?_⟩
        · exact Blk3.put HX5.out.one _ _ _
        · exact Blk3.bel HX5.out.bel (Nat.le_refl _) _ _ _
  · have h5i : ((r.size : Int) == 5) = false := by simp; omega
    go_enter Tryz.func144, Tryz.ntmps144
    go_wp2_with (first
      | (go_at_call 168; refine (HCP.out _).mono ?_; rintro _ w2 ⟨rfl, hw2⟩; replace hw2 := hw2; subst hw2)
      | (go_at_call 169; refine (HNY.out _).mono ?_; rintro _ w2 ⟨rfl, hw2⟩; subst hw2)
      | fail)
    have HR3 := Zh (show rest3 s r y = none by unfold rest3; rw [if_neg (fun h => h5 h.1)])
    rw [HR3.out]
    exact bodyPost_ret (v := .tuple #[.agg #[.int .i64 0, .int .i64 0, .int .i64 0], .int .i64 1]) (by simp [results, Tryz.results144, go_sem]) rfl ⟨rfl, ((Below.refl _ _).alloc (Nat.le_refl _) _).alloc (by simp) _⟩
theorem parse_any (s : ByteArray) (hs : s.size ≤ 64) (w : World) (ht : Tab w.heap.size w) : Calls Tryz.prog 144 #[.string s] w fun e w' => e = .returned (.tuple #[dateV (prs s), errV (prs s)]) ∧ Below w.heap.size w w' := by
  cases hp : Lib.hasPrefix s.data.toList [45, 45]
  · exact parse_num s hs w ht hp
  · exact parse_cut s hs w ht hp
end Go.Proofs.YtphijnkiiokieaaGreatDoor.Day
