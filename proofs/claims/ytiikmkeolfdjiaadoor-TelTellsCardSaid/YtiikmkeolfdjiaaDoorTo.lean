/- Telephone numbers: the reference's bare, Match. -/
import Derived.Test.YtiikmkeolfdjiaaDoorTp
namespace Go.Proofs.YtiikmkeolfdjiaaDoor
open Go.RowKit
open Go.Lib hiding intOf
set_option linter.unusedVariables false
set_option maxRecDepth 20000
theorem list_head (s : ByteArray) (h : 0 < s.size) : s.data.toList = s[0] :: (s.extract 1 s.size).data.toList := by
  have hx : (s.extract 1 s.size).data.toList = s.data.toList.drop 1 := by simp [List.take_of_length_le]
  rw [hx]
  have := List.drop_eq_getElem_cons (l := s.data.toList) (i := 0) (by simpa using h)
  rw [List.drop_zero] at this
  exact this
theorem trim_zero (s : ByteArray) (h : 0 < s.size) (h0 : s[0] = 48) : trimLeftB s.data.toList 48 = trimLeftB (s.extract 1 s.size).data.toList 48 := by
  rw [list_head s h, h0]; simp [trimLeftB]
theorem trim_stop (s : ByteArray) (h : 0 < s.size) (h0 : s[0] ≠ 48) : trimLeftB s.data.toList 48 = s.data.toList := by
  rw [list_head s h]
  unfold trimLeftB
  rw [List.dropWhile_cons, if_neg (by simpa using h0)]
theorem trim_none (s : ByteArray) (h : s.size = 0) : trimLeftB s.data.toList 48 = s.data.toList := by
  have : s.data.toList = [] := List.eq_nil_of_length_eq_zero (by simpa using h)
  rw [this]; rfl
theorem nat_byte {c : UInt8} {n : Nat} (k : UInt8) (hk : k.toNat = n) (h : (c.toNat : Int) = n) : c = k := UInt8.toNat_inj.1 (by omega)
set_option maxHeartbeats 4000000 in
theorem rbare_any (s : ByteArray) (hs : s.size ≤ 1000000) (h0 : 0 < s.size) (w : World) : Calls Tryd.prog 26 #[.string s] w fun e w' => e = .returned (.string ⟨(rowL s.data.toList).toArray⟩) ∧ w' = w := by
  have hcs := dgs_cons s h0
  obtain ⟨r, hr⟩ : ∃ r : ByteArray, (⟨(rowL s.data.toList).toArray⟩ : ByteArray) = r := ⟨_, rfl⟩
  rw [hr]
  have HR := Lib.hid (show r = ⟨(trimLeftB (dgsL s.data.toList) 48).toArray⟩ from hr.symm)
  clear hr
  have h0I : 0 < (s.size : Int) := by omega
  have hsI : (s.size : Int) ≤ 1000000 := by omega
  by_cases h43 : s[0] = 43
  · have hd := hcs.1 h43
    have hc0 : (s[0].toNat : Int) = 43 := by rw [h43]; rfl
    have hc1 : ((s[0].toNat : Int) == 43) = true := by rw [hc0]; rfl
    have hxz : (s.extract 1 s.size).size ≤ 1000000 := by rw [ByteArray.size_extract]; omega
    obtain ⟨d, hdd⟩ : ∃ d, s.extract 1 s.size = d := ⟨_, rfl⟩
    rw [hdd] at hd hxz
    have HR2 := Lib.hid (show r = ⟨(trimLeftB d.data.toList 48).toArray⟩ by rw [HR.out, hd])
    clear hcs hd h43 hc0
    go_enter Tryd.func26, Tryd.ntmps26
    go_wp2
    go_loop [0] (fun o => ∃ O : ByteArray, o = .string O ∧ O.size ≤ 1000000 ∧ trimLeftB O.data.toList 48 = trimLeftB d.data.toList 48) (fun o => match o with | .string O => O.size | _ => 0)
    case atStart => exact ⟨d, rfl, by omega, rfl⟩
    case round =>
      obtain ⟨O, rfl, hO, hT⟩ := hrel
      have HT := Lib.hid hT
      clear hT
      have hOI : (O.size : Int) ≤ 1000000 := by omega
      rcases (show O.size = 0 ∨ (∃ h : 0 < O.size, (O[0].toNat : Int) = 48) ∨ (∃ h : 0 < O.size, ¬ (O[0].toNat : Int) = 48) by
        rcases Nat.eq_zero_or_pos O.size with h | h
        · exact .inl h
        · by_cases h48 : (O[0].toNat : Int) = 48
          · exact .inr (.inl ⟨h, h48⟩)
          · exact .inr (.inr ⟨h, h48⟩)) with h0 | ⟨h0, h48⟩ | ⟨h0, h48⟩
      · have H0 := Lib.hid (show r = O by rw [HR2.out, ← HT.out, trim_none O h0])
        have hz : (O.size : Int) = 0 := by omega
        clear h0
        go_wp2
        go_ret
        exact ⟨by rw [H0.out]; rfl, rfl⟩
      · have hc1' : ((O[0].toNat : Int) == 48) = true := by rw [h48]; rfl
        have HE := Lib.hid (show trimLeftB (O.extract 1 O.size).data.toList 48 = trimLeftB d.data.toList 48 by rw [← trim_zero O h0 (nat_byte 48 rfl h48)]; exact HT.out)
        have HZ := Lib.hid (show (O.extract 1 O.size).size = O.size - 1 by rw [ByteArray.size_extract]; omega)
        have hpI : 0 < (O.size : Int) := by omega
        clear h48
        go_wp2
        exact ⟨⟨O.extract 1 O.size, rfl, by rw [HZ.out]; omega, HE.out⟩, by show (O.extract 1 O.size).size < O.size; rw [HZ.out]; omega⟩
      · have hc1' : ((O[0].toNat : Int) == 48) = false := by simpa using h48
        have H0 := Lib.hid (show r = O by rw [HR2.out, ← HT.out, trim_stop O h0 (fun e => h48 (by rw [e]; rfl))])
        have hpI : 0 < (O.size : Int) := by omega
        clear h48
        go_wp2
        go_ret
        exact ⟨by rw [H0.out]; rfl, rfl⟩
  · have hd := hcs.2 h43
    have hc1 : ((s[0].toNat : Int) == 43) = false := by
      rw [beq_eq_false_iff_ne]; intro e; exact h43 (nat_byte 43 rfl e)
    have HR2 := Lib.hid (show r = ⟨(trimLeftB s.data.toList 48).toArray⟩ by rw [HR.out, hd])
    clear hcs hd h43
    go_enter Tryd.func26, Tryd.ntmps26
    go_wp2
    go_loop [0] (fun o => ∃ O : ByteArray, o = .string O ∧ O.size ≤ 1000000 ∧ trimLeftB O.data.toList 48 = trimLeftB s.data.toList 48) (fun o => match o with | .string O => O.size | _ => 0)
    case atStart => exact ⟨s, rfl, by omega, rfl⟩
    case round =>
      obtain ⟨O, rfl, hO, hT⟩ := hrel
      have HT := Lib.hid hT
      clear hT
      have hOI : (O.size : Int) ≤ 1000000 := by omega
      rcases (show O.size = 0 ∨ (∃ h : 0 < O.size, (O[0].toNat : Int) = 48) ∨ (∃ h : 0 < O.size, ¬ (O[0].toNat : Int) = 48) by
        rcases Nat.eq_zero_or_pos O.size with h | h
        · exact .inl h
        · by_cases h48 : (O[0].toNat : Int) = 48
          · exact .inr (.inl ⟨h, h48⟩)
          · exact .inr (.inr ⟨h, h48⟩)) with h0 | ⟨h0, h48⟩ | ⟨h0, h48⟩
      · have H0 := Lib.hid (show r = O by rw [HR2.out, ← HT.out, trim_none O h0])
        have hz : (O.size : Int) = 0 := by omega
        clear h0
        go_wp2
        go_ret
        exact ⟨by rw [H0.out]; rfl, rfl⟩
      · have hc1' : ((O[0].toNat : Int) == 48) = true := by rw [h48]; rfl
        have HE := Lib.hid (show trimLeftB (O.extract 1 O.size).data.toList 48 = trimLeftB s.data.toList 48 by rw [← trim_zero O h0 (nat_byte 48 rfl h48)]; exact HT.out)
        have HZ := Lib.hid (show (O.extract 1 O.size).size = O.size - 1 by rw [ByteArray.size_extract]; omega)
        have hpI : 0 < (O.size : Int) := by omega
        clear h48
        go_wp2
        exact ⟨⟨O.extract 1 O.size, rfl, by rw [HZ.out]; omega, HE.out⟩, by show (O.extract 1 O.size).size < O.size; rw [HZ.out]; omega⟩
      · have hc1' : ((O[0].toNat : Int) == 48) = false := by simpa using h48
        have H0 := Lib.hid (show r = O by rw [HR2.out, ← HT.out, trim_stop O h0 (fun e => h48 (by rw [e]; rfl))])
        have hpI : 0 < (O.size : Int) := by omega
        clear h48
        go_wp2
        go_ret
        exact ⟨by rw [H0.out]; rfl, rfl⟩
theorem suffix_same (a b : List UInt8) (h : a.length = b.length) : hasSuffix a b = hasSuffix b a := by
  have key : ∀ x y : List UInt8, x.length = y.length → hasSuffix x y = true → x = y := by
    intro x y hl hx
    unfold hasSuffix at hx
    exact (List.IsSuffix.eq_of_length (List.isSuffixOf_iff_suffix.1 hx) hl.symm).symm
  cases h1 : hasSuffix a b with
  | true => have := key a b h h1; subst this; exact h1.symm
  | false =>
    cases h2 : hasSuffix b a with
    | false => rfl
    | true => have := key b a h.symm h2; subst this; rw [h1] at h2; cases h2
theorem tail_eq (y x : ByteArray) (h : x.size ≤ y.size) : ((y.extract (y.size - x.size) y.size).toList == x.toList) = hasSuffix y.data.toList x.data.toList := by
  have := hasSuffix_raw y x
  rw [decide_eq_true h, Bool.true_and] at this
  exact this
theorem tel_pos (s : ByteArray) (h : telB s.data.toList = true) : 0 < s.size := by
  rcases Nat.eq_zero_or_pos s.size with h0 | h0
  · have : s.data.toList = [] := List.eq_nil_of_length_eq_zero (by simpa using h0)
    rw [this] at h; exact absurd h (by decide)
  · exact h0
set_option maxHeartbeats 8000000 in
theorem rmatch_any (a b : ByteArray) (ha : a.size ≤ 1000000) (hb : b.size ≤ 1000000) (w : World) : Calls Tryd.prog 14 #[.string a, .string b] w fun e w' => e = .returned (.bool (matchB a.data.toList b.data.toList)) ∧ w' = w := by
  have hia := ristel_any a ha
  have hib := ristel_any b hb
  have hra := fun h => rbare_any a ha h
  have hrb := fun h => rbare_any b hb h
  have hm : matchB a.data.toList b.data.toList = (telB a.data.toList && telB b.data.toList && matchL (rowL a.data.toList) (rowL b.data.toList)) := rfl
  have hla : (rowL a.data.toList).length ≤ a.size := by
    have h1 : (rowL a.data.toList).length ≤ (dgsL a.data.toList).length := (List.dropWhile_suffix _).length_le
    have h2 := trimPrefix_le a.data.toList [43]
    have h3 : a.data.toList.length = a.size := by simp
    unfold dgsL at h1; omega
  have hlb : (rowL b.data.toList).length ≤ b.size := by
    have h1 : (rowL b.data.toList).length ≤ (dgsL b.data.toList).length := (List.dropWhile_suffix _).length_le
    have h2 := trimPrefix_le b.data.toList [43]
    have h3 : b.data.toList.length = b.size := by simp
    unfold dgsL at h1; omega
  rw [hm]
  clear hm
  obtain ⟨x, hx⟩ : ∃ x : ByteArray, (⟨(rowL a.data.toList).toArray⟩ : ByteArray) = x := ⟨_, rfl⟩
  obtain ⟨y, hy⟩ : ∃ y : ByteArray, (⟨(rowL b.data.toList).toArray⟩ : ByteArray) = y := ⟨_, rfl⟩
  have hxl : rowL a.data.toList = x.data.toList := by rw [← hx]
  have hyl : rowL b.data.toList = y.data.toList := by rw [← hy]
  rw [hx] at hra
  rw [hy] at hrb
  rw [hxl] at hla ⊢
  rw [hyl] at hlb ⊢
  have hxs : x.data.toList.length = x.size := by simp
  have hys : y.data.toList.length = y.size := by simp
  have hmm : matchL x.data.toList y.data.toList = if (y.size : Int) < (x.size : Int) then decide (5 ≤ (y.size : Int)) && hasSuffix x.data.toList y.data.toList else decide (5 ≤ (x.size : Int)) && hasSuffix y.data.toList x.data.toList := by
    unfold matchL
    rw [hxs, hys]
    by_cases h : x.size < y.size
    · rw [if_pos h, if_neg (by omega)]
    · rw [if_neg h]
      by_cases h2 : (y.size : Int) < (x.size : Int)
      · rw [if_pos h2]
      · rw [if_neg h2]
        have : x.size = y.size := by omega
        rw [suffix_same x.data.toList y.data.toList (by omega), this]
  rw [hmm]
  rw [hxs] at hla
  rw [hys] at hlb
  have hxy := fun h => tail_eq x y h
  have hyx := fun h => tail_eq y x h
  have hta2 := tel_pos a
  have htb2 := tel_pos b
  obtain ⟨ta, hta⟩ : ∃ t, telB a.data.toList = t := ⟨_, rfl⟩
  obtain ⟨tb, htb⟩ : ∃ t, telB b.data.toList = t := ⟨_, rfl⟩
  obtain ⟨p, hp⟩ : ∃ t, hasSuffix x.data.toList y.data.toList = t := ⟨_, rfl⟩
  obtain ⟨q, hq⟩ : ∃ t, hasSuffix y.data.toList x.data.toList = t := ⟨_, rfl⟩
  rw [hta] at hia hta2 ⊢
  rw [htb] at hib htb2 ⊢
  rw [hp] at hxy ⊢
  rw [hq] at hyx ⊢
  have HXY := Lib.hid hxy
  have HYX := Lib.hid hyx
  have HIA := Lib.hid hia
  have HIB := Lib.hid hib
  have hxI : (x.size : Int) ≤ 1000000 := by omega
  have hyI : (y.size : Int) ≤ 1000000 := by omega
  have HTA := Lib.hid hta2
  have HTB := Lib.hid htb2
  have HRA0 := Lib.hid hra
  have HRB0 := Lib.hid hrb
  clear hia hib hra hrb hla hlb hx hy hxl hyl hxs hys hmm hta htb hp hq hta2 htb2 hxy hyx
  obtain ⟨r, hr⟩ : ∃ r, (ta && tb && if (y.size : Int) < (x.size : Int) then decide (5 ≤ (y.size : Int)) && p else decide (5 ≤ (x.size : Int)) && q) = r := ⟨_, rfl⟩
  rw [hr]
  have HR := Lib.hid hr
  clear hr
  cases ta with
  | false =>
    have H0 := Lib.hid (show r = false by rw [← HR.out]; rfl)
    go_enter Tryd.func14, Tryd.ntmps14
    go_wp2_with (go_at_call 10; (with_reducible refine (HIA.out _).mono ?_); rintro e w1 ⟨rfl, hw⟩; replace hw := hw.symm; subst hw)
    go_ret
    exact ⟨by rw [H0.out]; rfl, rfl⟩
  | true =>
    cases tb with
    | false =>
      have H0 := Lib.hid (show r = false by rw [← HR.out]; rfl)
      go_enter Tryd.func14, Tryd.ntmps14
      go_wp2_with (first | (go_at_call 10; (with_reducible refine (HIA.out _).mono ?_); rintro e w1 ⟨rfl, hw⟩; replace hw := hw.symm; subst hw) | (go_at_call 10; (with_reducible refine (HIB.out _).mono ?_); rintro e w1 ⟨rfl, hw⟩; replace hw := hw.symm; subst hw))
      go_ret
      exact ⟨by rw [H0.out]; rfl, rfl⟩
    | true =>
      have HRA := Lib.hid (HRA0.out (HTA.out rfl))
      have HRB := Lib.hid (HRB0.out (HTB.out rfl))
      clear HRA0 HRB0 HTA HTB
      by_cases hxy : (y.size : Int) < (x.size : Int)
      · have HR2 := Lib.hid (show r = (decide (5 ≤ (y.size : Int)) && p) by rw [← HR.out, if_pos hxy]; rfl)
        clear HR
        have hm : ((x.extract (x.size - y.size) x.size).toList == y.toList) = p := HXY.out (by omega)
        have hd : (x.size : Int) - (y.size : Int) = ((x.size - y.size : Nat) : Int) := by omega
        have hdle : x.size - y.size ≤ x.size := by omega
        obtain ⟨q0, hq0⟩ : ∃ q0, x.size - y.size = q0 := ⟨_, rfl⟩
        rw [hq0] at hm hd hdle
        clear hq0
        by_cases h5 : 5 ≤ (y.size : Int)
        · have H0 := Lib.hid (show r = p by rw [HR2.out, decide_eq_true h5]; rfl)
          go_enter Tryd.func14, Tryd.ntmps14
          go_wp2_with (first | (go_at_call 10; (with_reducible refine (HIA.out _).mono ?_); rintro e w1 ⟨rfl, hw⟩; replace hw := hw.symm; subst hw) | (go_at_call 10; (with_reducible refine (HIB.out _).mono ?_); rintro e w1 ⟨rfl, hw⟩; replace hw := hw.symm; subst hw) | (go_at_call 26; (with_reducible refine (HRA.out _).mono ?_); rintro e w1 ⟨rfl, hw⟩; replace hw := hw.symm; subst hw) | (go_at_call 26; (with_reducible refine (HRB.out _).mono ?_); rintro e w1 ⟨rfl, hw⟩; replace hw := hw.symm; subst hw))
          go_ret
          exact ⟨by rw [H0.out]; rfl, rfl⟩
        · have h5' : decide (5 ≤ (y.size : Int)) = false := by simpa using h5
          have H0 := Lib.hid (show r = false by rw [HR2.out, h5']; rfl)
          go_enter Tryd.func14, Tryd.ntmps14
          go_wp2_with (first | (go_at_call 10; (with_reducible refine (HIA.out _).mono ?_); rintro e w1 ⟨rfl, hw⟩; replace hw := hw.symm; subst hw) | (go_at_call 10; (with_reducible refine (HIB.out _).mono ?_); rintro e w1 ⟨rfl, hw⟩; replace hw := hw.symm; subst hw) | (go_at_call 26; (with_reducible refine (HRA.out _).mono ?_); rintro e w1 ⟨rfl, hw⟩; replace hw := hw.symm; subst hw) | (go_at_call 26; (with_reducible refine (HRB.out _).mono ?_); rintro e w1 ⟨rfl, hw⟩; replace hw := hw.symm; subst hw))
          go_ret
          exact ⟨by rw [H0.out]; rfl, rfl⟩
      · have HR2 := Lib.hid (show r = (decide (5 ≤ (x.size : Int)) && q) by rw [← HR.out, if_neg hxy]; rfl)
        clear HR
        have hm : ((y.extract (y.size - x.size) y.size).toList == x.toList) = q := HYX.out (by omega)
        have hd : (y.size : Int) - (x.size : Int) = ((y.size - x.size : Nat) : Int) := by omega
        have hdle : y.size - x.size ≤ y.size := by omega
        obtain ⟨q0, hq0⟩ : ∃ q0, y.size - x.size = q0 := ⟨_, rfl⟩
        rw [hq0] at hm hd hdle
        clear hq0
        by_cases h5 : 5 ≤ (x.size : Int)
        · have H0 := Lib.hid (show r = q by rw [HR2.out, decide_eq_true h5]; rfl)
          go_enter Tryd.func14, Tryd.ntmps14
          go_wp2_with (first | (go_at_call 10; (with_reducible refine (HIA.out _).mono ?_); rintro e w1 ⟨rfl, hw⟩; replace hw := hw.symm; subst hw) | (go_at_call 10; (with_reducible refine (HIB.out _).mono ?_); rintro e w1 ⟨rfl, hw⟩; replace hw := hw.symm; subst hw) | (go_at_call 26; (with_reducible refine (HRA.out _).mono ?_); rintro e w1 ⟨rfl, hw⟩; replace hw := hw.symm; subst hw) | (go_at_call 26; (with_reducible refine (HRB.out _).mono ?_); rintro e w1 ⟨rfl, hw⟩; replace hw := hw.symm; subst hw))
          go_ret
          exact ⟨by rw [H0.out]; rfl, rfl⟩
        · have h5' : decide (5 ≤ (x.size : Int)) = false := by simpa using h5
          have H0 := Lib.hid (show r = false by rw [HR2.out, h5']; rfl)
          go_enter Tryd.func14, Tryd.ntmps14
          go_wp2_with (first | (go_at_call 10; (with_reducible refine (HIA.out _).mono ?_); rintro e w1 ⟨rfl, hw⟩; replace hw := hw.symm; subst hw) | (go_at_call 10; (with_reducible refine (HIB.out _).mono ?_); rintro e w1 ⟨rfl, hw⟩; replace hw := hw.symm; subst hw) | (go_at_call 26; (with_reducible refine (HRA.out _).mono ?_); rintro e w1 ⟨rfl, hw⟩; replace hw := hw.symm; subst hw) | (go_at_call 26; (with_reducible refine (HRB.out _).mono ?_); rintro e w1 ⟨rfl, hw⟩; replace hw := hw.symm; subst hw))
          go_ret
          exact ⟨by rw [H0.out]; rfl, rfl⟩
end Go.Proofs.YtiikmkeolfdjiaaDoor
