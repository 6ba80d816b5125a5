/- Telephone numbers: the reference. -/
import Derived.Test.YtiikmkeolfdjiaaDoorTs
import Derived.Test.YtiikmkeolfdjiaaDoorRk
namespace Go.Proofs.YtiikmkeolfdjiaaDoor
open Go.RowKit
open Go.Lib hiding intOf
set_option linter.unusedVariables false
set_option maxRecDepth 20000
theorem digit_any (c : UInt8) (w : World) : Calls Tryd.prog 20 #[.int .u8 (c.toNat : Int)] w fun e w' => e = .returned (.bool (isDig c)) ∧ w' = w := by
  have hc8 : (c.toNat : Int) ≤ 255 := by have := c.toNat_lt; omega
  obtain ⟨r, hr⟩ : ∃ r, isDig c = r := ⟨_, rfl⟩
  rw [hr]
  have HR := Lib.hid (show r = (decide (48 ≤ (c.toNat : Int)) && decide ((c.toNat : Int) ≤ 57)) by rw [← hr]; rfl)
  clear hr
  by_cases u1 : 48 ≤ (c.toNat : Int)
  · by_cases u2 : (c.toNat : Int) ≤ 57
    · have e := Lib.hid (show r = true by rw [HR.out]; simp [u1, u2])
      go_enter Tryd.func20, Tryd.ntmps20
      go_wp2
      go_ret
      exact ⟨by rw [e.out]; rfl, rfl⟩
    · have u2' : decide ((c.toNat : Int) ≤ 57) = false := by simpa using u2
      have e := Lib.hid (show r = false by rw [HR.out, u2']; simp)
      go_enter Tryd.func20, Tryd.ntmps20
      go_wp2
      go_ret
      exact ⟨by rw [e.out]; rfl, rfl⟩
  · have u1' : decide (48 ≤ (c.toNat : Int)) = false := by simpa using u1
    have e := Lib.hid (show r = false by rw [HR.out, u1']; simp)
    go_enter Tryd.func20, Tryd.ntmps20
    go_wp2
    go_ret
    exact ⟨by rw [e.out]; rfl, rfl⟩
theorem dgs_cons (s : ByteArray) (h : 0 < s.size) : (s[0] = 43 → dgsL s.data.toList = (s.extract 1 s.size).data.toList) ∧ (s[0] ≠ 43 → dgsL s.data.toList = s.data.toList) := by
  have e : s.data.toList = s[0] :: s.data.toList.drop 1 := by
    cases hl : s.data.toList with
    | nil => have : s.data.toList.length = s.size := by simp
             rw [hl] at this; simp at this; omega
    | cons c t =>
      have h0 : s.data.toList[0]? = some c := by rw [hl]; rfl
      have h1 : s.data.toList[0]? = some s[0] := by rw [List.getElem?_eq_getElem (by simpa using h)]; rfl
      rw [h1] at h0
      rw [Option.some.inj h0]; rfl
  have hx : (s.extract 1 s.size).data.toList = s.data.toList.drop 1 := by simp [List.take_of_length_le]
  constructor
  · intro h0
    rw [hx]
    unfold dgsL trimPrefix
    rw [if_pos (by rw [e, h0]; simp [hasPrefix, List.isPrefixOf])]
    rfl
  · intro h0
    unfold dgsL trimPrefix
    rw [if_neg]
    rw [e]
    simp only [hasPrefix, List.isPrefixOf, Bool.and_true, beq_iff_eq]
    exact fun h => h0 h.symm
theorem dgs_empty (s : ByteArray) (h : s.size = 0) : dgsL s.data.toList = s.data.toList := by
  have : s.data.toList = [] := List.eq_nil_of_length_eq_zero (by simpa using h)
  rw [this]; rfl
/-- The loop of IsTel, whatever its text is by then. -/
def telD (d : ByteArray) : Bool := decide (3 ≤ (d.size : Int)) && decide ((d.size : Int) ≤ 15) && d.data.toList.all isDig
set_option maxHeartbeats 8000000 in
theorem ristel_any (s : ByteArray) (hs : s.size ≤ 1000000) (w : World) : Calls Tryd.prog 10 #[.string s] w fun e w' => e = .returned (.bool (telB s.data.toList)) ∧ w' = w := by
  have hcs := dgs_cons s
  have hem := dgs_empty s
  have hr : telB s.data.toList = (decide (3 ≤ ((dgsL s.data.toList).length : Int)) && decide (((dgsL s.data.toList).length : Int) ≤ 15) && (dgsL s.data.toList).all isDig) := rfl
  obtain ⟨r, hrr⟩ : ∃ r, telB s.data.toList = r := ⟨_, rfl⟩
  rw [hrr] at hr ⊢
  clear hrr
  have HDG := Lib.hid digit_any
  have fin : ∀ d : ByteArray, dgsL s.data.toList = d.data.toList → r = telD d := by
    intro d hd
    have : d.data.toList.length = d.size := by simp
    rw [hr, hd, this]; rfl
  have HFin := Lib.hid fin
  clear fin hr
  have hsI : (s.size : Int) ≤ 1000000 := by omega
  rcases (show s.size = 0 ∨ (∃ h : 0 < s.size, s[0] = 43) ∨ (∃ h : 0 < s.size, s[0] ≠ 43) by
    rcases Nat.eq_zero_or_pos s.size with h | h
    · exact .inl h
    · by_cases h43 : s[0] = 43
      · exact .inr (.inl ⟨h, h43⟩)
      · exact .inr (.inr ⟨h, h43⟩)) with h0 | ⟨h0, h43⟩ | ⟨h0, h43⟩
  · have HR := Lib.hid (HFin.out s (hem h0))
    have H0 := Lib.hid (show r = false by rw [HR.out]; unfold telD; rw [decide_eq_false (show ¬ (3 ≤ (s.size : Int)) by omega)]; rfl)
    have hz : (s.size : Int) = 0 := by omega
    clear hcs hem h0
    go_enter Tryd.func10, Tryd.ntmps10
    go_wp2
    go_loop [3] (fun i => i = .int .i64 0) (fun i => 0)
    case atStart => rfl
    case round =>
      subst hrel
      go_wp2
      go_ret
      exact ⟨by rw [H0.out]; rfl, rfl⟩
  · have hd0 := (hcs h0).1 h43
    have hc0 : (s[0].toNat : Int) = 43 := by rw [h43]; rfl
    have hc1 : ((s[0].toNat : Int) == 43) = true := by rw [hc0]; rfl
    have hxz : ((s.extract 1 s.size).size : Int) ≤ 1000000 := by rw [ByteArray.size_extract]; omega
    obtain ⟨d, hd⟩ : ∃ d, s.extract 1 s.size = d := ⟨_, rfl⟩
    rw [hd] at hd0 hxz
    have HR := Lib.hid (show r = (decide (3 ≤ (d.size : Int)) && decide ((d.size : Int) ≤ 15) && d.data.toList.all isDig) from HFin.out d hd0)
    have h0I : 0 < (s.size : Int) := by omega
    clear hcs hem hd0 h43 hc0 HFin
    go_enter Tryd.func10, Tryd.ntmps10
    go_wp2
    go_loop [3] (fun i => ∃ k : Nat, k ≤ d.size ∧ i = .int .i64 (k : Int) ∧ (d.data.toList.take k).all isDig = true) (fun i => d.size - (intOf i).toNat)
    case atStart => exact ⟨0, Nat.zero_le _, rfl, by simp⟩
    case round =>
      obtain ⟨k, hk, rfl, hno⟩ := hrel
      have HN := Lib.hid hno
      clear hno
      by_cases hlt : k < d.size
      · have HT := Lib.hid (all_take_snoc d k hlt)
        have HM := Lib.hid (all_miss d k hlt)
        obtain ⟨c, hc⟩ : ∃ c, d[k] = c := ⟨_, rfl⟩
        rw [hc] at HT HM
        cases hdc : isDig c with
        | false =>
          have H0 := Lib.hid (show r = false by rw [HR.out, HM.out hdc]; simp)
          have HC := Lib.hid (fun w => digit_any c w)
          rw [hdc] at HC
          clear hdc
          go_wp2_with (go_at_call 20; (with_reducible refine (HC.out _).mono ?_); rintro e w1 ⟨rfl, hw⟩; replace hw := hw.symm; subst hw)
          go_ret
          exact ⟨by rw [H0.out]; rfl, rfl⟩
        | true =>
          have HE := Lib.hid (show (d.data.toList.take (k + 1)).all isDig = true by rw [HT.out, HN.out, hdc]; rfl)
          have HC := Lib.hid (fun w => digit_any c w)
          rw [hdc] at HC
          clear hdc
          go_wp2_with (go_at_call 20; (with_reducible refine (HC.out _).mono ?_); rintro e w1 ⟨rfl, hw⟩; replace hw := hw.symm; subst hw)
          exact ⟨⟨k + 1, by omega, by go_num, HE.out⟩, by simp [intOf]; omega⟩
      · have hks : k = d.size := by omega
        subst hks
        have HR2 := Lib.hid (show r = (decide (3 ≤ (d.size : Int)) && decide ((d.size : Int) ≤ 15)) by
          have h1 := HN.out
          rw [List.take_of_length_le (by simp)] at h1
          rw [HR.out, h1, Bool.and_true])
        by_cases u3 : 3 ≤ (d.size : Int)
        · have HR3 := Lib.hid (show r = decide ((d.size : Int) ≤ 15) by rw [HR2.out, decide_eq_true u3, Bool.true_and])
          go_wp2
          go_ret
          exact ⟨by rw [HR3.out]; rfl, rfl⟩
        · have u3' : decide (3 ≤ (d.size : Int)) = false := by simpa using u3
          have H0 := Lib.hid (show r = false by rw [HR2.out, u3']; rfl)
          go_wp2
          go_ret
          exact ⟨by rw [H0.out]; rfl, rfl⟩
  · have hd0 := (hcs h0).2 h43
    have hc1 : ((s[0].toNat : Int) == 43) = false := by
      rw [beq_eq_false_iff_ne]; intro e; exact h43 (UInt8.toNat_inj.1 (by show s[0].toNat = 43; omega))
    have HR := Lib.hid (show r = (decide (3 ≤ (s.size : Int)) && decide ((s.size : Int) ≤ 15) && s.data.toList.all isDig) from HFin.out s hd0)
    have h0I : 0 < (s.size : Int) := by omega
    clear hcs hem hd0 h43 HFin
    go_enter Tryd.func10, Tryd.ntmps10
    go_wp2
    go_loop [3] (fun i => ∃ k : Nat, k ≤ s.size ∧ i = .int .i64 (k : Int) ∧ (s.data.toList.take k).all isDig = true) (fun i => s.size - (intOf i).toNat)
    case atStart => exact ⟨0, Nat.zero_le _, rfl, by simp⟩
    case round =>
      obtain ⟨k, hk, rfl, hno⟩ := hrel
      have HN := Lib.hid hno
      clear hno
      by_cases hlt : k < s.size
      · have HT := Lib.hid (all_take_snoc s k hlt)
        have HM := Lib.hid (all_miss s k hlt)
        obtain ⟨c, hc⟩ : ∃ c, s[k] = c := ⟨_, rfl⟩
        rw [hc] at HT HM
        cases hdc : isDig c with
        | false =>
          have H0 := Lib.hid (show r = false by rw [HR.out, HM.out hdc]; simp)
          have HC := Lib.hid (fun w => digit_any c w)
          rw [hdc] at HC
          clear hdc
          go_wp2_with (go_at_call 20; (with_reducible refine (HC.out _).mono ?_); rintro e w1 ⟨rfl, hw⟩; replace hw := hw.symm; subst hw)
          go_ret
          exact ⟨by rw [H0.out]; rfl, rfl⟩
        | true =>
          have HE := Lib.hid (show (s.data.toList.take (k + 1)).all isDig = true by rw [HT.out, HN.out, hdc]; rfl)
          have HC := Lib.hid (fun w => digit_any c w)
          rw [hdc] at HC
          clear hdc
          go_wp2_with (go_at_call 20; (with_reducible refine (HC.out _).mono ?_); rintro e w1 ⟨rfl, hw⟩; replace hw := hw.symm; subst hw)
          exact ⟨⟨k + 1, by omega, by go_num, HE.out⟩, by simp [intOf]; omega⟩
      · have hks : k = s.size := by omega
        subst hks
        have HR2 := Lib.hid (show r = (decide (3 ≤ (s.size : Int)) && decide ((s.size : Int) ≤ 15)) by
          have h1 := HN.out
          rw [List.take_of_length_le (by simp)] at h1
          rw [HR.out, h1, Bool.and_true])
        by_cases u3 : 3 ≤ (s.size : Int)
        · have HR3 := Lib.hid (show r = decide ((s.size : Int) ≤ 15) by rw [HR2.out, decide_eq_true u3, Bool.true_and])
          go_wp2
          go_ret
          exact ⟨by rw [HR3.out]; rfl, rfl⟩
        · have u3' : decide (3 ≤ (s.size : Int)) = false := by simpa using u3
          have H0 := Lib.hid (show r = false by rw [HR2.out, u3']; rfl)
          go_wp2
          go_ret
          exact ⟨by rw [H0.out]; rfl, rfl⟩
end Go.Proofs.YtiikmkeolfdjiaaDoor
