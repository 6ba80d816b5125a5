/- Addresses: the reference's local and domain. -/
import Derived.Test.YtckkckbgjehpjaaDoorMw
import Derived.Test.YtckkckbgjehpjaaDoorMn
import Derived.Test.YtckkckbgjehpjaaDoorRg
namespace Go.Proofs.YtckkckbgjehpjaaDoor
open Go.RowKit
open Go.Lib hiding intOf
set_option linter.unusedVariables false
set_option maxRecDepth 20000
theorem low_any (c : UInt8) (w : World) : Calls Tryd.prog 40 #[.int .u8 (c.toNat : Int)] w fun e w' => e = .returned (.bool (lowB c)) ∧ w' = w := by
  have hc8 : (c.toNat : Int) ≤ 255 := by have := c.toNat_lt; omega
  obtain ⟨r, hr⟩ : ∃ r, lowB c = r := ⟨_, rfl⟩
  rw [hr]
  have HR := Lib.hid (show r = (decide (97 ≤ (c.toNat : Int)) && decide ((c.toNat : Int) ≤ 122)) by rw [← hr]; rfl)
  clear hr
  by_cases u1 : 97 ≤ (c.toNat : Int)
  · by_cases u2 : (c.toNat : Int) ≤ 122
    · have e := Lib.hid (show r = true by rw [HR.out]; simp [u1, u2])
      go_enter Tryd.func40, Tryd.ntmps40
      go_wp2
      go_ret
      exact ⟨by rw [e.out]; rfl, rfl⟩
    · have u2' : decide ((c.toNat : Int) ≤ 122) = false := by simpa using u2
      have e := Lib.hid (show r = false by rw [HR.out, u2']; simp)
      go_enter Tryd.func40, Tryd.ntmps40
      go_wp2
      go_ret
      exact ⟨by rw [e.out]; rfl, rfl⟩
  · have u1' : decide (97 ≤ (c.toNat : Int)) = false := by simpa using u1
    have e := Lib.hid (show r = false by rw [HR.out, u1']; simp)
    go_enter Tryd.func40, Tryd.ntmps40
    go_wp2
    go_ret
    exact ⟨by rw [e.out]; rfl, rfl⟩
theorem dig_any (c : UInt8) (w : World) : Calls Tryd.prog 41 #[.int .u8 (c.toNat : Int)] w fun e w' => e = .returned (.bool (numB c)) ∧ w' = w := by
  have hc8 : (c.toNat : Int) ≤ 255 := by have := c.toNat_lt; omega
  obtain ⟨r, hr⟩ : ∃ r, numB c = r := ⟨_, rfl⟩
  rw [hr]
  have HR := Lib.hid (show r = (decide (48 ≤ (c.toNat : Int)) && decide ((c.toNat : Int) ≤ 57)) by rw [← hr]; rfl)
  clear hr
  by_cases u1 : 48 ≤ (c.toNat : Int)
  · by_cases u2 : (c.toNat : Int) ≤ 57
    · have e := Lib.hid (show r = true by rw [HR.out]; simp [u1, u2])
      go_enter Tryd.func41, Tryd.ntmps41
      go_wp2
      go_ret
      exact ⟨by rw [e.out]; rfl, rfl⟩
    · have u2' : decide ((c.toNat : Int) ≤ 57) = false := by simpa using u2
      have e := Lib.hid (show r = false by rw [HR.out, u2']; simp)
      go_enter Tryd.func41, Tryd.ntmps41
      go_wp2
      go_ret
      exact ⟨by rw [e.out]; rfl, rfl⟩
  · have u1' : decide (48 ≤ (c.toNat : Int)) = false := by simpa using u1
    have e := Lib.hid (show r = false by rw [HR.out, u1']; simp)
    go_enter Tryd.func41, Tryd.ntmps41
    go_wp2
    go_ret
    exact ⟨by rw [e.out]; rfl, rfl⟩
theorem adj_snoc : ∀ (x : List UInt8) (c : UInt8), adj (x ++ [c]) = (adj x || (x.getLast? == some 46 && c == 46))
  | [], c => by simp [adj]
  | [a], c => by
    show ((a == 46 && (some c == some 46)) || (([] : List UInt8).head? == some 46 && false || adj [c])) = _
    simp [adj]
  | a :: b :: t, c => by
    have ih := adj_snoc (b :: t) c
    have h2 : (b :: t ++ [c]).head? = (b :: t).head? := rfl
    rw [List.cons_append, adj_cons a (b :: t ++ [c]), ih, h2, adj_cons a (b :: t), List.getLast?_cons_cons, Bool.or_assoc]
theorem adj_take (s : ByteArray) (k : Nat) (hk : k + 1 < s.size) : adj (s.data.toList.take (k + 2)) = (adj (s.data.toList.take (k + 1)) || ((s[k] == 46) && (s[k + 1] == 46))) := by
  rw [List.take_succ_eq_append_getElem (by simpa using hk), adj_snoc]
  congr 2
  have : s.data.toList.take (k + 1) = s.data.toList.take k ++ [s[k]] := by rw [List.take_succ_eq_append_getElem (by simp; omega)]; rfl
  rw [this, List.getLast?_append]
  rfl
theorem adj_one (s : ByteArray) (h : 0 < s.size) : adj (s.data.toList.take 1) = false := by
  rw [show (1 : Nat) = 0 + 1 from rfl, List.take_succ_eq_append_getElem (by simpa using h)]
  simp [adj]
theorem adj_pad (s : ByteArray) (n : Nat) (hn : s.size = n + 1) : adj ([46] ++ s.data.toList ++ [46]) = ((s[0]'(by omega) == 46) || adj s.data.toList || (s[n]'(by omega) == 46)) := by
  have h0 : s.data.toList.head? = some (s[0]'(by omega)) := by
    rw [List.head?_eq_getElem?, List.getElem?_eq_getElem (by simp; omega)]; rfl
  have hl : s.data.toList.getLast? = some (s[n]'(by omega)) := by
    rw [List.getLast?_eq_getElem?]
    have : s.data.toList.length - 1 = n := by simp; omega
    rw [this, List.getElem?_eq_getElem (by simp; omega)]; rfl
  have h0' : (s.data.toList ++ [46]).head? = some (s[0]'(by omega)) := by rw [List.head?_append, h0]; rfl
  rw [List.append_assoc, List.singleton_append, adj_cons, adj_snoc, h0', hl]
  simp
  rw [Bool.or_assoc]
theorem locC_eq (c : UInt8) : locC c = (lowB c || capB c || numB c || dotC c) := by
  unfold locC sodB
  cases lowB c <;> cases capB c <;> cases numB c <;> rfl
theorem dotC_eq (c : UInt8) : dotC c = ((c.toNat : Int) == 46 || (c.toNat : Int) == 95 || (c.toNat : Int) == 43 || (c.toNat : Int) == 45) := by
  unfold dotC
  rw [byte_beq c 46, byte_beq c 95, byte_beq c 43, byte_beq c 45]; rfl
set_option maxHeartbeats 16000000 in
theorem rlocal_any (s : ByteArray) (hs : s.size ≤ 1000000) (w : World) : Calls Tryd.prog 25 #[.string s] w fun e w' => e = .returned (.bool (localB s.data.toList)) ∧ w' = w := by
  have hsl : s.data.toList.length = s.size := by simp
  have hr0 : localB s.data.toList = (decide (1 ≤ (s.size : Int)) && decide ((s.size : Int) ≤ 32) && !adj ([46] ++ s.data.toList ++ [46]) && s.data.toList.all locC) := by
    unfold localB; rw [hsl]
  obtain ⟨r, hr⟩ : ∃ r, localB s.data.toList = r := ⟨_, rfl⟩
  rw [hr] at hr0 ⊢
  have HR := Lib.hid hr0
  have hsI : (s.size : Int) ≤ 1000000 := by omega
  clear hr0 hr hsl
  by_cases h1 : (s.size : Int) < 1
  · have H0 := Lib.hid (show r = false by rw [HR.out, decide_eq_false (by omega)]; rfl)
    go_enter Tryd.func25, Tryd.ntmps25
    go_wp2
    go_ret
    exact ⟨by rw [H0.out]; rfl, rfl⟩
  · by_cases h32 : (s.size : Int) > 32
    · have H0 := Lib.hid (show r = false by rw [HR.out, decide_eq_false (show ¬ (s.size : Int) ≤ 32 by omega)]; simp)
      go_enter Tryd.func25, Tryd.ntmps25
      go_wp2
      go_ret
      exact ⟨by rw [H0.out]; rfl, rfl⟩
    · obtain ⟨n, hn⟩ : ∃ n, s.size = n + 1 := ⟨s.size - 1, by omega⟩
      have hz : 0 < s.size := by omega
      have hns : n < s.size := by omega
      have hnI : (s.size : Int) - 1 = (n : Int) := by omega
      have HAT := Lib.hid (adj_take s)
      have HA1 := Lib.hid (adj_one s hz)
      have HR2 := Lib.hid (show r = (!((s[0].toNat : Int) == 46) && !((s[n].toNat : Int) == 46) && !adj s.data.toList && s.data.toList.all locC) by
        rw [HR.out, decide_eq_true (by omega), decide_eq_true (by omega), adj_pad s n hn, byte_beq, byte_beq]
        show (!(((s[0].toNat : Int) == 46) || adj s.data.toList || ((s[n].toNat : Int) == 46)) && _) = _
        cases ((s[0].toNat : Int) == 46) <;> cases ((s[n].toNat : Int) == 46) <;> cases adj s.data.toList <;> rfl)
      clear HR
      by_cases u0 : (s[0].toNat : Int) = 46
      · have u0' : ((s[0].toNat : Int) == 46) = true := by rw [u0]; rfl
        have H0 := Lib.hid (show r = false by rw [HR2.out, u0']; rfl)
        clear u0 HR2 hn
        go_enter Tryd.func25, Tryd.ntmps25
        go_wp2
        go_ret
        exact ⟨by rw [H0.out]; rfl, rfl⟩
      · have u0' : ((s[0].toNat : Int) == 46) = false := by simpa using u0
        by_cases u9 : (s[n].toNat : Int) = 46
        · have u9' : ((s[n].toNat : Int) == 46) = true := by rw [u9]; rfl
          have H0 := Lib.hid (show r = false by rw [HR2.out, u9', u0']; rfl)
          clear u0 u9 HR2 hn
          go_enter Tryd.func25, Tryd.ntmps25
          go_wp2
          go_ret
          exact ⟨by rw [H0.out]; rfl, rfl⟩
        · have u9' : ((s[n].toNat : Int) == 46) = false := by simpa using u9
          have HR3 := Lib.hid (show r = (!adj s.data.toList && s.data.toList.all locC) by rw [HR2.out, u9', u0']; rfl)
          have HU0 := Lib.hid u0
          clear u9 HR2 hn u0
          go_enter Tryd.func25, Tryd.ntmps25
          go_wp2
          go_loop [3] (fun i => ∃ k : Nat, k ≤ s.size ∧ i = .int .i64 (k : Int) ∧ (s.data.toList.take k).all locC = true ∧ adj (s.data.toList.take k) = false) (fun i => s.size - (intOf i).toNat)
          case atStart => exact ⟨0, Nat.zero_le _, rfl, by simp, by simp [adj]⟩
          case round =>
            obtain ⟨k, hk, rfl, hno, had⟩ := hrel
            have HN := Lib.hid hno
            have HAD := Lib.hid had
            clear hno had u0' u9' hnI
            by_cases hlt : k < s.size
            · have HT := Lib.hid (take_snoc_all locC s k hlt)
              have HM := Lib.hid (miss_all locC s k hlt)
              obtain ⟨c, hc⟩ : ∃ c, s[k] = c := ⟨_, rfl⟩
              rw [hc] at HT HM
              have hc8 : (c.toNat : Int) ≤ 255 := by have := c.toNat_lt; omega
              have HLo := Lib.hid (fun w => low_any c w)
              have HUp := Lib.hid (fun w => up_any c w)
              have HDi := Lib.hid (fun w => dig_any c w)
              rw [show upB c = capB c from rfl] at HUp
              have HLC := Lib.hid (locC_eq c)
              have HDC := Lib.hid (dotC_eq c)
              obtain ⟨lo, hlo⟩ : ∃ b, lowB c = b := ⟨_, rfl⟩
              obtain ⟨up, hup⟩ : ∃ b, capB c = b := ⟨_, rfl⟩
              obtain ⟨di, hdi⟩ : ∃ b, numB c = b := ⟨_, rfl⟩
              rw [hlo, hup, hdi] at HLC
              rw [hlo] at HLo
              rw [hup] at HUp
              rw [hdi] at HDi
              have HLo2 := Lib.hid hlo
              clear hlo hup hdi
              by_cases m1 : (c.toNat : Int) = 46
              · have m1' : ((c.toNat : Int) == 46) = true := by rw [m1]; rfl
                have m1n : ((c.toNat : Int) != 46) = false := by rw [m1]; rfl
                obtain ⟨j, hj⟩ : ∃ j, k = j + 1 := by
                  cases k with
                  | zero => exact absurd (by rw [hc]; exact m1) HU0.out
                  | succ j => exact ⟨j, rfl⟩
                have HAJ := Lib.hid (HAT.out j (by omega))
                subst hj
                have hjI : ((j : Int) + 1) - 1 = (j : Int) := by omega
                have hj1 : j < s.size := by omega
                have HCJ := Lib.hid (show (s[j + 1] == 46) = true by rw [byte_beq, hc]; exact m1')
                by_cases m2 : (s[j].toNat : Int) = 46
                · have m2' : ((s[j].toNat : Int) == 46) = true := by rw [m2]; rfl
                  have H0 := Lib.hid (show r = false by
                    have h1 : adj (s.data.toList.take (j + 2)) = true := by rw [HAJ.out, HCJ.out, byte_beq]; rw [show ((46 : UInt8).toNat : Int) = 46 from rfl, m2']; simp
                    have h2 : adj s.data.toList = true := by
                      have mono : ∀ (x y : List UInt8), adj x = true → adj (x ++ y) = true := by
                        intro x
                        induction x with
                        | nil => intro y h; simp [adj] at h
                        | cons a t ih =>
                          intro y h
                          rw [adj_cons] at h
                          rw [List.cons_append, adj_cons]
                          rw [Bool.or_eq_true] at h ⊢
                          rcases h with h | h
                          · left
                            cases t with
                            | nil => simp at h
                            | cons b r => exact h
                          · exact .inr (ih y h)
                      have := mono _ (s.data.toList.drop (j + 2)) h1
                      rwa [List.take_append_drop] at this
                    rw [HR3.out, h2]; rfl)
                  clear m2 m1
                  cases lo <;> cases up <;> cases di
                  all_goals (
                    go_wp2_with (first | (go_at_call 40; (with_reducible refine (HLo.out _).mono ?_); rintro e w1 ⟨rfl, hw⟩; replace hw := hw.symm; subst hw) | (go_at_call 33; (with_reducible refine (HUp.out _).mono ?_); rintro e w1 ⟨rfl, hw⟩; replace hw := hw.symm; subst hw) | (go_at_call 41; (with_reducible refine (HDi.out _).mono ?_); rintro e w1 ⟨rfl, hw⟩; replace hw := hw.symm; subst hw))
                    go_ret
                    exact ⟨by rw [H0.out]; rfl, rfl⟩)
                · have m2' : ((s[j].toNat : Int) == 46) = false := by simpa using m2
                  have HE := Lib.hid (show (s.data.toList.take (j + 1 + 1)).all locC = true by
                    rw [HT.out, HN.out, HLC.out, HDC.out, m1']; cases lo <;> cases up <;> cases di <;> rfl)
                  have HE2 := Lib.hid (show adj (s.data.toList.take (j + 1 + 1)) = false by
                    rw [show j + 1 + 1 = j + 2 from rfl, HAJ.out, HAD.out, byte_beq s[j] 46, show ((46 : UInt8).toNat : Int) = 46 from rfl, m2']; rfl)
                  clear m2 m1
                  cases lo <;> cases up <;> cases di
                  all_goals (
                    go_wp2_with (first | (go_at_call 40; (with_reducible refine (HLo.out _).mono ?_); rintro e w1 ⟨rfl, hw⟩; replace hw := hw.symm; subst hw) | (go_at_call 33; (with_reducible refine (HUp.out _).mono ?_); rintro e w1 ⟨rfl, hw⟩; replace hw := hw.symm; subst hw) | (go_at_call 41; (with_reducible refine (HDi.out _).mono ?_); rintro e w1 ⟨rfl, hw⟩; replace hw := hw.symm; subst hw))
                    exact ⟨⟨j + 1 + 1, by omega, by go_num, HE.out, HE2.out⟩, by simp [intOf]; omega⟩)
              · have m1' : ((c.toNat : Int) == 46) = false := by simpa using m1
                have m1n : ((c.toNat : Int) != 46) = true := by simpa using m1
                have HE2 := Lib.hid (show adj (s.data.toList.take (k + 1)) = false by
                  cases k with
                  | zero => exact HA1.out
                  | succ j =>
                    have : (s[j + 1] == 46) = false := by rw [byte_beq, hc]; exact m1'
                    rw [HAT.out j (by omega), HAD.out, this]; simp)
                by_cases hq : ((c.toNat : Int) = 95 ∨ (c.toNat : Int) = 43 ∨ (c.toNat : Int) = 45)
                · have HE := Lib.hid (show (s.data.toList.take (k + 1)).all locC = true by
                    rw [HT.out, HN.out, HLC.out, HDC.out]
                    rcases hq with h | h | h <;> rw [h] <;> cases lo <;> cases up <;> cases di <;> rfl)
                  clear m1
                  rcases hq with h | h | h
                  · have q1 : ((c.toNat : Int) != 95) = false := by rw [h]; rfl
                    clear h
                    cases lo <;> cases up <;> cases di
                    all_goals (
                      go_wp2_with (first | (go_at_call 40; (with_reducible refine (HLo.out _).mono ?_); rintro e w1 ⟨rfl, hw⟩; replace hw := hw.symm; subst hw) | (go_at_call 33; (with_reducible refine (HUp.out _).mono ?_); rintro e w1 ⟨rfl, hw⟩; replace hw := hw.symm; subst hw) | (go_at_call 41; (with_reducible refine (HDi.out _).mono ?_); rintro e w1 ⟨rfl, hw⟩; replace hw := hw.symm; subst hw))
                      exact ⟨⟨k + 1, by omega, by go_num, HE.out, HE2.out⟩, by simp [intOf]; omega⟩)
                  · have q1 : ((c.toNat : Int) != 95) = true := by rw [h]; rfl
                    have q2 : ((c.toNat : Int) != 43) = false := by rw [h]; rfl
                    clear h
                    cases lo <;> cases up <;> cases di
                    all_goals (
                      go_wp2_with (first | (go_at_call 40; (with_reducible refine (HLo.out _).mono ?_); rintro e w1 ⟨rfl, hw⟩; replace hw := hw.symm; subst hw) | (go_at_call 33; (with_reducible refine (HUp.out _).mono ?_); rintro e w1 ⟨rfl, hw⟩; replace hw := hw.symm; subst hw) | (go_at_call 41; (with_reducible refine (HDi.out _).mono ?_); rintro e w1 ⟨rfl, hw⟩; replace hw := hw.symm; subst hw))
                      exact ⟨⟨k + 1, by omega, by go_num, HE.out, HE2.out⟩, by simp [intOf]; omega⟩)
                  · have q1 : ((c.toNat : Int) != 95) = true := by rw [h]; rfl
                    have q2 : ((c.toNat : Int) != 43) = true := by rw [h]; rfl
                    have q3 : ((c.toNat : Int) != 45) = false := by rw [h]; rfl
                    clear h
                    cases lo <;> cases up <;> cases di
                    all_goals (
                      go_wp2_with (first | (go_at_call 40; (with_reducible refine (HLo.out _).mono ?_); rintro e w1 ⟨rfl, hw⟩; replace hw := hw.symm; subst hw) | (go_at_call 33; (with_reducible refine (HUp.out _).mono ?_); rintro e w1 ⟨rfl, hw⟩; replace hw := hw.symm; subst hw) | (go_at_call 41; (with_reducible refine (HDi.out _).mono ?_); rintro e w1 ⟨rfl, hw⟩; replace hw := hw.symm; subst hw))
                      exact ⟨⟨k + 1, by omega, by go_num, HE.out, HE2.out⟩, by simp [intOf]; omega⟩)
                · have q1 : ((c.toNat : Int) != 95) = true := by simp only [bne_iff_ne, ne_eq]; omega
                  have q2 : ((c.toNat : Int) != 43) = true := by simp only [bne_iff_ne, ne_eq]; omega
                  have q3 : ((c.toNat : Int) != 45) = true := by simp only [bne_iff_ne, ne_eq]; omega
                  have HDF := Lib.hid (show dotC c = false by
                    rw [HDC.out, m1', show ((c.toNat : Int) == 95) = false by simp only [beq_eq_false_iff_ne, ne_eq]; omega, show ((c.toNat : Int) == 43) = false by simp only [beq_eq_false_iff_ne, ne_eq]; omega, show ((c.toNat : Int) == 45) = false by simp only [beq_eq_false_iff_ne, ne_eq]; omega]; rfl)
                  clear hq m1
                  by_cases hlud : (lo || up || di) = true
                  · have HE := Lib.hid (show (s.data.toList.take (k + 1)).all locC = true by
                      rw [HT.out, HN.out, HLC.out, hlud]; rfl)
                    clear q1 q2 q3
                    cases lo <;> cases up <;> cases di
                    case false.false.false => cases hlud
                    all_goals (
                      clear hlud
                      go_wp2_with (first | (go_at_call 40; (with_reducible refine (HLo.out _).mono ?_); rintro e w1 ⟨rfl, hw⟩; replace hw := hw.symm; subst hw) | (go_at_call 33; (with_reducible refine (HUp.out _).mono ?_); rintro e w1 ⟨rfl, hw⟩; replace hw := hw.symm; subst hw) | (go_at_call 41; (with_reducible refine (HDi.out _).mono ?_); rintro e w1 ⟨rfl, hw⟩; replace hw := hw.symm; subst hw))
                      exact ⟨⟨k + 1, by omega, by go_num, HE.out, HE2.out⟩, by simp [intOf]; omega⟩)
                  · have H0 := Lib.hid (show r = false by
                      rw [HR3.out, HM.out (by rw [HLC.out, HDF.out]; cases lo <;> cases up <;> cases di <;> first | rfl | exact absurd rfl hlud)]; simp)
                    cases lo <;> cases up <;> cases di
                    case false.false.false =>
                      clear hlud
                      go_wp2_with (first | (go_at_call 40; (with_reducible refine (HLo.out _).mono ?_); rintro e w1 ⟨rfl, hw⟩; replace hw := hw.symm; subst hw) | (go_at_call 33; (with_reducible refine (HUp.out _).mono ?_); rintro e w1 ⟨rfl, hw⟩; replace hw := hw.symm; subst hw) | (go_at_call 41; (with_reducible refine (HDi.out _).mono ?_); rintro e w1 ⟨rfl, hw⟩; replace hw := hw.symm; subst hw))
                      go_ret
                      exact ⟨by rw [H0.out]; rfl, rfl⟩
                    all_goals exact absurd rfl hlud
            · have hks : k = s.size := by omega
              subst hks
              have H0 := Lib.hid (show r = true by
                have h1 := HN.out
                have h2 := HAD.out
                rw [List.take_of_length_le (by simp)] at h1 h2
                rw [HR3.out, h1, h2]; rfl)
              go_wp2
              go_ret
              exact ⟨by rw [H0.out]; rfl, rfl⟩
end Go.Proofs.YtckkckbgjehpjaaDoor
