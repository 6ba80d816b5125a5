/- Texts of one proof, joined. -/
import Derived.Test.YtphijnkiiokieaaGreatDoorZax
set_option linter.unusedVariables false
set_option linter.unusedSimpArgs false
set_option maxRecDepth 100000
set_option maxHeartbeats 80000000
namespace Go.Proofs.YtphijnkiiokieaaGreatDoor
open Go.RowKit
open Go.Lib hiding intOf
theorem low_any (c : UInt8) (w : World) : Calls Tryz.prog 67 #[.int .u8 (c.toNat : Int)] w fun e w' => e = .returned (.bool (lowB c)) ∧ w' = w := by
 have hc8 : (c.toNat : Int) ≤ 255 := by have := c.toNat_lt; omega
 obtain ⟨r, hr⟩ : ∃ r, lowB c = r := ⟨_, rfl⟩; rw [hr]; have HR := Zh (show r = (decide (97 ≤ (c.toNat : Int)) && decide ((c.toNat : Int) ≤ 122)) by rw [← hr]; rfl); clear hr
 by_cases u1 : 97 ≤ (c.toNat : Int)
 ·
  by_cases u2 : (c.toNat : Int) ≤ 122
  ·
   have e := Zh (show r = true by rw [HR.out]; simp [u1, u2])
   go_enter Tryz.func67, Tryz.ntmps67
   go_wp2
   go_ret
   exact ⟨by rw [e.out]; rfl, rfl⟩
  ·
   have u2' : decide ((c.toNat : Int) ≤ 122) = false := by simpa using u2
   have e := Zh (show r = false by rw [HR.out, u2']; simp)
   go_enter Tryz.func67, Tryz.ntmps67
   go_wp2
   go_ret
   exact ⟨by rw [e.out]; rfl, rfl⟩
 ·
  have u1' : decide (97 ≤ (c.toNat : Int)) = false := by simpa using u1
  have e := Zh (show r = false by rw [HR.out, u1']; simp)
  go_enter Tryz.func67, Tryz.ntmps67
  go_wp2
  go_ret
  exact ⟨by rw [e.out]; rfl, rfl⟩
theorem dig_any (c : UInt8) (w : World) : Calls Tryz.prog 68 #[.int .u8 (c.toNat : Int)] w fun e w' => e = .returned (.bool (numB c)) ∧ w' = w := by
 have hc8 : (c.toNat : Int) ≤ 255 := by have := c.toNat_lt; omega
 obtain ⟨r, hr⟩ : ∃ r, numB c = r := ⟨_, rfl⟩; rw [hr]; have HR := Zh (show r = (decide (48 ≤ (c.toNat : Int)) && decide ((c.toNat : Int) ≤ 57)) by rw [← hr]; rfl); clear hr
 by_cases u1 : 48 ≤ (c.toNat : Int)
 ·
  by_cases u2 : (c.toNat : Int) ≤ 57
  ·
   have e := Zh (show r = true by rw [HR.out]; simp [u1, u2])
   go_enter Tryz.func68, Tryz.ntmps68
   go_wp2
   go_ret
   exact ⟨by rw [e.out]; rfl, rfl⟩
  ·
   have u2' : decide ((c.toNat : Int) ≤ 57) = false := by simpa using u2
   have e := Zh (show r = false by rw [HR.out, u2']; simp)
   go_enter Tryz.func68, Tryz.ntmps68
   go_wp2
   go_ret
   exact ⟨by rw [e.out]; rfl, rfl⟩
 ·
  have u1' : decide (48 ≤ (c.toNat : Int)) = false := by simpa using u1
  have e := Zh (show r = false by rw [HR.out, u1']; simp)
  go_enter Tryz.func68, Tryz.ntmps68
  go_wp2
  go_ret
  exact ⟨by rw [e.out]; rfl, rfl⟩
theorem adj_snoc : ∀ (x : List UInt8) (c : UInt8), adj (x ++ [c]) = (adj x || (x.getLast? == some 46 && c == 46))
 | [], c => by simp [adj]
 | [a], c => by
  show ((a == 46 && (some c == some 46)) || (([] : List UInt8).head? == some 46 && false || adj [c])) = _
  simp [adj]
 | a :: b :: t, c => by
  have ih := adj_snoc (b :: t) c; have h2 : (b :: t ++ [c]).head? = (b :: t).head? := rfl; rw [List.cons_append, adj_cons a (b :: t ++ [c]), ih, h2, adj_cons a (b :: t), List.getLast?_cons_cons, Bool.or_assoc]
theorem adj_take (s : ByteArray) (k : Nat) (hk : k + 1 < s.size) : adj (s.data.toList.take (k + 2)) = (adj (s.data.toList.take (k + 1)) || ((s[k] == 46) && (s[k + 1] == 46))) := by
 rw [List.take_succ_eq_append_getElem (by simpa using hk), adj_snoc]
 congr 2
 have : s.data.toList.take (k + 1) = s.data.toList.take k ++ [s[k]] := by rw [List.take_succ_eq_append_getElem (by simp; omega)]; rfl
 rw [this, List.getLast?_append]
 rfl
theorem adj_one (s : ByteArray) (h : 0 < s.size) : adj (s.data.toList.take 1) = false := by
 rw [show (1 : Nat) = 0 + 1 from rfl, List.take_succ_eq_append_getElem (by simpa using h)]
 simp [adj]
theorem adj_pad (s : ByteArray) (n : Nat) (hn : s.size = n + 1) : adj ([46] ++ s.data.toList ++ [46]) = ((s[0]'(by omega) == 46) || adj s.data.toList || (s[n]'(by omega) == 46)) := by
 have h0 : s.data.toList.head? = some (s[0]'(by omega)) := by
  rw [List.head?_eq_getElem?, List.getElem?_eq_getElem (by simp; omega)]; rfl
 have hl : s.data.toList.getLast? = some (s[n]'(by omega)) := by
  rw [List.getLast?_eq_getElem?]; have : s.data.toList.length - 1 = n := by simp; omega
  rw [this, List.getElem?_eq_getElem (by simp; omega)]; rfl
 have h0' : (s.data.toList ++ [46]).head? = some (s[0]'(by omega)) := by rw [List.head?_append, h0]; rfl
 rw [List.append_assoc, List.singleton_append, adj_cons, adj_snoc, h0', hl]
 simp
 rw [Bool.or_assoc]
theorem locC_eq (c : UInt8) : locC c = (lowB c || capB c || numB c || dotC c) := by
 unfold locC sodB
 cases lowB c <;> cases capB c <;> cases numB c <;> rfl
theorem dotC_eq (c : UInt8) : dotC c = ((c.toNat : Int) == 46 || (c.toNat : Int) == 95 || (c.toNat : Int) == 43 || (c.toNat : Int) == 45) := by
 unfold dotC
 rw [byte_beq c 46, byte_beq c 95, byte_beq c 43, byte_beq c 45]; rfl
theorem rlocal_any (s : ByteArray) (hs : s.size ≤ 1000000) (w : World) : Calls Tryz.prog 177 #[.string s] w fun e w' => e = .returned (.bool (localB s.data.toList)) ∧ w' = w := by
 have hsl : s.data.toList.length = s.size := by simp
 have hr0 : localB s.data.toList = (decide (1 ≤ (s.size : Int)) && decide ((s.size : Int) ≤ 32) && !adj ([46] ++ s.data.toList ++ [46]) && s.data.toList.all locC) := by
  unfold localB; rw [hsl]
 obtain ⟨r, hr⟩ : ∃ r, localB s.data.toList = r := ⟨_, rfl⟩; rw [hr] at hr0 ⊢; have HR := Zh hr0; have hsI : (s.size : Int) ≤ 1000000 := by omega
 clear hr0 hr hsl
 by_cases h1 : (s.size : Int) < 1
 ·
  have H0 := Zh (show r = false by rw [HR.out, decide_eq_false (by omega)]; rfl)
  go_enter Tryz.func177, Tryz.ntmps177
  go_wp2
  go_ret
  exact ⟨by rw [H0.out]; rfl, rfl⟩
 ·
  by_cases h32 : (s.size : Int) > 32
  ·
   have H0 := Zh (show r = false by rw [HR.out, decide_eq_false (show ¬ (s.size : Int) ≤ 32 by omega)]; simp)
   go_enter Tryz.func177, Tryz.ntmps177
   go_wp2
   go_ret
   exact ⟨by rw [H0.out]; rfl, rfl⟩
  ·
   obtain ⟨n, hn⟩ : ∃ n, s.size = n + 1 := ⟨s.size - 1, by omega⟩; have hz : 0 < s.size := by omega
   have hns : n < s.size := by omega
   have hnI : (s.size : Int) - 1 = (n : Int) := by omega
   have HAT := Zh (adj_take s); have HA1 := Zh (adj_one s hz); have HR2 := Zh (show r = (!((s[0].toNat : Int) == 46) && !((s[n].toNat : Int) == 46) && !adj s.data.toList && s.data.toList.all locC) by
    rw [HR.out, decide_eq_true (by omega), decide_eq_true (by omega), adj_pad s n hn, byte_beq, byte_beq]
    show (!(((s[0].toNat : Int) == 46) || adj s.data.toList || ((s[n].toNat : Int) == 46)) && _) = _
    cases ((s[0].toNat : Int) == 46) <;> cases ((s[n].toNat : Int) == 46) <;> cases adj s.data.toList <;> rfl)
   clear HR
   by_cases u0 : (s[0].toNat : Int) = 46
   ·
    have u0' : ((s[0].toNat : Int) == 46) = true := by rw [u0]; rfl
    have H0 := Zh (show r = false by rw [HR2.out, u0']; rfl); clear u0 HR2 hn
    go_enter Tryz.func177, Tryz.ntmps177
    go_wp2
    go_ret
    exact ⟨by rw [H0.out]; rfl, rfl⟩
   ·
    have u0' : ((s[0].toNat : Int) == 46) = false := by simpa using u0
    by_cases u9 : (s[n].toNat : Int) = 46
    ·
     have u9' : ((s[n].toNat : Int) == 46) = true := by rw [u9]; rfl
     have H0 := Zh (show r = false by rw [HR2.out, u9', u0']; rfl); clear u0 u9 HR2 hn
     go_enter Tryz.func177, Tryz.ntmps177
     go_wp2
     go_ret
     exact ⟨by rw [H0.out]; rfl, rfl⟩
    ·
     have u9' : ((s[n].toNat : Int) == 46) = false := by simpa using u9
     have HR3 := Zh (show r = (!adj s.data.toList && s.data.toList.all locC) by rw [HR2.out, u9', u0']; rfl); have HU0 := Zh u0; clear u9 HR2 hn u0
     go_enter Tryz.func177, Tryz.ntmps177
     go_wp2
     go_loop [3] (fun i => ∃ k : Nat, k ≤ s.size ∧ i = .int .i64 (k : Int) ∧ (s.data.toList.take k).all locC = true ∧ adj (s.data.toList.take k) = false) (fun i => s.size - (intOf i).toNat)
     case atStart => exact ⟨0, Nat.zero_le _, rfl, by simp, by simp [adj]⟩
     case round =>
      obtain ⟨k, hk, rfl, hno, had⟩ := hrel; have HN := Zh hno; have HAD := Zh had; clear hno had u0' u9' hnI
      by_cases hlt : k < s.size
      ·
       have HT := Zh (take_snoc_all locC s k hlt); have HM := Zh (miss_all locC s k hlt); obtain ⟨c, hc⟩ : ∃ c, s[k] = c := ⟨_, rfl⟩; rw [hc] at HT HM; have hc8 : (c.toNat : Int) ≤ 255 := by have := c.toNat_lt; omega
       have HLo := Zh (fun w => low_any c w); have HUp := Zh (fun w => up_any c w); have HDi := Zh (fun w => dig_any c w); rw [show upB c = capB c from rfl] at HUp; have HLC := Zh (locC_eq c); have HDC := Zh (dotC_eq c); obtain ⟨lo, hlo⟩ : ∃ b, lowB c = b := ⟨_, rfl⟩; obtain ⟨up, hup⟩ : ∃ b, capB c = b := ⟨_, rfl⟩; obtain ⟨di, hdi⟩ : ∃ b, numB c = b := ⟨_, rfl⟩; rw [hlo, hup, hdi] at HLC; rw [hlo] at HLo; rw [hup] at HUp; rw [hdi] at HDi; have HLo2 := Zh hlo; clear hlo hup hdi
       by_cases m1 : (c.toNat : Int) = 46
       ·
        have m1' : ((c.toNat : Int) == 46) = true := by rw [m1]; rfl
        have m1n : ((c.toNat : Int) != 46) = false := by rw [m1]; rfl
        obtain ⟨j, hj⟩ : ∃ j, k = j + 1 := by
         cases k with
         | zero => exact absurd (by rw [hc]; exact m1) HU0.out
         | succ j => exact ⟨j, rfl⟩
        have HAJ := Zh (HAT.out j (by omega)); subst hj; have hjI : ((j : Int) + 1) - 1 = (j : Int) := by omega
        have hj1 : j < s.size := by omega
        have HCJ := Zh (show (s[j + 1] == 46) = true by rw [byte_beq, hc]; exact m1')
        by_cases m2 : (s[j].toNat : Int) = 46
        ·
         have m2' : ((s[j].toNat : Int) == 46) = true := by rw [m2]; rfl
         have H0 := Zh (show r = false by
          have h1 : adj (s.data.toList.take (j + 2)) = true := by rw [HAJ.out, HCJ.out, byte_beq]; rw [show ((46 : UInt8).toNat : Int) = 46 from rfl, m2']; simp
          have h2 : adj s.data.toList = true := by
           have mono : ∀ (x y : List UInt8), adj x = true → adj (x ++ y) = true := by
            intro x
            induction x with
            | nil => intro y h; simp [adj] at h
            | cons a t ih =>
             intro y h; rw [adj_cons] at h; rw [List.cons_append, adj_cons]; rw [Bool.or_eq_true] at h ⊢
             rcases h with h | h
             ·
              left
              cases t with
              | nil => simp at h
              | cons b r => exact h
             ·
              exact .inr (ih y h)
           have := mono _ (s.data.toList.drop (j + 2)) h1
           rwa [List.take_append_drop] at this
          rw [HR3.out, h2]; rfl)
         clear m2 m1
         cases lo <;> cases up <;> cases di
         all_goals (
          go_wp2_with (first | (go_at_call 67; (with_reducible refine (HLo.out _).mono ?_); rintro e w1 ⟨rfl, hw⟩; replace hw := hw.symm; subst hw) | (go_at_call 69; (with_reducible refine (HUp.out _).mono ?_); rintro e w1 ⟨rfl, hw⟩; replace hw := hw.symm; subst hw) | (go_at_call 68; (with_reducible refine (HDi.out _).mono ?_); rintro e w1 ⟨rfl, hw⟩; replace hw := hw.symm; subst hw))
          go_ret
          exact ⟨by rw [H0.out]; rfl, rfl⟩)
        ·
         have m2' : ((s[j].toNat : Int) == 46) = false := by simpa using m2
         have HE := Zh (show (s.data.toList.take (j + 1 + 1)).all locC = true by
          rw [HT.out, HN.out, HLC.out, HDC.out, m1']; cases lo <;> cases up <;> cases di <;> rfl)
         have HE2 := Zh (show adj (s.data.toList.take (j + 1 + 1)) = false by
          rw [show j + 1 + 1 = j + 2 from rfl, HAJ.out, HAD.out, byte_beq s[j] 46, show ((46 : UInt8).toNat : Int) = 46 from rfl, m2']; rfl)
         clear m2 m1
         cases lo <;> cases up <;> cases di
         all_goals (
          go_wp2_with (first | (go_at_call 67; (with_reducible refine (HLo.out _).mono ?_); rintro e w1 ⟨rfl, hw⟩; replace hw := hw.symm; subst hw) | (go_at_call 69; (with_reducible refine (HUp.out _).mono ?_); rintro e w1 ⟨rfl, hw⟩; replace hw := hw.symm; subst hw) | (go_at_call 68; (with_reducible refine (HDi.out _).mono ?_); rintro e w1 ⟨rfl, hw⟩; replace hw := hw.symm; subst hw))
          exact ⟨⟨j + 1 + 1, by omega, by go_num, HE.out, HE2.out⟩, by simp [intOf]; omega⟩)
       ·
        have m1' : ((c.toNat : Int) == 46) = false := by simpa using m1
        have m1n : ((c.toNat : Int) != 46) = true := by simpa using m1
        have HE2 := Zh (show adj (s.data.toList.take (k + 1)) = false by
         cases k with
         | zero => exact HA1.out
         | succ j =>
          have : (s[j + 1] == 46) = false := by rw [byte_beq, hc]; exact m1'
          rw [HAT.out j (by omega), HAD.out, this]; simp)
        by_cases hq : ((c.toNat : Int) = 95 ∨ (c.toNat : Int) = 43 ∨ (c.toNat : Int) = 45)
        ·
         have HE := Zh (show (s.data.toList.take (k + 1)).all locC = true by
          rw [HT.out, HN.out, HLC.out, HDC.out]
          rcases hq with h | h | h <;> rw [h] <;> cases lo <;> cases up <;> cases di <;> rfl)
         clear m1
         rcases hq with h | h | h
         ·
          have q1 : ((c.toNat : Int) != 95) = false := by rw [h]; rfl
          clear h
          cases lo <;> cases up <;> cases di
          all_goals (
           go_wp2_with (first | (go_at_call 67; (with_reducible refine (HLo.out _).mono ?_); rintro e w1 ⟨rfl, hw⟩; replace hw := hw.symm; subst hw) | (go_at_call 69; (with_reducible refine (HUp.out _).mono ?_); rintro e w1 ⟨rfl, hw⟩; replace hw := hw.symm; subst hw) | (go_at_call 68; (with_reducible refine (HDi.out _).mono ?_); rintro e w1 ⟨rfl, hw⟩; replace hw := hw.symm; subst hw))
           exact ⟨⟨k + 1, by omega, by go_num, HE.out, HE2.out⟩, by simp [intOf]; omega⟩)
         ·
          have q1 : ((c.toNat : Int) != 95) = true := by rw [h]; rfl
          have q2 : ((c.toNat : Int) != 43) = false := by rw [h]; rfl
          clear h
          cases lo <;> cases up <;> cases di
          all_goals (
           go_wp2_with (first | (go_at_call 67; (with_reducible refine (HLo.out _).mono ?_); rintro e w1 ⟨rfl, hw⟩; replace hw := hw.symm; subst hw) | (go_at_call 69; (with_reducible refine (HUp.out _).mono ?_); rintro e w1 ⟨rfl, hw⟩; replace hw := hw.symm; subst hw) | (go_at_call 68; (with_reducible refine (HDi.out _).mono ?_); rintro e w1 ⟨rfl, hw⟩; replace hw := hw.symm; subst hw))
           exact ⟨⟨k + 1, by omega, by go_num, HE.out, HE2.out⟩, by simp [intOf]; omega⟩)
         ·
          have q1 : ((c.toNat : Int) != 95) = true := by rw [h]; rfl
          have q2 : ((c.toNat : Int) != 43) = true := by rw [h]; rfl
          have q3 : ((c.toNat : Int) != 45) = false := by rw [h]; rfl
          clear h
          cases lo <;> cases up <;> cases di
          all_goals (
           go_wp2_with (first | (go_at_call 67; (with_reducible refine (HLo.out _).mono ?_); rintro e w1 ⟨rfl, hw⟩; replace hw := hw.symm; subst hw) | (go_at_call 69; (with_reducible refine (HUp.out _).mono ?_); rintro e w1 ⟨rfl, hw⟩; replace hw := hw.symm; subst hw) | (go_at_call 68; (with_reducible refine (HDi.out _).mono ?_); rintro e w1 ⟨rfl, hw⟩; replace hw := hw.symm; subst hw))
           exact ⟨⟨k + 1, by omega, by go_num, HE.out, HE2.out⟩, by simp [intOf]; omega⟩)
        ·
         have q1 : ((c.toNat : Int) != 95) = true := by simp only [bne_iff_ne, ne_eq]; omega
         have q2 : ((c.toNat : Int) != 43) = true := by simp only [bne_iff_ne, ne_eq]; omega
         have q3 : ((c.toNat : Int) != 45) = true := by simp only [bne_iff_ne, ne_eq]; omega
         have HDF := Zh (show dotC c = false by
          rw [HDC.out, m1', show ((c.toNat : Int) == 95) = false by simp only [beq_eq_false_iff_ne, ne_eq]; omega, show ((c.toNat : Int) == 43) = false by simp only [beq_eq_false_iff_ne, ne_eq]; omega, show ((c.toNat : Int) == 45) = false by simp only [beq_eq_false_iff_ne, ne_eq]; omega]; rfl)
         clear hq m1
         by_cases hlud : (lo || up || di) = true
         ·
          have HE := Zh (show (s.data.toList.take (k + 1)).all locC = true by
           rw [HT.out, HN.out, HLC.out, hlud]; rfl)
          clear q1 q2 q3
          cases lo <;> cases up <;> cases di
          case false.false.false => cases hlud
          all_goals (
           clear hlud
           go_wp2_with (first | (go_at_call 67; (with_reducible refine (HLo.out _).mono ?_); rintro e w1 ⟨rfl, hw⟩; replace hw := hw.symm; subst hw) | (go_at_call 69; (with_reducible refine (HUp.out _).mono ?_); rintro e w1 ⟨rfl, hw⟩; replace hw := hw.symm; subst hw) | (go_at_call 68; (with_reducible refine (HDi.out _).mono ?_); rintro e w1 ⟨rfl, hw⟩; replace hw := hw.symm; subst hw))
           exact ⟨⟨k + 1, by omega, by go_num, HE.out, HE2.out⟩, by simp [intOf]; omega⟩)
         ·
          have H0 := Zh (show r = false by
           rw [HR3.out, HM.out (by rw [HLC.out, HDF.out]; cases lo <;> cases up <;> cases di <;> first | rfl | exact absurd rfl hlud)]; simp)
          cases lo <;> cases up <;> cases di
          case false.false.false =>
           clear hlud
           go_wp2_with (first | (go_at_call 67; (with_reducible refine (HLo.out _).mono ?_); rintro e w1 ⟨rfl, hw⟩; replace hw := hw.symm; subst hw) | (go_at_call 69; (with_reducible refine (HUp.out _).mono ?_); rintro e w1 ⟨rfl, hw⟩; replace hw := hw.symm; subst hw) | (go_at_call 68; (with_reducible refine (HDi.out _).mono ?_); rintro e w1 ⟨rfl, hw⟩; replace hw := hw.symm; subst hw))
           go_ret
           exact ⟨by rw [H0.out]; rfl, rfl⟩
          all_goals exact absurd rfl hlud
      ·
       have hks : k = s.size := by omega
       subst hks; have H0 := Zh (show r = true by
        have h1 := HN.out; have h2 := HAD.out; rw [List.take_of_length_le (by simp)] at h1 h2
        rw [HR3.out, h1, h2]; rfl)
       go_wp2
       go_ret
       exact ⟨by rw [H0.out]; rfl, rfl⟩
def piece (s : ByteArray) (f k : Nat) : List UInt8 := (s.data.toList.drop f).take (k - f)
theorem piece_nil (s : ByteArray) (f : Nat) : piece s f f = [] := by unfold piece; simp
theorem piece_snoc (s : ByteArray) (f k : Nat) (hf : f ≤ k) (hk : k < s.size) : piece s f (k + 1) = piece s f k ++ [s[k]] := by
 unfold piece
 have : k + 1 - f = (k - f) + 1 := by omega
 rw [this, List.take_succ_eq_append_getElem (by simp; omega)]
 congr 2
 rw [List.getElem_drop]; have : f + (k - f) = k := by omega
 simp only [this]; rfl
theorem piece_drop (s : ByteArray) (f k : Nat) (hf : f ≤ k) : s.data.toList.drop f = piece s f k ++ s.data.toList.drop k := by
 unfold piece
 have := (List.take_append_drop (k - f) (s.data.toList.drop f)).symm; rw [List.drop_drop, show f + (k - f) = k by omega] at this
 exact this
theorem piece_cut (s : ByteArray) (f k : Nat) (hk : k ≤ s.size) : (s.extract f k).data.toList = piece s f k := by
 unfold piece
 rw [ByteArray.data_extract, Array.toList_extract, List.extract_eq_take_drop]
theorem two_cut (s : ByteArray) (f k : Nat) (hf : f ≤ k) (h : k ≤ s.size) (W : World) : (Instr.slice 9 (.string s) (some (.int .i64 (f : Int))) (some (.int .i64 (k : Int))) none).run Tryz.prog W = .ok (.string (s.extract f k)) W := by
 have h := run_slice_string (P := Tryz.prog) (w := W) 9 s .i64 .i64 (f : Int) (k : Int) Tryz.underlying9 (by omega) (by omega) (by omega); rw [h]
 congr 2
theorem lab_dot (p : List UInt8) (h : p.all labC = true) : (46 : UInt8) ∉ p := by
 intro hm; rw [List.all_eq_true] at h
 exact absurd (h 46 hm) (by decide)
def restB (n : Nat) (x : List UInt8) : Bool := decide (2 ≤ (n : Int) + ((splitL x).length : Int)) && (splitL x).all labelB
theorem rest_bad (s : ByteArray) (n f k : Nat) (hf : f ≤ k) (hk : k < s.size) (hp : (piece s f k).all labC = true) (h46 : s[k] ≠ 46) (hc : labC s[k] = false) : restB n (s.data.toList.drop f) = false := by
 unfold restB
 have hd : s.data.toList.drop k = s[k] :: s.data.toList.drop (k + 1) := List.drop_eq_getElem_cons (by simpa using hk); obtain ⟨h, r, e1, e2⟩ := split_pre (piece s f k ++ [s[k]]) (s.data.toList.drop (k + 1)) (by
  intro hm
  rcases List.mem_append.1 hm with e | e
  ·
   exact lab_dot _ hp e
  ·
   simp at e; exact h46 e.symm)
 have e3 : s.data.toList.drop f = piece s f k ++ [s[k]] ++ s.data.toList.drop (k + 1) := by rw [piece_drop s f k hf, hd]; simp
 rw [e3, e2]; have : labelB (piece s f k ++ [s[k]] ++ h) = false := by
  unfold labelB
  rw [Bool.and_eq_false_iff]
  right
  rw [List.all_eq_false]
  exact ⟨s[k], by simp, by rw [hc]; simp⟩
 rw [List.all_cons, this]; simp
theorem rest_dot (s : ByteArray) (n f k : Nat) (hf : f ≤ k) (hk : k < s.size) (hp : (piece s f k).all labC = true) (h46 : s[k] = 46) : restB n (s.data.toList.drop f) = (labelB (piece s f k) && restB (n + 1) (s.data.toList.drop (k + 1))) := by
 have hd : s.data.toList.drop k = s[k] :: s.data.toList.drop (k + 1) := List.drop_eq_getElem_cons (by simpa using hk)
 unfold restB
 rw [piece_drop s f k hf, hd, h46, split_app _ _ (lab_dot _ hp), List.all_cons, List.length_cons]; have : ((n : Int) + (((splitL (s.data.toList.drop (k + 1))).length + 1 : Nat) : Int)) = (((n + 1 : Nat) : Int) + ((splitL (s.data.toList.drop (k + 1))).length : Int)) := by omega
 rw [this]
 cases labelB (piece s f k) <;> simp
theorem rest_end (s : ByteArray) (n f : Nat) (hf : f ≤ s.size) (hp : (piece s f s.size).all labC = true) : restB n (s.data.toList.drop f) = (labelB (piece s f s.size) && decide (2 ≤ (((n + 1 : Nat)) : Int))) := by
 have hd : s.data.toList.drop s.size = [] := List.drop_of_length_le (by simp)
 unfold restB
 rw [piece_drop s f s.size hf, hd, List.append_nil, split_one _ (lab_dot _ hp)]
 simp
 rw [Bool.and_comm]
theorem label_of (P : ByteArray) (hp : P.data.toList.all labC = true) : (P.size < 1 → labelB P.data.toList = false) ∧ (P.size > 20 → labelB P.data.toList = false) ∧ ∀ m (h : P.size = m + 1), P.size ≤ 20 → labelB P.data.toList = (!((P[0]'(by omega)).toNat == 45) && !((P[m]'(by omega)).toNat == 45)) := by
 have hsl : P.data.toList.length = P.size := by simp
 have h0 : labelB P.data.toList = (decide (1 ≤ (P.size : Int)) && decide ((P.size : Int) ≤ 20) && !(P.data.toList.getD 0 0 == 45) && !(P.data.toList.getD (P.size - 1) 0 == 45)) := by
  unfold labelB; rw [hsl, hp, Bool.and_true]
 refine ⟨fun h => by rw [h0, decide_eq_false (by omega)]; rfl, fun h => by rw [h0, decide_eq_false (show ¬ (P.size : Int) ≤ 20 by omega)]; simp, fun m h h20 => ?_⟩; rw [h0, decide_eq_true (by omega), decide_eq_true (by omega), show P.size - 1 = m by omega, getD_at P 0 (by omega), getD_at P m (by omega), byte_beq, byte_beq]; have key : ∀ c : UInt8, ((c.toNat : Int) == ((45 : UInt8).toNat : Int)) = (c.toNat == 45) := by
  intro c; have : ((45 : UInt8).toNat : Int) = 45 := rfl; rw [this]
  by_cases e : c.toNat = 45
  ·
   rw [e]; rfl
  ·
   rw [beq_eq_false_iff_ne.2 e, beq_eq_false_iff_ne]; omega
 rw [key, key]; rfl
theorem rdomain_any (s : ByteArray) (hs : s.size ≤ 1000000) (w : World) : Calls Tryz.prog 178 #[.string s] w fun e w' => e = .returned (.bool (domB s.data.toList)) ∧ w' = w := by
 have hr0 : domB s.data.toList = restB 0 (s.data.toList.drop 0) := by unfold domB restB; simp
 obtain ⟨r, hr⟩ : ∃ r, domB s.data.toList = r := ⟨_, rfl⟩; rw [hr] at hr0 ⊢; have HR := Zh hr0; have hsI : (s.size : Int) ≤ 1000000 := by omega
 have HS : Hid True := Zh trivial; clear hr0 hr
 go_enter Tryz.func178, Tryz.ntmps178
 go_wp2
 go_loop [3, 4, 5] (fun n' f' i => ∃ k n f : Nat, i = .int .i64 (k : Int) ∧ n' = .int .i64 (n : Int) ∧ f' = .int .i64 (f : Int) ∧ n ≤ k ∧ f ≤ k ∧ ((k ≤ s.size ∧ (piece s f k).all labC = true ∧ r = restB n (s.data.toList.drop f)) ∨ (k = s.size + 1 ∧ r = decide (2 ≤ (n : Int))))) (fun _ _ i => s.size + 1 - (intOf i).toNat)
 case atStart => exact ⟨0, 0, 0, rfl, rfl, rfl, by omega, by omega, .inl ⟨by omega, by rw [piece_nil]; rfl, HR.out⟩⟩
 case round =>
  obtain ⟨k, n, f, rfl, rfl, rfl, hn, hf, hrel⟩ := hrel
  rcases hrel with ⟨hk, hpa, hrr⟩ | ⟨hk, hrr⟩
  ·
   have HPA := Zh hpa; have HRR := Zh hrr; clear hpa hrr; have hkI : (k : Int) ≤ (s.size : Int) := by omega
   by_cases hlt : (k : Int) < (s.size : Int)
   ·
    have hk1 : k < s.size := by omega
    have HBAD := Zh (rest_bad s n f k hf hk1 HPA.out); have HDOT := Zh (rest_dot s n f k hf hk1 HPA.out); have HSN := Zh (piece_snoc s f k hf hk1); obtain ⟨c, hc⟩ : ∃ c, s[k] = c := ⟨_, rfl⟩; rw [hc] at HBAD HDOT HSN; have hc8 : (c.toNat : Int) ≤ 255 := by have := c.toNat_lt; omega
    by_cases m1 : (c.toNat : Int) = 46
    ·
     have m1' : ((c.toNat : Int) != 46) = false := by rw [m1]; rfl
     have hcut := two_cut s f k hf hk; have hPl := piece_cut s f k hk; have hPz : (s.extract f k).size = k - f := by rw [ByteArray.size_extract]; omega
     have HK := Zh (show r = (labelB (s.extract f k).data.toList && restB (n + 1) (s.data.toList.drop (k + 1))) by rw [HRR.out, HDOT.out (byte_of 46 rfl m1), hPl]); have hPa : (s.extract f k).data.toList.all labC = true := by rw [hPl]; exact HPA.out
     obtain ⟨P, hP⟩ : ∃ P, s.extract f k = P := ⟨_, rfl⟩; rw [hP] at hcut HK hPa hPz; have hPI : (P.size : Int) ≤ 1000000 := by omega
     clear m1 hPl hP hPz; have HP := Zh (label_of P hPa)
     by_cases p1 : (P.size : Int) < 1
     ·
      have H0 := Zh (show r = false by rw [HK.out, HP.out.1 (by omega)]; rfl); clear HP
      go_wp2
      go_ret
      exact ⟨by rw [H0.out]; rfl, rfl⟩
     ·
      by_cases p20 : (P.size : Int) > 20
      ·
       have H0 := Zh (show r = false by rw [HK.out, HP.out.2.1 (by omega)]; rfl); clear HP
       go_wp2
       go_ret
       exact ⟨by rw [H0.out]; rfl, rfl⟩
      ·
       obtain ⟨m, hm⟩ : ∃ m, P.size = m + 1 := ⟨P.size - 1, by omega⟩; have hmI : (P.size : Int) - 1 = (m : Int) := by omega
       have hm0 : 0 < P.size := by omega
       have hm1 : m < P.size := by omega
       have HPL := Zh (show labelB P.data.toList = (!((P[0]'hm0).toNat == 45) && !((P[m]'hm1).toNat == 45)) from HP.out.2.2 m hm (by omega)); clear HP hm
       by_cases u0 : (P[0].toNat : Int) = 45
       ·
        have u0' : ((P[0].toNat : Int) == 45) = true := by rw [u0]; rfl
        have H0 := Zh (show r = false by rw [HK.out, HPL.out, show (P[0].toNat == 45) = true by rw [beq_iff_eq]; omega]; rfl); clear u0
        go_wp2
        go_ret
        exact ⟨by rw [H0.out]; rfl, rfl⟩
       ·
        have u0' : ((P[0].toNat : Int) == 45) = false := by simpa using u0
        by_cases u9 : (P[m].toNat : Int) = 45
        ·
         have u9' : ((P[m].toNat : Int) == 45) = true := by rw [u9]; rfl
         have H0 := Zh (show r = false by rw [HK.out, HPL.out, show (P[m].toNat == 45) = true by rw [beq_iff_eq]; omega]; simp); clear u0 u9
         go_wp2
         go_ret
         exact ⟨by rw [H0.out]; rfl, rfl⟩
        ·
         have u9' : ((P[m].toNat : Int) == 45) = false := by simpa using u9
         have HNX := Zh (show r = restB (n + 1) (s.data.toList.drop (k + 1)) by
          rw [HK.out, HPL.out, show (P[0].toNat == 45) = false by rw [beq_eq_false_iff_ne]; omega, show (P[m].toNat == 45) = false by rw [beq_eq_false_iff_ne]; omega]; rfl)
         clear u0 u9
         go_wp2
         exact ⟨⟨k + 1, n + 1, k + 1, by go_num, by go_num, by go_num, by omega, by omega, .inl ⟨by omega, by rw [piece_nil]; rfl, HNX.out⟩⟩, by simp [intOf]; omega⟩
    ·
     have m1' : ((c.toNat : Int) != 46) = true := by simpa using m1
     have h46 : c ≠ 46 := fun e => m1 (by rw [e]; rfl)
     have HLo := Zh (fun w => low_any c w); have HDi := Zh (fun w => dig_any c w); have HLC := Zh (show labC c = (lowB c || numB c || (c.toNat : Int) == 45) from rfl); obtain ⟨lo, hlo⟩ : ∃ b, lowB c = b := ⟨_, rfl⟩; obtain ⟨di, hdi⟩ : ∃ b, numB c = b := ⟨_, rfl⟩; rw [hlo, hdi] at HLC; rw [hlo] at HLo; rw [hdi] at HDi; have H46 := Zh h46; clear hlo hdi h46 m1
     by_cases q : (c.toNat : Int) = 45
     ·
      have q1 : ((c.toNat : Int) == 45) = true := by rw [q]; rfl
      have q2 : ((c.toNat : Int) != 45) = false := by rw [q]; rfl
      have HE := Zh (show (piece s f (k + 1)).all labC = true by rw [HSN.out, List.all_append, HPA.out, List.all_cons, HLC.out, q1]; simp); clear q
      cases lo <;> cases di
      all_goals (
       go_wp2_with (first | (go_at_call 67; (with_reducible refine (HLo.out _).mono ?_); rintro e w1 ⟨rfl, hw⟩; replace hw := hw.symm; subst hw) | (go_at_call 68; (with_reducible refine (HDi.out _).mono ?_); rintro e w1 ⟨rfl, hw⟩; replace hw := hw.symm; subst hw))
       exact ⟨⟨k + 1, n, f, by go_num, rfl, rfl, by omega, by omega, .inl ⟨by omega, HE.out, HRR.out⟩⟩, by simp [intOf]; omega⟩)
     ·
      have q1 : ((c.toNat : Int) == 45) = false := by simpa using q
      have q2 : ((c.toNat : Int) != 45) = true := by simpa using q
      clear q
      by_cases hld : (lo || di) = true
      ·
       have HE := Zh (show (piece s f (k + 1)).all labC = true by rw [HSN.out, List.all_append, HPA.out, List.all_cons, HLC.out, hld]; simp)
       cases lo <;> cases di
       case false.false => cases hld
       all_goals (
        clear hld
        go_wp2_with (first | (go_at_call 67; (with_reducible refine (HLo.out _).mono ?_); rintro e w1 ⟨rfl, hw⟩; replace hw := hw.symm; subst hw) | (go_at_call 68; (with_reducible refine (HDi.out _).mono ?_); rintro e w1 ⟨rfl, hw⟩; replace hw := hw.symm; subst hw))
        exact ⟨⟨k + 1, n, f, by go_num, rfl, rfl, by omega, by omega, .inl ⟨by omega, HE.out, HRR.out⟩⟩, by simp [intOf]; omega⟩)
      ·
       have H0 := Zh (show r = false by rw [HRR.out]; exact HBAD.out H46.out (by rw [HLC.out, q1]; cases lo <;> cases di <;> first | rfl | exact absurd rfl hld))
       cases lo <;> cases di
       case false.false =>
        clear hld
        go_wp2_with (first | (go_at_call 67; (with_reducible refine (HLo.out _).mono ?_); rintro e w1 ⟨rfl, hw⟩; replace hw := hw.symm; subst hw) | (go_at_call 68; (with_reducible refine (HDi.out _).mono ?_); rintro e w1 ⟨rfl, hw⟩; replace hw := hw.symm; subst hw))
        go_ret
        exact ⟨by rw [H0.out]; rfl, rfl⟩
       all_goals exact absurd rfl hld
   ·
    have hks : k = s.size := by omega
    have hcut := two_cut s f k hf hk; have hPl := piece_cut s f k hk; have hPz : (s.extract f k).size = k - f := by rw [ByteArray.size_extract]; omega
    have HK := Zh (show r = (labelB (s.extract f k).data.toList && decide (2 ≤ (((n + 1 : Nat)) : Int))) by rw [HRR.out, rest_end s n f (by omega) (by rw [← hks]; exact HPA.out), hPl, hks]); have hPa : (s.extract f k).data.toList.all labC = true := by rw [hPl]; exact HPA.out
    obtain ⟨P, hP⟩ : ∃ P, s.extract f k = P := ⟨_, rfl⟩; rw [hP] at hcut HK hPa hPz; have hPI : (P.size : Int) ≤ 1000000 := by omega
    clear hPl hP hPz hks; have HP := Zh (label_of P hPa)
    by_cases p1 : (P.size : Int) < 1
    ·
     have H0 := Zh (show r = false by rw [HK.out, HP.out.1 (by omega)]; rfl); clear HP
     go_wp2
     go_ret
     exact ⟨by rw [H0.out]; rfl, rfl⟩
    ·
     by_cases p20 : (P.size : Int) > 20
     ·
      have H0 := Zh (show r = false by rw [HK.out, HP.out.2.1 (by omega)]; rfl); clear HP
      go_wp2
      go_ret
      exact ⟨by rw [H0.out]; rfl, rfl⟩
     ·
      obtain ⟨m, hm⟩ : ∃ m, P.size = m + 1 := ⟨P.size - 1, by omega⟩; have hmI : (P.size : Int) - 1 = (m : Int) := by omega
      have hm0 : 0 < P.size := by omega
      have hm1 : m < P.size := by omega
      have HPL := Zh (show labelB P.data.toList = (!((P[0]'hm0).toNat == 45) && !((P[m]'hm1).toNat == 45)) from HP.out.2.2 m hm (by omega)); clear HP hm
      by_cases u0 : (P[0].toNat : Int) = 45
      ·
       have u0' : ((P[0].toNat : Int) == 45) = true := by rw [u0]; rfl
       have H0 := Zh (show r = false by rw [HK.out, HPL.out, show (P[0].toNat == 45) = true by rw [beq_iff_eq]; omega]; rfl); clear u0
       go_wp2
       go_ret
       exact ⟨by rw [H0.out]; rfl, rfl⟩
      ·
       have u0' : ((P[0].toNat : Int) == 45) = false := by simpa using u0
       by_cases u9 : (P[m].toNat : Int) = 45
       ·
        have u9' : ((P[m].toNat : Int) == 45) = true := by rw [u9]; rfl
        have H0 := Zh (show r = false by rw [HK.out, HPL.out, show (P[m].toNat == 45) = true by rw [beq_iff_eq]; omega]; simp); clear u0 u9
        go_wp2
        go_ret
        exact ⟨by rw [H0.out]; rfl, rfl⟩
       ·
        have u9' : ((P[m].toNat : Int) == 45) = false := by simpa using u9
        have HNX := Zh (show r = decide (2 ≤ (((n + 1 : Nat)) : Int)) by
         rw [HK.out, HPL.out, show (P[0].toNat == 45) = false by rw [beq_eq_false_iff_ne]; omega, show (P[m].toNat == 45) = false by rw [beq_eq_false_iff_ne]; omega]; rfl)
        clear u0 u9
        go_wp2
        exact ⟨⟨k + 1, n + 1, k + 1, by go_num, by go_num, by go_num, by omega, by omega, .inr ⟨by omega, HNX.out⟩⟩, by simp [intOf]; omega⟩
  ·
   have HRR := Zh hrr; clear hrr; have hkI : ¬ (k : Int) ≤ (s.size : Int) := by omega
   go_wp2
   go_ret
   exact ⟨by rw [HRR.out]; rfl, rfl⟩
def lastK (l : List UInt8) : Nat → Int
 | 0 => -1
 | k + 1 => if l.getD k 0 = 64 then (k : Int) else lastK l k
theorem lastK_range (l : List UInt8) : ∀ k, -1 ≤ lastK l k ∧ lastK l k < (k : Int)
 | 0 => by simp [lastK]
 | k + 1 => by
  have := lastK_range l k
  unfold lastK
  split <;> omega
theorem lastK_spec (l : List UInt8) : ∀ k, k ≤ l.length → (lastK l k = -1 ∧ ∀ j, j < k → l.getD j 0 ≠ 64) ∨ (∃ i : Nat, i < k ∧ lastK l k = i ∧ l.getD i 0 = 64 ∧ ∀ j, i < j → j < k → l.getD j 0 ≠ 64)
 | 0, _ => .inl ⟨rfl, fun _ h => absurd h (Nat.not_lt_zero _)⟩
 | k + 1, hk => by
  unfold lastK
  by_cases h : l.getD k 0 = 64
  ·
   rw [if_pos h]; exact .inr ⟨k, by omega, rfl, h, fun j h1 h2 => absurd h1 (by omega)⟩
  ·
   rw [if_neg h]
   rcases lastK_spec l k (by omega) with ⟨h1, h2⟩ | ⟨i, h1, h2, h3, h4⟩
   ·
    exact .inl ⟨h1, fun j hj => by
     rcases Nat.lt_or_ge j k with h5 | h5
     ·
      exact h2 j h5
     ·
      have : j = k := by omega
      rw [this]; exact h⟩
   ·
    exact .inr ⟨i, by omega, h2, h3, fun j h5 h6 => by
     rcases Nat.lt_or_ge j k with h7 | h7
     ·
      exact h4 j h5 h7
     ·
      have : j = k := by omega
      rw [this]; exact h⟩
theorem last_split (l : List UInt8) : (lastK l l.length = -1 ∧ (64 : UInt8) ∉ l) ∨ ∃ a b, l = a ++ 64 :: b ∧ (64 : UInt8) ∉ b ∧ lastK l l.length = (a.length : Int) := by
 rcases lastK_spec l l.length (Nat.le_refl _) with ⟨h1, h2⟩ | ⟨i, h1, h2, h3, h4⟩
 ·
  refine .inl ⟨h1, fun hm => ?_⟩; obtain ⟨j, hj, e⟩ := List.mem_iff_getElem.1 hm
  apply h2 j hj
  rw [List.getD_eq_getElem?_getD, List.getElem?_eq_getElem hj]; exact e
 ·
  refine .inr ⟨l.take i, l.drop (i + 1), ?_, fun hm => ?_, by rw [h2, List.length_take]; omega⟩
  ·
   have h5 : l[i] = 64 := by rw [List.getD_eq_getElem?_getD, List.getElem?_eq_getElem h1] at h3; exact h3
   have := (List.take_append_drop i l).symm; rw [List.drop_eq_getElem_cons h1, h5] at this
   exact this
  ·
   obtain ⟨j, hj, e⟩ := List.mem_iff_getElem.1 hm; rw [List.length_drop] at hj; rw [List.getElem_drop] at e
   apply h4 (i + 1 + j) (by omega) (by omega)
   rw [List.getD_eq_getElem?_getD, List.getElem?_eq_getElem (by omega)]; exact e
theorem parts_last (s : ByteArray) (a b : List UInt8) (e : s.data.toList = a ++ 64 :: b) (hb : (64 : UInt8) ∉ b) :
  partsS s = if (decide ((s.size : Int) ≤ 64) && localB a && domB b) = true then (⟨a.toArray⟩, ⟨b.toArray⟩, true) else (⟨#[]⟩, ⟨#[]⟩, false) := by
 have hsl : s.data.toList.length = s.size := by simp
 unfold partsS partsOf
 by_cases ha : (64 : UInt8) ∈ a
 ·
  have h1 : localB a = false := by
   cases h : localB a with
   | false => rfl
   | true => exact absurd rfl (locC_range 64 (local_chars h 64 ha)).2.2
  have h2 : domB (cut s.data.toList [64]).2.1 = false := by
   obtain ⟨p, q, e2, hp⟩ := first_at a 64 ha; have e3 : s.data.toList = p ++ 64 :: (q ++ 64 :: b) := by rw [e, e2]; simp
   rw [e3, cut_has p _ 64 hp]
   cases h : domB (q ++ 64 :: b) with
   | false => rfl
   | true => exact absurd rfl (dom_range (dom_all h) 64 (by simp)).2.2.1
  rw [bs_list, bs_list, h1, h2]
  simp
 ·
  rw [e, cut_has a b 64 ha, bs_list, bs_list, Bool.true_and]
theorem parts_no (s : ByteArray) (h : (64 : UInt8) ∉ s.data.toList) : partsS s = (⟨#[]⟩, ⟨#[]⟩, false) := by
 unfold partsS partsOf
 rw [cut_not _ 64 h]; rfl
theorem rparts_any (s : ByteArray) (hs : s.size ≤ 1000000) (w : World) : Calls Tryz.prog 156 #[.string s] w fun e w' => e = .returned (.tuple #[.string (partsS s).1, .string (partsS s).2.1, .bool (partsS s).2.2]) ∧ Below w.heap.size w w' := by
 have hsl : s.data.toList.length = s.size := by simp
 have hls := last_split s.data.toList; have hpl := fun a b e hb => parts_last s a b e hb
 have hpn := parts_no s; have HK := Zh (fun k => lastK_range s.data.toList k); have HST := Zh (fun k (h : k < s.size) => show lastK s.data.toList (k + 1) = if (s[k].toNat : Int) = 64 then (k : Int) else lastK s.data.toList k by
  have e : s.data.toList.getD k 0 = s[k] := getD_at s k h
  show (if s.data.toList.getD k 0 = 64 then (k : Int) else lastK s.data.toList k) = _
  rw [e]
  by_cases hc : s[k] = 64
  ·
   rw [if_pos hc, if_pos (by rw [hc]; rfl)]
  ·
   rw [if_neg hc, if_neg (show ¬ (s[k].toNat : Int) = 64 from fun e2 => hc (UInt8.toNat_inj.1 (by show s[k].toNat = 64; omega)))])
 obtain ⟨r, hr⟩ : ∃ r, partsS s = r := ⟨_, rfl⟩; rw [hr] at hpl hpn ⊢; have HLS := Zh hls; have HPL := Zh hpl; have HPN := Zh hpn; have HSL := Zh hsl; have hsI : (s.size : Int) ≤ 1000000 := by omega
 have HLc := Zh rlocal_any; have HDm := Zh rdomain_any; clear hls hpl hpn hr hsl
 go_enter Tryz.func156, Tryz.ntmps156
 go_wp2
 go_loop [5, 6] (fun a' i => ∃ k : Nat, k ≤ s.size ∧ i = .int .i64 (k : Int) ∧ a' = .int .i64 (lastK s.data.toList k)) (fun _ i => s.size - (intOf i).toNat)
 case atStart => exact ⟨0, Nat.zero_le _, rfl, rfl⟩
 case round =>
  obtain ⟨k, hk, rfl, rfl⟩ := hrel
  by_cases hlt : k < s.size
  ·
   have HS1 := Zh (HST.out k hlt); obtain ⟨c, hc⟩ : ∃ c, s[k] = c := ⟨_, rfl⟩; rw [hc] at HS1; have hc8 : (c.toNat : Int) ≤ 255 := by have := c.toNat_lt; omega
   obtain ⟨A, hA⟩ : ∃ A, lastK s.data.toList k = A := ⟨_, rfl⟩; rw [hA] at HS1 ⊢; clear hA
   by_cases m1 : (c.toNat : Int) = 64
   ·
    have m1' : ((c.toNat : Int) == 64) = true := by rw [m1]; rfl
    have HE := Zh (show (k : Int) = lastK s.data.toList (k + 1) by rw [HS1.out, if_pos m1]); clear m1
    go_wp2
    exact ⟨⟨k + 1, by omega, by go_num, by rw [← HE.out]⟩, by simp [intOf]; omega⟩
   ·
    have m1' : ((c.toNat : Int) == 64) = false := by simpa using m1
    have HE := Zh (show A = lastK s.data.toList (k + 1) by rw [HS1.out, if_neg m1]); clear m1
    go_wp2
    exact ⟨⟨k + 1, by omega, by go_num, by rw [← HE.out]⟩, by simp [intOf]; omega⟩
  ·
   have hks : k = s.size := by omega
   subst hks; have HLS2 := Zh (by have h := HLS.out; rw [HSL.out] at h; exact h); clear hlt hk
   rcases HLS2.out with ⟨h1, h2⟩ | ⟨a, b, e, hb, h1⟩
   ·
    have H0 := Zh (HPN.out h2); rw [h1]; clear h1 h2
    go_wp2
    go_ret3
    exact ⟨by rw [H0.out]; rfl, Below.refl _ _⟩
   ·
    rw [h1]; obtain ⟨n, hn⟩ : ∃ n, a.length = n := ⟨_, rfl⟩; rw [hn]; have hsz : s.size = n + 1 + b.length := by
     have := HSL.out
     rw [e] at this; simp at this; omega
    have hR := HPL.out a b e hb; have hxa : (s.extract 0 n).data.toList = a := by
     have h1 : (s.extract 0 n).data.toList = s.data.toList.take n := by simp
     rw [h1, e, ← hn]; simp
    have hxb : (s.extract (n + 1) s.size).data.toList = b := by
     have h1 : (s.extract (n + 1) s.size).data.toList = s.data.toList.drop (n + 1) := by simp [List.take_of_length_le]
     rw [h1, e, show a ++ 64 :: b = (a ++ [64]) ++ b by simp]
     exact List.drop_left' (by simp [hn])
    have HL2 := Zh (fun w => HLc.out (s.extract 0 n) (by rw [ByteArray.size_extract]; omega) w); have HD2 := Zh (fun w => HDm.out (s.extract (n + 1) s.size) (by rw [ByteArray.size_extract]; omega) w); rw [hxa] at HL2; rw [hxb] at HD2; have ea : (⟨a.toArray⟩ : ByteArray) = s.extract 0 n := bs_ext (by rw [hxa]); have eb : (⟨b.toArray⟩ : ByteArray) = s.extract (n + 1) s.size := bs_ext (by rw [hxb]); rw [ea, eb] at hR; obtain ⟨lo, hlo⟩ : ∃ x, localB a = x := ⟨_, rfl⟩; obtain ⟨dm, hdm⟩ : ∃ x, domB b = x := ⟨_, rfl⟩; rw [hlo] at HL2 hR; rw [hdm] at HD2 hR; have HR := Zh hR; have hn1 : (n : Int) ≤ (s.size : Int) - 1 := by omega
    have hwn : IntKind.i64.wrap ((n : Int) + 1) = (n : Int) + 1 := IntWalk.i64_in _ (by omega); have hnn : 0 ≤ (n : Int) := by omega
    clear hR hxa hxb ea eb hlo hdm hsz hn h1 e hb
    by_cases h64 : (s.size : Int) > 64
    ·
     have H0 := Zh (show r = (⟨#[]⟩, ⟨#[]⟩, false) by rw [HR.out, decide_eq_false (show ¬ (s.size : Int) ≤ 64 by omega)]; rfl); clear hwn
     go_wp2
     go_ret3
     exact ⟨by rw [H0.out]; rfl, Below.refl _ _⟩
    ·
     have HR2 := Zh (show r = if (lo && dm) = true then (s.extract 0 n, s.extract (n + 1) s.size, true) else (⟨#[]⟩, ⟨#[]⟩, false) by rw [HR.out, decide_eq_true (show (s.size : Int) ≤ 64 by omega), Bool.true_and]); clear HR
     cases lo with
     | false =>
      have H0 := Zh (show r = (⟨#[]⟩, ⟨#[]⟩, false) by rw [HR2.out]; rfl); clear hwn
      go_wp2_with (go_at_call 177; (with_reducible refine (HL2.out _).mono ?_); rintro e w1 ⟨rfl, hw⟩; replace hw := hw.symm; subst hw)
      go_ret3
      exact ⟨by rw [H0.out]; rfl, Below.refl _ _⟩
     | true =>
      cases dm with
      | false =>
       have H0 := Zh (show r = (⟨#[]⟩, ⟨#[]⟩, false) by rw [HR2.out]; rfl); clear hwn
       go_wp2_with (first | (go_at_call 177; (with_reducible refine (HL2.out _).mono ?_); rintro e w1 ⟨rfl, hw⟩; replace hw := hw.symm; subst hw) | (go_at_call 178; (with_reducible refine (HD2.out _).mono ?_); rintro e w1 ⟨rfl, hw⟩; replace hw := hw.symm; subst hw))
       go_ret3
       exact ⟨by rw [H0.out]; rfl, Below.refl _ _⟩
      | true =>
       have H0 := Zh (show r = (s.extract 0 n, s.extract (n + 1) s.size, true) by rw [HR2.out]; rfl)
       go_wp2_with (first | (go_at_call 177; (with_reducible refine (HL2.out _).mono ?_); rintro e w1 ⟨rfl, hw⟩; replace hw := hw.symm; subst hw) | (go_at_call 178; (with_reducible refine (HD2.out _).mono ?_); rintro e w1 ⟨rfl, hw⟩; replace hw := hw.symm; subst hw))
       go_quiet (fail)
       go_wp2
       go_ret3
       exact ⟨by rw [H0.out]; rfl, by first | exact Below.refl _ _ | exact below_drewN (Below.refl _ _) _⟩
theorem risMail_any (s : ByteArray) (hs : s.size ≤ 1000000) (w : World) : Calls Tryz.prog 135 #[.string s] w fun e w' => e = .returned (.bool (mailB s.data.toList)) ∧ Below w.heap.size w w' := by
 have hP := rparts_any s hs w; have ho := parts_ok s; obtain ⟨⟨p, q, b⟩, hr⟩ : ∃ r, partsS s = r := ⟨_, rfl⟩; rw [hr] at hP ho; simp only at hP ho; rw [← ho]; have HP := Zh hP; clear hP ho hr
 go_enter Tryz.func135, Tryz.ntmps135
 go_wp2_with (go_at_call 156; (with_reducible refine (HP.out).mono ?_); rintro e w1 ⟨rfl, h1⟩; have HB1 := Zh h1; clear h1)
 go_ret
 exact ⟨rfl, HB1.out⟩
end Go.Proofs.YtphijnkiiokieaaGreatDoor
