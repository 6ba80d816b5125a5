/- Dates: how a date is shown, and what a text shows. -/
import Derived.Test.YtphijnkiiokieaaGreatDoorZaj
import Derived.Deep.RegionWith
import Derived.Test.YtphijnkiiokieaaGreatDoorZag
import Derived.Test.YtphijnkiiokieaaGreatDoorZab
import Derived.Lib.AppendIntMem
import Derived.Lib.LaidTab
import Derived.Deep.DrawnRows
import Derived.Deep.RegionHeld3
/- Addresses: local parts; the two parts; which is one; which are the same; what is kept. -/
namespace Go.Proofs.YtphijnkiiokieaaGreatDoor
open Go.RowKit
open Go.Lib hiding intOf
set_option linter.unusedVariables false
set_option maxRecDepth 20000
theorem dot_index (c : UInt8) : (dotC c = true ∧ (∃ j : Int, 0 ≤ j ∧ indexByte [46, 95, 43, 45] c = j)) ∨ (dotC c = false ∧ indexByte [46, 95, 43, 45] c = -1) := by
  cases h : dotC c with
  | true =>
    refine .inl ⟨rfl, _, ?_, rfl⟩
    unfold dotC at h
    simp only [Bool.or_eq_true, beq_iff_eq] at h
    rcases h with ((h | h) | h) | h <;> subst h <;> decide
  | false =>
    refine .inr ⟨rfl, ?_⟩
    unfold dotC at h
    simp only [Bool.or_eq_false_iff, beq_eq_false_iff_ne] at h
    obtain ⟨⟨⟨h1, h2⟩, h3⟩, h4⟩ := h
    simp only [indexByte, beq_iff_eq, h1.symm, h2.symm, h3.symm, h4.symm, if_false, if_true]
set_option maxHeartbeats 4000000 in
theorem isLocal_any (s : ByteArray) (hs : s.size ≤ 1000000) (w : World) (hM : Mx w) : Calls Tryz.prog 191 #[.string s] w fun e w' => e = .returned (.bool (localB s.data.toList)) ∧ w' = w := by
  have hsl : s.data.toList.length = s.size := by simp
  obtain ⟨m, hm⟩ := hM
  have hz1 : ((⟨#[46]⟩ : ByteArray) ++ s).size = s.size + 1 := by rw [ByteArray.size_append]; show 1 + _ = _; omega
  have hz2 : (((⟨#[46]⟩ : ByteArray) ++ s) ++ ⟨#[46]⟩).size = s.size + 2 := by rw [ByteArray.size_append, hz1]; show _ + 1 + 1 = _; rfl
  have hC := Tryz.strings_Contains (((⟨#[46]⟩ : ByteArray) ++ s) ++ ⟨#[46]⟩) ⟨#[46, 46]⟩ m w (by omega) hm
  have hpl : (((⟨#[46]⟩ : ByteArray) ++ s) ++ ⟨#[46]⟩).data.toList = [46] ++ s.data.toList ++ [46] := by rw [app_list, app_list]
  rw [hpl, show (⟨#[46, 46]⟩ : ByteArray).data.toList = [46, 46] from rfl, contains_adj] at hC
  have hr0 : localB s.data.toList = (decide (1 ≤ (s.size : Int)) && decide ((s.size : Int) ≤ 32) && !adj ([46] ++ s.data.toList ++ [46]) && s.data.toList.all locC) := by
    unfold localB; rw [hsl]
  obtain ⟨r, hr⟩ : ∃ r, localB s.data.toList = r := ⟨_, rfl⟩
  obtain ⟨ad, had⟩ : ∃ r, adj ([46] ++ s.data.toList ++ [46]) = r := ⟨_, rfl⟩
  rw [hr, had] at hr0
  rw [hr]
  rw [had] at hC
  have HR := Lib.hid hr0
  have HC0 := Lib.hid hC
  have hsI : (s.size : Int) ≤ 1000000 := by omega
  have hq1 : ((⟨#[46]⟩ : ByteArray).size : Int) = 1 := rfl
  have hz1I : (((⟨#[46]⟩ : ByteArray) ++ s).size : Int) = (s.size : Int) + 1 := by omega
  clear hr0 hr hsl hC hz1 hz2 hpl had hm
  by_cases h1 : (s.size : Int) < 1
  · have H0 := Lib.hid (show r = false by rw [HR.out, decide_eq_false (by omega)]; rfl)
    clear hz1I
    go_enter Tryz.func191, Tryz.ntmps191
    go_wp2
    go_ret
    exact ⟨by rw [H0.out]; rfl, rfl⟩
  · by_cases h32 : (s.size : Int) > 32
    · have H0 := Lib.hid (show r = false by rw [HR.out, decide_eq_false (show ¬ (s.size : Int) ≤ 32 by omega)]; simp)
      clear hz1I
      go_enter Tryz.func191, Tryz.ntmps191
      go_wp2
      go_ret
      exact ⟨by rw [H0.out]; rfl, rfl⟩
    · have HR2 := Lib.hid (show r = (!ad && s.data.toList.all locC) by rw [HR.out, decide_eq_true (by omega), decide_eq_true (by omega)]; rfl)
      clear HR
      cases ad with
      | true =>
        have H0 := Lib.hid (show r = false by rw [HR2.out]; rfl)
        go_enter Tryz.func191, Tryz.ntmps191
        go_wp2_with (go_at_call 198; (with_reducible refine (HC0.out).mono ?_); rintro e w1 ⟨rfl, hw⟩; replace hw := hw.symm; subst hw)
        go_ret
        exact ⟨by rw [H0.out]; rfl, rfl⟩
      | false =>
        have HR3 := Lib.hid (show r = s.data.toList.all locC by rw [HR2.out]; rfl)
        have HS := Lib.hid sod_any
        have HIB := Lib.hid (fun (c : UInt8) w => Tryz.strings_IndexByte ⟨#[46, 95, 43, 45]⟩ (c.toNat : Int) w)
        clear HR2
        go_enter Tryz.func191, Tryz.ntmps191
        go_wp2_with (go_at_call 198; (with_reducible refine (HC0.out).mono ?_); rintro e w1 ⟨rfl, hw⟩; replace hw := hw.symm; subst hw)
        go_loop [21] (fun i => ∃ k : Nat, k ≤ s.size ∧ i = .int .i64 (k : Int) ∧ (s.data.toList.take k).all locC = true) (fun i => s.size - (intOf i).toNat)
        case atStart => exact ⟨0, Nat.zero_le _, rfl, by simp⟩
        case round =>
          obtain ⟨k, hk, rfl, hno⟩ := hrel
          have HN := Lib.hid hno
          clear hno hz1I
          by_cases hlt : k < s.size
          · have HT := Lib.hid (take_snoc_all locC s k hlt)
            have HM := Lib.hid (miss_all locC s k hlt)
            obtain ⟨c, hc⟩ : ∃ c, s[k] = c := ⟨_, rfl⟩
            rw [hc] at HT HM
            have hc8 : (c.toNat : Int) ≤ 255 := by have := c.toNat_lt; omega
            have HC := Lib.hid (fun w => HS.out c w)
            have hi1 := HIB.out c
            have e8 : (c.toNat : Int).toNat.toUInt8 = c := by simp
            rw [e8] at hi1
            by_cases hcap : 65 ≤ (c.toNat : Int) ∧ (c.toNat : Int) ≤ 90
            · have HE := Lib.hid (show (s.data.toList.take (k + 1)).all locC = true by
                rw [HT.out, HN.out]; unfold locC capB; rw [decide_eq_true hcap.1, decide_eq_true hcap.2]; rfl)
              obtain ⟨g1, g2⟩ := hcap
              clear hi1 e8
              go_wp2
              exact ⟨⟨k + 1, by omega, by go_num, HE.out⟩, by simp [intOf]; omega⟩
            · have hcf : capB c = false := by
                unfold capB
                rw [Bool.and_eq_false_iff]
                by_cases h : 65 ≤ (c.toNat : Int)
                · right; exact decide_eq_false (fun e => hcap ⟨h, e⟩)
                · left; exact decide_eq_false h
              have HCF := Lib.hid hcf
              have hsplit : ¬ (65 ≤ (c.toNat : Int)) ∨ (65 ≤ (c.toNat : Int) ∧ ¬ (c.toNat : Int) ≤ 90) := by
                by_cases h : 65 ≤ (c.toNat : Int)
                · exact .inr ⟨h, fun e => hcap ⟨h, e⟩⟩
                · exact .inl h
              clear hcf hcap
              cases hd : sodB c with
              | true =>
                rw [hd] at HC
                have HE := Lib.hid (show (s.data.toList.take (k + 1)).all locC = true by rw [HT.out, HN.out]; unfold locC; rw [hd]; simp)
                clear hd hi1 e8
                rcases hsplit with g | ⟨g1, g⟩
                · have g' : decide (65 ≤ (c.toNat : Int)) = false := by simpa using g
                  go_wp2_with (go_at_call 199; (with_reducible refine (HC.out _).mono ?_); rintro e w1 ⟨rfl, hw⟩; replace hw := hw.symm; subst hw)
                  exact ⟨⟨k + 1, by omega, by go_num, HE.out⟩, by simp [intOf]; omega⟩
                · have g' : decide ((c.toNat : Int) ≤ 90) = false := by simpa using g
                  go_wp2_with (go_at_call 199; (with_reducible refine (HC.out _).mono ?_); rintro e w1 ⟨rfl, hw⟩; replace hw := hw.symm; subst hw)
                  exact ⟨⟨k + 1, by omega, by go_num, HE.out⟩, by simp [intOf]; omega⟩
              | false =>
                rw [hd] at HC
                rcases dot_index c with ⟨b1, j, hj, b2⟩ | ⟨b1, b2⟩
                · rw [b2] at hi1
                  have HI1 := Lib.hid hi1
                  have HE := Lib.hid (show (s.data.toList.take (k + 1)).all locC = true by rw [HT.out, HN.out]; unfold locC; rw [b1]; simp)
                  have hj' : ¬ j < 0 := by omega
                  clear hi1 b2 b1 e8 hd
                  rcases hsplit with g | ⟨g1, g⟩
                  · have g' : decide (65 ≤ (c.toNat : Int)) = false := by simpa using g
                    go_wp2_with (first | (go_at_call 199; (with_reducible refine (HC.out _).mono ?_); rintro e w1 ⟨rfl, hw⟩; replace hw := hw.symm; subst hw) | (go_at_call 77; (with_reducible refine (HI1.out _).mono ?_); rintro e w1 ⟨rfl, hw⟩; replace hw := hw.symm; subst hw))
                    exact ⟨⟨k + 1, by omega, by go_num, HE.out⟩, by simp [intOf]; omega⟩
                  · have g' : decide ((c.toNat : Int) ≤ 90) = false := by simpa using g
                    go_wp2_with (first | (go_at_call 199; (with_reducible refine (HC.out _).mono ?_); rintro e w1 ⟨rfl, hw⟩; replace hw := hw.symm; subst hw) | (go_at_call 77; (with_reducible refine (HI1.out _).mono ?_); rintro e w1 ⟨rfl, hw⟩; replace hw := hw.symm; subst hw))
                    exact ⟨⟨k + 1, by omega, by go_num, HE.out⟩, by simp [intOf]; omega⟩
                · rw [b2] at hi1
                  have HI1 := Lib.hid hi1
                  have H0 := Lib.hid (show r = false by rw [HR3.out]; exact HM.out (by unfold locC; rw [b1, hd, HCF.out]; rfl))
                  clear hi1 b2 b1 e8 hd
                  rcases hsplit with g | ⟨g1, g⟩
                  · have g' : decide (65 ≤ (c.toNat : Int)) = false := by simpa using g
                    go_wp2_with (first | (go_at_call 199; (with_reducible refine (HC.out _).mono ?_); rintro e w1 ⟨rfl, hw⟩; replace hw := hw.symm; subst hw) | (go_at_call 77; (with_reducible refine (HI1.out _).mono ?_); rintro e w1 ⟨rfl, hw⟩; replace hw := hw.symm; subst hw))
                    go_ret
                    exact ⟨by rw [H0.out]; rfl, rfl⟩
                  · have g' : decide ((c.toNat : Int) ≤ 90) = false := by simpa using g
                    go_wp2_with (first | (go_at_call 199; (with_reducible refine (HC.out _).mono ?_); rintro e w1 ⟨rfl, hw⟩; replace hw := hw.symm; subst hw) | (go_at_call 77; (with_reducible refine (HI1.out _).mono ?_); rintro e w1 ⟨rfl, hw⟩; replace hw := hw.symm; subst hw))
                    go_ret
                    exact ⟨by rw [H0.out]; rfl, rfl⟩
          · have hks : k = s.size := by omega
            subst hks
            have H0 := Lib.hid (show r = true by rw [HR3.out, ← HN.out, List.take_of_length_le (by simp)])
            go_wp2
            go_ret
            exact ⟨by rw [H0.out]; rfl, rfl⟩
/-- What Parts tells. -/
def partsOf (p q : ByteArray) (found : Bool) (n : Nat) : ByteArray × ByteArray × Bool := if (found && decide ((n : Int) ≤ 64) && localB p.data.toList && domB q.data.toList) = true then (p, q, true) else (⟨#[]⟩, ⟨#[]⟩, false)
def partsS (s : ByteArray) : ByteArray × ByteArray × Bool := partsOf ⟨(cut s.data.toList [64]).1.toArray⟩ ⟨(cut s.data.toList [64]).2.1.toArray⟩ (cut s.data.toList [64]).2.2 s.size
theorem parts_mail (s : ByteArray) : partsS s = if mailB s.data.toList = true then (⟨(cut s.data.toList [64]).1.toArray⟩, ⟨(cut s.data.toList [64]).2.1.toArray⟩, true) else (⟨#[]⟩, ⟨#[]⟩, false) := by
  unfold partsS partsOf mailB
  have : s.data.toList.length = s.size := by simp
  rw [this, bs_list, bs_list]
theorem parts_ok (s : ByteArray) : (partsS s).2.2 = mailB s.data.toList := by
  rw [parts_mail]
  cases h : mailB s.data.toList <;> simp
theorem cut_len (l : List UInt8) : (cut l [64]).1.length ≤ l.length ∧ (cut l [64]).2.1.length ≤ l.length := by
  by_cases h : (64 : UInt8) ∈ l
  · obtain ⟨a, b, e, ha⟩ := first_at l 64 h
    rw [e, cut_has a b 64 ha]; simp; omega
  · rw [cut_not l 64 h]; simp
set_option maxHeartbeats 4000000 in
theorem parts_any (s : ByteArray) (hs : s.size ≤ 1000000) (w : World) (hM : Mx w) : Calls Tryz.prog 182 #[.string s] w fun e w' => e = .returned (.tuple #[.string (partsS s).1, .string (partsS s).2.1, .bool (partsS s).2.2]) ∧ Below w.heap.size w w' := by
  have hlt := hM.lt
  have HMx := Lib.hid hM
  obtain ⟨m, hm⟩ := hM
  have hC := Tryz.strings_Cut s ⟨#[64]⟩ m w (by omega) hm
  have hcl := cut_len s.data.toList
  have hsl : s.data.toList.length = s.size := by simp
  have hr0 : partsS s = partsOf ⟨(cut s.data.toList [64]).1.toArray⟩ ⟨(cut s.data.toList [64]).2.1.toArray⟩ (cut s.data.toList [64]).2.2 s.size := rfl
  rw [show (⟨#[64]⟩ : ByteArray).data.toList = [64] from rfl] at hC
  obtain ⟨p, hp⟩ : ∃ p : ByteArray, (⟨(cut s.data.toList [64]).1.toArray⟩ : ByteArray) = p := ⟨_, rfl⟩
  obtain ⟨q, hq⟩ : ∃ q : ByteArray, (⟨(cut s.data.toList [64]).2.1.toArray⟩ : ByteArray) = q := ⟨_, rfl⟩
  obtain ⟨fd, hf⟩ : ∃ f, (cut s.data.toList [64]).2.2 = f := ⟨_, rfl⟩
  have hps : p.size ≤ 1000000 := by rw [← hp]; show (cut s.data.toList [64]).1.toArray.size ≤ _; rw [List.size_toArray]; omega
  have hqs : q.size ≤ 1000000 := by rw [← hq]; show (cut s.data.toList [64]).2.1.toArray.size ≤ _; rw [List.size_toArray]; omega
  rw [hp, hq, hf] at hr0 hC
  obtain ⟨r, hr⟩ : ∃ r, partsS s = r := ⟨_, rfl⟩
  rw [hr] at hr0 ⊢
  have HR := Lib.hid (show r = if (fd && decide ((s.size : Int) ≤ 64) && localB p.data.toList && domB q.data.toList) = true then (p, q, true) else (⟨#[]⟩, ⟨#[]⟩, false) from hr0)
  have HC := Lib.hid hC
  have HL := Lib.hid (fun w h => isLocal_any p hps w h)
  have HD := Lib.hid (fun w h => isDomain_any q hqs w h)
  have hsI : (s.size : Int) ≤ 1000000 := by omega
  obtain ⟨lo, hlo⟩ : ∃ l, localB p.data.toList = l := ⟨_, rfl⟩
  obtain ⟨dm, hdm⟩ : ∃ l, domB q.data.toList = l := ⟨_, rfl⟩
  rw [hlo] at HL HR
  rw [hdm] at HD HR
  have HMd := Lib.hid (fun n => (show Mx (w.drewN n) from HMx.out))
  clear hr0 hr hC hcl hsl hp hq hf hps hqs hlo hdm hm
  cases fd with
  | false =>
    have H0 := Lib.hid (show r = (⟨#[]⟩, ⟨#[]⟩, false) by rw [HR.out]; rfl)
    go_enter Tryz.func182, Tryz.ntmps182
    go_wp2_with (first | (go_at_call 97; (with_reducible refine (HC.out).mono ?_); rintro e w1 ⟨rfl, n1, hw⟩; subst hw))
    go_ret3
    exact ⟨by rw [H0.out]; rfl, below_drewN (Below.refl _ _) _⟩
  | true =>
    by_cases h64 : (s.size : Int) > 64
    · have h64' : decide ((s.size : Int) ≤ 64) = false := by simpa using h64
      have H0 := Lib.hid (show r = (⟨#[]⟩, ⟨#[]⟩, false) by rw [HR.out, h64']; rfl)
      go_enter Tryz.func182, Tryz.ntmps182
      go_wp2_with (first | (go_at_call 97; (with_reducible refine (HC.out).mono ?_); rintro e w1 ⟨rfl, n1, hw⟩; subst hw))
      go_ret3
      exact ⟨by rw [H0.out]; rfl, below_drewN (Below.refl _ _) _⟩
    · have h64' : decide ((s.size : Int) ≤ 64) = true := by simpa using h64
      have HR2 := Lib.hid (show r = if (lo && dm) = true then (p, q, true) else (⟨#[]⟩, ⟨#[]⟩, false) by rw [HR.out, h64']; rfl)
      clear HR h64'
      cases lo with
      | false =>
        have H0 := Lib.hid (show r = (⟨#[]⟩, ⟨#[]⟩, false) by rw [HR2.out]; rfl)
        go_enter Tryz.func182, Tryz.ntmps182
        go_wp2_with (first | (go_at_call 97; (with_reducible refine (HC.out).mono ?_); rintro e w1 ⟨rfl, n1, hw⟩; subst hw) | (go_at_call 191; (with_reducible refine (HL.out _ (HMd.out n1)).mono ?_); rintro e w2 ⟨rfl, hw⟩; replace hw := hw.symm; subst hw))
        go_ret3
        exact ⟨by rw [H0.out]; rfl, below_drewN (Below.refl _ _) _⟩
      | true =>
        cases dm with
        | false =>
          have H0 := Lib.hid (show r = (⟨#[]⟩, ⟨#[]⟩, false) by rw [HR2.out]; rfl)
          go_enter Tryz.func182, Tryz.ntmps182
          go_wp2_with (first | (go_at_call 97; (with_reducible refine (HC.out).mono ?_); rintro e w1 ⟨rfl, n1, hw⟩; subst hw) | (go_at_call 191; (with_reducible refine (HL.out _ (HMd.out n1)).mono ?_); rintro e w2 ⟨rfl, hw⟩; replace hw := hw.symm; subst hw) | (go_at_call 192; (with_reducible refine (HD.out _ (HMd.out n1)).mono ?_); rintro e w3 ⟨rfl, h3⟩; have HB3 := Lib.hid h3; clear h3))
          go_ret3
          exact ⟨by rw [H0.out]; rfl, (below_drewN (Below.refl w.heap.size w) n1).trans (HB3.out)⟩
        | true =>
          have H0 := Lib.hid (show r = (p, q, true) by rw [HR2.out]; rfl)
          go_enter Tryz.func182, Tryz.ntmps182
          go_wp2_with (first | (go_at_call 97; (with_reducible refine (HC.out).mono ?_); rintro e w1 ⟨rfl, n1, hw⟩; subst hw) | (go_at_call 191; (with_reducible refine (HL.out _ (HMd.out n1)).mono ?_); rintro e w2 ⟨rfl, hw⟩; replace hw := hw.symm; subst hw) | (go_at_call 192; (with_reducible refine (HD.out _ (HMd.out n1)).mono ?_); rintro e w3 ⟨rfl, h3⟩; have HB3 := Lib.hid h3; clear h3))
          go_ret3
          exact ⟨by rw [H0.out]; rfl, (below_drewN (Below.refl w.heap.size w) n1).trans (HB3.out)⟩
end Go.Proofs.YtphijnkiiokieaaGreatDoor
/- Addresses: which is one; which are the same; what is kept. -/
namespace Go.Proofs.YtphijnkiiokieaaGreatDoor
open Go.RowKit
open Go.Lib hiding intOf
set_option linter.unusedVariables false
set_option maxRecDepth 20000
set_option maxHeartbeats 1000000 in
theorem isMail_any (s : ByteArray) (hs : s.size ≤ 1000000) (w : World) (hM : Mx w) : Calls Tryz.prog 164 #[.string s] w fun e w' => e = .returned (.bool (mailB s.data.toList)) ∧ Below w.heap.size w w' := by
  have hP := parts_any s hs w hM
  have ho := parts_ok s
  obtain ⟨⟨p, q, b⟩, hr⟩ : ∃ r, partsS s = r := ⟨_, rfl⟩
  rw [hr] at hP ho
  simp only at hP ho
  rw [← ho]
  have HP := Lib.hid hP
  clear hP ho hr
  go_enter Tryz.func164, Tryz.ntmps164
  go_wp2_with (go_at_call 182; (with_reducible refine (HP.out).mono ?_); rintro e w1 ⟨rfl, h1⟩; have HB1 := Lib.hid h1; clear h1)
  go_ret
  exact ⟨rfl, HB1.out⟩
def sameB (a b : ByteArray) : Bool := mailB a.data.toList && mailB b.data.toList && ((lowS a).toList == (lowS b).toList)
theorem last_range (t : ByteArray) : -1 ≤ lastIndexByte t 64 ∧ lastIndexByte t 64 < t.size := by
  unfold lastIndexByte
  rcases lastIdx_spec t 64 t.size with ⟨h, _⟩ | ⟨i, hi, h, _⟩ <;> rw [h] <;> omega
theorem tabs_on {B : Nat} {w w' : World} (h : Tabs w) (hb : Below B w w') (h2 : 1 < B ∧ 2 < B) : Tabs w' := by
  obtain ⟨h3, h4⟩ := h2
  refine ⟨fun c hc => ?_, fun i hi => ⟨?_, ?_⟩⟩
  · have := h.1 c hc
    simp only [World.cell?] at this ⊢
    rw [hb.block 1 (by omega)]; exact this
  · have := (h.2 i hi).1
    simp only [World.cell?] at this ⊢
    rw [hb.block 2 (by omega)]; exact this
  · have := (h.2 i hi).2
    simp only [World.cell?] at this ⊢
    rw [hb.block 2 (by omega)]; exact this
theorem tabs_size {w : World} (h : Tabs w) : 1 < w.heap.size ∧ 2 < w.heap.size := by
  constructor
  · have h1 := h.1 0 (by decide)
    cases hh : w.heap[1]? with
    | none => simp [World.cell?, hh] at h1
    | some o => exact (Array.getElem?_eq_some_iff.1 hh).1
  · have h1 := (h.2 0 (by decide)).1
    cases hh : w.heap[2]? with
    | none => simp [World.cell?, hh] at h1
    | some o => exact (Array.getElem?_eq_some_iff.1 hh).1
theorem clean_le (s : ByteArray) (hs : s.size ≤ 1000000) : (cleanS s).1.size ≤ 64 := by
  unfold cleanS cleanOf
  repeat' split
  all_goals first | (show (squeezeS s).size ≤ 64; omega) | (show (0 : Nat) ≤ 64; omega)
set_option maxHeartbeats 4000000 in
theorem mcanon_any (s : ByteArray) (hs : s.size ≤ 1000000) (w : World) (hT : Tabs w) (hM : Mx w) : Calls Tryz.prog 142 #[.string s] w fun e w' => e = .returned (.tuple #[.string (mailS s).1, .int .i64 (mailS s).2]) ∧ Below w.heap.size w w' := by
  have hC := clean_any s hs w hT
  have htz := clean_le s hs
  have hlt := hM.lt
  obtain ⟨r, hr⟩ : ∃ r, mailS s = r := ⟨_, rfl⟩
  rw [hr]
  have hrr : r = mailOf (cleanS s).1 (cleanS s).2 := by rw [← hr]; rfl
  clear hr
  obtain ⟨⟨t, k⟩, ht⟩ : ∃ t, cleanS s = t := ⟨_, rfl⟩
  rw [ht] at hC htz hrr
  simp only at hC htz hrr
  have HC := Lib.hid hC
  have HB0 := Lib.hid (Below.refl w.heap.size w)
  have hLr := last_range t
  have HLI := Lib.hid (fun w => Tryz.strings_LastIndexByte t 64 (by omega) w)
  have hn0 : lowAt t = t.extract 0 (atN t) ++ lowS (t.extract (atN t) t.size) := rfl
  have hat : atN t = (lastIndexByte t 64 + 1).toNat := rfl
  obtain ⟨j, hj⟩ : ∃ j, lastIndexByte t 64 = j := ⟨_, rfl⟩
  rw [hj] at hLr hat
  have HLj := HLI.out
  rw [hj] at HLj
  obtain ⟨n, hn⟩ : ∃ n, atN t = n := ⟨_, rfl⟩
  rw [hn] at hn0 hat
  have hjn : j + 1 = (n : Int) := by omega
  have hnt : n ≤ t.size := by omega
  have hwn : IntKind.i64.wrap (n : Int) = (n : Int) := IntWalk.i64_in _ (by omega)
  have hn0I : 0 ≤ (n : Int) := by omega
  obtain ⟨u, hu⟩ : ∃ u, lowS (t.extract n t.size) = u := ⟨_, rfl⟩
  have hus : u.size = t.size - n := by rw [← hu]; show (lowL (t.extract n t.size).data.toList).toArray.size = _; unfold lowL; simp
  have hxz : (t.extract 0 n).size = n := by rw [ByteArray.size_extract]; omega
  have HF : Hid (∀ v, Below w.heap.size w v → Calls Tryz.prog 163 #[.string (t.extract n t.size)] v fun e v' => e = .returned (.string u) ∧ Below w.heap.size w v') :=
    Lib.hid fun v h => (fold_any (t.extract n t.size) (by rw [ByteArray.size_extract]; omega) v).mono (by rintro e v' ⟨rfl, h2⟩; exact ⟨by rw [hu], h.trans (h2.mono h.size)⟩)
  rw [hu] at hn0
  have HI : Hid (∀ v, Below w.heap.size w v → Calls Tryz.prog 164 #[.string (t.extract 0 n ++ u)] v fun e v' => e = .returned (.bool (mailB (lowAt t).data.toList)) ∧ Below w.heap.size w v') :=
    Lib.hid fun v h => (isMail_any (t.extract 0 n ++ u) (by rw [ByteArray.size_append]; omega) v (hM.keep h hlt)).mono (by rintro e v' ⟨rfl, h2⟩; exact ⟨by rw [hn0], h.trans (h2.mono h.size)⟩)
  have HR := Lib.hid (show r = if k = 0 then (if mailB (lowAt t).data.toList = true then (t.extract 0 n ++ u, 0) else (⟨#[]⟩, 1)) else (⟨#[]⟩, k) by rw [hrr]; unfold mailOf; rw [hn0])
  obtain ⟨b, hb⟩ : ∃ b, mailB (lowAt t).data.toList = b := ⟨_, rfl⟩
  rw [hb] at HI HR
  have HLJ := Lib.hid HLj
  have htI : (t.size : Int) ≤ 64 := by omega
  have huI : (u.size : Int) ≤ 64 := by omega
  have hxI : ((t.extract 0 n).size : Int) ≤ 64 := by omega
  have hntI : (n : Int) ≤ (t.size : Int) := by omega
  clear HLj hC ht hrr HLI hn0 hat hj hn hu hb hus hxz
  by_cases hk : k = 0
  · subst hk
    have HR2 := Lib.hid (show r = if b = true then (t.extract 0 n ++ u, 0) else (⟨#[]⟩, 1) by rw [HR.out]; rfl)
    clear HR
    cases b with
    | true =>
      have H0 := Lib.hid (show r = (t.extract 0 n ++ u, 0) by rw [HR2.out]; rfl)
      go_enter Tryz.func142, Tryz.ntmps142
      go_wp2_with (first | (go_at_call 143; (with_reducible refine (HC.out).mono ?_); rintro e v1 ⟨rfl, hb⟩; have HB1 := Lib.hid hb; clear hb) | (go_at_call 162; (with_reducible refine (HLJ.out _).mono ?_); rintro e v2 ⟨rfl, hw⟩; replace hw := hw.symm; subst hw))
      go_region_with (go_at_call 163; (with_reducible refine (HF.out _ (by first | exact HB1.out | exact HB1.out.drew | exact HB1.out.drew.drew)).mono ?_); rintro e v3 ⟨rfl, hb⟩; have HB3 := Lib.hid hb; clear hb)
      go_wp2_with (go_at_call 164; (with_reducible refine (HI.out _ HB3.out).mono ?_); rintro e v4 ⟨rfl, hb⟩; have HB4 := Lib.hid hb; clear hb)
      go_ret2
      exact ⟨by rw [H0.out]; rfl, HB4.out⟩
    | false =>
      have H0 := Lib.hid (show r = (⟨#[]⟩, 1) by rw [HR2.out]; rfl)
      go_enter Tryz.func142, Tryz.ntmps142
      go_wp2_with (first | (go_at_call 143; (with_reducible refine (HC.out).mono ?_); rintro e v1 ⟨rfl, hb⟩; have HB1 := Lib.hid hb; clear hb) | (go_at_call 162; (with_reducible refine (HLJ.out _).mono ?_); rintro e v2 ⟨rfl, hw⟩; replace hw := hw.symm; subst hw))
      go_region_with (go_at_call 163; (with_reducible refine (HF.out _ (by first | exact HB1.out | exact HB1.out.drew | exact HB1.out.drew.drew)).mono ?_); rintro e v3 ⟨rfl, hb⟩; have HB3 := Lib.hid hb; clear hb)
      go_wp2_with (go_at_call 164; (with_reducible refine (HI.out _ HB3.out).mono ?_); rintro e v4 ⟨rfl, hb⟩; have HB4 := Lib.hid hb; clear hb)
      go_ret2
      exact ⟨by rw [H0.out]; rfl, HB4.out⟩
  · have hk' : (k != 0) = true := by simpa using hk
    have H0 := Lib.hid (show r = (⟨#[]⟩, k) by rw [HR.out, if_neg hk])
    clear hk
    go_enter Tryz.func142, Tryz.ntmps142
    go_wp2_with (go_at_call 143; (with_reducible refine (HC.out).mono ?_); rintro e w1 ⟨rfl, h1⟩; have HB1 := Lib.hid h1; clear h1)
    go_ret2
    exact ⟨by rw [H0.out]; rfl, HB1.out⟩
end Go.Proofs.YtphijnkiiokieaaGreatDoor
/- Dates: the number that digits show. -/
namespace Go.Proofs.YtphijnkiiokieaaGreatDoor.Day
open Go.RowKit
set_option linter.unusedVariables false
set_option maxRecDepth 20000
def isD (c : UInt8) : Bool := decide (48 ≤ (c.toNat : Int) ∧ (c.toNat : Int) ≤ 57)
def valD (l : List UInt8) : Int := l.foldl (fun n c => n * 10 + ((c.toNat : Int) - 48)) 0
def numD (l : List UInt8) : Int := if l.all isD = true then valD l else -1
theorem valD_snoc (l : List UInt8) (c : UInt8) : valD (l ++ [c]) = valD l * 10 + ((c.toNat : Int) - 48) := by
  unfold valD; rw [List.foldl_append]; rfl
theorem fold_bd (l : List UInt8) (a : Int) (h : l.all isD = true) (ha : 0 ≤ a) : 0 ≤ l.foldl (fun n c => n * 10 + ((c.toNat : Int) - 48)) a ∧ l.foldl (fun n c => n * 10 + ((c.toNat : Int) - 48)) a < (a + 1) * 10 ^ l.length := by
  induction l generalizing a with
  | nil => simp; omega
  | cons c l ih =>
    simp only [List.all_cons, Bool.and_eq_true] at h
    obtain ⟨h1, h2⟩ := h
    have hc : 48 ≤ (c.toNat : Int) ∧ (c.toNat : Int) ≤ 57 := by simpa [isD] using h1
    obtain ⟨q1, q2⟩ := ih (a * 10 + ((c.toNat : Int) - 48)) h2 (by omega)
    refine ⟨q1, Int.lt_of_lt_of_le q2 ?_⟩
    rw [List.length_cons, Int.pow_succ, Int.mul_comm (10 ^ l.length) 10, ← Int.mul_assoc]
    exact Int.mul_le_mul_of_nonneg_right (by omega) (Int.pow_nonneg (by decide))
theorem valD_bd (l : List UInt8) (h : l.all isD = true) : 0 ≤ valD l ∧ valD l < 10 ^ l.length := by
  have := fold_bd l 0 h (by decide)
  simpa [valD] using this
theorem take_snoc (s : ByteArray) (k : Nat) (h : k < s.size) : s.data.toList.take (k + 1) = s.data.toList.take k ++ [s[k]] := by
  rw [List.take_succ_eq_append_getElem (by simpa using h)]; rfl
theorem all_take (s : ByteArray) (k : Nat) (h : k < s.size) (hn : isD s[k] = false) : s.data.toList.all isD = false := by
  rw [List.all_eq_false]
  exact ⟨s[k], by rw [show s[k] = s.data.toList[k]'(by simpa using h) from rfl]; exact List.getElem_mem _, by simp [hn]⟩
theorem number_any (s : ByteArray) (hs : s.size ≤ 8) (w : World) : Calls Tryz.prog 169 #[.string s] w fun e w' => e = .returned (.int .i64 (numD s.data.toList)) ∧ w' = w := by
  go_enter Tryz.func169, Tryz.ntmps169
  go_wp2
  go_loop [3, 7] (fun n i => ∃ k : Nat, k ≤ s.size ∧ i = .int .i64 (k : Int) ∧ n = .int .i64 (valD (s.data.toList.take k)) ∧ (s.data.toList.take k).all isD = true) (fun _ i => s.size - (intOf i).toNat)
  case atStart => exact ⟨0, Nat.zero_le _, rfl, rfl, rfl⟩
  case round =>
    obtain ⟨k, hk, rfl, rfl, hall⟩ := hrel
    obtain ⟨v0, v1⟩ := valD_bd _ hall
    have hp : (10 : Int) ^ (s.data.toList.take k).length ≤ 10 ^ 8 := by
      have : (s.data.toList.take k).length ≤ 8 := by have := List.length_take_le k s.data.toList; omega
      exact_mod_cast Nat.pow_le_pow_right (by omega) this
    have v2 : valD (s.data.toList.take k) ≤ 100000000 := by omega
    obtain ⟨v, hv⟩ : ∃ v, valD (s.data.toList.take k) = v := ⟨_, rfl⟩
    rw [hv] at v0 v2 ⊢
    have HV := Lib.hid hv
    have HALL := Lib.hid hall
    clear hv hall v1 hp
    by_cases hlt : k < s.size
    · obtain ⟨c, hc⟩ : ∃ c, s[k] = c := ⟨_, rfl⟩
      have HC := Lib.hid hc
      have hc255 : (c.toNat : Int) ≤ 255 := by have := c.toNat_lt; omega
      by_cases c1 : (c.toNat : Int) < 48
      · go_wp2
        go_ret
        exact ⟨ret_i64 (by unfold numD; rw [if_neg]; rw [all_take s k hlt (by rw [HC.out]; unfold isD; simp; omega)]; simp), rfl⟩
      · by_cases c2 : (c.toNat : Int) > 57
        · go_wp2
          go_ret
          exact ⟨ret_i64 (by unfold numD; rw [if_neg]; rw [all_take s k hlt (by rw [HC.out]; unfold isD; simp; omega)]; simp), rfl⟩
        · have HN := Lib.hid (show valD (s.data.toList.take (k + 1)) = v * 10 + ((c.toNat : Int) - 48) by rw [take_snoc s k hlt, valD_snoc, HV.out, HC.out])
          have HA := Lib.hid (show (s.data.toList.take (k + 1)).all isD = true by rw [take_snoc s k hlt, List.all_append, HALL.out, HC.out]; simp [isD]; omega)
          go_wp2
          go_round
          case rel => exact ⟨k + 1, by omega, by go_num, by rw [HN.out], HA.out⟩
          case measure => simp [intOf]; omega
    · go_wp2
      go_ret
      have hks : k = s.size := by omega
      have ht : s.data.toList.take k = s.data.toList := List.take_of_length_le (by simp; omega)
      exact ⟨ret_i64 (by unfold numD; rw [ht] at HALL HV; rw [if_pos HALL.out, HV.out]), rfl⟩
end Go.Proofs.YtphijnkiiokieaaGreatDoor.Day
/- Dates: digits, how a date is shown. -/
namespace Go.Proofs.YtphijnkiiokieaaGreatDoor.Day
open Go.RowKit
set_option linter.unusedVariables false
set_option maxRecDepth 20000
attribute [local go_sem ↓] Go.wp_at_zero Go.wp_at_succ
abbrev Tab (B : Nat) (w : World) : Prop := Lib.TabBelow Tryz.prog B w "internal/strconv.uint64pow10" .u64 Lib.pow10Tab
def dg (n : Nat) : UInt8 := UInt8.ofNat (48 + n % 10)
def dig2 (n : Nat) : List UInt8 := [dg (n / 10), dg n]
def dig4 (n : Nat) : List UInt8 := [dg (n / 1000), dg (n / 100), dg (n / 10), dg n]
theorem dec1 {n : Nat} (h : n < 10) : Lib.decDigits n = [dg n] := by
  rw [Lib.decDigits, dif_pos h]; unfold dg; rw [Nat.mod_eq_of_lt h]
theorem decS {n : Nat} (h : ¬ n < 10) : Lib.decDigits n = Lib.decDigits (n / 10) ++ [dg n] := by
  rw [Lib.decDigits, dif_neg h]; rfl
theorem pad2 (n : Nat) (h : n < 100) : Lib.repeatL [48] (2 - (Lib.decDigits n).length) ++ Lib.decDigits n = dig2 n := by
  by_cases h1 : n < 10
  · rw [dec1 h1]
    have : n / 10 = 0 := by omega
    simp [dig2, this, Lib.repeatL, dg]
  · rw [decS h1, dec1 (by omega : n / 10 < 10)]
    simp [dig2, Lib.repeatL]
theorem pad4 (n : Nat) (h : n < 10000) : Lib.repeatL [48] (4 - (Lib.decDigits n).length) ++ Lib.decDigits n = dig4 n := by
  by_cases h1 : n < 10
  · rw [dec1 h1]
    have e1 : n / 10 = 0 := by omega
    have e2 : n / 100 = 0 := by omega
    have e3 : n / 1000 = 0 := by omega
    simp [dig4, e1, e2, e3, Lib.repeatL, dg]
  · rw [decS h1]
    by_cases h2 : n / 10 < 10
    · rw [dec1 h2]
      have e2 : n / 100 = 0 := by omega
      have e3 : n / 1000 = 0 := by omega
      simp [dig4, e2, e3, Lib.repeatL, dg]
    · rw [decS h2, Nat.div_div_eq_div_mul]
      by_cases h3 : n / 100 < 10
      · rw [dec1 h3]
        have e3 : n / 1000 = 0 := by omega
        simp [dig4, e3, Lib.repeatL, dg]
      · rw [decS h3, Nat.div_div_eq_div_mul, dec1 (by omega : n / (10 * 10 * 10) < 10)]
        simp [dig4, Lib.repeatL]
theorem decL (n : Nat) : 1 ≤ (Lib.decDigits n).length := by
  by_cases h1 : n < 10
  · rw [dec1 h1]; simp
  · rw [decS h1]; simp
theorem decL2 (n : Nat) (h : n < 100) : (Lib.decDigits n).length ≤ 2 := by
  by_cases h1 : n < 10
  · rw [dec1 h1]; simp
  · rw [decS h1, dec1 (by omega : n / 10 < 10)]; simp
theorem decL4 (n : Nat) (h : n < 10000) : (Lib.decDigits n).length ≤ 4 := by
  by_cases h1 : n < 10
  · rw [dec1 h1]; simp
  · have := decL2 (n / 100) (by omega)
    rw [decS h1]
    by_cases h2 : n / 10 < 10
    · rw [dec1 h2]; simp
    · rw [decS h2, Nat.div_div_eq_div_mul]; simp; omega
set_option maxHeartbeats 1000000 in
theorem digits_any (n wd : Nat) (w : World) (ht : Tab w.heap.size w) (h1 : n < 10000) (h2 : (Lib.decDigits n).length ≤ wd) (h3 : wd ≤ 4) : Calls Tryz.prog 187 #[.int .i64 (n : Int), .int .i64 (wd : Int)] w fun e w' => e = .returned (.string ⟨(Lib.repeatL [48] (wd - (Lib.decDigits n).length) ++ Lib.decDigits n).toArray⟩) ∧ Below w.heap.size w w' := by
  obtain ⟨D, hD⟩ : ∃ D : ByteArray, (⟨(Lib.decDigits n).toArray⟩ : ByteArray) = D := ⟨_, rfl⟩
  have hDs : D.size = (Lib.decDigits n).length := by rw [← hD]; simp [ByteArray.size]
  obtain ⟨q, hq⟩ : ∃ q : Nat, wd - D.size = q := ⟨_, rfl⟩
  have hqi : (wd : Int) - (D.size : Int) = (q : Int) := by omega
  obtain ⟨R, hR⟩ : ∃ R : ByteArray, (⟨(Lib.repeatL [48] q).toArray⟩ : ByteArray) = R := ⟨_, rfl⟩
  have hRs : R.size = q := by rw [← hR]; simp [ByteArray.size, Lib.repeatL_length]
  have HI := Lib.hid (Tryz.strconv_Itoa (n : Int) (by omega) (by omega) w ht.here)
  have HE := Lib.hid (show (⟨(Lib.itoa (n : Int)).toArray⟩ : ByteArray) = D by rw [Lib.itoa_nonneg, hD])
  have HR := Lib.hid hR
  have hno : ¬ (9223372036854775807 < R.size + D.size) := by omega
  have HQ := Lib.hid (show q ≤ 4 by omega)
  have HA := Lib.hid (show (⟨(Lib.repeatL [48] (wd - (Lib.decDigits n).length) ++ Lib.decDigits n).toArray⟩ : ByteArray) = R ++ D by
    apply ByteArray.ext
    apply Array.toList_inj.1
    rw [← hDs, hq, ← hR, ← hD]
    simp)
  rw [HA.out]
  have HRP := Lib.hid (fun W => (show Calls Tryz.prog 196 #[.string ⟨#[48]⟩, .int .i64 (q : Int)] W fun e w' => e = .returned (.string R) ∧ Below W.heap.size W w' by
    rw [← hR]
    exact Tryz.strings_Repeat ⟨#[48]⟩ q W (by omega) (by show 1 * q ≤ _; omega)))
  have HX := Lib.hid hDs
  clear hD hR hq ht hDs hRs
  go_enter Tryz.func187, Tryz.ntmps187
  go_wp2_with (first
    | (go_at_call 195
       refine HI.out.mono ?_
       rintro _ w2 ⟨rfl, kk, os, hw2⟩
       rw [HE.out]
       have hb2 := Lib.hid (show Below w.heap.size w w2 by rw [hw2]; exact Lib.below_grow _ _ (Nat.le_refl _) _ _)
       clear hw2)
    | (go_at_call 196
       refine (HRP.out _).mono ?_
       rintro _ w3 ⟨rfl, hb⟩
       have hb3 := Lib.hid (hb2.out.trans (hb.mono hb2.out.size))
       clear hb)
    | fail)
  go_ret
  exact ⟨rfl, hb3.out⟩
theorem digits2 (n : Nat) (w : World) (ht : Tab w.heap.size w) (h : n < 100) : Calls Tryz.prog 187 #[.int .i64 (n : Int), .int .i64 2] w fun e w' => e = .returned (.string ⟨(dig2 n).toArray⟩) ∧ Below w.heap.size w w' := by
  have := digits_any n 2 w ht (by omega) (decL2 n h) (by omega)
  rwa [pad2 n h] at this
theorem digits4 (n : Nat) (w : World) (ht : Tab w.heap.size w) (h : n < 10000) : Calls Tryz.prog 187 #[.int .i64 (n : Int), .int .i64 4] w fun e w' => e = .returned (.string ⟨(dig4 n).toArray⟩) ∧ Below w.heap.size w w' := by
  have := digits_any n 4 w ht h (decL4 n h) (by omega)
  rwa [pad4 n h] at this
end Go.Proofs.YtphijnkiiokieaaGreatDoor.Day
namespace Go.Proofs.YtphijnkiiokieaaGreatDoor.Day
open Go.RowKit
set_option linter.unusedVariables false
set_option maxRecDepth 20000
attribute [local go_sem ↓] Go.wp_at_zero Go.wp_at_succ
def headL (y : Nat) : List UInt8 := if y = 0 then [45, 45] else dig4 y ++ [45]
def showL (y m d : Nat) : List UInt8 := headL y ++ dig2 m ++ [45] ++ dig2 d
def showS (y m d : Int) : ByteArray := if mayB y m d = true then ⟨(showL y.toNat m.toNat d.toNat).toArray⟩ else ⟨#[]⟩
theorem bs_ext {a b : ByteArray} (h : a.data.toList = b.data.toList) : a = b := ByteArray.ext (Array.toList_inj.1 h)
theorem bs_size (a : ByteArray) : a.size = a.data.toList.length := by simp
theorem Lib.TabBelow.mono' {w : World} {B C : Nat} (h : Tab B w) (hBC : B ≤ C) : Tab C w := fun w' hb => h w' (hb.mono hBC)
/-- The table goes on reading so behind a call. -/
theorem tab_on {w w' : World} (h : Tab w.heap.size w) (hb : Below w.heap.size w w') : Tab w'.heap.size w' := Lib.TabBelow.mono' (h.on hb) hb.size
set_option maxHeartbeats 2000000 in
theorem show_any (y m d : Int) (w : World) (ht : Tab w.heap.size w) : Calls Tryz.prog 171 #[.agg #[.int .i64 y, .int .i64 m, .int .i64 d]] w fun e w' => e = .returned (.string (showS y m d)) ∧ Below w.heap.size w w' := by
  cases hm : mayB y m d
  · have HM := Lib.hid hm
    clear hm
    go_enter Tryz.func171, Tryz.ntmps171
    go_wp2_with (first
      | (go_at_call 170; refine (may_any _ _ _ _).mono ?_; rintro _ w2 ⟨rfl, hb⟩; rw [HM.out]; have HB := Lib.hid hb; clear hb)
      | fail)
    go_ret
    exact ⟨by unfold showS; rw [HM.out]; rfl, ((Below.refl _ _).alloc (Nat.le_refl _) _).trans (HB.out.mono (by simp))⟩
  · have HM := Lib.hid hm
    obtain ⟨m1, m2, m3, m4, m5, m6⟩ := may_iff.1 hm
    have m7 := (dim_bd y m).2
    have HSH := Lib.hid (show showS y m d = ⟨(showL y.toNat m.toNat d.toNat).toArray⟩ by unfold showS; rw [if_pos hm])
    rw [HSH.out]
    clear HSH hm
    obtain ⟨Y, rfl⟩ := Int.eq_ofNat_of_zero_le m1
    obtain ⟨M, rfl⟩ := Int.eq_ofNat_of_zero_le (show 0 ≤ m by omega)
    obtain ⟨D, rfl⟩ := Int.eq_ofNat_of_zero_le (show 0 ≤ d by omega)
    simp only [Int.toNat_natCast]
    have HY := Lib.hid (show Y < 10000 by omega)
    have HMM := Lib.hid (show M < 100 by omega)
    have HDD := Lib.hid (show D < 100 by omega)
    clear m2 m3 m4 m5 m6 m7 m1
    have HT0 := Lib.hid (show Tab (w.alloc (.cells #[.int .i64 (Y : Int), .int .i64 (M : Int), .int .i64 (D : Int)] 130)).heap.size (w.alloc (.cells #[.int .i64 (Y : Int), .int .i64 (M : Int), .int .i64 (D : Int)] 130)) from tab_on ht ((Below.refl _ _).alloc (Nat.le_refl _) _))
    obtain ⟨Q, hQ⟩ : ∃ Q : ByteArray, (⟨(dig4 Y).toArray⟩ : ByteArray) = Q := ⟨_, rfl⟩
    obtain ⟨P, hP⟩ : ∃ P : ByteArray, (⟨(dig2 M).toArray⟩ : ByteArray) = P := ⟨_, rfl⟩
    obtain ⟨R, hR⟩ : ∃ R : ByteArray, (⟨(dig2 D).toArray⟩ : ByteArray) = R := ⟨_, rfl⟩
    have hQs : Q.size = 4 := by rw [← hQ]; rfl
    have hPs : P.size = 2 := by rw [← hP]; rfl
    have hRs : R.size = 2 := by rw [← hR]; rfl
    have HQ := Lib.hid hQ
    have HP := Lib.hid hP
    have HR := Lib.hid hR
    clear hQ hP hR
    by_cases h0 : Y = 0
    · have HL := Lib.hid (show (⟨(showL Y M D).toArray⟩ : ByteArray) = ⟨#[45, 45]⟩ ++ P ++ ⟨#[45]⟩ ++ R by
        apply bs_ext
        rw [← HP.out, ← HR.out]
        simp [showL, headL, h0])
      rw [HL.out]
      have h0' : ((Y : Int) == 0) = true := by simp [h0]
      have H0 := Lib.hid h0
      clear h0
      go_enter Tryz.func171, Tryz.ntmps171
      go_wp2_with (first
        | (go_at_call 170; refine (may_any _ _ _ _).mono ?_; rintro _ w2 ⟨rfl, hb⟩; rw [HM.out]; have HX2 := Lib.hid ((Blk.new w 130 #[.int .i64 (Y : Int), .int .i64 (M : Int), .int .i64 (D : Int)]).below hb (by simp)); have HT2 := Lib.hid (tab_on HT0.out hb); have HB := Lib.hid (((Below.refl w.heap.size w).alloc (Nat.le_refl _) _).trans (hb.mono (by simp))); obtain ⟨a0, a1, a2⟩ := Blk3.cells HX2.out; clear hb)
        | fail)
      have b1 : w2.drew.cell? ⟨w.heap.size, 1, none⟩ = some (.int .i64 (M : Int)) := HX2.out.cell 1
      have b2 : w2.drew.cell? ⟨w.heap.size, 2, none⟩ = some (.int .i64 (D : Int)) := HX2.out.cell 2
      have HTD := Lib.hid (show Tab w2.drew.heap.size w2.drew from tab_on HT2.out (Below.refl _ _).drew)
      have HLT := Lib.hid HX2.out.lt
      go_region_held3 (fun w' => w'.cell? ⟨w.heap.size, 1, none⟩ = some (.int .i64 (M : Int)) ∧ w'.cell? ⟨w.heap.size, 2, none⟩ = some (.int .i64 (D : Int))) (refine ⟨?_, ?_⟩ <;> assumption) (first
        | (go_at_call 187
           (with_reducible refine (digits2 M _ HTD.out HMM.out).mono ?_)
           rintro _ w5 ⟨rfl, hb⟩
           rw [HP.out]
           have HX5 := Lib.hid ((HX2.out.drew).below hb HLT.out)
           have c1 : w5.cell? ⟨w.heap.size, 1, none⟩ = some (.int .i64 (M : Int)) := HX5.out.cell 1
           have c2 : w5.cell? ⟨w.heap.size, 2, none⟩ = some (.int .i64 (D : Int)) := HX5.out.cell 2
           have HT5 := Lib.hid (tab_on HTD.out hb)
           have HB5 := Lib.hid (HB.out.drew.trans (hb.mono HB.out.size))
           clear hb HTD)
        | (go_at_call 187
           (with_reducible refine (digits2 D _ HT5.out HDD.out).mono ?_)
           rintro _ w6 ⟨rfl, hb⟩
           rw [HR.out]
           have HX6 := Lib.hid (HX5.out.below hb HX5.out.lt)
           have d1 : w6.cell? ⟨w.heap.size, 1, none⟩ = some (.int .i64 (M : Int)) := HX6.out.cell 1
           have d2 : w6.cell? ⟨w.heap.size, 2, none⟩ = some (.int .i64 (D : Int)) := HX6.out.cell 2
           have HB6 := Lib.hid (HB5.out.trans (hb.mono HB5.out.size))
           clear hb))
      all_goals (
        go_wp2
        go_ret
        exact ⟨rfl, HB6.out⟩)
    · have HL := Lib.hid (show (⟨(showL Y M D).toArray⟩ : ByteArray) = Q ++ ⟨#[45]⟩ ++ P ++ ⟨#[45]⟩ ++ R by
        apply bs_ext
        rw [← HP.out, ← HR.out, ← HQ.out]
        simp [showL, headL, h0])
      rw [HL.out]
      have h0' : ((Y : Int) == 0) = false := by simpa using h0
      have H0 := Lib.hid h0
      clear h0
      go_enter Tryz.func171, Tryz.ntmps171
      go_wp2_with (first
        | (go_at_call 170; refine (may_any _ _ _ _).mono ?_; rintro _ w2 ⟨rfl, hb⟩; rw [HM.out]; have HX2 := Lib.hid ((Blk.new w 130 #[.int .i64 (Y : Int), .int .i64 (M : Int), .int .i64 (D : Int)]).below hb (by simp)); have HT2 := Lib.hid (tab_on HT0.out hb); have HB := Lib.hid (((Below.refl w.heap.size w).alloc (Nat.le_refl _) _).trans (hb.mono (by simp))); obtain ⟨a0, a1, a2⟩ := Blk3.cells HX2.out; clear hb)
        | (go_at_call 187
           (with_reducible refine (digits4 Y _ HT2.out HY.out).mono ?_)
           rintro _ w3 ⟨rfl, hb⟩
           rw [HQ.out]
           have HX3 := Lib.hid (HX2.out.below hb HX2.out.lt)
           have HT3 := Lib.hid (tab_on HT2.out hb)
           have HB3 := Lib.hid (HB.out.trans (hb.mono HB.out.size))
           clear hb HX2 HT2 HB a0 a1 a2)
        | fail)
      have b1 : w3.drew.cell? ⟨w.heap.size, 1, none⟩ = some (.int .i64 (M : Int)) := HX3.out.cell 1
      have b2 : w3.drew.cell? ⟨w.heap.size, 2, none⟩ = some (.int .i64 (D : Int)) := HX3.out.cell 2
      have HTD := Lib.hid (show Tab w3.drew.heap.size w3.drew from tab_on HT3.out (Below.refl _ _).drew)
      have HLT := Lib.hid HX3.out.lt
      go_region_held3 (fun w' => w'.cell? ⟨w.heap.size, 1, none⟩ = some (.int .i64 (M : Int)) ∧ w'.cell? ⟨w.heap.size, 2, none⟩ = some (.int .i64 (D : Int))) (refine ⟨?_, ?_⟩ <;> assumption) (first
        | (go_at_call 187
           (with_reducible refine (digits2 M _ HTD.out HMM.out).mono ?_)
           rintro _ w5 ⟨rfl, hb⟩
           rw [HP.out]
           have HX5 := Lib.hid ((HX3.out.drew).below hb HLT.out)
           have c1 : w5.cell? ⟨w.heap.size, 1, none⟩ = some (.int .i64 (M : Int)) := HX5.out.cell 1
           have c2 : w5.cell? ⟨w.heap.size, 2, none⟩ = some (.int .i64 (D : Int)) := HX5.out.cell 2
           have HT5 := Lib.hid (tab_on HTD.out hb)
           have HB5 := Lib.hid (HB3.out.drew.trans (hb.mono HB3.out.size))
           clear hb HTD)
        | (go_at_call 187
           (with_reducible refine (digits2 D _ HT5.out HDD.out).mono ?_)
           rintro _ w6 ⟨rfl, hb⟩
           rw [HR.out]
           have HX6 := Lib.hid (HX5.out.below hb HX5.out.lt)
           have d1 : w6.cell? ⟨w.heap.size, 1, none⟩ = some (.int .i64 (M : Int)) := HX6.out.cell 1
           have d2 : w6.cell? ⟨w.heap.size, 2, none⟩ = some (.int .i64 (D : Int)) := HX6.out.cell 2
           have HB6 := Lib.hid (HB5.out.trans (hb.mono HB5.out.size))
           clear hb))
      all_goals (
        go_wp2
        go_ret
        exact ⟨rfl, HB6.out⟩)
end Go.Proofs.YtphijnkiiokieaaGreatDoor.Day
