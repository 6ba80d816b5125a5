/- Addresses: local parts; the two parts; which is one; which are the same; what is kept. -/
import Derived.Test.YthknkglhppngoaaDoorMw
import Derived.Test.YthknkglhppngoaaDoorMn
import Derived.Deep.RegionWith
namespace Go.Proofs.YthknkglhppngoaaDoor
open Go.RowKit
open Go.Lib hiding intOf
set_option linter.unusedVariables false
set_option maxRecDepth 20000
theorem dot_index (c : UInt8) : (dotC c = true ∧ (∃ j : Int, 0 ≤ j ∧ indexByte [46, 95, 43, 45] c = j)) ∨ (dotC c = false ∧ indexByte [46, 95, 43, 45] c = -1) := by
  cases h : dotC c with
  | true =>
    refine .inl ⟨rfl, _, ?_, rfl⟩
    unfold dotC at h
    simp only [Bool.or_eq_true, beq_iff_eq] at h
    rcases h with ((h | h) | h) | h <;> subst h <;> decide
  | false =>
    refine .inr ⟨rfl, ?_⟩
    unfold dotC at h
    simp only [Bool.or_eq_false_iff, beq_eq_false_iff_ne] at h
    obtain ⟨⟨⟨h1, h2⟩, h3⟩, h4⟩ := h
    simp only [indexByte, beq_iff_eq, h1.symm, h2.symm, h3.symm, h4.symm, if_false, if_true]
set_option maxHeartbeats 4000000 in
theorem isLocal_any (s : ByteArray) (hs : s.size ≤ 1000000) (w : World) (hM : Mx w) : Calls Tryd.prog 54 #[.string s] w fun e w' => e = .returned (.bool (localB s.data.toList)) ∧ w' = w := by
  have hsl : s.data.toList.length = s.size := by simp
  obtain ⟨m, hm⟩ := hM
  have hz1 : ((⟨#[46]⟩ : ByteArray) ++ s).size = s.size + 1 := by rw [ByteArray.size_append]; show 1 + _ = _; omega
  have hz2 : (((⟨#[46]⟩ : ByteArray) ++ s) ++ ⟨#[46]⟩).size = s.size + 2 := by rw [ByteArray.size_append, hz1]; show _ + 1 + 1 = _; rfl
  have hC := Tryd.strings_Contains (((⟨#[46]⟩ : ByteArray) ++ s) ++ ⟨#[46]⟩) ⟨#[46, 46]⟩ m w (by omega) hm
  have hpl : (((⟨#[46]⟩ : ByteArray) ++ s) ++ ⟨#[46]⟩).data.toList = [46] ++ s.data.toList ++ [46] := by rw [app_list, app_list]
  rw [hpl, show (⟨#[46, 46]⟩ : ByteArray).data.toList = [46, 46] from rfl, contains_adj] at hC
  have hr0 : localB s.data.toList = (decide (1 ≤ (s.size : Int)) && decide ((s.size : Int) ≤ 32) && !adj ([46] ++ s.data.toList ++ [46]) && s.data.toList.all locC) := by
    unfold localB; rw [hsl]
  obtain ⟨r, hr⟩ : ∃ r, localB s.data.toList = r := ⟨_, rfl⟩
  obtain ⟨ad, had⟩ : ∃ r, adj ([46] ++ s.data.toList ++ [46]) = r := ⟨_, rfl⟩
  rw [hr, had] at hr0
  rw [hr]
  rw [had] at hC
  have HR := Lib.hid hr0
  have HC0 := Lib.hid hC
  have hsI : (s.size : Int) ≤ 1000000 := by omega
  have hq1 : ((⟨#[46]⟩ : ByteArray).size : Int) = 1 := rfl
  have hz1I : (((⟨#[46]⟩ : ByteArray) ++ s).size : Int) = (s.size : Int) + 1 := by omega
  clear hr0 hr hsl hC hz1 hz2 hpl had hm
  by_cases h1 : (s.size : Int) < 1
  · have H0 := Lib.hid (show r = false by rw [HR.out, decide_eq_false (by omega)]; rfl)
    clear hz1I
    go_enter Tryd.func54, Tryd.ntmps54
    go_wp2
    go_ret
    exact ⟨by rw [H0.out]; rfl, rfl⟩
  · by_cases h32 : (s.size : Int) > 32
    · have H0 := Lib.hid (show r = false by rw [HR.out, decide_eq_false (show ¬ (s.size : Int) ≤ 32 by omega)]; simp)
      clear hz1I
      go_enter Tryd.func54, Tryd.ntmps54
      go_wp2
      go_ret
      exact ⟨by rw [H0.out]; rfl, rfl⟩
    · have HR2 := Lib.hid (show r = (!ad && s.data.toList.all locC) by rw [HR.out, decide_eq_true (by omega), decide_eq_true (by omega)]; rfl)
      clear HR
      cases ad with
      | true =>
        have H0 := Lib.hid (show r = false by rw [HR2.out]; rfl)
        go_enter Tryd.func54, Tryd.ntmps54
        go_wp2_with (go_at_call 62; (with_reducible refine (HC0.out).mono ?_); rintro e w1 ⟨rfl, hw⟩; replace hw := hw.symm; subst hw)
        go_ret
        exact ⟨by rw [H0.out]; rfl, rfl⟩
      | false =>
        have HR3 := Lib.hid (show r = s.data.toList.all locC by rw [HR2.out]; rfl)
        have HS := Lib.hid sod_any
        have HIB := Lib.hid (fun (c : UInt8) w => Tryd.strings_IndexByte ⟨#[46, 95, 43, 45]⟩ (c.toNat : Int) w)
        clear HR2
        go_enter Tryd.func54, Tryd.ntmps54
        go_wp2_with (go_at_call 62; (with_reducible refine (HC0.out).mono ?_); rintro e w1 ⟨rfl, hw⟩; replace hw := hw.symm; subst hw)
        go_loop [21] (fun i => ∃ k : Nat, k ≤ s.size ∧ i = .int .i64 (k : Int) ∧ (s.data.toList.take k).all locC = true) (fun i => s.size - (intOf i).toNat)
        case atStart => exact ⟨0, Nat.zero_le _, rfl, by simp⟩
        case round =>
          obtain ⟨k, hk, rfl, hno⟩ := hrel
          have HN := Lib.hid hno
          clear hno hz1I
          by_cases hlt : k < s.size
          · have HT := Lib.hid (take_snoc_all locC s k hlt)
            have HM := Lib.hid (miss_all locC s k hlt)
            obtain ⟨c, hc⟩ : ∃ c, s[k] = c := ⟨_, rfl⟩
            rw [hc] at HT HM
            have hc8 : (c.toNat : Int) ≤ 255 := by have := c.toNat_lt; omega
            have HC := Lib.hid (fun w => HS.out c w)
            have hi1 := HIB.out c
            have e8 : (c.toNat : Int).toNat.toUInt8 = c := by simp
            rw [e8] at hi1
            by_cases hcap : 65 ≤ (c.toNat : Int) ∧ (c.toNat : Int) ≤ 90
            · have HE := Lib.hid (show (s.data.toList.take (k + 1)).all locC = true by
                rw [HT.out, HN.out]; unfold locC capB; rw [decide_eq_true hcap.1, decide_eq_true hcap.2]; rfl)
              obtain ⟨g1, g2⟩ := hcap
              clear hi1 e8
              go_wp2
              exact ⟨⟨k + 1, by omega, by go_num, HE.out⟩, by simp [intOf]; omega⟩
            · have hcf : capB c = false := by
                unfold capB
                rw [Bool.and_eq_false_iff]
                by_cases h : 65 ≤ (c.toNat : Int)
                · right; exact decide_eq_false (fun e => hcap ⟨h, e⟩)
                · left; exact decide_eq_false h
              have HCF := Lib.hid hcf
              have hsplit : ¬ (65 ≤ (c.toNat : Int)) ∨ (65 ≤ (c.toNat : Int) ∧ ¬ (c.toNat : Int) ≤ 90) := by
                by_cases h : 65 ≤ (c.toNat : Int)
                · exact .inr ⟨h, fun e => hcap ⟨h, e⟩⟩
                · exact .inl h
              clear hcf hcap
              cases hd : sodB c with
              | true =>
                rw [hd] at HC
                have HE := Lib.hid (show (s.data.toList.take (k + 1)).all locC = true by rw [HT.out, HN.out]; unfold locC; rw [hd]; simp)
                clear hd hi1 e8
                rcases hsplit with g | ⟨g1, g⟩
                · have g' : decide (65 ≤ (c.toNat : Int)) = false := by simpa using g
                  go_wp2_with (go_at_call 63; (with_reducible refine (HC.out _).mono ?_); rintro e w1 ⟨rfl, hw⟩; replace hw := hw.symm; subst hw)
                  exact ⟨⟨k + 1, by omega, by go_num, HE.out⟩, by simp [intOf]; omega⟩
                · have g' : decide ((c.toNat : Int) ≤ 90) = false := by simpa using g
                  go_wp2_with (go_at_call 63; (with_reducible refine (HC.out _).mono ?_); rintro e w1 ⟨rfl, hw⟩; replace hw := hw.symm; subst hw)
                  exact ⟨⟨k + 1, by omega, by go_num, HE.out⟩, by simp [intOf]; omega⟩
              | false =>
                rw [hd] at HC
                rcases dot_index c with ⟨b1, j, hj, b2⟩ | ⟨b1, b2⟩
                · rw [b2] at hi1
                  have HI1 := Lib.hid hi1
                  have HE := Lib.hid (show (s.data.toList.take (k + 1)).all locC = true by rw [HT.out, HN.out]; unfold locC; rw [b1]; simp)
                  have hj' : ¬ j < 0 := by omega
                  clear hi1 b2 b1 e8 hd
                  rcases hsplit with g | ⟨g1, g⟩
                  · have g' : decide (65 ≤ (c.toNat : Int)) = false := by simpa using g
                    go_wp2_with (first | (go_at_call 63; (with_reducible refine (HC.out _).mono ?_); rintro e w1 ⟨rfl, hw⟩; replace hw := hw.symm; subst hw) | (go_at_call 39; (with_reducible refine (HI1.out _).mono ?_); rintro e w1 ⟨rfl, hw⟩; replace hw := hw.symm; subst hw))
                    exact ⟨⟨k + 1, by omega, by go_num, HE.out⟩, by simp [intOf]; omega⟩
                  · have g' : decide ((c.toNat : Int) ≤ 90) = false := by simpa using g
                    go_wp2_with (first | (go_at_call 63; (with_reducible refine (HC.out _).mono ?_); rintro e w1 ⟨rfl, hw⟩; replace hw := hw.symm; subst hw) | (go_at_call 39; (with_reducible refine (HI1.out _).mono ?_); rintro e w1 ⟨rfl, hw⟩; replace hw := hw.symm; subst hw))
                    exact ⟨⟨k + 1, by omega, by go_num, HE.out⟩, by simp [intOf]; omega⟩
                · rw [b2] at hi1
                  have HI1 := Lib.hid hi1
                  have H0 := Lib.hid (show r = false by rw [HR3.out]; exact HM.out (by unfold locC; rw [b1, hd, HCF.out]; rfl))
                  clear hi1 b2 b1 e8 hd
                  rcases hsplit with g | ⟨g1, g⟩
                  · have g' : decide (65 ≤ (c.toNat : Int)) = false := by simpa using g
                    go_wp2_with (first | (go_at_call 63; (with_reducible refine (HC.out _).mono ?_); rintro e w1 ⟨rfl, hw⟩; replace hw := hw.symm; subst hw) | (go_at_call 39; (with_reducible refine (HI1.out _).mono ?_); rintro e w1 ⟨rfl, hw⟩; replace hw := hw.symm; subst hw))
                    go_ret
                    exact ⟨by rw [H0.out]; rfl, rfl⟩
                  · have g' : decide ((c.toNat : Int) ≤ 90) = false := by simpa using g
                    go_wp2_with (first | (go_at_call 63; (with_reducible refine (HC.out _).mono ?_); rintro e w1 ⟨rfl, hw⟩; replace hw := hw.symm; subst hw) | (go_at_call 39; (with_reducible refine (HI1.out _).mono ?_); rintro e w1 ⟨rfl, hw⟩; replace hw := hw.symm; subst hw))
                    go_ret
                    exact ⟨by rw [H0.out]; rfl, rfl⟩
          · have hks : k = s.size := by omega
            subst hks
            have H0 := Lib.hid (show r = true by rw [HR3.out, ← HN.out, List.take_of_length_le (by simp)])
            go_wp2
            go_ret
            exact ⟨by rw [H0.out]; rfl, rfl⟩
/-- What Parts tells. -/
def partsOf (p q : ByteArray) (found : Bool) (n : Nat) : ByteArray × ByteArray × Bool := if (found && decide ((n : Int) ≤ 64) && localB p.data.toList && domB q.data.toList) = true then (p, q, true) else (⟨#[]⟩, ⟨#[]⟩, false)
def partsS (s : ByteArray) : ByteArray × ByteArray × Bool := partsOf ⟨(cut s.data.toList [64]).1.toArray⟩ ⟨(cut s.data.toList [64]).2.1.toArray⟩ (cut s.data.toList [64]).2.2 s.size
theorem parts_mail (s : ByteArray) : partsS s = if mailB s.data.toList = true then (⟨(cut s.data.toList [64]).1.toArray⟩, ⟨(cut s.data.toList [64]).2.1.toArray⟩, true) else (⟨#[]⟩, ⟨#[]⟩, false) := by
  unfold partsS partsOf mailB
  have : s.data.toList.length = s.size := by simp
  rw [this, bs_list, bs_list]
theorem parts_ok (s : ByteArray) : (partsS s).2.2 = mailB s.data.toList := by
  rw [parts_mail]
  cases h : mailB s.data.toList <;> simp
theorem cut_len (l : List UInt8) : (cut l [64]).1.length ≤ l.length ∧ (cut l [64]).2.1.length ≤ l.length := by
  by_cases h : (64 : UInt8) ∈ l
  · obtain ⟨a, b, e, ha⟩ := first_at l 64 h
    rw [e, cut_has a b 64 ha]; simp; omega
  · rw [cut_not l 64 h]; simp
set_option maxHeartbeats 4000000 in
theorem parts_any (s : ByteArray) (hs : s.size ≤ 1000000) (w : World) (hM : Mx w) : Calls Tryd.prog 44 #[.string s] w fun e w' => e = .returned (.tuple #[.string (partsS s).1, .string (partsS s).2.1, .bool (partsS s).2.2]) ∧ Below w.heap.size w w' := by
  have hlt := hM.lt
  have HMx := Lib.hid hM
  obtain ⟨m, hm⟩ := hM
  have hC := Tryd.strings_Cut s ⟨#[64]⟩ m w (by omega) hm
  have hcl := cut_len s.data.toList
  have hsl : s.data.toList.length = s.size := by simp
  have hr0 : partsS s = partsOf ⟨(cut s.data.toList [64]).1.toArray⟩ ⟨(cut s.data.toList [64]).2.1.toArray⟩ (cut s.data.toList [64]).2.2 s.size := rfl
  rw [show (⟨#[64]⟩ : ByteArray).data.toList = [64] from rfl] at hC
  obtain ⟨p, hp⟩ : ∃ p : ByteArray, (⟨(cut s.data.toList [64]).1.toArray⟩ : ByteArray) = p := ⟨_, rfl⟩
  obtain ⟨q, hq⟩ : ∃ q : ByteArray, (⟨(cut s.data.toList [64]).2.1.toArray⟩ : ByteArray) = q := ⟨_, rfl⟩
  obtain ⟨fd, hf⟩ : ∃ f, (cut s.data.toList [64]).2.2 = f := ⟨_, rfl⟩
  have hps : p.size ≤ 1000000 := by rw [← hp]; show (cut s.data.toList [64]).1.toArray.size ≤ _; rw [List.size_toArray]; omega
  have hqs : q.size ≤ 1000000 := by rw [← hq]; show (cut s.data.toList [64]).2.1.toArray.size ≤ _; rw [List.size_toArray]; omega
  rw [hp, hq, hf] at hr0 hC
  obtain ⟨r, hr⟩ : ∃ r, partsS s = r := ⟨_, rfl⟩
  rw [hr] at hr0 ⊢
  have HR := Lib.hid (show r = if (fd && decide ((s.size : Int) ≤ 64) && localB p.data.toList && domB q.data.toList) = true then (p, q, true) else (⟨#[]⟩, ⟨#[]⟩, false) from hr0)
  have HC := Lib.hid hC
  have HL := Lib.hid (fun w h => isLocal_any p hps w h)
  have HD := Lib.hid (fun w h => isDomain_any q hqs w h)
  have hsI : (s.size : Int) ≤ 1000000 := by omega
  obtain ⟨lo, hlo⟩ : ∃ l, localB p.data.toList = l := ⟨_, rfl⟩
  obtain ⟨dm, hdm⟩ : ∃ l, domB q.data.toList = l := ⟨_, rfl⟩
  rw [hlo] at HL HR
  rw [hdm] at HD HR
  have HMd := Lib.hid (fun n => (show Mx (w.drewN n) from HMx.out))
  clear hr0 hr hC hcl hsl hp hq hf hps hqs hlo hdm hm
  cases fd with
  | false =>
    have H0 := Lib.hid (show r = (⟨#[]⟩, ⟨#[]⟩, false) by rw [HR.out]; rfl)
    go_enter Tryd.func44, Tryd.ntmps44
    go_wp2_with (first | (go_at_call 11; (with_reducible refine (HC.out).mono ?_); rintro e w1 ⟨rfl, n1, hw⟩; subst hw))
    go_ret3
    exact ⟨by rw [H0.out]; rfl, below_drewN (Below.refl _ _) _⟩
  | true =>
    by_cases h64 : (s.size : Int) > 64
    · have h64' : decide ((s.size : Int) ≤ 64) = false := by simpa using h64
      have H0 := Lib.hid (show r = (⟨#[]⟩, ⟨#[]⟩, false) by rw [HR.out, h64']; rfl)
      go_enter Tryd.func44, Tryd.ntmps44
      go_wp2_with (first | (go_at_call 11; (with_reducible refine (HC.out).mono ?_); rintro e w1 ⟨rfl, n1, hw⟩; subst hw))
      go_ret3
      exact ⟨by rw [H0.out]; rfl, below_drewN (Below.refl _ _) _⟩
    · have h64' : decide ((s.size : Int) ≤ 64) = true := by simpa using h64
      have HR2 := Lib.hid (show r = if (lo && dm) = true then (p, q, true) else (⟨#[]⟩, ⟨#[]⟩, false) by rw [HR.out, h64']; rfl)
      clear HR h64'
      cases lo with
      | false =>
        have H0 := Lib.hid (show r = (⟨#[]⟩, ⟨#[]⟩, false) by rw [HR2.out]; rfl)
        go_enter Tryd.func44, Tryd.ntmps44
        go_wp2_with (first | (go_at_call 11; (with_reducible refine (HC.out).mono ?_); rintro e w1 ⟨rfl, n1, hw⟩; subst hw) | (go_at_call 54; (with_reducible refine (HL.out _ (HMd.out n1)).mono ?_); rintro e w2 ⟨rfl, hw⟩; replace hw := hw.symm; subst hw))
        go_ret3
        exact ⟨by rw [H0.out]; rfl, below_drewN (Below.refl _ _) _⟩
      | true =>
        cases dm with
        | false =>
          have H0 := Lib.hid (show r = (⟨#[]⟩, ⟨#[]⟩, false) by rw [HR2.out]; rfl)
          go_enter Tryd.func44, Tryd.ntmps44
          go_wp2_with (first | (go_at_call 11; (with_reducible refine (HC.out).mono ?_); rintro e w1 ⟨rfl, n1, hw⟩; subst hw) | (go_at_call 54; (with_reducible refine (HL.out _ (HMd.out n1)).mono ?_); rintro e w2 ⟨rfl, hw⟩; replace hw := hw.symm; subst hw) | (go_at_call 55; (with_reducible refine (HD.out _ (HMd.out n1)).mono ?_); rintro e w3 ⟨rfl, h3⟩; have HB3 := Lib.hid h3; clear h3))
          go_ret3
          exact ⟨by rw [H0.out]; rfl, (below_drewN (Below.refl w.heap.size w) n1).trans (HB3.out)⟩
        | true =>
          have H0 := Lib.hid (show r = (p, q, true) by rw [HR2.out]; rfl)
          go_enter Tryd.func44, Tryd.ntmps44
          go_wp2_with (first | (go_at_call 11; (with_reducible refine (HC.out).mono ?_); rintro e w1 ⟨rfl, n1, hw⟩; subst hw) | (go_at_call 54; (with_reducible refine (HL.out _ (HMd.out n1)).mono ?_); rintro e w2 ⟨rfl, hw⟩; replace hw := hw.symm; subst hw) | (go_at_call 55; (with_reducible refine (HD.out _ (HMd.out n1)).mono ?_); rintro e w3 ⟨rfl, h3⟩; have HB3 := Lib.hid h3; clear h3))
          go_ret3
          exact ⟨by rw [H0.out]; rfl, (below_drewN (Below.refl w.heap.size w) n1).trans (HB3.out)⟩
end Go.Proofs.YthknkglhppngoaaDoor
