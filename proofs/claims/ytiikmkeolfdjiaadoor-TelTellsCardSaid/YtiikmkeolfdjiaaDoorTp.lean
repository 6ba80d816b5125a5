/- Telephone numbers: the reference's ShowTel, bare, Match. -/
import Derived.Test.YtiikmkeolfdjiaaDoorTq
namespace Go.Proofs.YtiikmkeolfdjiaaDoor
open Go.RowKit
open Go.Lib hiding intOf
set_option linter.unusedVariables false
set_option maxRecDepth 20000
/-- What the reference has behind n digits: the blank stands there already. -/
def tailK (d : List UInt8) (n : Nat) : List UInt8 := if 0 < n ∧ n % 3 = 0 ∧ n < d.length then [32] else []
theorem tail_step (d : List UInt8) (n : Nat) (h : n < d.length) : showK d n ++ tailK d n ++ [d.getD n 0] = showK d (n + 1) := by
  unfold tailK
  rw [show showK d (n + 1) = (if 0 < n ∧ n % 3 = 0 then showK d n ++ [32] else showK d n) ++ [d.getD n 0] from rfl]
  by_cases hc : 0 < n ∧ n % 3 = 0
  · rw [if_pos ⟨hc.1, hc.2, h⟩, if_pos hc]
  · rw [if_neg (fun e => hc ⟨e.1, e.2.1⟩), if_neg hc, List.append_nil]
theorem tail_end (d : List UInt8) : tailK d d.length = [] := by unfold tailK; rw [if_neg (by omega)]
theorem show_some {l : List UInt8} (h : telB l = true) (p : List UInt8) (hl : l = p ++ dgsL l) : showL l = p ++ showK (dgsL l) (dgsL l).length := by
  unfold showL
  rw [if_pos h]
  congr 1
  have := congrArg List.length hl
  rw [List.length_append] at this
  have e : l.length - (dgsL l).length = p.length := by omega
  rw [e]
  conv => lhs; rw [hl]
  simp
set_option maxHeartbeats 8000000 in
theorem rshow_any (s : ByteArray) (hs : s.size ≤ 1000000) (w : World) : Calls Tryd.prog 12 #[.string s] w fun e w' => e = .returned (.string ⟨(showL s.data.toList).toArray⟩) ∧ w' = w := by
  have HI0 := ristel_any s hs
  have htl := tel_plain (l := s.data.toList)
  have hiff := telB_iff s.data.toList
  obtain ⟨p, hp1, hp2, hp3⟩ := dgs_split s.data.toList
  have hss := fun h => show_some (l := s.data.toList) h p hp1
  obtain ⟨r, hr⟩ : ∃ r : ByteArray, (⟨(showL s.data.toList).toArray⟩ : ByteArray) = r := ⟨_, rfl⟩
  rw [hr]
  cases hb : telB s.data.toList with
  | false =>
    rw [hb] at HI0
    have HI := Lib.hid HI0
    have H0 := Lib.hid (show r = ⟨#[]⟩ by rw [← hr]; unfold showL; rw [if_neg (by rw [hb]; decide)])
    clear HI0 hiff hp1 hp2 hp3 htl hss hr hb
    go_enter Tryd.func12, Tryd.ntmps12
    go_wp2_with (go_at_call 10; (with_reducible refine (HI.out _).mono ?_); rintro e w1 ⟨rfl, hw⟩; replace hw := hw.symm; subst hw)
    go_ret
    exact ⟨by rw [H0.out]; rfl, rfl⟩
  | true =>
    rw [hb] at HI0
    have HI := Lib.hid HI0
    obtain ⟨d3, d15, hdig⟩ := hiff.1 hb
    have hs16 := (htl hb).2
    rw [hss hb] at hr
    obtain ⟨d, hd⟩ : ∃ d, dgsL s.data.toList = d := ⟨_, rfl⟩
    rw [hd] at d3 d15 hdig hr hp1
    have hlen : s.size = p.length + d.length := by have := congrArg List.length hp1; rw [List.length_append] at this; simpa using this
    have hpl : p.length ≤ 1 := by rcases hp2 with rfl | rfl <;> simp
    have HAT := Lib.hid (fun (i : Nat) (h : i < s.size) => show s[i] = (p ++ d).getD i 0 by
      rw [← hp1, List.getD_eq_getElem?_getD, List.getElem?_eq_getElem (by simpa using h)]; rfl)
    have HR := Lib.hid hr
    have HDG := Lib.hid hdig
    have HP := Lib.hid hp2
    have hsI : (s.size : Int) ≤ 16 := by have : s.data.toList.length = s.size := by simp
                                         omega
    have HCO := Lib.hid (one_cut s)
    have HCU := Lib.hid (cut_one s)
    have HSL := Lib.hid (showK_len d)
    clear HI0 hiff hp1 hp2 hp3 htl hss hr hb hs16 hdig hd
    go_enter Tryd.func12, Tryd.ntmps12
    go_wp2_with (go_at_call 10; (with_reducible refine (HI.out _).mono ?_); rintro e w1 ⟨rfl, hw⟩; replace hw := hw.symm; subst hw)
    go_loop [3, 4, 5] (fun o n' i => ∃ k n : Nat, ∃ O : ByteArray, k ≤ s.size ∧ i = .int .i64 (k : Int) ∧ o = .string O ∧ n' = .int .i64 (n : Int) ∧ n ≤ d.length ∧ ((k < p.length ∧ n = 0 ∧ O.data.toList = []) ∨ (k = p.length + n ∧ O.data.toList = p ++ showK d n ++ tailK d n))) (fun _ _ i => s.size - (intOf i).toNat)
    case atStart =>
      refine ⟨0, 0, ⟨#[]⟩, Nat.zero_le _, rfl, rfl, rfl, Nat.zero_le _, ?_⟩
      rcases HP.out with hp | hp
      · right; rw [hp]; exact ⟨rfl, rfl⟩
      · left; rw [hp]; exact ⟨by decide, rfl, rfl⟩
    case round =>
      obtain ⟨k, n, O, hk, rfl, rfl, rfl, hn, hO⟩ := hrel
      have hOz : (O.size : Int) ≤ 64 := by
        have e : O.data.toList.length = O.size := by simp
        rcases hO with ⟨_, _, hO⟩ | ⟨_, hO⟩
        · rw [hO] at e; simp at e; omega
        · have h1 := HSL.out n
          have h2 : (tailK d n).length ≤ 1 := by unfold tailK; split <;> simp
          rw [hO] at e
          simp only [List.length_append] at e
          omega
      have HO := Lib.hid hO
      clear hO
      have hnI : (n : Int) ≤ 15 := by omega
      by_cases hlt : k < s.size
      · have hcut := HCO.out k hlt
        have hcz : ((s.extract k (k + 1)).size : Int) = 1 := by rw [cut_size s k hlt]; rfl
        have HCK := Lib.hid (HCU.out k hlt)
        have HAK := Lib.hid (HAT.out k hlt)
        obtain ⟨c, hc⟩ : ∃ c, s[k] = c := ⟨_, rfl⟩
        rw [hc] at HCK HAK
        have HDC := Lib.hid (fun w => digit_any c w)
        have HAL := Lib.hid (app_list O (s.extract k (k + 1)))
        have HAZ := Lib.hid (show (O ++ s.extract k (k + 1)).size = O.size + (s.extract k (k + 1)).size from ByteArray.size_append)
        have hq1 : ((⟨#[32]⟩ : ByteArray).size : Int) = 1 := rfl
        by_cases hkp : k < p.length
        · have hcf : isDig c = false := by
            rcases HP.out with hp | hp
            · rw [hp] at hkp; simp at hkp
            · rw [hp] at hkp; simp at hkp
              have : c = 43 := by rw [HAK.out, hp, hkp]; rfl
              rw [this]; decide
          rw [hcf] at HDC
          have HE := Lib.hid (show k + 1 = p.length + 0 ∧ n = 0 ∧ (O ++ s.extract k (k + 1)).data.toList = p ++ showK d 0 ++ tailK d 0 by
            rcases HP.out with hp | hp
            · rw [hp] at hkp; simp at hkp
            · rw [hp] at hkp
              simp at hkp
              rcases HO.out with ⟨_, h2, h3⟩ | ⟨h2, _⟩
              · have : c = 43 := by rw [HAK.out, hp, hkp]; rfl
                rw [HAL.out, h3, HCK.out, hp, this]; exact ⟨by rw [hkp]; rfl, h2, rfl⟩
              · rw [hp, hkp] at h2; simp at h2; omega)
          clear hcf
          have HCZ := Lib.hid hcz
          go_wp2_with (go_at_call 20; (with_reducible refine (HDC.out _).mono ?_); rintro e w1 ⟨rfl, hw⟩; replace hw := hw.symm; subst hw)
          exact ⟨⟨k + 1, n, O ++ s.extract k (k + 1), by omega, by go_num, rfl, rfl, hn, .inr (by obtain ⟨h1, h2, h3⟩ := HE.out; subst h2; exact ⟨h1, h3⟩)⟩, by simp [intOf]; omega⟩
        · obtain ⟨hkn, hOl⟩ : k = p.length + n ∧ O.data.toList = p ++ showK d n ++ tailK d n := by
            rcases HO.out with ⟨h1, _⟩ | h
            · exact absurd h1 hkp
            · exact h
          have hnd : n < d.length := by omega
          have hcd : c = d.getD n 0 := by
            rw [HAK.out, hkn]
            simp only [List.getD_eq_getElem?_getD]
            rw [List.getElem?_append_right (by omega)]
            congr 2; omega
          have hct : isDig c = true := by
            rw [hcd, List.getD_eq_getElem?_getD, List.getElem?_eq_getElem hnd]
            exact HDG.out _ (List.getElem_mem _)
          rw [hct] at HDC
          have HE := Lib.hid (show (O ++ s.extract k (k + 1)).data.toList = p ++ showK d (n + 1) by
            rw [HAL.out, hOl, HCK.out, hcd, ← tail_step d n hnd]; simp)
          have HKN := Lib.hid hkn
          clear hkn hOl hcd hct
          have HCZ := Lib.hid hcz
          have hOI2 : (O ++ s.extract k (k + 1)).size ≤ 1000 := by rw [HAZ.out]; have := HCZ.out; omega
          by_cases m0 : ((n : Int) + 1) % 3 = 0
          · have m1 : ((((n : Int) + 1) % 3) == 0) = true := by rw [m0]; rfl
            by_cases hl1 : (k : Int) < (s.size : Int) - 1
            · have HE2 := Lib.hid (show ((O ++ s.extract k (k + 1)) ++ ⟨#[32]⟩).data.toList = p ++ showK d (n + 1) ++ tailK d (n + 1) by
                rw [app_list, HE.out]; unfold tailK; rw [if_pos ⟨by omega, by omega, by have := HKN.out; omega⟩])
              clear m0
              have hOI3 : ((O ++ s.extract k (k + 1)).size : Int) ≤ 1000 := by omega
              go_wp2_with (go_at_call 20; (with_reducible refine (HDC.out _).mono ?_); rintro e w1 ⟨rfl, hw⟩; replace hw := hw.symm; subst hw)
              exact ⟨⟨k + 1, n + 1, (O ++ s.extract k (k + 1)) ++ ⟨#[32]⟩, by omega, by go_num, rfl, by go_num, by omega, .inr ⟨by have := HKN.out; omega, HE2.out⟩⟩, by simp [intOf]; omega⟩
            · have HE2 := Lib.hid (show (O ++ s.extract k (k + 1)).data.toList = p ++ showK d (n + 1) ++ tailK d (n + 1) by
                rw [HE.out]; unfold tailK; rw [if_neg (by have := HKN.out; omega), List.append_nil])
              clear m0
              have hl2 : decide ((k : Int) < (s.size : Int) - 1) = false := by simpa using hl1
              go_wp2_with (go_at_call 20; (with_reducible refine (HDC.out _).mono ?_); rintro e w1 ⟨rfl, hw⟩; replace hw := hw.symm; subst hw)
              exact ⟨⟨k + 1, n + 1, O ++ s.extract k (k + 1), by omega, by go_num, rfl, by go_num, by omega, .inr ⟨by have := HKN.out; omega, HE2.out⟩⟩, by simp [intOf]; omega⟩
          · have m1 : ((((n : Int) + 1) % 3) == 0) = false := by simpa using m0
            have HE2 := Lib.hid (show (O ++ s.extract k (k + 1)).data.toList = p ++ showK d (n + 1) ++ tailK d (n + 1) by
              rw [HE.out]; unfold tailK; rw [if_neg (by omega), List.append_nil])
            clear m0
            go_wp2_with (go_at_call 20; (with_reducible refine (HDC.out _).mono ?_); rintro e w1 ⟨rfl, hw⟩; replace hw := hw.symm; subst hw)
            exact ⟨⟨k + 1, n + 1, O ++ s.extract k (k + 1), by omega, by go_num, rfl, by go_num, by omega, .inr ⟨by have := HKN.out; omega, HE2.out⟩⟩, by simp [intOf]; omega⟩
      · have hks : k = s.size := by omega
        have H0 := Lib.hid (show r = O by
          rcases HO.out with ⟨h1, _⟩ | ⟨h1, h2⟩
          · omega
          · have : n = d.length := by omega
            subst this
            rw [tail_end, List.append_nil] at h2
            apply bs_ext
            rw [h2, ← HR.out])
        subst hks
        go_wp2
        go_ret
        exact ⟨by rw [H0.out]; rfl, rfl⟩
end Go.Proofs.YtiikmkeolfdjiaaDoor
