/- ReplicaKeeps. -/
import Derived.Test.YtpmgabeefppajaaRg
namespace Go.Proofs.Ytpmgabeefppajaa
open Go.RowKit
open Go.Lib
set_option linter.unusedVariables false
set_option linter.unusedSimpArgs false
set_option maxRecDepth 100000
set_option maxHeartbeats 16000000 in
theorem replicaKeeps_walk (w : World) (A0 : Option Addr) (len0 cap0 : Nat) (S0 : Sh.ok w (Sh.slice 9 (Sh.agg 9 [(0, 1, (Sh.int .i64)), (1, 8, (Sh.agg 8 [(0, 1, (Sh.int .i64)), (1, 1, (Sh.int .i64)), (2, 1, (Sh.int .i64)), (3, 1, (Sh.int .i64)), (4, 1, Sh.str), (5, 1, (Sh.int .i64)), (6, 1, Sh.bool), (7, 1, (Sh.slice 4 (Sh.agg 4 [(0, 1, Sh.str), (1, 1, (Sh.int .i64)), (2, 1, Sh.bool), (3, 1, Sh.str)])))]))])) [.slice A0 len0 cap0]) :
    Calls Try.prog 4 #[.slice A0 len0 cap0] w fun e w' => e = .returned (.bool true) ∧ Below w.heap.size w w' := by
  obtain ⟨b0, off0, l, hA⟩ := aqs_open S0
  have HA := Lib.hid hA
  have hlen := hA.hlen
  have hlc := hA.le
  clear S0 hA
  go_enter Try.func4, Try.ntmps4
  go_wp2_with fail
  refine (first_any w).mono ?_
  rintro _ w1 ⟨rfl, hb⟩
  have HB1 := Lib.hid hb
  have HA1 := Lib.hid (show Aqs w1 A0 len0 cap0 b0 off0 l from ⟨hlen, hlc, fun h => ⟨(HA.out.addr h).1, Nat.lt_of_lt_of_le (HA.out.addr h).2 hb.size⟩, fun j a hj i hi => (hb.cell (p := ⟨b0, _, none⟩) (HA.out.addr (by have := (List.getElem?_eq_some_iff.1 hj).1; omega)).2).trans (HA.out.cell j a hj i hi), fun a ha => rqI_below (HA.out.its a ha) hb⟩)
  have HL := Lib.hid (lights_any HA1.out)
  clear hb
  obtain ⟨y, hy⟩ : ∃ y, lightL l = y := ⟨_, rfl⟩
  have HY := Lib.hid hy
  rw [hy] at HL
  clear hy
  go_wp2_with fail
  refine HL.out.mono ?_
  rintro _ w2 ⟨rfl, hb⟩
  have HB2 := Lib.hid (HB1.out.trans (hb.mono HB1.out.size))
  clear hb HL
  cases y with
  | false =>
    go_wp2_with fail
    refine (first_any w2).mono ?_
    rintro _ w3 ⟨rfl, hb⟩
    have HB3 := Lib.hid (HB2.out.trans (hb.mono HB2.out.size))
    clear hb
    go_wp2
    go_ret
    exact ⟨rfl, HB3.out⟩
  | true =>
    have HYL := Lib.hid (show l.length ≤ 40 ∧ ∀ a ∈ l, rqLight a.r = true by
      have := HY.out
      unfold lightL at this
      simpa only [Bool.and_eq_true, decide_eq_true_eq, List.all_eq_true] using this)
    have hn40 : (len0 : Int) ≤ 40 := by have := HYL.out.1; omega
    clear HY
    go_wp2_with fail
    refine (rp_new w2).mono ?_
    rintro _ w3 ⟨g, m0, rfl, hr, hb, hg, hm⟩
    have HS0 := Lib.hid (Sr.new hr (HB2.out.trans (hb.mono HB2.out.size)) (Nat.le_trans HB2.out.size hg) (Nat.le_trans HB2.out.size hm))
    clear hr hb hg hm HB1 HA1
    go_wp2
    go_loopw [4] (fun i wr => ∃ (q m : Nat) (R : Rs), q ≤ len0 ∧ i = .int .i64 (q : Int) ∧ Sr w wr g m q R) (fun i _ => len0 - (intOf i).toNat)
    case atStart => exact ⟨0, m0, _, Nat.zero_le _, rfl, HS0.out⟩
    case round =>
      obtain ⟨q, m, R, hq, rfl, hS⟩ := hrel
      have HS := Lib.hid hS
      clear hS
      by_cases hql : q < len0
      · obtain ⟨a, ha⟩ : ∃ a, l[q]? = some a := ⟨l[q]'(by rw [HA.out.hlen]; exact hql), List.getElem?_eq_getElem _⟩
        have HLI := Lib.hid (HYL.out.2 a (List.mem_of_getElem? ha))
        have HIT := Lib.hid (HA.out.its a (List.mem_of_getElem? ha))
        have HAT := Lib.hid (fun (wr : World) (hb : Below w.heap.size w wr) => HA.out.at_ hb ha)
        obtain ⟨asked, ⟨k, e, tok, ver, card, idx, more, A1, len1, cap1, b1, off1, xs⟩⟩ := a
        simp only at HAT
        obtain ⟨rfl, -⟩ := HAT.out w (Below.refl _ _)
        have hqI : (q : Int) < (len0 : Int) := by omega
        have hq100 : q ≤ 100 := by omega
        clear ha
        obtain ⟨L, tk, mo⟩ := R
        have HT := Lib.hid (rp_token HS.out.rp)
        have HM := Lib.hid (rp_more HS.out.rp)
        have HC := Lib.hid (HS.out.cards hq100)
        go_wp2_with fail
        refine HT.out.mono ?_
        rintro _ wz ⟨rfl, hw0⟩
        replace hw0 := hw0.symm
        subst hw0
        go_wp2_with fail
        refine HM.out.mono ?_
        rintro _ wz ⟨rfl, hw0⟩
        replace hw0 := hw0.symm
        subst hw0
        go_wp2_with fail
        refine HC.out.mono ?_
        rintro _ w4 ⟨A2, cap2, b2, rfl, hi2, hb4, hge⟩
        have HI2 := Lib.hid hi2
        have HGE := Lib.hid hge
        have HS4 := Lib.hid (HS.out.step hb4)
        have HLT := Lib.hid (show g < wr.heap.size ∧ m < wr.heap.size from ⟨HS.out.rp.lt, HS.out.rp.2.lt⟩)
        clear hi2 hge hb4 HT HM HC
        have HS4d := Lib.hid (show Sr w w4.drew g m q ⟨L, tk, mo⟩ from HS4.out.drewN 1)
        have HI2d := Lib.hid (show Its w4.drew A2 L.length cap2 b2 0 (itsK L) from HI2.out.below (Below.refl _ w4).drew (fun hl => (HI2.out.addr hl).2))
        obtain ⟨F, hF⟩ : ∃ F, foldR ⟨L, tk, mo⟩ asked k e tok more xs = F := ⟨_, rfl⟩
        obtain ⟨E, hE⟩ : ∃ E, foldE ⟨L, tk, mo⟩ asked k e tok xs = E := ⟨_, rfl⟩
        have HF := Lib.hid (HS4d.out.fold hq100 HIT.out HLI.out asked F hF E hE)
        try simp only [rqA] at HF
        have HNE := Lib.hid (fun (h : E ≠ 0) => (show F = ⟨L, tk, mo⟩ ∧ (E = 10 ∨ E = 1) by
          have := foldE_ne (R := ⟨L, tk, mo⟩) (asked := asked) (k := k) (e := e) (tok := tok) (more := more) (xs := xs) (by rw [hE]; exact h)
          rw [hF, hE] at this
          exact this))
        have HZE := Lib.hid (fun (h : E = 0) => (show asked = tk ∧ ((e = 8 ∧ F = ⟨[], 0, false⟩) ∨ (e ≠ 8 ∧ asked ≤ tok ∧ F.tk = tok ∧ F.mo = more)) by
          have := foldE_zero (R := ⟨L, tk, mo⟩) (asked := asked) (k := k) (e := e) (tok := tok) (more := more) (xs := xs) (by rw [hE]; exact h)
          rw [hF] at this
          refine ⟨this.1, this.2.imp id fun h2 => ⟨h2.1, h2.2.2.2.2.1, ?_, ?_⟩⟩
          · rw [h2.2.2.2.2.2]
          · rw [h2.2.2.2.2.2]))
        clear hF hE
        obtain ⟨-, e0, e1, e2, e3, e4, e5, e6, e7, e8⟩ := HAT.out w4.drew HS4d.out.bel
        go_wp2_with fail
        go_region_with (
                 go_at_call 12
                 (with_reducible refine HF.out.mono ?_)
                 clear HF
                 rintro _ w5 ⟨rfl, m1, hs5, hk5, hm5⟩
                 have HS5 := Lib.hid hs5
                 have HK5 := Lib.hid hk5
                 clear hs5 hk5 hm5)
        all_goals (
          by_cases hE0 : E ≠ 0
          · obtain ⟨rfl, hE1⟩ := HNE.out hE0
            have HI5 := Lib.hid (HI2d.out.keep HK5.out.size (fun hl => HK5.out.block b2 (HI2d.out.addr hl).2 (by have := HGE.out hl; have := HLT.out; omega) (by have := HGE.out hl; have := HLT.out; omega)))
            have HT := Lib.hid (rp_token HS5.out.rp)
            have HM := Lib.hid (rp_more HS5.out.rp)
            have HC := Lib.hid (HS5.out.cards (by omega))
            have hE2 : (E != 0) = true := by simpa using hE0
            have HLN := Lib.hid (show L.length ≤ 100000 by have := HS5.out.len; simp only at this; omega)
            have HEE := Lib.hid hE1
            clear hE0 HNE HZE hE1
            rcases HEE.out with rfl | rfl
            · go_wp2_with fail
              refine HT.out.mono ?_
              rintro _ wz ⟨rfl, hw0⟩
              replace hw0 := hw0.symm
              subst hw0
              go_wp2_with fail
              refine HM.out.mono ?_
              rintro _ wz ⟨rfl, hw0⟩
              replace hw0 := hw0.symm
              subst hw0
              go_wp2_with fail
              refine HC.out.mono ?_
              rintro _ w6 ⟨A3, cap3, b3, rfl, hi3, hb6, _⟩
              have HS6 := Lib.hid (HS5.out.step hb6)
              have HAL := Lib.hid (alike_any hi3 (HI5.out.below hb6 (fun hl => (HI5.out.addr hl).2)) HLN.out)
              clear hb6 hi3 HC
              go_wp2_with fail
              refine HAL.out.mono ?_
              rintro _ w7 ⟨rfl, hb7⟩
              have HS7 := Lib.hid (HS6.out.step hb7)
              clear hb7 HAL
              go_wp2
              go_roundw
              case rel => exact ⟨q + 1, m1, _, by omega, by go_num, HS7.out⟩
              case measure => simp [intOf]; omega
            · go_wp2_with fail
              refine HT.out.mono ?_
              rintro _ wz ⟨rfl, hw0⟩
              replace hw0 := hw0.symm
              subst hw0
              go_wp2_with fail
              refine HM.out.mono ?_
              rintro _ wz ⟨rfl, hw0⟩
              replace hw0 := hw0.symm
              subst hw0
              go_wp2_with fail
              refine HC.out.mono ?_
              rintro _ w6 ⟨A3, cap3, b3, rfl, hi3, hb6, _⟩
              have HS6 := Lib.hid (HS5.out.step hb6)
              have HAL := Lib.hid (alike_any hi3 (HI5.out.below hb6 (fun hl => (HI5.out.addr hl).2)) HLN.out)
              clear hb6 hi3 HC
              go_wp2_with fail
              refine HAL.out.mono ?_
              rintro _ w7 ⟨rfl, hb7⟩
              have HS7 := Lib.hid (HS6.out.step hb7)
              clear hb7 HAL
              go_wp2
              go_roundw
              case rel => exact ⟨q + 1, m1, _, by omega, by go_num, HS7.out⟩
              case measure => simp [intOf]; omega
          · have hE1 : E = 0 := by simpa using hE0
            obtain ⟨rfl, hc⟩ := HZE.out hE1
            subst hE1
            clear hE0 HNE HZE
            have HT := Lib.hid (rp_token HS5.out.rp)
            have HM := Lib.hid (rp_more HS5.out.rp)
            have HC := Lib.hid (HS5.out.cards (by omega))
            obtain ⟨-, e0, e1, e2, e3, e4, e5, e6, e7, e8⟩ := HAT.out w5 HS5.out.bel
            rcases hc with ⟨rfl, rfl⟩ | ⟨h8, hle, h9, h10⟩
            · go_wp2_with fail
              refine HT.out.mono ?_
              rintro _ wz ⟨rfl, hw0⟩
              replace hw0 := hw0.symm
              subst hw0
              go_wp2_with fail
              refine HM.out.mono ?_
              rintro _ wz ⟨rfl, hw0⟩
              replace hw0 := hw0.symm
              subst hw0
              go_wp2_with fail
              refine HC.out.mono ?_
              rintro _ w6 ⟨A3, cap3, b3, rfl, _, hb6, _⟩
              have HS6 := Lib.hid (HS5.out.step hb6)
              clear hb6 HC
              go_wp2
              go_roundw
              case rel => exact ⟨q + 1, m1, _, by omega, by go_num, HS6.out⟩
              case measure => simp [intOf]; omega
            · have h82 : (e == 8) = false := by simpa using h8
              have HTd := Lib.hid (fun nq => rp_token (HS5.out.drewN nq).rp)
              have HMd := Lib.hid (fun nq => rp_more (HS5.out.drewN nq).rp)
              rw [h9] at HTd
              rw [h10] at HMd
              have hlt2 : decide (tok < asked) = false := decide_eq_false (by omega)
              clear h8 hle h9 h10 HT HM HC
              go_wp2_with fail
              go_quiet ((first | (go_at_call 16; exact Calls.quiet_of_same (HTd.out _)) | (go_at_call 17; exact Calls.quiet_of_same (HMd.out _))))
              have HS6 := Lib.hid (HS5.out.drewN nq)
              go_wp2
              go_roundw
              case rel => exact ⟨q + 1, m1, _, by omega, by go_num, HS6.out⟩
              case measure => simp [intOf]; omega)
      · obtain rfl : q = len0 := by omega
        go_wp2
        go_ret
        exact ⟨rfl, HS.out.bel⟩
end Go.Proofs.Ytpmgabeefppajaa
