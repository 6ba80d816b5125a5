/- ColSince. -/
import Derived.Test.YthcjbljkokflgaaYb
set_option linter.unnecessarySimpa false
namespace Go.Proofs.Ythcjbljkokflgaa
open Go.RowKit
open Go.Lib
open Go.Shelf
set_option linter.unusedVariables false
set_option linter.unusedSimpArgs false
set_option maxRecDepth 100000
set_option maxHeartbeats 16000000 in
theorem colSince_walk (w : World) (a0 : Int) (w0 : (Lit.int .i64 a0).wf = true) (a1 : Int) (w1 : (Lit.int .i64 a1).wf = true) (a2 : Int) (w2 : (Lit.int .i64 a2).wf = true) (A3 : Option Addr) (len3 cap3 : Nat) (S3 : Sh.ok w (Sh.slice 6 (Sh.agg 6 [(0, 5, (Sh.agg 5 [(0, 1, Sh.bool), (1, 1, Sh.str), (2, 1, Sh.str), (3, 2, (Sh.agg 2 [(0, 1, (Sh.int .i64)), (1, 1, (Sh.int .i64))]))])), (5, 1, (Sh.int .i64))])) [.slice A3 len3 cap3]) (a4 : Int) (w4 : (Lit.int .i64 a4).wf = true) :
    Calls Try.prog 5 #[.int .i64 a0, .int .i64 a1, .int .i64 a2, .slice A3 len3 cap3, .int .i64 a4] w fun e w' => e = .returned (.bool true) ∧ Below w.heap.size w w' := by
  obtain ⟨b3, off3, l, hA⟩ := Aks_open S3
  have HA := Lib.hid hA
  clear S3 hA w0 w1 w2
  go_enter Try.func5, Try.ntmps5
  go_wp2_with fail
  refine (first_any w).mono ?_
  rintro _ w1 ⟨rfl, hb⟩
  have HB1 := Lib.hid hb
  have HA1 := Lib.hid (HA.out.on hb)
  have HL := Lib.hid (acts_any HA1.out)
  clear hb
  obtain ⟨y, hy⟩ : ∃ y, actsL l = y := ⟨_, rfl⟩
  have HY := Lib.hid hy
  rw [hy] at HL
  clear hy
  go_wp2_with fail
  refine HL.out.mono ?_
  rintro _ w2 ⟨rfl, hb⟩
  have HB2 := Lib.hid (HB1.out.trans (hb.mono HB1.out.size))
  have HA2 := Lib.hid (HA1.out.on hb)
  clear hb HL
  cases y with
  | false =>
    go_wp2_with fail
    refine (first_any w2).mono ?_
    rintro _ w3 ⟨rfl, hb⟩
    have HB3 := Lib.hid (HB2.out.trans (hb.mono HB2.out.size))
    clear hb
    go_wp2
    go_ret
    exact ⟨rfl, HB3.out⟩
  | true =>
    have HLI := Lib.hid (actsL_iff HY.out)
    have HM := Lib.hid (made_any HA2.out HY.out a0 a1 a2)
    obtain ⟨kl, hkl⟩ : ∃ k, l.length = k := ⟨_, rfl⟩
    have hk80 : kl ≤ 80 := by rw [← hkl]; exact HLI.out.1
    rw [hkl] at HM
    obtain ⟨c, hc⟩ : ∃ c, l.foldl apC (newC a0 a1 a2) = c := ⟨_, rfl⟩
    obtain ⟨R, hR⟩ : ∃ c, l.foldl apR (rnewC a0 a1 a2) = c := ⟨_, rfl⟩
    rw [hc, hR] at HM
    have HCE := Lib.hid hc
    clear HY hkl hc hR
    go_wp2_with fail
    refine HM.out.mono ?_
    rintro _ w3 ⟨g, r, rfl, h1⟩
    have HD := Lib.hid h1
    clear h1 HM
    by_cases hbad : a4 ≠ 0 ∧ (a4 < c.horizon ∨ c.latest < a4)
    · have HSB := Lib.hid (since_bad HD.out.cl hbad.1 hbad.2)
      have HRB := Lib.hid (rsince_bad HD.out.rc hbad.1 (by rw [HD.out.sim.ho, HD.out.sim.la]; exact hbad.2))
      have HAL := Lib.hid (alike_any (its_nil w3) (its_nil w3) (by decide))
      clear hbad
      go_wp2_with fail
      refine HSB.out.mono ?_
      rintro _ w5 ⟨rfl, hw⟩
      replace hw := hw.symm
      subst hw
      go_wp2_with fail
      refine HRB.out.mono ?_
      rintro _ w5 ⟨rfl, hw⟩
      replace hw := hw.symm
      subst hw
      go_wp2_with fail
      refine HAL.out.mono ?_
      rintro _ w6 ⟨rfl, hz⟩
      have HBZ := Lib.hid hz
      clear hz HAL HSB HRB
      go_wp2
      go_ret
      exact ⟨rfl, HB2.out.trans ((HD.out.bel.trans (HBZ.out.mono HD.out.bel.size)).mono HB2.out.size)⟩
    · have hok : a4 = 0 ∨ (c.horizon ≤ a4 ∧ a4 ≤ c.latest) := by
        by_cases h0 : a4 = 0
        · exact .inl h0
        · exact .inr ⟨Int.not_lt.1 fun h => hbad ⟨h0, .inl h⟩, Int.not_lt.1 fun h => hbad ⟨h0, .inr h⟩⟩
      have HOK := Lib.hid hok
      have HCS := Lib.hid (HD.out.csince (by omega) a4 hok)
      clear hbad hok
      go_wp2_with fail
      refine HCS.out.mono ?_
      rintro _ w4' ⟨U, ys, hs, rfl, h1, h2⟩
      have HS := Lib.hid hs
      have HU := Lib.hid h1
      have HUB := Lib.hid h2
      have HRS := Lib.hid ((HD.out.on h2).rsince (by omega) a4 HOK.out)
      clear hs h1 h2 HCS
      go_wp2_with fail
      refine HRS.out.mono ?_
      rintro _ w5 ⟨U2, zs, p1, p2, rfl, h1, h2⟩
      obtain rfl := HD.out.since_same HS.out p1 p2
      obtain ⟨A1, cap1, b1, rfl, hi1, -⟩ := own_its2 (own_below HU.out h2)
      obtain ⟨A2, cap2, b2, rfl, hi2, -⟩ := own_its2 h1
      have HAL := Lib.hid (alike_any hi1 hi2 (by have := HD.out.sin_len HS.out; omega))
      have HUC := Lib.hid (HUB.out.trans (h2.mono HUB.out.size))
      clear h1 h2 p1 p2 hi1 hi2 HRS
      go_wp2_with fail
      refine HAL.out.mono ?_
      rintro _ w6 ⟨rfl, hz⟩
      have HBZ := Lib.hid (HUC.out.trans (hz.mono HUC.out.size))
      clear hz HAL
      go_wp2
      go_ret
      exact ⟨rfl, HB2.out.trans ((HD.out.bel.trans (HBZ.out.mono HD.out.bel.size)).mono HB2.out.size)⟩
end Go.Proofs.Ythcjbljkokflgaa
