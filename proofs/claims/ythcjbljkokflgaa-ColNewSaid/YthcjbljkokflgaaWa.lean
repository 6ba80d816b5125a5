/- ColNew. -/
import Derived.Test.YthcjbljkokflgaaYc
set_option linter.unnecessarySimpa false
namespace Go.Proofs.Ythcjbljkokflgaa
open Go.RowKit
open Go.Lib
open Go.Shelf
set_option linter.unusedVariables false
set_option linter.unusedSimpArgs false
set_option maxRecDepth 100000
set_option maxHeartbeats 16000000 in
theorem colNew_walk (w : World) (a0 : Int) (w0 : (Lit.int .i64 a0).wf = true) (a1 : Int) (w1 : (Lit.int .i64 a1).wf = true) (a2 : Int) (w2 : (Lit.int .i64 a2).wf = true) (A3 : Option Addr) (len3 cap3 : Nat) (S3 : Sh.ok w (Sh.slice 6 (Sh.agg 6 [(0, 5, (Sh.agg 5 [(0, 1, Sh.bool), (1, 1, Sh.str), (2, 1, Sh.str), (3, 2, (Sh.agg 2 [(0, 1, (Sh.int .i64)), (1, 1, (Sh.int .i64))]))])), (5, 1, (Sh.int .i64))])) [.slice A3 len3 cap3]) (a4 : Int) (w4 : (Lit.int .i64 a4).wf = true) :
    Calls Try.prog 11 #[.int .i64 a0, .int .i64 a1, .int .i64 a2, .slice A3 len3 cap3, .int .i64 a4] w fun e w' => e = .returned (.bool true) ∧ Below w.heap.size w w' := by
  obtain ⟨b3, off3, l, hA⟩ := Aks_open S3
  have HA := Lib.hid hA
  clear S3 hA w0 w1 w2
  go_enter Try.func11, Try.ntmps11
  go_wp2_with fail
  refine (first_any w).mono ?_
  rintro _ w1 ⟨rfl, hb⟩
  have HB1 := Lib.hid hb
  have HA1 := Lib.hid (HA.out.on hb)
  have HL := Lib.hid (acts_any HA1.out)
  clear hb
  obtain ⟨y, hy⟩ : ∃ y, actsL l = y := ⟨_, rfl⟩
  have HY := Lib.hid hy
  rw [hy] at HL
  clear hy
  go_wp2_with fail
  refine HL.out.mono ?_
  rintro _ w2 ⟨rfl, hb⟩
  have HB2 := Lib.hid (HB1.out.trans (hb.mono HB1.out.size))
  have HA2 := Lib.hid (HA1.out.on hb)
  clear hb HL
  cases y with
  | false =>
    go_wp2_with fail
    refine (first_any w2).mono ?_
    rintro _ w3 ⟨rfl, hb⟩
    have HB3 := Lib.hid (HB2.out.trans (hb.mono HB2.out.size))
    clear hb
    go_wp2
    go_ret
    exact ⟨rfl, HB3.out⟩
  | true =>
    have HLI := Lib.hid (actsL_iff HY.out)
    have HM := Lib.hid (made_any HA2.out HY.out a0 a1 a2)
    obtain ⟨kl, hkl⟩ : ∃ k, l.length = k := ⟨_, rfl⟩
    have hk80 : kl ≤ 80 := by rw [← hkl]; exact HLI.out.1
    rw [hkl] at HM
    obtain ⟨c, hc⟩ : ∃ c, l.foldl apC (newC a0 a1 a2) = c := ⟨_, rfl⟩
    obtain ⟨R, hR⟩ : ∃ c, l.foldl apR (rnewC a0 a1 a2) = c := ⟨_, rfl⟩
    rw [hc, hR] at HM
    have HCE := Lib.hid hc
    clear HY hkl hc hR
    go_wp2_with fail
    refine HM.out.mono ?_
    rintro _ w3 ⟨g, r, rfl, h1⟩
    have HD := Lib.hid h1
    clear h1 HM
    have HLVx := Lib.hid (live_any HD.out.cl (HD.out.inv.fit (by omega)).hl (HD.out.inv.fit (by omega)).kl)
    go_wp2_with fail
    refine HLVx.out.mono ?_
    rintro _ wa ⟨U1, rfl, hu1, hu2⟩
    have HUx := Lib.hid (show wa.ownsRow w3.heap.size 62 4 U1 (itsK c.L).length (itsC (itsK c.L)) by rw [itsK_len]; exact hu1)
    have HBx := Lib.hid hu2
    clear hu1 hu2 HLVx
    have HDa := Lib.hid (HD.out.on HBx.out)
    have HLVy := Lib.hid (live_any HDa.out.cl (HDa.out.inv.fit (by omega)).hl (HDa.out.inv.fit (by omega)).kl)
    go_wp2_with fail
    refine HLVy.out.mono ?_
    rintro _ wb ⟨U2, rfl, hu1, hu2⟩
    have HUy := Lib.hid (show wb.ownsRow wa.heap.size 62 4 U2 (itsK c.L).length (itsC (itsK c.L)) by rw [itsK_len]; exact hu1)
    have HBy := Lib.hid hu2
    clear hu1 hu2 HLVy
    have HDb := Lib.hid (HDa.out.on HBy.out)
    have HCS := Lib.hid (HDb.out.csince_any (by omega) a4)
    obtain ⟨er, her⟩ : ∃ x, errC c a4 = x := ⟨_, rfl⟩
    have HER := Lib.hid her
    rw [her] at HCS
    clear her
    go_wp2_with fail
    refine HCS.out.mono ?_
    rintro _ wc ⟨U3, ys, ht, rfl, h1, h2⟩
    have HT := Lib.hid ht
    have HYL := Lib.hid (HDb.out.tell_len ht)
    have HUz := Lib.hid h1
    have HBz := Lib.hid (HBy.out.trans (h2.mono HBy.out.size))
    have HUy2 := Lib.hid (own_below HUy.out h2)
    have HNY := Lib.hid (fun j (hj : U2.ownBlock = some j) => (HUy.out.lt j hj).2)
    clear ht h1 h2 HCS HUy
    obtain ⟨A2, cap2, b2, rfl, hi2, hb2⟩ := own_its2 HUy2.out
    obtain ⟨A3', cap3', b3', rfl, hi3, hb3⟩ := own_its2 HUz.out
    obtain ⟨n2, hn2⟩ : ∃ n, (itsK c.L).length = n := ⟨_, rfl⟩
    obtain ⟨n3, hn3⟩ : ∃ n, ys.length = n := ⟨_, rfl⟩
    have hn2b : n2 ≤ 80 := by rw [← hn2, itsK_len]; have := HD.out.inv.n; omega
    have hn3b : n3 ≤ 80 := by rw [← hn3]; have := HYL.out; omega
    have HI2 := Lib.hid (fun h => (hi2.addr h).1)
    have HI3 := Lib.hid (fun h => (hi3.addr h).1)
    have hc2 := hi2.le
    have hc3 := hi3.le
    have HN2 := Lib.hid hn2
    have HN3 := Lib.hid hn3
    rw [hn2] at HUy2 HI2 hc2 hb2 ⊢
    rw [hn3] at HUz HI3 hc3 hb3 ⊢
    have HN23 := Lib.hid hb3
    have hn2I : (n2 : Int) ≤ 80 := by omega
    have hn3I : (n3 : Int) ≤ 80 := by omega
    clear hi2 hi3 hn2 hn3 hb2 hb3
    go_wp2
    go_loopw [17] (fun i wr => ∃ (q : Nat) (cur : List It), q ≤ n2 ∧ i = .int .i64 (q : Int) ∧ cur.length = n2 ∧ wr.ownsRow wa.heap.size 62 4 (.slice A2 n2 cap2) n2 (itsC cur) ∧ wr.ownsRow wb.heap.size 62 4 (.slice A3' n3 cap3') n3 (itsC ys) ∧ Below wa.heap.size wa wr) (fun i _ => n2 - (intOf i).toNat)
    case atStart => exact ⟨0, _, Nat.zero_le _, rfl, HN2.out, HUy2.out, HUz.out, HBz.out⟩
    case round =>
      obtain ⟨q, cur, hq, rfl, hl, h1, h2, h3⟩ := hrel
      have HL1 := Lib.hid hl
      have HR1 := Lib.hid h1
      have HR2 := Lib.hid h2
      have HBR := Lib.hid h3
      clear hl h1 h2 h3
      by_cases hql : q < n2
      · have hqI : (q : Int) < (n2 : Int) := by omega
        have hqc : q < cap2 := by omega
        obtain rfl := HI2.out (by omega)
        obtain ⟨t, ht⟩ : ∃ t, cur[q]? = some t := ⟨cur[q]'(by rw [HL1.out]; exact hql), List.getElem?_eq_getElem _⟩
        obtain ⟨c0, c1, c2, c3, f0, f1, f2, f3⟩ := row_item HR1.out ht
        have HS := Lib.hid (set4_row HR1.out HL1.out hql ⟨⟨#[115, 112, 111, 105, 108, 116]⟩, 1, false, ⟨#[]⟩⟩ HBR.out (Nat.le_refl _))
        have HS2 := Lib.hid (set4_keep (b := b2) (q := q) (t := ⟨⟨#[115, 112, 111, 105, 108, 116]⟩, 1, false, ⟨#[]⟩⟩) HR2.out (fun e => by
          have e1 := (HR2.out.lt _ e).1
          have e2 := HNY.out b2 rfl
          omega))
        clear ht
        go_wp2
        obtain ⟨cur', k1, k2, k3⟩ := HS.out
        go_roundw
        case rel => exact ⟨q + 1, cur', by omega, by go_num, k1, k2, HS2.out, k3⟩
        case measure => (simp [intOf] <;> omega)
      · obtain ⟨q, rfl⟩ : ∃ k, q = k := ⟨_, rfl⟩
        have hqn : ¬ (q : Int) < (n2 : Int) := by omega
        have HL2 := Lib.hid (show ∃ cur : List It, cur.length = n3 ∧ wr.ownsRow wb.heap.size 62 4 (.slice A3' n3 cap3') n3 (itsC cur) from ⟨ys, HN3.out, HR2.out⟩)
        clear HR1 HL1 HR2
        go_wp2
        go_loopw [18] (fun i wr => ∃ (q : Nat) (cur : List It), q ≤ n3 ∧ i = .int .i64 (q : Int) ∧ cur.length = n3 ∧ wr.ownsRow wb.heap.size 62 4 (.slice A3' n3 cap3') n3 (itsC cur) ∧ Below wa.heap.size wa wr) (fun i _ => n3 - (intOf i).toNat)
        case atStart =>
          obtain ⟨cur, k1, k2⟩ := HL2.out
          exact ⟨0, cur, Nat.zero_le _, rfl, k1, k2, HBR.out⟩
        case round =>
          obtain ⟨p, cur, hp, rfl, hl, h1, h3⟩ := hrel
          have HL1 := Lib.hid hl
          have HR1 := Lib.hid h1
          have HBS := Lib.hid h3
          clear hl h1 h3
          by_cases hpl : p < n3
          · have hpI : (p : Int) < (n3 : Int) := by omega
            have hpc : p < cap3' := by omega
            obtain rfl := HI3.out (by omega)
            obtain ⟨t, ht⟩ : ∃ t, cur[p]? = some t := ⟨cur[p]'(by rw [HL1.out]; exact hpl), List.getElem?_eq_getElem _⟩
            obtain ⟨c0, c1, c2, c3, f0, f1, f2, f3⟩ := row_item HR1.out ht
            have HS := Lib.hid (set4_row HR1.out HL1.out hpl ⟨⟨#[115, 112, 111, 105, 108, 116]⟩, 2, false, ⟨#[]⟩⟩ HBS.out HBy.out.size)
            clear ht
            go_wp2
            obtain ⟨cur', k1, k2, k3⟩ := HS.out
            go_roundw
            case rel => exact ⟨p + 1, cur', by omega, by go_num, k1, k2, k3⟩
            case measure => (simp [intOf] <;> omega)
          · obtain ⟨p, rfl⟩ : ∃ k, p = k := ⟨_, rfl⟩
            have hpn : ¬ (p : Int) < (n3 : Int) := by omega
            have HDL := Lib.hid (HDa.out.on HBS.out)
            have HXL := Lib.hid (own_below HUx.out HBS.out)
            have HRS := Lib.hid (HDL.out.rsince_any (by omega) a4)
            rw [HER.out] at HRS
            clear HR1 HL1 HL2
            go_wp2_with fail
            refine HRS.out.mono ?_
            rintro _ wd ⟨U4, zs, hz, rfl, h1, h2⟩
            have HZ := Lib.hid hz
            have HU4 := Lib.hid h1
            have HB4 := Lib.hid h2
            have HDd := Lib.hid (HDL.out.on h2)
            have HCS := Lib.hid (HDd.out.csince_any (by omega) a4)
            rw [HER.out] at HCS
            clear hz h1 h2 HRS
            go_wp2_with fail
            refine HCS.out.mono ?_
            rintro _ we ⟨U5, ys2, ht, rfl, h1, h2⟩
            obtain rfl := HZ.out _ ht
            have HYL2 := Lib.hid (HDd.out.tell_len ht)
            have HU5 := Lib.hid h1
            have HU4e := Lib.hid (own_below HU4.out h2)
            have HBe := Lib.hid (HB4.out.trans (h2.mono HB4.out.size))
            have HDe := Lib.hid (HDd.out.on h2)
            have HRV := Lib.hid (rlive_any HDe.out.rc (by rw [HDe.out.sim.L]; have := HDe.out.inv.n; omega))
            rw [HDe.out.sim.L, ← itsK_len] at HRV
            clear h1 h2 HCS ht
            go_wp2_with fail
            refine HRV.out.mono ?_
            rintro _ wf ⟨U6, rfl, h1, h2⟩
            have HBf := Lib.hid (HBe.out.trans (h2.mono HBe.out.size))
            obtain ⟨Aa, capa, ba, rfl, hia, -⟩ := own_its2 (own_below HXL.out HBf.out)
            obtain ⟨Ab, capb, bb, rfl, hib, -⟩ := own_its2 h1
            have HAL := Lib.hid (alike_any hia hib (by rw [itsK_len]; have := HDe.out.inv.n; omega))
            have HU5f := Lib.hid (own_below HU5.out h2)
            have HU4f := Lib.hid (own_below HU4e.out h2)
            have HXf := Lib.hid (own_below HXL.out HBf.out)
            have HDf := Lib.hid (HDe.out.on h2)
            clear h1 h2 hia hib HRV
            go_wp2_with fail
            refine HAL.out.mono ?_
            rintro _ wg ⟨rfl, hz⟩
            have HBg := Lib.hid (HBf.out.trans (hz.mono HBf.out.size))
            have HDg := Lib.hid (HDf.out.on hz)
            have HXg := Lib.hid (own_below HXf.out hz)
            have HU5g := Lib.hid (own_below HU5f.out hz)
            have HU4g := Lib.hid (own_below HU4f.out hz)
            have HLV := Lib.hid (live_any HDg.out.cl (HDg.out.inv.fit (by omega)).hl (HDg.out.inv.fit (by omega)).kl)
            rw [← itsK_len] at HLV
            clear hz HAL
            go_wp2_with fail
            refine HLV.out.mono ?_
            rintro _ wh ⟨U7, rfl, h1, h2⟩
            have HBh := Lib.hid (HBg.out.trans (h2.mono HBg.out.size))
            obtain ⟨Ac, capc, bc, rfl, hic, -⟩ := own_its2 h1
            obtain ⟨Ad, capd, bd, ed, hid, -⟩ := own_its2 (own_below HXg.out h2)
            cases ed
            have HAL := Lib.hid (alike_any hic hid (by rw [itsK_len]; have := HDe.out.inv.n; omega))
            have HU5h := Lib.hid (own_below HU5g.out h2)
            have HU4h := Lib.hid (own_below HU4g.out h2)
            clear h1 h2 hic hid HLV
            go_wp2_with fail
            refine HAL.out.mono ?_
            rintro _ wi ⟨rfl, hz⟩
            have HBi := Lib.hid (HBh.out.trans (hz.mono HBh.out.size))
            obtain ⟨Ae, cape, be, rfl, hie, -⟩ := own_its2 (own_below HU5h.out hz)
            obtain ⟨Af, capf, bf, rfl, hif, -⟩ := own_its2 (own_below HU4h.out hz)
            have HAL2 := Lib.hid (alike_any hie hif (by have := HYL2.out; omega))
            clear hz HAL hie hif
            go_wp2_with fail
            refine HAL2.out.mono ?_
            rintro _ wj ⟨rfl, hz⟩
            have HBj := Lib.hid (HBi.out.trans (hz.mono HBi.out.size))
            clear hz HAL2
            go_wp2
            go_ret
            exact ⟨rfl, HB2.out.trans ((HDL.out.bel.trans (HBj.out.mono HDL.out.bel.size)).mono HB2.out.size)⟩
end Go.Proofs.Ythcjbljkokflgaa
