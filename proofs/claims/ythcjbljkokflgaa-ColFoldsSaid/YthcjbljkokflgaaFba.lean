/- ColFolds. -/
import Derived.Test.YthcjbljkokflgaaFaz
import Derived.Test.YthcjbljkokflgaaFax
set_option linter.unnecessarySimpa false
namespace Go.Proofs.Ythcjbljkokflgaa
open Go.RowKit
open Go.Lib
open Go.Proofs.Sp
open Go.Shelf
set_option linter.unusedVariables false
set_option linter.unusedSimpArgs false
set_option maxRecDepth 100000
theorem ap_latest2 {c : Cs} (del : Bool) (uid card : ByteArray) (tok : Int) : (applyC c del uid card tok).2.latest = c.latest ∨ (applyC c del uid card tok).2.latest = tok := by
  unfold applyC
  split
  · exact .inl rfl
  · exact .inr rfl
/-- A row of a copy's cards. -/
def Hv (w : World) (B : Nat) (V : Value) (L : LK) : Prop := w.ownsRow B 62 4 V (itsK L).length (itsC (itsK L))
theorem pg_err' {c : Cs} {T : Int} (h : BadT c T) : errC c T = 8 := if_pos h
theorem wf_t {t : Int} (h1 : 0 ≤ t) (h2 : t ≤ 2000000000000) : wf t := by unfold wf; simp [Lit.wf, IntKind.min, IntKind.max, IntKind.signed, IntKind.bits]; omega
set_option maxHeartbeats 16000000 in
theorem colFolds_walk (w : World) (a0 : Int) (w0 : (Lit.int .i64 a0).wf = true) (a1 : Int) (w1 : (Lit.int .i64 a1).wf = true) (a2 : Int) (w2 : (Lit.int .i64 a2).wf = true) (A3 : Option Addr) (len3 cap3 : Nat) (S3 : Sh.ok w (Sh.slice 5 (Sh.agg 5 [(0, 1, Sh.bool), (1, 1, Sh.str), (2, 1, Sh.str), (3, 2, (Sh.agg 2 [(0, 1, (Sh.int .i64)), (1, 1, (Sh.int .i64))]))])) [.slice A3 len3 cap3]) (A4 : Option Addr) (len4 cap4 : Nat) (S4 : Sh.ok w (Sh.slice 5 (Sh.agg 5 [(0, 1, Sh.bool), (1, 1, Sh.str), (2, 1, Sh.str), (3, 2, (Sh.agg 2 [(0, 1, (Sh.int .i64)), (1, 1, (Sh.int .i64))]))])) [.slice A4 len4 cap4]) (a5 : Int) (w5 : (Lit.int .i64 a5).wf = true) :
    Calls Try.prog 10 #[.int .i64 a0, .int .i64 a1, .int .i64 a2, .slice A3 len3 cap3, .slice A4 len4 cap4, .int .i64 a5] w fun e w' => e = .returned (.bool true) ∧ Below w.heap.size w w' := by
  obtain ⟨b3, off3, la, hA⟩ := Ows_open S3
  obtain ⟨b4, off4, lb, hO⟩ := Ows_open S4
  have HA := Lib.hid hA
  have HO := Lib.hid hO
  clear S3 hA S4 hO w0 w1 w2 w5
  go_enter Try.func10, Try.ntmps10
  go_wp2_with fail
  refine (first_any w).mono ?_
  rintro _ w1 ⟨rfl, hb⟩
  have HB1 := Lib.hid hb
  have HFA := Lib.hid (few_any (HA.out.on hb))
  clear hb
  obtain ⟨y, hy⟩ : ∃ y, fewL la = y := ⟨_, rfl⟩
  have HY := Lib.hid hy
  rw [hy] at HFA
  clear hy
  go_wp2_with fail
  refine HFA.out.mono ?_
  rintro _ w2 ⟨rfl, hb⟩
  have HB2 := Lib.hid (HB1.out.trans (hb.mono HB1.out.size))
  clear hb HFA
  cases y with
  | false =>
    go_wp2_with fail
    refine (first_any w2).mono ?_
    rintro _ wq ⟨rfl, hb⟩
    have HBQ := Lib.hid (HB2.out.trans (hb.mono HB2.out.size))
    clear hb
    go_wp2
    go_ret
    exact ⟨rfl, HBQ.out⟩
  | true =>
    have HFB := Lib.hid (few_any (HO.out.on HB2.out))
    obtain ⟨y2, hy2⟩ : ∃ y, fewL lb = y := ⟨_, rfl⟩
    have HY2 := Lib.hid hy2
    rw [hy2] at HFB
    clear hy2
    go_wp2_with fail
    refine HFB.out.mono ?_
    rintro _ w3 ⟨rfl, hb⟩
    have HB3 := Lib.hid (HB2.out.trans (hb.mono HB2.out.size))
    clear hb HFB
    cases y2 with
    | false =>
      go_wp2_with fail
      refine (first_any w3).mono ?_
      rintro _ wq ⟨rfl, hb⟩
      have HBQ := Lib.hid (HB3.out.trans (hb.mono HB3.out.size))
      clear hb
      go_wp2
      go_ret
      exact ⟨rfl, HBQ.out⟩
    | true =>
      by_cases h1 : a0 < 1
      · have HFX := Lib.hid h1
        go_wp2_with fail
        refine (first_any w3).mono ?_
        rintro _ wq ⟨rfl, hb⟩
        have HBQ := Lib.hid (HB3.out.trans (hb.mono HB3.out.size))
        clear hb
        go_wp2
        go_ret
        exact ⟨rfl, HBQ.out⟩
      by_cases h2 : a0 > 1099511627776
      · have h2b : (1099511627776 : Int) < a0 := h2
        go_wp2_with fail
        refine (first_any w3).mono ?_
        rintro _ wq ⟨rfl, hb⟩
        have HBQ := Lib.hid (HB3.out.trans (hb.mono HB3.out.size))
        clear hb
        go_wp2
        go_ret
        exact ⟨rfl, HBQ.out⟩
      have hA3 := HA.out.hlen
      have hA3c := HA.out.le
      have hO4 := HO.out.hlen
      have hO4c := HO.out.le
      have HFL := Lib.hid (fewL_iff HY.out)
      have HFM := Lib.hid (fewL_iff HY2.out)
      have hn3 : (len3 : Int) ≤ 20 := by have := HFL.out.1; omega
      have hn4 : (len4 : Int) ≤ 20 := by have := HFM.out.1; omega
      have hb1 : (1 : Int) ≤ a0 := by omega
      have hb2 : a0 ≤ 1099511627776 := by omega
      have HCN := Lib.hid (cl_new a0 a1 a2 w3 w3.heap.size (Nat.le_refl _))
      have HG0 := Lib.hid (gh_new a0 a1 a2)
      have HL0 := Lib.hid (show (1 : Int) ≤ (newC a0 a1 a2).latest from hb1)
      obtain ⟨c0, hc0⟩ : ∃ c, newC a0 a1 a2 = c := ⟨_, rfl⟩
      obtain ⟨R0, hR0⟩ : ∃ c, rnewC a0 a1 a2 = c := ⟨_, rfl⟩
      rw [hc0] at HCN HG0 HL0
      rw [hR0] at HG0
      clear hc0 hR0 h1 h2
      go_wp2_with fail
      refine HCN.out.mono ?_
      rintro _ w4 ⟨g, rfl, k1, k2, -⟩
      have HC0 := Lib.hid k1
      have HBC := Lib.hid k2
      clear k1 k2 HCN
      go_wp2
      go_loopw [14, 15] (fun t i wr => ∃ (q : Nat) (c : Cs) (R : Rs) (tv : Int), q ≤ len3 ∧ i = .int .i64 (q : Int) ∧ t = .int .i64 tv ∧ (a0 ≤ tv ∧ tv ≤ a0 + q) ∧ Gh q c R tv ∧ 1 ≤ c.latest ∧ Cl wr w3.heap.size g c ∧ Below w3.heap.size w3 wr) (fun _ i _ => len3 - (intOf i).toNat)
      case atStart => exact ⟨0, c0, R0, a0, Nat.zero_le _, rfl, rfl, ⟨Int.le_refl _, by omega⟩, HG0.out, HL0.out, HC0.out, HBC.out⟩
      case round =>
        obtain ⟨q, c, R, tv, hq, rfl, rfl, ⟨ht0, ht1⟩, hgh, hl1, hcl, hbl⟩ := hrel
        have HGH := Lib.hid hgh
        have HL1 := Lib.hid hl1
        have HCL := Lib.hid hcl
        have HBL := Lib.hid hbl
        clear hgh hl1 hcl hbl
        by_cases hql : q < len3
        · obtain ⟨o, ho⟩ : ∃ o, la[q]? = some o := ⟨la[q]'(by rw [HA.out.hlen]; exact hql), List.getElem?_eq_getElem _⟩
          have HLO := Lib.hid (litO_iff (HFL.out.2 o (List.mem_of_getElem? ho)))
          obtain ⟨rfl, hbl⟩ := HA.out.addr' ho
          obtain ⟨c0, c1, c2, c3, c4⟩ := HA.out.at_ (HB3.out.trans (HBL.out.mono HB3.out.size)) ho
          have HGN := Lib.hid (HGH.out.ap o.del o.uid o.card (by have := HLO.out.1; omega) (by have := HLO.out.2; omega) (wf_t (by omega) (by omega)))
          have HLN := Lib.hid (show 1 ≤ (applyC c o.del o.uid o.card (tv + 1)).2.latest by rcases ap_latest2 (c := c) o.del o.uid o.card (tv + 1) with e | e <;> rw [e]; exact HL1.out; omega)
          have HAP := Lib.hid (apply_any HCL.out HBL.out.size (HGH.out.inv.cz (by omega)) o.del o.uid o.card o.k o.v (tv + 1) (by have := HLO.out.2; omega))
          have hqI : (q : Int) < (len3 : Int) := by omega
          have hqc : q < cap3 := by omega
          obtain ⟨d, u, cd, k', v⟩ := o
          simp only at c0 c1 c2 c3 c4 HAP HGN HLN
          clear ho hbl
          go_wp2_with fail
          refine HAP.out.mono ?_
          rintro _ w7 ⟨rfl, k1, k2⟩
          have HC7 := Lib.hid k1
          have HB7 := Lib.hid (HBL.out.trans k2.below)
          clear k1 k2 HAP c0 c1 c2 c3 c4
          go_wp2
          go_roundw
          case rel => exact ⟨q + 1, _, _, tv + 1, by omega, by go_num, by first | rfl | go_num, ⟨by omega, by omega⟩, HGN.out, HLN.out, HC7.out, HB7.out⟩
          case measure => (simp [intOf] <;> omega)
        · obtain ⟨q, rfl⟩ : ∃ j, q = j := ⟨_, rfl⟩
          have hqn : ¬ (q : Int) < (len3 : Int) := by omega
          have hnb : ¬ BadT c 0 := fun e => e.1 rfl
          have HPG := Lib.hid (cpage_any HCL.out HGH.out.inv (by omega) HGH.out.wfc 0 a5)
          have HE0 := Lib.hid (pg_err hnb)
          rw [HE0.out] at HPG
          go_wp2_with fail
          refine HPG.out.mono ?_
          rintro _ wp ⟨A1, n1, cap1, b1, ys, ht, rfl, hI, hb⟩
          have hp0 := pg_full (most := a5) hnb (ys := ys) (.inl rfl)
          have HS := Lib.hid (show Sin c 0 ys by unfold TellC at ht; rwa [if_neg hnb] at ht)
          rw [hp0] at hI ⊢
          simp only at hI ⊢
          have HI := Lib.hid hI
          have HCP := Lib.hid (HCL.out.on hb)
          have HBP := Lib.hid (HBL.out.trans (hb.mono HBL.out.size))
          have HLT := Lib.hid (cl_latest HCP.out)
          have hyl : ys.length ≤ 20 := by rw [HS.out.1.length_eq]; have := sin0_len HGH.out.inv 0; omega
          have hn1 : n1 ≤ 20 := by rw [← hI.hlen]; exact hyl
          have hn1I : (n1 : Int) ≤ 20 := by omega
          have hIle := hI.le
          clear hnb HPG ht hp0 hI hb
          go_wp2_with fail
          refine HLT.out.mono ?_
          rintro _ wx ⟨rfl, hw⟩
          replace hw := hw.symm
          subst hw
          clear HLT
          go_wp2
          go_loopw [20, 21] (fun V i wr => ∃ (q1 : Nat) (L : LK), q1 ≤ n1 ∧ i = .int .i64 (q1 : Int) ∧ Srt L ∧ (∀ u, getL u L = (ys.take q1).foldl foldH (fun _ => none) u) ∧ L.length ≤ q1 ∧ Hv wr wp.heap.size V L ∧ Below wp.heap.size wp wr) (fun _ i _ => n1 - (intOf i).toNat)
          case atStart => exact ⟨0, [], Nat.zero_le _, rfl, List.Pairwise.nil, fun u => rfl, Nat.zero_le _, World.ownsRow_nil _ _ _ _, Below.refl _ _⟩
          case round =>
            obtain ⟨q1, L, hq1, rfl, hsr, hgt, hll, hhv, hb⟩ := hrel
            have HSR := Lib.hid hsr
            have HGT := Lib.hid hgt
            have HHV := Lib.hid hhv
            have HB := Lib.hid hb
            clear hsr hgt hhv hb
            by_cases hql1 : q1 < n1
            · obtain ⟨t, ht⟩ : ∃ t, ys[q1]? = some t := ⟨ys[q1]'(by rw [HI.out.hlen]; exact hql1), List.getElem?_eq_getElem _⟩
              obtain ⟨rfl, hbl⟩ := HI.out.addr (by omega)
              obtain ⟨c0, c1, c2, c3⟩ := (HI.out.below HB.out (fun _ => hbl)).cell q1 t ht
              obtain ⟨A2, cap2, b2, rfl, hi2, -⟩ := own_its2 HHV.out
              have HFO := Lib.hid (hfold_any hi2 HSR.out (by rw [itsK_len]; omega) t)
              have HGN := Lib.hid (show ∀ u, getL u (foldK L t) = (ys.take (q1 + 1)).foldl foldH (fun _ => none) u from fun u => by
                rw [foldK_get HSR.out, List.take_add_one, ht, List.foldl_append, funext HGT.out]; rfl)
              have HSN := Lib.hid (foldK_srt HSR.out t)
              have hln : (foldK L t).length ≤ q1 + 1 := by have := foldK_len HSR.out t; omega
              have hqI1 : (q1 : Int) < (n1 : Int) := by omega
              have hqc1 : q1 < cap1 := by omega
              obtain ⟨tu, tv', tx, tc⟩ := t
              simp only [Nat.zero_add] at c0 c1 c2 c3 HFO
              clear ht hbl hi2
              go_wp2_with fail
              refine HFO.out.mono ?_
              rintro _ w8 ⟨U, rfl, k1, k2⟩
              have HV8 := Lib.hid (show Hv w8 wp.heap.size U (foldK L ⟨tu, tv', tx, tc⟩) by unfold Hv; rw [itsK_len]; exact own_base k1 HB.out.size)
              have HB8 := Lib.hid (HB.out.trans (k2.mono HB.out.size))
              clear k1 k2 HFO c0 c1 c2 c3
              go_wp2
              go_roundw
              case rel => exact ⟨q1 + 1, _, by omega, by go_num, HSN.out, HGN.out, hln, HV8.out, HB8.out⟩
              case measure => (simp [intOf] <;> omega)
            · obtain ⟨q1, rfl⟩ : ∃ j, q1 = j := ⟨_, rfl⟩
              have hqn1 : ¬ (q1 : Int) < (n1 : Int) := by omega
              have HALL := Lib.hid (show ∀ u, getL u L = getL u c.L from fun u => by
                rw [HGT.out u, List.take_of_length_le (by rw [HI.out.hlen]; omega)]
                exact page_zero HGH.out.inv HS.out u)
              obtain ⟨A2, cap2, b2, rfl, -, -⟩ := own_its2 HHV.out
              obtain ⟨N, hN⟩ : ∃ x, c.latest = x := ⟨_, rfl⟩
              have HN := Lib.hid hN
              have HAG := Lib.hid (show Agr R.log R.horizon R.L N (fun u => getL u L) from fun _ u _ => by rw [HGH.out.sim.L]; exact HALL.out u)
              have HRM := Lib.hid (show remT R.log N = 0 by
                unfold remT
                rw [List.length_eq_zero_iff, List.filter_eq_nil_iff]
                intro a ha e
                have h1 := HGH.out.sim.sl a ha
                rw [HGH.out.sim.la, hN] at h1
                have h2 : N < a.1 := by simpa using e
                omega)
              have HN1 := Lib.hid (show 1 ≤ N from hN ▸ HL1.out)
              have HC9 := Lib.hid (HCP.out.on HB.out)
              have HB9 := Lib.hid (HBP.out.trans (HB.out.mono HBP.out.size))
              have HSZ := Lib.hid HBP.out.size
              rw [hN]
              clear hN HALL
              go_wp2
              go_loopw [14, 22] (fun t i wr => ∃ (q2 : Nat) (c : Cs) (R : Rs) (tw : Int), q2 ≤ len4 ∧ i = .int .i64 (q2 : Int) ∧ t = .int .i64 tw ∧ (a0 ≤ tw ∧ tw ≤ a0 + 20 + q2) ∧ Gh (20 + q2) c R tw ∧ Agr R.log R.horizon R.L N (fun u => getL u L) ∧ remT R.log N ≤ q2 ∧ N ≤ c.latest ∧ Cl wr w3.heap.size g c ∧ Hv wr w3.heap.size (.slice A2 (itsK L).length cap2) L ∧ Below w3.heap.size w3 wr) (fun _ i _ => len4 - (intOf i).toNat)
              case atStart => exact ⟨0, c, R, tv, Nat.zero_le _, rfl, rfl, ⟨ht0, by omega⟩, ⟨HGH.out.sim, HGH.out.inv.up (by omega), HGH.out.kv, HGH.out.wfc, HGH.out.la⟩, HAG.out, by rw [HRM.out]; exact Nat.zero_le _, by rw [HN.out]; exact Int.le_refl _, HC9.out, own_base HHV.out HSZ.out, HB9.out⟩
              case round =>
                obtain ⟨q2, c, R, tw, hq2, rfl, rfl, ⟨hu0, hu1⟩, hgh, hag, hrm, hnl, hcl, hhv, hbl⟩ := hrel
                have HGX := Lib.hid hgh
                have HAX := Lib.hid hag
                have HRX := Lib.hid hrm
                have HNX := Lib.hid hnl
                have HCX := Lib.hid hcl
                have HHX := Lib.hid hhv
                have HBX := Lib.hid hbl
                clear hgh hag hrm hnl hcl hhv hbl
                by_cases hql2 : q2 < len4
                · obtain ⟨o, ho⟩ : ∃ o, lb[q2]? = some o := ⟨lb[q2]'(by rw [HO.out.hlen]; exact hql2), List.getElem?_eq_getElem _⟩
                  have HLO := Lib.hid (litO_iff (HFM.out.2 o (List.mem_of_getElem? ho)))
                  obtain ⟨rfl, hbl⟩ := HO.out.addr' ho
                  obtain ⟨c0, c1, c2, c3, c4⟩ := HO.out.at_ (HB3.out.trans (HBX.out.mono HB3.out.size)) ho
                  have HGN := Lib.hid (HGX.out.ap o.del o.uid o.card (by have := HLO.out.1; omega) (by have := HLO.out.2; omega) (wf_t (by omega) (by omega)))
                  have HAN := Lib.hid (agr_ap HGX.out.sim HGX.out.inv HAX.out o.del o.uid o.card (tw + 1) (by have := HGX.out.la; have := HNX.out; omega))
                  have HRN := Lib.hid (Nat.le_trans (remT_ap R o.del o.uid o.card (tw + 1) N) (Nat.add_le_add_right HRX.out 1))
                  have HLN := Lib.hid (show N ≤ (applyC c o.del o.uid o.card (tw + 1)).2.latest by rcases ap_latest2 (c := c) o.del o.uid o.card (tw + 1) with e | e <;> rw [e]; exact HNX.out; (have := HGX.out.la; have := HNX.out; omega))
                  have HAP := Lib.hid (apply_any HCX.out HBX.out.size (HGX.out.inv.cz (by omega)) o.del o.uid o.card o.k o.v (tw + 1) (by have := HLO.out.2; omega))
                  have hqI2 : (q2 : Int) < (len4 : Int) := by omega
                  have hqc2 : q2 < cap4 := by omega
                  obtain ⟨d, u, cd, k', v⟩ := o
                  simp only at c0 c1 c2 c3 c4 HAP HGN HLN HAN HRN
                  clear ho hbl
                  go_wp2_with fail
                  refine HAP.out.mono ?_
                  rintro _ w7 ⟨rfl, k1, k2⟩
                  have HC7 := Lib.hid k1
                  have HV7 := Lib.hid (k2.row HHX.out (by unfold CT; decide))
                  have HB7 := Lib.hid (HBX.out.trans k2.below)
                  clear k1 k2 HAP c0 c1 c2 c3 c4
                  go_wp2
                  go_roundw
                  case rel => exact ⟨q2 + 1, _, _, tw + 1, by omega, by go_num, by first | rfl | go_num, ⟨by omega, by omega⟩, HGN.out, HAN.out, HRN.out, HLN.out, HC7.out, HV7.out, HB7.out⟩
                  case measure => (simp [intOf] <;> omega)
                · obtain ⟨q2, rfl⟩ : ∃ j, q2 = j := ⟨_, rfl⟩
                  have hqn2 : ¬ (q2 : Int) < (len4 : Int) := by omega
                  obtain ⟨wq, hwq⟩ : ∃ W, W = wr := ⟨_, rfl⟩
                  subst hwq
                  have hLb : L.length ≤ 20 := by omega
                  have HV0 := Lib.hid (show Hv wq 0 (.slice A2 (itsK L).length cap2) L from own_base HHX.out (Nat.zero_le _))
                  have HRM0 := Lib.hid (show remT R.log N ≤ len4 - 0 by have := HRX.out; omega)
                  go_wp2
                  go_loopw [17, 20, 23] (fun nx V kv wr => ∃ (kk : Nat) (N' : Int) (L' : LK), kk ≤ len4 ∧ kv = .int .i64 (kk : Int) ∧ nx = .int .i64 N' ∧ 1 ≤ N' ∧ N' ≤ c.latest ∧ Agr R.log R.horizon R.L N' (fun u => getL u L') ∧ remT R.log N' ≤ len4 - kk ∧ Srt L' ∧ L'.length ≤ 20 + 40 * kk ∧ Hv wr 0 V L' ∧ Below wq.heap.size wq wr) (fun _ _ kv _ => len4 + 1 - (intOf kv).toNat)
                  case atStart => exact ⟨0, N, L, Nat.zero_le _, rfl, rfl, HN1.out, HNX.out, HAX.out, HRM0.out, HSR.out, by omega, HV0.out, Below.refl _ _⟩
                  case round =>
                    obtain ⟨kk, N', L', hkk, rfl, rfl, hn1', hnl', hagr, hrem, hsl', hll', hhv', hbq⟩ := hrel
                    have HAV := Lib.hid hagr
                    have HRL := Lib.hid hrem
                    have HSL := Lib.hid hsl'
                    have HHQ := Lib.hid hhv'
                    have HBQ := Lib.hid hbq
                    have hN0 : N' ≠ 0 := by omega
                    have hkI : (kk : Int) ≤ (len4 : Int) := by omega
                    have HCR := Lib.hid (HCX.out.on hbq)
                    have HPG := Lib.hid (cpage_any HCR.out HGX.out.inv (by omega) HGX.out.wfc N' a5)
                    clear hagr hrem hsl' hhv' hbq
                    by_cases hbad : BadT c N'
                    · have hE := pg_err' hbad
                      rw [hE] at HPG
                      have HHO := Lib.hid (fun (W : World) (hb : Below wq.heap.size wq W) => cl_horizon (HCX.out.on hb))
                      have hlt : N' < c.horizon := by rcases hbad.2 with e | e <;> omega
                      clear hE hbad
                      go_wp2_with fail
                      refine HPG.out.mono ?_
                      rintro _ w9 ⟨A5, m, capz, b5, ys, ht, rfl, hI, hb⟩
                      have HB9 := Lib.hid (HBQ.out.trans (hb.mono HBQ.out.size))
                      clear ht hI hb HPG
                      go_wp2_with fail
                      refine (HHO.out w9 HB9.out).mono ?_
                      rintro _ wx ⟨rfl, hw⟩
                      replace hw := hw.symm
                      subst hw
                      go_wp2
                      go_ret
                      exact ⟨rfl, HB3.out.trans ((HBX.out.trans (HB9.out.mono HBX.out.size)).mono HB3.out.size)⟩
                    · have HNB := Lib.hid hbad
                      have HOK := Lib.hid (show c.horizon ≤ N' from ((badT_no hbad).resolve_left hN0).1)
                      have hE := pg_err hbad
                      rw [hE] at HPG
                      clear hE hbad
                      go_wp2_with fail
                      refine HPG.out.mono ?_
                      rintro _ w9 ⟨A5, m, capz, b5, ys, ht, rfl, hI, hb⟩
                      have HS := Lib.hid (show Sin c N' ys by unfold TellC at ht; rwa [if_neg HNB.out] at ht)
                      have hyl : ys.length ≤ 40 := by rw [HS.out.1.length_eq]; have := sin0_len HGX.out.inv N'; omega
                      have HBZ := Lib.hid (HBQ.out.trans (hb.mono HBQ.out.size))
                      have HH9 := Lib.hid (own_below HHQ.out hb)
                      clear ht HPG
                      by_cases hfull : spl (ys.map It.v) a5 = ys.length
                      · rw [pg_full HNB.out (.inr hfull)] at hI ⊢
                        simp only at hI ⊢
                        have HI9 := Lib.hid hI
                        have hm40 : m ≤ 40 := by rw [← hI.hlen]; exact hyl
                        clear hI hb hfull
                        have HZI := HI9.out
                        have hz1 := HZI.le
                        have HZL := Lib.hid HZI.hlen
                        have hzI : (m : Int) ≤ 40 := by omega
                        clear HZI
                        go_wp2
                        go_loopw [20, 28] (fun V i wr => ∃ (q3 : Nat) (L3 : LK), q3 ≤ m ∧ i = .int .i64 (q3 : Int) ∧ Srt L3 ∧ (∀ u, getL u L3 = (ys.take q3).foldl foldH (fun u => getL u L') u) ∧ L3.length ≤ 20 + 40 * kk + q3 ∧ Hv wr 0 V L3 ∧ Below w9.heap.size w9 wr) (fun _ i _ => m - (intOf i).toNat)
                        case atStart => exact ⟨0, L', Nat.zero_le _, rfl, HSL.out, fun u => rfl, hll', HH9.out, Below.refl _ _⟩
                        case round =>
                          obtain ⟨q3, L3, hq3, rfl, hsr, hgt, hll3, hhv, hb⟩ := hrel
                          have HSR := Lib.hid hsr
                          have HGT := Lib.hid hgt
                          have HHV := Lib.hid hhv
                          have HB := Lib.hid hb
                          clear hsr hgt hhv hb
                          by_cases hql3 : q3 < m
                          · obtain ⟨t3, ht⟩ : ∃ t, ys[q3]? = some t := ⟨ys[q3]'(by rw [HZL.out]; exact hql3), List.getElem?_eq_getElem _⟩
                            obtain ⟨rfl, hbl⟩ := HI9.out.addr (by omega)
                            obtain ⟨c0, c1, c2, c3⟩ := (HI9.out.below HB.out (fun _ => hbl)).cell q3 t3 ht
                            obtain ⟨A4', cap4', b4', rfl, hi4, -⟩ := own_its2 HHV.out
                            have HFO := Lib.hid (hfold_any hi4 HSR.out (by rw [itsK_len]; omega) t3)
                            have HGN := Lib.hid (show ∀ u, getL u (foldK L3 t3) = (ys.take (q3 + 1)).foldl foldH (fun u => getL u L') u from fun u => by
                              rw [foldK_get HSR.out, List.take_add_one, ht, List.foldl_append, funext HGT.out]; rfl)
                            have HSN := Lib.hid (foldK_srt HSR.out t3)
                            have hln : (foldK L3 t3).length ≤ 20 + 40 * kk + (q3 + 1) := by have := foldK_len HSR.out t3; omega
                            have hqI3 : (q3 : Int) < (m : Int) := by omega
                            have hqc3 : q3 < capz := by omega
                            obtain ⟨tu, tv', tx, tc⟩ := t3
                            simp only [Nat.zero_add] at c0 c1 c2 c3 HFO
                            clear ht hbl hi4
                            go_wp2_with fail
                            refine HFO.out.mono ?_
                            rintro _ w8 ⟨U, rfl, k1, k2⟩
                            have HV8 := Lib.hid (show Hv w8 0 U (foldK L3 ⟨tu, tv', tx, tc⟩) by unfold Hv; rw [itsK_len]; exact own_base k1 (Nat.zero_le _))
                            have HB8 := Lib.hid (HB.out.trans (k2.mono HB.out.size))
                            clear k1 k2 HFO c0 c1 c2 c3
                            go_wp2
                            go_roundw
                            case rel => exact ⟨q3 + 1, _, by omega, by go_num, HSN.out, HGN.out, hln, HV8.out, HB8.out⟩
                            case measure => (simp [intOf] <;> omega)
                          · obtain ⟨q3, rfl⟩ : ∃ j, q3 = j := ⟨_, rfl⟩
                            have hqn3 : ¬ (q3 : Int) < (m : Int) := by omega
                            have HGA := Lib.hid (show ∀ u, getL u L3 = ys.foldl foldH (fun u => getL u L') u from fun u => by
                              rw [HGT.out u, List.take_of_length_le (by rw [HZL.out]; omega)])
                            have HBW := Lib.hid (HBZ.out.trans (HB.out.mono HBZ.out.size))
                            have HEX := Lib.hid (show L3 = c.L from srt_ext HSR.out HGX.out.inv.srt (fun u => (HGA.out u).trans (page_full HGX.out.sim HGX.out.inv HGX.out.kv hN0 HS.out HAV.out (by have := HOK.out; rw [HGX.out.sim.ho]; omega) u)))
                            have HCW := Lib.hid (HCX.out.on HBW.out)
                            have HLT := Lib.hid (cl_latest HCW.out)
                            have HLV := Lib.hid (live_any HCW.out (HGX.out.inv.fit (by omega)).hl (HGX.out.inv.fit (by omega)).kl)
                            rw [← itsK_len] at HLV
                            go_wp2_with fail
                            refine HLT.out.mono ?_
                            rintro _ wx ⟨rfl, hw⟩
                            replace hw := hw.symm
                            subst hw
                            go_wp2_with fail
                            refine HLV.out.mono ?_
                            rintro _ wy ⟨U, rfl, k1, k2⟩
                            have HHW := Lib.hid (own_below HHV.out k2)
                            rw [HEX.out] at HHW
                            obtain ⟨Aa, capa, ba, ea, hia, -⟩ := own_its2 HHW.out
                            obtain ⟨Ab, capb, bb, rfl, hib, -⟩ := own_its2 k1
                            subst ea
                            have HAL := Lib.hid (alike_any hia hib (by rw [itsK_len]; have := HGX.out.inv.n; omega))
                            have HBY := Lib.hid (HBW.out.trans (k2.mono HBW.out.size))
                            clear k1 k2 hia hib HLV HLT
                            go_wp2_with fail
                            refine HAL.out.mono ?_
                            rintro _ wz ⟨rfl, hz⟩
                            have HBV := Lib.hid (HBY.out.trans (hz.mono HBY.out.size))
                            clear hz HAL
                            go_wp2
                            go_ret
                            exact ⟨rfl, HB3.out.trans ((HBX.out.trans (HBV.out.mono HBX.out.size)).mono HB3.out.size)⟩
                      · have hsp := spl_in (ys.map It.v) a5
                        rw [List.length_map] at hsp
                        have hsp2 := hsp.resolve_left hfull
                        obtain ⟨n, hn⟩ : ∃ n, spl (ys.map It.v) a5 = n := ⟨_, rfl⟩
                        rw [hn] at hsp2
                        obtain ⟨p, hp⟩ : ∃ p, n = p + 1 := ⟨n - 1, by omega⟩
                        obtain ⟨t, htt⟩ : ∃ t, ys[p]? = some t := ⟨ys[p]'(by omega), List.getElem?_eq_getElem _⟩
                        have HCT := Lib.hid (page_cut HGX.out.sim HGX.out.inv HGX.out.kv hN0 HS.out HAV.out (by rw [HGX.out.sim.ho]; exact HOK.out) hn hsp2.2 hp htt)
                        have HRT := Lib.hid (remT_lt ((sin_last HGX.out.sim HGX.out.inv HGX.out.kv hN0 HS.out).1 t (List.mem_of_getElem? htt)).1 HCT.out.2.1)
                        rw [pg_cut HNB.out hN0 hn (by omega) hp htt] at hI ⊢
                        simp only at hI ⊢
                        obtain ⟨v5, hv5⟩ : ∃ v, t.v = v := ⟨_, rfl⟩
                        rw [hv5] at HCT HRT ⊢
                        have HI9 := Lib.hid hI
                        have hm40 : m ≤ 40 := by rw [← hI.hlen, List.length_take]; omega
                        have hv1 : ¬ v5 < N' := by have := HCT.out.2.1; omega
                        have hv2 : (v5 == N') = false := beq_false_of_ne (by have := HCT.out.2.1; omega)
                        have HLA2 := Lib.hid (show v5 ≤ c.latest from HGX.out.sim.la ▸ HCT.out.2.2)
                        clear hI hb hfull hsp hsp2 hp htt hv5
                        have HZI := HI9.out
                        have hz1 := HZI.le
                        have HZL := Lib.hid HZI.hlen
                        have hzI : (m : Int) ≤ 40 := by omega
                        clear HZI
                        go_wp2
                        go_loopw [20, 28] (fun V i wr => ∃ (q3 : Nat) (L3 : LK), q3 ≤ m ∧ i = .int .i64 (q3 : Int) ∧ Srt L3 ∧ (∀ u, getL u L3 = ((ys.take n).take q3).foldl foldH (fun u => getL u L') u) ∧ L3.length ≤ 20 + 40 * kk + q3 ∧ Hv wr 0 V L3 ∧ Below w9.heap.size w9 wr) (fun _ i _ => m - (intOf i).toNat)
                        case atStart => exact ⟨0, L', Nat.zero_le _, rfl, HSL.out, fun u => rfl, hll', HH9.out, Below.refl _ _⟩
                        case round =>
                          obtain ⟨q3, L3, hq3, rfl, hsr, hgt, hll3, hhv, hb⟩ := hrel
                          have HSR := Lib.hid hsr
                          have HGT := Lib.hid hgt
                          have HHV := Lib.hid hhv
                          have HB := Lib.hid hb
                          clear hsr hgt hhv hb
                          by_cases hql3 : q3 < m
                          · obtain ⟨t3, ht⟩ : ∃ t, (ys.take n)[q3]? = some t := ⟨(ys.take n)[q3]'(by rw [HZL.out]; exact hql3), List.getElem?_eq_getElem _⟩
                            obtain ⟨rfl, hbl⟩ := HI9.out.addr (by omega)
                            obtain ⟨c0, c1, c2, c3⟩ := (HI9.out.below HB.out (fun _ => hbl)).cell q3 t3 ht
                            obtain ⟨A4', cap4', b4', rfl, hi4, -⟩ := own_its2 HHV.out
                            have HFO := Lib.hid (hfold_any hi4 HSR.out (by rw [itsK_len]; omega) t3)
                            have HGN := Lib.hid (show ∀ u, getL u (foldK L3 t3) = ((ys.take n).take (q3 + 1)).foldl foldH (fun u => getL u L') u from fun u => by
                              rw [foldK_get HSR.out, List.take_add_one, ht, List.foldl_append, funext HGT.out]; rfl)
                            have HSN := Lib.hid (foldK_srt HSR.out t3)
                            have hln : (foldK L3 t3).length ≤ 20 + 40 * kk + (q3 + 1) := by have := foldK_len HSR.out t3; omega
                            have hqI3 : (q3 : Int) < (m : Int) := by omega
                            have hqc3 : q3 < capz := by omega
                            obtain ⟨tu, tv', tx, tc⟩ := t3
                            simp only [Nat.zero_add] at c0 c1 c2 c3 HFO
                            clear ht hbl hi4
                            go_wp2_with fail
                            refine HFO.out.mono ?_
                            rintro _ w8 ⟨U, rfl, k1, k2⟩
                            have HV8 := Lib.hid (show Hv w8 0 U (foldK L3 ⟨tu, tv', tx, tc⟩) by unfold Hv; rw [itsK_len]; exact own_base k1 (Nat.zero_le _))
                            have HB8 := Lib.hid (HB.out.trans (k2.mono HB.out.size))
                            clear k1 k2 HFO c0 c1 c2 c3
                            go_wp2
                            go_roundw
                            case rel => exact ⟨q3 + 1, _, by omega, by go_num, HSN.out, HGN.out, hln, HV8.out, HB8.out⟩
                            case measure => (simp [intOf] <;> omega)
                          · obtain ⟨q3, rfl⟩ : ∃ j, q3 = j := ⟨_, rfl⟩
                            have hqn3 : ¬ (q3 : Int) < (m : Int) := by omega
                            have HGA := Lib.hid (show ∀ u, getL u L3 = (ys.take n).foldl foldH (fun u => getL u L') u from fun u => by
                              rw [HGT.out u, List.take_of_length_le (by rw [HZL.out]; omega)])
                            have HBW := Lib.hid (HBZ.out.trans (HB.out.mono HBZ.out.size))
                            go_wp2
                            go_roundw
                            case rel => exact ⟨kk + 1, v5, L3, by have := HRL.out; have := HRT.out; omega, by go_num, rfl, by have := HCT.out.2.1; omega, HLA2.out, fun h u hu => (HGA.out u).trans (HCT.out.1 h u hu), by have := HRL.out; have := HRT.out; omega, HSR.out, by omega, HHV.out, HBW.out⟩
                            case measure => (simp [intOf] <;> omega)
end Go.Proofs.Ythcjbljkokflgaa
