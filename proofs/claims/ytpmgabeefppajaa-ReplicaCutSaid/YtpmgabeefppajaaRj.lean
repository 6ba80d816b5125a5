/- ReplicaCut. -/
import Derived.Test.YtpmgabeefppajaaRi
namespace Go.Proofs.Ytpmgabeefppajaa
open Go.RowKit
open Go.Lib
set_option linter.unusedVariables false
set_option linter.unusedSimpArgs false
set_option maxRecDepth 100000
set_option maxHeartbeats 16000000 in
theorem replicaCut_walk (w : World) (a0 : Int) (w0 : (Lit.int .i64 a0).wf = true) (a1 : Int) (w1 : (Lit.int .i64 a1).wf = true) (a2 : Int) (w2 : (Lit.int .i64 a2).wf = true) (a3 : Int) (w3 : (Lit.int .i64 a3).wf = true) (a4 : ByteArray) (w4 : a4.size ≤ maxLen) (a5 : Int) (w5 : (Lit.int .i64 a5).wf = true) (a6 : Bool) (A7 : Option Addr) (len7 cap7 : Nat) (S7 : Sh.ok w (Sh.slice 4 (Sh.agg 4 [(0, 1, Sh.str), (1, 1, (Sh.int .i64)), (2, 1, Sh.bool), (3, 1, Sh.str)])) [.slice A7 len7 cap7]) (a8 : Int) (w8 : (Lit.int .i64 a8).wf = true) (a9 : Int) (w9 : (Lit.int .i64 a9).wf = true) :
    Calls Try.prog 6 #[.agg #[.int .i64 a0, .int .i64 a1, .int .i64 a2, .int .i64 a3, .string a4, .int .i64 a5, .bool a6, .slice A7 len7 cap7], .int .i64 a8, .int .i64 a9] w fun e w' => e = .returned (.bool true) ∧ Below w.heap.size w w' := by
  obtain ⟨b7, off7, xs, hI, _⟩ := its_open S7
  have HI := Lib.hid hI
  have hlen := hI.hlen
  have hlc := hI.le
  clear S7 hI w0 w1 w2 w3 w4 w5 w8 w9
  obtain ⟨X, hX⟩ : ∃ X, w.heap.size = X := ⟨_, rfl⟩
  obtain ⟨W, hW⟩ : ∃ W, w.alloc (.cells #[.int .i64 a0, .int .i64 a1, .int .i64 a2, .int .i64 a3, .string a4, .int .i64 a5, .bool a6, .slice A7 len7 cap7] 35) = W := ⟨_, rfl⟩
  have HBW := Lib.hid (show Below w.heap.size w W from hW ▸ (Below.refl _ w).alloc (Nat.le_refl _) _)
  have HX := Lib.hid (show Blk W X 35 #[.int .i64 a0, .int .i64 a1, .int .i64 a2, .int .i64 a3, .string a4, .int .i64 a5, .bool a6, .slice A7 len7 cap7] from hX ▸ hW ▸ Blk.new w 35 _)
  go_enter Try.func6, Try.ntmps6
  go_wp2_with fail
  try rw [hW]
  refine (first_any W).mono ?_
  rintro _ V1 ⟨rfl, hb⟩
  have HB1 := Lib.hid (HBW.out.trans (hb.mono HBW.out.size))
  have HX1 := Lib.hid (HX.out.below hb HX.out.lt)
  have x0 := HX1.out.cell 0
  have x1 := HX1.out.cell 1
  have x2 := HX1.out.cell 2
  have x3 := HX1.out.cell 3
  have x4 := HX1.out.cell 4
  have x5 := HX1.out.cell 5
  have x6 := HX1.out.cell 6
  have x7 := HX1.out.cell 7
  have HL := Lib.hid (light_any (HI.out.below HB1.out (fun hl => (HI.out.addr hl).2)) a0 a1 a2 a3 a4 a5 a6)
  clear hb hX hW
  obtain ⟨y, hy⟩ : ∃ y, lightB a4 xs = y := ⟨_, rfl⟩
  have HY := Lib.hid hy
  rw [hy] at HL
  clear hy
  go_wp2_with fail
  refine HL.out.mono ?_
  rintro _ V2 ⟨rfl, hb⟩
  have HB2 := Lib.hid (HB1.out.trans (hb.mono HB1.out.size))
  have HX2 := Lib.hid (HX1.out.below hb HX1.out.lt)
  clear x0 x1 x2 x3 x4 x5 x6 x7
  have x0 := HX2.out.cell 0
  have x1 := HX2.out.cell 1
  have x2 := HX2.out.cell 2
  have x3 := HX2.out.cell 3
  have x4 := HX2.out.cell 4
  have x5 := HX2.out.cell 5
  have x6 := HX2.out.cell 6
  have x7 := HX2.out.cell 7
  clear hb HL
  cases y with
  | false =>
    go_wp2_with fail
    refine (first_any V2).mono ?_
    rintro _ Vf ⟨rfl, hb⟩
    have HBf := Lib.hid (HB2.out.trans (hb.mono HB2.out.size))
    clear hb
    go_wp2
    go_ret
    exact ⟨rfl, HBf.out⟩
  | true =>
    have HLR := Lib.hid (show rqLight ⟨a0, a1, a2, a3, a4, a5, a6, A7, len7, cap7, b7, off7, xs⟩ = true from HY.out)
    by_cases hp0 : a8 < 0
    · go_wp2_with fail
      refine (first_any V2).mono ?_
      rintro _ Vf ⟨rfl, hb⟩
      have HBf := Lib.hid (HB2.out.trans (hb.mono HB2.out.size))
      clear hb
      go_wp2
      go_ret
      exact ⟨rfl, HBf.out⟩
    by_cases hp1 : a8 > (len7 : Int)
    · go_wp2_with fail
      refine (first_any V2).mono ?_
      rintro _ Vf ⟨rfl, hb⟩
      have HBf := Lib.hid (HB2.out.trans (hb.mono HB2.out.size))
      clear hb
      go_wp2
      go_ret
      exact ⟨rfl, HBf.out⟩
    by_cases hm0 : a9 < 1
    · go_wp2_with fail
      refine (first_any V2).mono ?_
      rintro _ Vf ⟨rfl, hb⟩
      have HBf := Lib.hid (HB2.out.trans (hb.mono HB2.out.size))
      clear hb
      go_wp2
      go_ret
      exact ⟨rfl, HBf.out⟩
    by_cases hm1 : a9 > a2
    · go_wp2_with fail
      refine (first_any V2).mono ?_
      rintro _ Vf ⟨rfl, hb⟩
      have HBf := Lib.hid (HB2.out.trans (hb.mono HB2.out.size))
      clear hb
      go_wp2
      go_ret
      exact ⟨rfl, HBf.out⟩
    obtain ⟨p, rfl⟩ : ∃ p : Nat, a8 = (p : Int) := ⟨a8.toNat, by omega⟩
    have hpl : p ≤ len7 := by omega
    have HLN := Lib.hid (light_rq (w := w) (r := ⟨a0, a1, a2, a3, a4, a5, a6, A7, len7, cap7, b7, off7, xs⟩) HI.out HLR.out)
    have hl120 : (len7 : Int) ≤ 120 := by have := HLN.out.1; simp only at this; omega
    go_wp2
    go_loopw [7] (fun i wr => ∃ q : Nat, p ≤ q ∧ q ≤ len7 ∧ i = .int .i64 (q : Int) ∧ (∀ t ∈ (xs.take q).drop p, a9 < t.v) ∧ wr = V2) (fun i _ => len7 - (intOf i).toNat)
    case atStart => exact ⟨p, Nat.le_refl _, hpl, rfl, fun t ht => by rw [List.drop_eq_nil_of_le (by simp; omega)] at ht; simp at ht, rfl⟩
    case round =>
      obtain ⟨q, hpq, hq, rfl, hv, hwr⟩ := hrel
      replace hwr := hwr.symm
      subst hwr
      have HV := Lib.hid hv
      clear hv
      by_cases hql : q < len7
      · obtain ⟨t, ht⟩ : ∃ t, xs[q]? = some t := ⟨xs[q]'(by rw [HI.out.hlen]; exact hql), List.getElem?_eq_getElem _⟩
        obtain ⟨rfl, hbl⟩ := HI.out.addr (by omega)
        obtain ⟨c0, c1, c2, c3⟩ := (HI.out.below HB2.out (fun _ => hbl)).cell q t ht
        have HTD := Lib.hid (show (xs.take (q + 1)).drop p = (xs.take q).drop p ++ [t] by
          rw [List.take_add_one, ht, List.drop_append_of_le_length (by rw [List.length_take, HI.out.hlen]; omega)]; rfl)
        have hqI : (q : Int) < (len7 : Int) := by omega
        obtain ⟨tu, tv, tx, tc⟩ := t
        simp only at c0 c1 c2 c3
        clear ht
        by_cases hvm : tv ≤ a9
        · go_wp2_with fail
          refine (first_any V2).mono ?_
          rintro _ Vf ⟨rfl, hb⟩
          have HBf := Lib.hid (HB2.out.trans (hb.mono HB2.out.size))
          clear hb
          go_wp2
          go_ret
          exact ⟨rfl, HBf.out⟩
        · have HN := Lib.hid (show ∀ t ∈ (xs.take (q + 1)).drop p, a9 < t.v by
            rw [HTD.out]
            intro t ht
            rcases List.mem_append.1 ht with ht | ht
            · exact HV.out t ht
            · simp only [List.mem_singleton] at ht
              subst ht
              show a9 < tv
              omega)
          clear HTD HV
          go_wp2
          go_roundw
          case rel => exact ⟨q + 1, by omega, by omega, by go_num, HN.out, trivial⟩
          case measure => simp [intOf]; omega
      · obtain rfl : q = len7 := by omega
        have HV2 := Lib.hid (show ∀ t ∈ xs.drop p, a9 < t.v by
          have := HV.out
          rw [List.take_of_length_le (by rw [HI.out.hlen]; omega)] at this
          exact this)
        clear HV
        go_wp2_with fail
        refine (rp_new V2).mono ?_
        rintro _ V3 ⟨g, m, rfl, hr, hb, hg, hm⟩
        have HS3 := Lib.hid (Sr.new hr (HB2.out.trans (hb.mono HB2.out.size)) (Nat.le_trans HB2.out.size hg) (Nat.le_trans HB2.out.size hm))
        have HX3 := Lib.hid (HX2.out.below hb HX2.out.lt)
        clear hr hb hg hm
        go_wp2_with fail
        refine (rp_new V3).mono ?_
        rintro _ V4 ⟨g2, m2, rfl, hr, hb, hg, hm⟩
        have HT4 := Lib.hid (T2.new HS3.out hb hr hg hm)
        have HX4 := Lib.hid (HX3.out.below hb HX3.out.lt)
        clear hr hb hg hm x0 x1 x2 x3 x4 x5 x6 x7
        have x0 := HX4.out.cell 0
        have x1 := HX4.out.cell 1
        have x2 := HX4.out.cell 2
        have x3 := HX4.out.cell 3
        have x4 := HX4.out.cell 4
        have x5 := HX4.out.cell 5
        have x6 := HX4.out.cell 6
        have x7 := HX4.out.cell 7
        obtain ⟨E, hE⟩ : ∃ E, foldE ⟨[], 0, false⟩ 0 a0 a1 a2 xs = E := ⟨_, rfl⟩
        have HE := Lib.hid hE
        obtain ⟨F, hF⟩ : ∃ F, foldR ⟨[], 0, false⟩ 0 a0 a1 a2 a6 xs = F := ⟨_, rfl⟩
        have HFF := Lib.hid hF
        have HF := Lib.hid (HT4.out.fold (r := ⟨a0, a1, a2, a3, a4, a5, a6, A7, q, cap7, b7, off7, xs⟩) (by omega) HI.out HLR.out 0 F hF E hE)
        try simp only [rqA] at HF
        clear hE hF
        go_wp2_with fail
        refine HF.out.mono ?_
        rintro _ V5 ⟨rfl, m1, ht5, hk5⟩
        have HT5 := Lib.hid ht5
        have HX5 := Lib.hid (hk5 X 35 _ HX4.out (by decide) (by decide))
        clear ht5 hk5 HF x0 x1 x2 x3 x4 x5 x6 x7
        have x0 := HX5.out.cell 0
        have x1 := HX5.out.cell 1
        have x2 := HX5.out.cell 2
        have x3 := HX5.out.cell 3
        have x4 := HX5.out.cell 4
        have x5 := HX5.out.cell 5
        have x6 := HX5.out.cell 6
        have x7 := HX5.out.cell 7
        by_cases hE0 : E ≠ 0
        · have hE2 : (E != 0) = true := by simpa using hE0
          clear hE0
          go_wp2_with fail
          refine (first_any V5).mono ?_
          rintro _ Vf ⟨rfl, hb⟩
          have HBf := Lib.hid (HT5.out.s1.bel.trans (hb.mono HT5.out.s1.bel.size))
          clear hb
          go_wp2
          go_ret
          exact ⟨rfl, HBf.out⟩
        have hE1 : E = 0 := by simpa using hE0
        subst hE1
        clear hE0
        by_cases he0 : a1 ≠ 0
        · have he2 : (a1 != 0) = true := by simpa using he0
          clear he0
          go_wp2_with fail
          refine (first_any V5).mono ?_
          rintro _ Vf ⟨rfl, hb⟩
          have HBf := Lib.hid (HT5.out.s1.bel.trans (hb.mono HT5.out.s1.bel.size))
          clear hb
          go_wp2
          go_ret
          exact ⟨rfl, HBf.out⟩
        have he1 : a1 = 0 := by simpa using he0
        subst he1
        clear he0
        obtain ⟨L1, f1, f2, f3, f4, f5⟩ := fold_two (more := a6) (at_ := p) HE.out rfl (show 1 ≤ a9 by omega) (show a9 ≤ a2 by omega) HV2.out
        have H1 := Lib.hid f1
        have H2 := Lib.hid f2
        have H3 := Lib.hid f3
        have H4 := Lib.hid f4
        have H5 := Lib.hid (show F = ⟨takes [] xs, a2, a6⟩ from HFF.out.symm.trans f5)
        clear f1 f2 f3 f4 f5
        rw [H5.out] at HT5
        clear HE HFF H5
        have g0 := HX5.out.frozen 0
        go_wp2_with fail
        have HXa := Lib.hid (HX5.out.alloc (.cells #[.int .i64 0, .int .i64 0, .int .i64 0, .int .i64 0, .string { data := #[] }, .int .i64 0, .bool false, .slice none 0 0] 35))
        have HXb := Lib.hid (HX5.out.alloc (.cells #[.int .i64 a0, .int .i64 0, .int .i64 a2, .int .i64 a3, .string a4, .int .i64 a5, .bool a6, .slice A7 q cap7] 35))
        have HXc := Lib.hid (HXa.out.alloc (.cells #[.int .i64 0, .int .i64 0, .int .i64 0, .int .i64 0, .string { data := #[] }, .int .i64 0, .bool false, .slice none 0 0] 35))
        have HXd := Lib.hid (HXb.out.alloc (.cells #[.int .i64 0, .int .i64 0, .int .i64 0, .int .i64 0, .string { data := #[] }, .int .i64 0, .bool false, .slice none 0 0] 35))
        have HXe := Lib.hid (HXa.out.alloc (.cells #[.int .i64 a0, .int .i64 0, .int .i64 a2, .int .i64 a3, .string a4, .int .i64 a5, .bool a6, .slice A7 q cap7] 35))
        have HXf := Lib.hid (HXb.out.alloc (.cells #[.int .i64 a0, .int .i64 0, .int .i64 a2, .int .i64 a3, .string a4, .int .i64 a5, .bool a6, .slice A7 q cap7] 35))
        have xa0 := HXa.out.cell 0
        have xa1 := HXa.out.cell 1
        have xa2 := HXa.out.cell 2
        have xa3 := HXa.out.cell 3
        have xa4 := HXa.out.cell 4
        have xa5 := HXa.out.cell 5
        have xa6 := HXa.out.cell 6
        have xa7 := HXa.out.cell 7
        have xb0 := HXb.out.cell 0
        have xb1 := HXb.out.cell 1
        have xb2 := HXb.out.cell 2
        have xb3 := HXb.out.cell 3
        have xb4 := HXb.out.cell 4
        have xb5 := HXb.out.cell 5
        have xb6 := HXb.out.cell 6
        have xb7 := HXb.out.cell 7
        have xc0 := HXc.out.cell 0
        have xc1 := HXc.out.cell 1
        have xc2 := HXc.out.cell 2
        have xc3 := HXc.out.cell 3
        have xc4 := HXc.out.cell 4
        have xc5 := HXc.out.cell 5
        have xc6 := HXc.out.cell 6
        have xc7 := HXc.out.cell 7
        have xd0 := HXd.out.cell 0
        have xd1 := HXd.out.cell 1
        have xd2 := HXd.out.cell 2
        have xd3 := HXd.out.cell 3
        have xd4 := HXd.out.cell 4
        have xd5 := HXd.out.cell 5
        have xd6 := HXd.out.cell 6
        have xd7 := HXd.out.cell 7
        have xe0 := HXe.out.cell 0
        have xe1 := HXe.out.cell 1
        have xe2 := HXe.out.cell 2
        have xe3 := HXe.out.cell 3
        have xe4 := HXe.out.cell 4
        have xe5 := HXe.out.cell 5
        have xe6 := HXe.out.cell 6
        have xe7 := HXe.out.cell 7
        have hcut1 := cut_to A7 q cap7 p (by omega)
        have hcut2 := cut_from A7 q cap7 p (by omega)
        have HXlt := Lib.hid (show X < V5.heap.size from HX5.out.lt)
        go_region
        · clear xa0 xa1 xa2 xa3 xa4 xa5 xa6 xa7 xb0 xb1 xb2 xb3 xb4 xb5 xb6 xb7 xc0 xc1 xc2 xc3 xc4 xc5 xc6 xc7 xd0 xd1 xd2 xd3 xd4 xd5 xd6 xd7 xe0 xe1 xe2 xe3 xe4 xe5 xe6 xe7
          obtain ⟨V6, hV6⟩ : ∃ V6, ((V5.alloc (.cells #[.int .i64 a0, .int .i64 0, .int .i64 a2, .int .i64 a3, .string a4, .int .i64 a5, .bool a6, .slice A7 q cap7] 35)).alloc (.cells #[.int .i64 a0, .int .i64 0, .int .i64 a2, .int .i64 a3, .string a4, .int .i64 a5, .bool a6, .slice A7 q cap7] 35)).drew = V6 := ⟨_, rfl⟩
          have HA6 := Lib.hid (show Blk V6 V5.heap.size 35 #[.int .i64 a0, .int .i64 0, .int .i64 a2, .int .i64 a3, .string a4, .int .i64 a5, .bool a6, .slice A7 q cap7] from hV6 ▸ (((Blk.new V5 35 #[.int .i64 a0, .int .i64 0, .int .i64 a2, .int .i64 a3, .string a4, .int .i64 a5, .bool a6, .slice A7 q cap7]).alloc _).drew))
          have HC6 := Lib.hid (show Blk V6 (V5.heap.size + 1) 35 #[.int .i64 a0, .int .i64 0, .int .i64 a2, .int .i64 a3, .string a4, .int .i64 a5, .bool a6, .slice A7 q cap7] from hV6 ▸ (by
            have := Blk.new (V5.alloc (.cells #[.int .i64 a0, .int .i64 0, .int .i64 a2, .int .i64 a3, .string a4, .int .i64 a5, .bool a6, .slice A7 q cap7] 35)) 35 #[.int .i64 a0, .int .i64 0, .int .i64 a2, .int .i64 a3, .string a4, .int .i64 a5, .bool a6, .slice A7 q cap7]
            simp only [World.size_alloc] at this
            exact this.drew))
          have HX6 := Lib.hid (show Blk V6 X 35 #[.int .i64 a0, .int .i64 0, .int .i64 a2, .int .i64 a3, .string a4, .int .i64 a5, .bool a6, .slice A7 q cap7] from hV6 ▸ HXf.out.drew)
          have HB6 := Lib.hid (show Below V5.heap.size V5 V6 from hV6 ▸ (((Below.refl _ V5).alloc (Nat.le_refl _) _).alloc (by simp) _).drew)
          rw [hV6]
          clear hV6 HXa HXb HXc HXd HXe HXf
          obtain ⟨s, hs⟩ : ∃ s, V5.heap.size = s := ⟨_, rfl⟩
          have HSV := Lib.hid hs
          rw [hs] at HA6 HC6 HB6 HXlt ⊢
          clear hs x0 x1 x2 x3 x4 x5 x6 x7
          have HXP := Lib.hid (show X ≠ s by have := HXlt.out; omega)
          have HXQ := Lib.hid (show X ≠ s + 1 by have := HXlt.out; omega)
          have x7 := HX6.out.cell 7
          have pf := HA6.out.frozen 7
          have pf2 := HA6.out.frozen 2
          have pf6 := HA6.out.frozen 6
          have p7 := HA6.out.cell 7
          have p2 := HA6.out.cell 2
          have p6 := HA6.out.cell 6
          obtain ⟨V7, hV7⟩ : ∃ V7, ((V6.setCell ⟨s, 7, none⟩ (.slice A7 p cap7)).setCell ⟨s, 2, none⟩ (.int .i64 a9)).setCell ⟨s, 6, none⟩ (.bool true) = V7 := ⟨_, rfl⟩
          have HP7 := Lib.hid (show Blk V7 (s) 35 #[.int .i64 a0, .int .i64 0, .int .i64 a9, .int .i64 a3, .string a4, .int .i64 a5, .bool true, .slice A7 p cap7] from hV7 ▸ (((HA6.out.set_ 7 (.slice A7 p cap7)).set_ 2 (.int .i64 a9)).set_ 6 (.bool true)))
          have HX7 := Lib.hid (show Blk V7 X 35 #[.int .i64 a0, .int .i64 0, .int .i64 a2, .int .i64 a3, .string a4, .int .i64 a5, .bool a6, .slice A7 q cap7] from hV7 ▸ (((HX6.out.far (p := ⟨s, 7, none⟩) HXP.out _).far (p := ⟨s, 2, none⟩) HXP.out _).far (p := ⟨s, 6, none⟩) HXP.out _))
          have HQ7 := Lib.hid (show Blk V7 (s + 1) 35 #[.int .i64 a0, .int .i64 0, .int .i64 a2, .int .i64 a3, .string a4, .int .i64 a5, .bool a6, .slice A7 q cap7] from hV7 ▸ (((HC6.out.far (p := ⟨s, 7, none⟩) (show s + 1 ≠ s by omega) _).far (p := ⟨s, 2, none⟩) (show s + 1 ≠ s by omega) _).far (p := ⟨s, 6, none⟩) (show s + 1 ≠ s by omega) _))
          have HB7 := Lib.hid (show Below s V5 V7 from hV7 ▸ (((HB6.out.setCell (p := ⟨s, 7, none⟩) (show s ≤ s by omega) _).setCell (p := ⟨s, 2, none⟩) (show s ≤ s by omega) _).setCell (p := ⟨s, 6, none⟩) (show s ≤ s by omega) _))
          have z7 := HX7.out.cell 7
          have qf := HQ7.out.frozen 7
          have q7 := HQ7.out.cell 7
          obtain ⟨V8, hV8⟩ : ∃ V8, V7.setCell ⟨s + 1, 7, none⟩ (.slice (cutI A7 cap7 p) (q - p) (cap7 - p)) = V8 := ⟨_, rfl⟩
          have HQ8 := Lib.hid (show Blk V8 (s + 1) 35 #[.int .i64 a0, .int .i64 0, .int .i64 a2, .int .i64 a3, .string a4, .int .i64 a5, .bool a6, .slice (cutI A7 cap7 p) (q - p) (cap7 - p)] from hV8 ▸ (HQ7.out.set_ 7 _))
          have HP8 := Lib.hid (show Blk V8 (s) 35 #[.int .i64 a0, .int .i64 0, .int .i64 a9, .int .i64 a3, .string a4, .int .i64 a5, .bool true, .slice A7 p cap7] from hV8 ▸ (HP7.out.far (p := ⟨s + 1, 7, none⟩) (show s ≠ s + 1 by omega) _))
          have HB8 := Lib.hid (show Below s V5 V8 from hV8 ▸ (HB7.out.setCell (p := ⟨s + 1, 7, none⟩) (show s ≤ s + 1 by omega) _))
          have HT8 := Lib.hid (show T2 w V8 g2 m2 ⟨[], 0, false⟩ g m1 ⟨takes [] xs, a2, a6⟩ 0 1 from (HT5.out.step (HB8.out.mono (Nat.le_of_eq HSV.out))).swap)
          have p0 := HP8.out.cell 0
          have p1 := HP8.out.cell 1
          have r2 := HP8.out.cell 2
          have p3 := HP8.out.cell 3
          have p4 := HP8.out.cell 4
          have p5 := HP8.out.cell 5
          have r6 := HP8.out.cell 6
          have r7 := HP8.out.cell 7
          have HC := Lib.hid (HT8.out.fold (by omega) (rq_take (r := ⟨a0, 0, a2, a3, a4, a5, a6, A7, q, cap7, b7, off7, xs⟩) HI.out p hpl a9 true) (light_take (r := ⟨a0, 0, a2, a3, a4, a5, a6, A7, q, cap7, b7, off7, xs⟩) HLR.out p a9 true) 0 _ H1.out 0 H2.out)
          try simp only [rqA] at HC
          go_wp2_with fail
          refine HC.out.mono ?_
          rintro _ V9 ⟨rfl, m3, ht9, hk9⟩
          have HT9 := Lib.hid ht9
          have HQ9 := Lib.hid (hk9 _ 35 _ HQ8.out (by decide) (by decide))
          clear ht9 hk9 HC p0 p1 p2 p3 p4 p5 p6 p7 pf pf2 pf6 qf q7 x7 z7 r2 r6 r7 hcut1 hcut2 hV7 hV8
          have HTk := Lib.hid (rp_token HT9.out.s1.rp)
          have HMo := Lib.hid (rp_more HT9.out.s1.rp)
          have p0 := HQ9.out.cell 0
          have p1 := HQ9.out.cell 1
          have p2 := HQ9.out.cell 2
          have p3 := HQ9.out.cell 3
          have p4 := HQ9.out.cell 4
          have p5 := HQ9.out.cell 5
          have p6 := HQ9.out.cell 6
          have p7 := HQ9.out.cell 7
          have HC := Lib.hid (HT9.out.fold (by omega) (rq_drop (r := ⟨a0, 0, a2, a3, a4, a5, a6, A7, q, cap7, b7, off7, xs⟩) HI.out p hpl) (light_drop (r := ⟨a0, 0, a2, a3, a4, a5, a6, A7, q, cap7, b7, off7, xs⟩) HLR.out p _ _ _ _) a9 _ H3.out 0 H4.out)
          try simp only [rqA] at HC
          go_wp2_with fail
          refine HTk.out.mono ?_
          rintro _ wz ⟨rfl, hw0⟩
          replace hw0 := hw0.symm
          subst hw0
          go_wp2_with fail
          refine HMo.out.mono ?_
          rintro _ wz ⟨rfl, hw0⟩
          replace hw0 := hw0.symm
          subst hw0
          go_wp2_with fail
          refine HC.out.mono ?_
          rintro _ V10 ⟨rfl, m4, ht10, -⟩
          have HT10 := Lib.hid ht10
          clear ht10 HC HTk HMo p0 p1 p2 p3 p4 p5 p6 p7
          obtain ⟨LL, hLL⟩ : ∃ LL, takes [] xs = LL := ⟨_, rfl⟩
          rw [hLL] at HT10
          clear hLL
          have HK1 := Lib.hid (rp_token HT10.out.s1.rp)
          have HK2 := Lib.hid (rp_token HT10.out.s2.rp)
          have HN1 := Lib.hid (rp_more HT10.out.s1.rp)
          have HN2 := Lib.hid (rp_more HT10.out.s2.rp)
          have HD2 := Lib.hid (HT10.out.s2.cards (by omega))
          have HLEN := Lib.hid (show LL.length ≤ 100000 by have := HT10.out.s2.len; simp only at this; omega)
          go_wp2_with fail
          refine HK2.out.mono ?_
          rintro _ wz ⟨rfl, hw0⟩
          replace hw0 := hw0.symm
          subst hw0
          go_wp2_with fail
          refine HK1.out.mono ?_
          rintro _ wz ⟨rfl, hw0⟩
          replace hw0 := hw0.symm
          subst hw0
          go_wp2_with fail
          refine HN2.out.mono ?_
          rintro _ wz ⟨rfl, hw0⟩
          replace hw0 := hw0.symm
          subst hw0
          go_wp2_with fail
          refine HN1.out.mono ?_
          rintro _ wz ⟨rfl, hw0⟩
          replace hw0 := hw0.symm
          subst hw0
          go_wp2_with fail
          refine HD2.out.mono ?_
          rintro _ V11 ⟨Aa, capa, ba, rfl, hia, hb11, _⟩
          have HT11 := Lib.hid (HT10.out.step hb11)
          have HIa := Lib.hid hia
          clear hia hb11 HD2 HK1 HK2 HN1 HN2
          have HD1 := Lib.hid (HT11.out.s1.cards (by omega))
          go_wp2_with fail
          refine HD1.out.mono ?_
          rintro _ V12 ⟨Ab, capb, bb, rfl, hib, hb12, _⟩
          have HT12 := Lib.hid (HT11.out.step hb12)
          have HAL := Lib.hid (alike_any (HIa.out.below hb12 (fun hl => (HIa.out.addr hl).2)) hib HLEN.out)
          clear hib hb12 HD1
          go_wp2_with fail
          refine HAL.out.mono ?_
          rintro _ V13 ⟨rfl, hb13⟩
          have HT13 := Lib.hid (HT12.out.step hb13)
          clear hb13 HAL
          go_wp2
          go_ret
          exact ⟨rfl, HT13.out.s1.bel⟩
        · clear xa0 xa1 xa2 xa3 xa4 xa5 xa6 xa7 xb0 xb1 xb2 xb3 xb4 xb5 xb6 xb7 xc0 xc1 xc2 xc3 xc4 xc5 xc6 xc7 xd0 xd1 xd2 xd3 xd4 xd5 xd6 xd7 xe0 xe1 xe2 xe3 xe4 xe5 xe6 xe7
          obtain ⟨V6, hV6⟩ : ∃ V6, ((V5.alloc (.cells #[.int .i64 a0, .int .i64 0, .int .i64 a2, .int .i64 a3, .string a4, .int .i64 a5, .bool a6, .slice A7 q cap7] 35)).alloc (.cells #[.int .i64 a0, .int .i64 0, .int .i64 a2, .int .i64 a3, .string a4, .int .i64 a5, .bool a6, .slice A7 q cap7] 35)).drew = V6 := ⟨_, rfl⟩
          have HA6 := Lib.hid (show Blk V6 V5.heap.size 35 #[.int .i64 a0, .int .i64 0, .int .i64 a2, .int .i64 a3, .string a4, .int .i64 a5, .bool a6, .slice A7 q cap7] from hV6 ▸ (((Blk.new V5 35 #[.int .i64 a0, .int .i64 0, .int .i64 a2, .int .i64 a3, .string a4, .int .i64 a5, .bool a6, .slice A7 q cap7]).alloc _).drew))
          have HC6 := Lib.hid (show Blk V6 (V5.heap.size + 1) 35 #[.int .i64 a0, .int .i64 0, .int .i64 a2, .int .i64 a3, .string a4, .int .i64 a5, .bool a6, .slice A7 q cap7] from hV6 ▸ (by
            have := Blk.new (V5.alloc (.cells #[.int .i64 a0, .int .i64 0, .int .i64 a2, .int .i64 a3, .string a4, .int .i64 a5, .bool a6, .slice A7 q cap7] 35)) 35 #[.int .i64 a0, .int .i64 0, .int .i64 a2, .int .i64 a3, .string a4, .int .i64 a5, .bool a6, .slice A7 q cap7]
            simp only [World.size_alloc] at this
            exact this.drew))
          have HX6 := Lib.hid (show Blk V6 X 35 #[.int .i64 a0, .int .i64 0, .int .i64 a2, .int .i64 a3, .string a4, .int .i64 a5, .bool a6, .slice A7 q cap7] from hV6 ▸ HXf.out.drew)
          have HB6 := Lib.hid (show Below V5.heap.size V5 V6 from hV6 ▸ (((Below.refl _ V5).alloc (Nat.le_refl _) _).alloc (by simp) _).drew)
          rw [hV6]
          clear hV6 HXa HXb HXc HXd HXe HXf
          obtain ⟨s, hs⟩ : ∃ s, V5.heap.size = s := ⟨_, rfl⟩
          have HSV := Lib.hid hs
          rw [hs] at HA6 HC6 HB6 HXlt ⊢
          clear hs x0 x1 x2 x3 x4 x5 x6 x7
          have HXP := Lib.hid (show X ≠ s + 1 by have := HXlt.out; omega)
          have HXQ := Lib.hid (show X ≠ s by have := HXlt.out; omega)
          have x7 := HX6.out.cell 7
          have pf := HC6.out.frozen 7
          have pf2 := HC6.out.frozen 2
          have pf6 := HC6.out.frozen 6
          have p7 := HC6.out.cell 7
          have p2 := HC6.out.cell 2
          have p6 := HC6.out.cell 6
          obtain ⟨V7, hV7⟩ : ∃ V7, ((V6.setCell ⟨s + 1, 7, none⟩ (.slice A7 p cap7)).setCell ⟨s + 1, 2, none⟩ (.int .i64 a9)).setCell ⟨s + 1, 6, none⟩ (.bool true) = V7 := ⟨_, rfl⟩
          have HP7 := Lib.hid (show Blk V7 (s + 1) 35 #[.int .i64 a0, .int .i64 0, .int .i64 a9, .int .i64 a3, .string a4, .int .i64 a5, .bool true, .slice A7 p cap7] from hV7 ▸ (((HC6.out.set_ 7 (.slice A7 p cap7)).set_ 2 (.int .i64 a9)).set_ 6 (.bool true)))
          have HX7 := Lib.hid (show Blk V7 X 35 #[.int .i64 a0, .int .i64 0, .int .i64 a2, .int .i64 a3, .string a4, .int .i64 a5, .bool a6, .slice A7 q cap7] from hV7 ▸ (((HX6.out.far (p := ⟨s + 1, 7, none⟩) HXP.out _).far (p := ⟨s + 1, 2, none⟩) HXP.out _).far (p := ⟨s + 1, 6, none⟩) HXP.out _))
          have HQ7 := Lib.hid (show Blk V7 (s) 35 #[.int .i64 a0, .int .i64 0, .int .i64 a2, .int .i64 a3, .string a4, .int .i64 a5, .bool a6, .slice A7 q cap7] from hV7 ▸ (((HA6.out.far (p := ⟨s + 1, 7, none⟩) (show s ≠ s + 1 by omega) _).far (p := ⟨s + 1, 2, none⟩) (show s ≠ s + 1 by omega) _).far (p := ⟨s + 1, 6, none⟩) (show s ≠ s + 1 by omega) _))
          have HB7 := Lib.hid (show Below s V5 V7 from hV7 ▸ (((HB6.out.setCell (p := ⟨s + 1, 7, none⟩) (show s ≤ s + 1 by omega) _).setCell (p := ⟨s + 1, 2, none⟩) (show s ≤ s + 1 by omega) _).setCell (p := ⟨s + 1, 6, none⟩) (show s ≤ s + 1 by omega) _))
          have z7 := HX7.out.cell 7
          have qf := HQ7.out.frozen 7
          have q7 := HQ7.out.cell 7
          obtain ⟨V8, hV8⟩ : ∃ V8, V7.setCell ⟨s, 7, none⟩ (.slice (cutI A7 cap7 p) (q - p) (cap7 - p)) = V8 := ⟨_, rfl⟩
          have HQ8 := Lib.hid (show Blk V8 (s) 35 #[.int .i64 a0, .int .i64 0, .int .i64 a2, .int .i64 a3, .string a4, .int .i64 a5, .bool a6, .slice (cutI A7 cap7 p) (q - p) (cap7 - p)] from hV8 ▸ (HQ7.out.set_ 7 _))
          have HP8 := Lib.hid (show Blk V8 (s + 1) 35 #[.int .i64 a0, .int .i64 0, .int .i64 a9, .int .i64 a3, .string a4, .int .i64 a5, .bool true, .slice A7 p cap7] from hV8 ▸ (HP7.out.far (p := ⟨s, 7, none⟩) (show s + 1 ≠ s by omega) _))
          have HB8 := Lib.hid (show Below s V5 V8 from hV8 ▸ (HB7.out.setCell (p := ⟨s, 7, none⟩) (show s ≤ s by omega) _))
          have HT8 := Lib.hid (show T2 w V8 g2 m2 ⟨[], 0, false⟩ g m1 ⟨takes [] xs, a2, a6⟩ 0 1 from (HT5.out.step (HB8.out.mono (Nat.le_of_eq HSV.out))).swap)
          have p0 := HP8.out.cell 0
          have p1 := HP8.out.cell 1
          have r2 := HP8.out.cell 2
          have p3 := HP8.out.cell 3
          have p4 := HP8.out.cell 4
          have p5 := HP8.out.cell 5
          have r6 := HP8.out.cell 6
          have r7 := HP8.out.cell 7
          have HC := Lib.hid (HT8.out.fold (by omega) (rq_take (r := ⟨a0, 0, a2, a3, a4, a5, a6, A7, q, cap7, b7, off7, xs⟩) HI.out p hpl a9 true) (light_take (r := ⟨a0, 0, a2, a3, a4, a5, a6, A7, q, cap7, b7, off7, xs⟩) HLR.out p a9 true) 0 _ H1.out 0 H2.out)
          try simp only [rqA] at HC
          go_wp2_with fail
          refine HC.out.mono ?_
          rintro _ V9 ⟨rfl, m3, ht9, hk9⟩
          have HT9 := Lib.hid ht9
          have HQ9 := Lib.hid (hk9 _ 35 _ HQ8.out (by decide) (by decide))
          clear ht9 hk9 HC p0 p1 p2 p3 p4 p5 p6 p7 pf pf2 pf6 qf q7 x7 z7 r2 r6 r7 hcut1 hcut2 hV7 hV8
          have HTk := Lib.hid (rp_token HT9.out.s1.rp)
          have HMo := Lib.hid (rp_more HT9.out.s1.rp)
          have p0 := HQ9.out.cell 0
          have p1 := HQ9.out.cell 1
          have p2 := HQ9.out.cell 2
          have p3 := HQ9.out.cell 3
          have p4 := HQ9.out.cell 4
          have p5 := HQ9.out.cell 5
          have p6 := HQ9.out.cell 6
          have p7 := HQ9.out.cell 7
          have HC := Lib.hid (HT9.out.fold (by omega) (rq_drop (r := ⟨a0, 0, a2, a3, a4, a5, a6, A7, q, cap7, b7, off7, xs⟩) HI.out p hpl) (light_drop (r := ⟨a0, 0, a2, a3, a4, a5, a6, A7, q, cap7, b7, off7, xs⟩) HLR.out p _ _ _ _) a9 _ H3.out 0 H4.out)
          try simp only [rqA] at HC
          go_wp2_with fail
          refine HTk.out.mono ?_
          rintro _ wz ⟨rfl, hw0⟩
          replace hw0 := hw0.symm
          subst hw0
          go_wp2_with fail
          refine HMo.out.mono ?_
          rintro _ wz ⟨rfl, hw0⟩
          replace hw0 := hw0.symm
          subst hw0
          go_wp2_with fail
          refine HC.out.mono ?_
          rintro _ V10 ⟨rfl, m4, ht10, -⟩
          have HT10 := Lib.hid ht10
          clear ht10 HC HTk HMo p0 p1 p2 p3 p4 p5 p6 p7
          obtain ⟨LL, hLL⟩ : ∃ LL, takes [] xs = LL := ⟨_, rfl⟩
          rw [hLL] at HT10
          clear hLL
          have HK1 := Lib.hid (rp_token HT10.out.s1.rp)
          have HK2 := Lib.hid (rp_token HT10.out.s2.rp)
          have HN1 := Lib.hid (rp_more HT10.out.s1.rp)
          have HN2 := Lib.hid (rp_more HT10.out.s2.rp)
          have HD2 := Lib.hid (HT10.out.s2.cards (by omega))
          have HLEN := Lib.hid (show LL.length ≤ 100000 by have := HT10.out.s2.len; simp only at this; omega)
          go_wp2_with fail
          refine HK2.out.mono ?_
          rintro _ wz ⟨rfl, hw0⟩
          replace hw0 := hw0.symm
          subst hw0
          go_wp2_with fail
          refine HK1.out.mono ?_
          rintro _ wz ⟨rfl, hw0⟩
          replace hw0 := hw0.symm
          subst hw0
          go_wp2_with fail
          refine HN2.out.mono ?_
          rintro _ wz ⟨rfl, hw0⟩
          replace hw0 := hw0.symm
          subst hw0
          go_wp2_with fail
          refine HN1.out.mono ?_
          rintro _ wz ⟨rfl, hw0⟩
          replace hw0 := hw0.symm
          subst hw0
          go_wp2_with fail
          refine HD2.out.mono ?_
          rintro _ V11 ⟨Aa, capa, ba, rfl, hia, hb11, _⟩
          have HT11 := Lib.hid (HT10.out.step hb11)
          have HIa := Lib.hid hia
          clear hia hb11 HD2 HK1 HK2 HN1 HN2
          have HD1 := Lib.hid (HT11.out.s1.cards (by omega))
          go_wp2_with fail
          refine HD1.out.mono ?_
          rintro _ V12 ⟨Ab, capb, bb, rfl, hib, hb12, _⟩
          have HT12 := Lib.hid (HT11.out.step hb12)
          have HAL := Lib.hid (alike_any (HIa.out.below hb12 (fun hl => (HIa.out.addr hl).2)) hib HLEN.out)
          clear hib hb12 HD1
          go_wp2_with fail
          refine HAL.out.mono ?_
          rintro _ V13 ⟨rfl, hb13⟩
          have HT13 := Lib.hid (HT12.out.step hb13)
          clear hb13 HAL
          go_wp2
          go_ret
          exact ⟨rfl, HT13.out.s1.bel⟩
end Go.Proofs.Ytpmgabeefppajaa
