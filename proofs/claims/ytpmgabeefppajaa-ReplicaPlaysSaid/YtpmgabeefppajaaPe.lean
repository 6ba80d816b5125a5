/- ReplicaPlays. -/
import Derived.Test.YtpmgabeefppajaaPd
import Derived.Test.YtpmgabeefppajaaRg
namespace Go.Proofs.Ytpmgabeefppajaa
open Go.RowKit
open Go.Lib
set_option linter.unusedVariables false
set_option linter.unusedSimpArgs false
set_option maxRecDepth 100000
/-- The document's Fold, beside the other copy. -/
theorem So.rfold {w w0 wr : World} {g m m1 g2 n : Nat} {R F : Rs} (h0 : So w w0 g m g2 n R) (hs : Sr w wr g m1 (n + 1) F) (hk : Kr w0 wr g m) (hn : n ≤ 100) {r : Rq} (hr : rqI w r) (hl : rqLight r = true) (asked : Int) (hF : foldR R asked r.k r.e r.tok r.more r.xs = F) (E : Int) (hE : foldE R asked r.k r.e r.tok r.xs = E) :
    Calls Try.prog 13 #[.pointer (some ⟨g2, 0, none⟩), .int .i64 asked, .agg (rqA r)] wr fun x w' => x = .returned (.int .i64 E) ∧ So w w' g m1 g2 (n + 1) F := by
  obtain ⟨h1, h2⟩ := light_rq hr hl
  have hO : Oq wr w.heap.size g2 R := h0.o.keep (hk.blk h0.s.rp)
  have hlen := h0.s.len
  have hsz := hs.bel.size
  refine (rfold_any (L := R.L) (tk := R.tk) (mo := R.mo) hO hsz (rqI_below hr hs.bel) (fun hl => by have := rq_lt hr hl; have := h0.hg2; omega) h1 (by omega) h0.s.rp.2.srt asked r.k r.e r.tok r.ver r.card r.idx r.more F hF E hE).mono ?_
  rintro _ w' ⟨rfl, ho, hko⟩
  obtain ⟨U, hu1, _⟩ := hO
  exact ⟨rfl, ⟨hs.rp.ko hu1 hko, hs.len, hs.nms, hs.bel.trans (hko.below h0.hg2 hsz), hs.hg, hs.hm⟩, ho, h0.hg2⟩
set_option maxHeartbeats 16000000 in
theorem replicaPlays_walk (w : World) (A0 : Option Addr) (len0 cap0 : Nat) (S0 : Sh.ok w (Sh.slice 9 (Sh.agg 9 [(0, 1, (Sh.int .i64)), (1, 8, (Sh.agg 8 [(0, 1, (Sh.int .i64)), (1, 1, (Sh.int .i64)), (2, 1, (Sh.int .i64)), (3, 1, (Sh.int .i64)), (4, 1, Sh.str), (5, 1, (Sh.int .i64)), (6, 1, Sh.bool), (7, 1, (Sh.slice 4 (Sh.agg 4 [(0, 1, Sh.str), (1, 1, (Sh.int .i64)), (2, 1, Sh.bool), (3, 1, Sh.str)])))]))])) [.slice A0 len0 cap0]) :
    Calls Try.prog 3 #[.slice A0 len0 cap0] w fun e w' => e = .returned (.bool true) ∧ Below w.heap.size w w' := by
  obtain ⟨b0, off0, l, hA⟩ := aqs_open S0
  have HA := Lib.hid hA
  have hlen := hA.hlen
  have hlc := hA.le
  clear S0 hA
  go_enter Try.func3, Try.ntmps3
  go_wp2_with fail
  refine (first_any w).mono ?_
  rintro _ w1 ⟨rfl, hb⟩
  have HB1 := Lib.hid hb
  have HA1 := Lib.hid (show Aqs w1 A0 len0 cap0 b0 off0 l from ⟨hlen, hlc, fun h => ⟨(HA.out.addr h).1, Nat.lt_of_lt_of_le (HA.out.addr h).2 hb.size⟩, fun j a hj i hi => (hb.cell (p := ⟨b0, _, none⟩) (HA.out.addr (by have := (List.getElem?_eq_some_iff.1 hj).1; omega)).2).trans (HA.out.cell j a hj i hi), fun a ha => rqI_below (HA.out.its a ha) hb⟩)
  have HL := Lib.hid (lights_any HA1.out)
  clear hb
  obtain ⟨y, hy⟩ : ∃ y, lightL l = y := ⟨_, rfl⟩
  have HY := Lib.hid hy
  rw [hy] at HL
  clear hy
  go_wp2_with fail
  refine HL.out.mono ?_
  rintro _ w2 ⟨rfl, hb⟩
  have HB2 := Lib.hid (HB1.out.trans (hb.mono HB1.out.size))
  clear hb HL
  cases y with
  | false =>
    go_wp2_with fail
    refine (first_any w2).mono ?_
    rintro _ w3 ⟨rfl, hb⟩
    have HB3 := Lib.hid (HB2.out.trans (hb.mono HB2.out.size))
    clear hb
    go_wp2
    go_ret
    exact ⟨rfl, HB3.out⟩
  | true =>
    have HYL := Lib.hid (show l.length ≤ 40 ∧ ∀ a ∈ l, rqLight a.r = true by
      have := HY.out
      unfold lightL at this
      simpa only [Bool.and_eq_true, decide_eq_true_eq, List.all_eq_true] using this)
    have hn40 : (len0 : Int) ≤ 40 := by have := HYL.out.1; omega
    clear HY
    go_wp2_with fail
    refine (rp_new w2).mono ?_
    rintro _ w3 ⟨g, m0, rfl, hr, hb, hg, hm⟩
    have HS0 := Lib.hid (Sr.new hr (HB2.out.trans (hb.mono HB2.out.size)) (Nat.le_trans HB2.out.size hg) (Nat.le_trans HB2.out.size hm))
    clear hr hb hg hm HB1 HA1
    obtain ⟨g2, hg2⟩ : ∃ g2, w3.heap.size = g2 := ⟨_, rfl⟩
    obtain ⟨w4, hw4⟩ : ∃ w4, w3.alloc (.cells #[.slice none 0 0, .int .i64 0, .bool false] 30) = w4 := ⟨_, rfl⟩
    have HSO := Lib.hid (show So w w4 g m0 g2 0 ⟨[], 0, false⟩ from ⟨HS0.out.step (hw4 ▸ (Below.refl _ w3).alloc (Nat.le_refl _) _), ⟨.slice none 0 0, hg2 ▸ hw4 ▸ Blk.new w3 30 _, ⟨rfl, .inl ⟨rfl, rfl⟩⟩⟩, hg2 ▸ HS0.out.bel.size⟩)
    have HSA := Lib.hid (same_any HSO.out (by decide))
    go_wp2_with fail
    try rw [hw4]
    refine HSA.out.mono ?_
    rintro _ w5 ⟨rfl, hso⟩
    have HS5 := Lib.hid hso
    clear hso HSA hg2 hw4
    go_wp2
    go_loopw [5] (fun i wr => ∃ (q m : Nat) (R : Rs), q ≤ len0 ∧ i = .int .i64 (q : Int) ∧ So w wr g m g2 q R) (fun i _ => len0 - (intOf i).toNat)
    case atStart => exact ⟨0, m0, _, Nat.zero_le _, rfl, HS5.out⟩
    case round =>
      obtain ⟨q, m, R, hq, rfl, hS⟩ := hrel
      have HS := Lib.hid hS
      clear hS
      by_cases hql : q < len0
      · obtain ⟨a, ha⟩ : ∃ a, l[q]? = some a := ⟨l[q]'(by rw [HA.out.hlen]; exact hql), List.getElem?_eq_getElem _⟩
        have HLI := Lib.hid (HYL.out.2 a (List.mem_of_getElem? ha))
        have HIT := Lib.hid (HA.out.its a (List.mem_of_getElem? ha))
        have HAT := Lib.hid (fun (wr : World) (hb : Below w.heap.size w wr) => HA.out.at_ hb ha)
        obtain ⟨asked, ⟨k, e, tok, ver, card, idx, more, A1, len1, cap1, b1, off1, xs⟩⟩ := a
        simp only at HAT
        obtain ⟨rfl, -⟩ := HAT.out w (Below.refl _ _)
        have hqI : (q : Int) < (len0 : Int) := by omega
        have hq100 : q ≤ 100 := by omega
        clear ha
        have HSd := Lib.hid (show So w wr.drew g m g2 q R from HS.out.drewN 1)
        obtain ⟨F, hF⟩ : ∃ F, foldR R asked k e tok more xs = F := ⟨_, rfl⟩
        obtain ⟨E, hE⟩ : ∃ E, foldE R asked k e tok xs = E := ⟨_, rfl⟩
        have HF := Lib.hid hF
        have HE := Lib.hid hE
        have HCF := Lib.hid (HSd.out.s.fold (r := ⟨k, e, tok, ver, card, idx, more, A1, len1, cap1, b1, off1, xs⟩) hq100 HIT.out HLI.out asked F hF E hE)
        try simp only [rqA] at HCF
        clear hF hE
        obtain ⟨-, e0, e1, e2, e3, e4, e5, e6, e7, e8⟩ := HAT.out wr HS.out.s.bel
        go_wp2_with fail
        go_region_held3 (fun W => W.cell? ⟨b0, off0 + q * 9, none⟩ = some (.int .i64 asked) ∧ W.cell? ⟨b0, off0 + q * 9 + 1, none⟩ = some (.int .i64 k) ∧ W.cell? ⟨b0, off0 + q * 9 + 2, none⟩ = some (.int .i64 e) ∧ W.cell? ⟨b0, off0 + q * 9 + 3, none⟩ = some (.int .i64 tok) ∧ W.cell? ⟨b0, off0 + q * 9 + 4, none⟩ = some (.int .i64 ver) ∧ W.cell? ⟨b0, off0 + q * 9 + 5, none⟩ = some (.string card) ∧ W.cell? ⟨b0, off0 + q * 9 + 6, none⟩ = some (.int .i64 idx) ∧ W.cell? ⟨b0, off0 + q * 9 + 7, none⟩ = some (.bool more) ∧ W.cell? ⟨b0, off0 + q * 9 + 8, none⟩ = some (.slice A1 len1 cap1)) (refine ⟨?_, ?_, ?_, ?_, ?_, ?_, ?_, ?_, ?_⟩ <;> assumption) (first
                 | (go_at_call 12
                    (with_reducible refine HCF.out.mono ?_)
                    clear HCF
                    rintro _ w6 ⟨rfl, m1, hs6, hk6, -⟩
                    have HS6 := Lib.hid hs6
                    have HK6 := Lib.hid hk6
                    obtain ⟨-, f0, f1, f2, f3, f4, f5, f6, f7, f8⟩ := HAT.out w6 hs6.bel
                    clear hs6 hk6)
                 | (go_at_call 13
                    (with_reducible refine (So.rfold HSd.out HS6.out HK6.out hq100 (r := ⟨k, e, tok, ver, card, idx, more, A1, len1, cap1, b1, off1, xs⟩) HIT.out HLI.out asked HF.out E HE.out).mono ?_)
                    rintro _ w7 ⟨rfl, hs7⟩
                    have HS7 := Lib.hid hs7
                    obtain ⟨-, h0, h1, h2, h3, h4, h5, h6, h7, h8⟩ := HAT.out w7 hs7.s.bel
                    clear hs7 HS6 HK6)
                 | (go_at_call 11
                    (with_reducible refine (same_any HS7.out (by omega)).mono ?_)
                    rintro _ w8 ⟨rfl, hs8⟩
                    have HS8 := Lib.hid hs8
                    obtain ⟨-, k0, k1, k2, k3, k4, k5, k6, k7, k8⟩ := HAT.out w8 hs8.s.bel
                    clear hs8 HS7)
                 | fail)
        all_goals (
          clear k0 k1 k2 k3 k4 k5 k6 k7 k8 e0 e1 e2 e3 e4 e5 e6 e7 e8
          have HIL := Lib.hid (light_rq (w := w) (r := ⟨k, e, tok, ver, card, idx, more, A1, len1, cap1, b1, off1, xs⟩) HIT.out HLI.out)
          have hl120 : (len1 : Int) ≤ 120 := by have := HIL.out.1; simp only at this; omega
          have HLC := Lib.hid (show len1 ≤ cap1 from HIT.out.le)
          have hdq : decide ((q : Int) < (len0 : Int)) = true := decide_eq_true hqI
          go_wp2
          try simp only [hdq]
          go_loopw [6] (fun kk wr2 => ∃ j : Nat, j ≤ len1 ∧ kk = .int .i64 (j : Int) ∧ So w wr2 g m1 g2 (q + 1) F) (fun kk _ => len1 - (intOf kk).toNat)
          case atStart => exact ⟨0, Nat.zero_le _, rfl, HS8.out⟩
          case round =>
            obtain ⟨j, hj, rfl, hS⟩ := hrel
            have HSJ := Lib.hid hS
            obtain ⟨-, e0, e1, e2, e3, e4, e5, e6, e7, e8⟩ := HAT.out _ hS.s.bel
            clear hS
            by_cases hjl : j < len1
            · have hjI : (j : Int) < (len1 : Int) := by omega
              by_cases hj5 : (j : Int) < 5
              · obtain ⟨t, ht⟩ : ∃ t, xs[j]? = some t := ⟨xs[j]'(by have := HIT.out.hlen; simp only at this; omega), List.getElem?_eq_getElem _⟩
                obtain ⟨ea, hbl⟩ := HIT.out.addr (show 0 < len1 by omega)
                simp only at ea hbl
                subst ea
                have HCI := Lib.hid (fun (wz : World) (hz : Below w.heap.size w wz) => (Its.cell (rqI_below HIT.out hz)) j t ht)
                obtain ⟨c0, c1, c2, c3⟩ := HCI.out _ HSJ.out.s.bel
                obtain ⟨tu, tv, tx, tc⟩ := t
                simp only at c0 c1 c2 c3 HCI
                have hlj := HLC.out
                clear ht hbl
                obtain ⟨o, ho⟩ : ∃ o, getL tu F.L = o := ⟨_, rfl⟩
                have HG1 := Lib.hid (rp_get HSJ.out.s.rp tu o ho)
                have HOO := Lib.hid ho
                obtain ⟨x1, hx1⟩ : ∃ x, (o.getD (0, .empty)).1 = x := ⟨_, rfl⟩
                obtain ⟨x2, hx2⟩ : ∃ x, (o.getD (0, .empty)).2 = x := ⟨_, rfl⟩
                obtain ⟨x3, hx3⟩ : ∃ x, o.isSome = x := ⟨_, rfl⟩
                have HX := Lib.hid (show (o.getD (0, .empty)).1 = x1 ∧ (o.getD (0, .empty)).2 = x2 ∧ o.isSome = x3 from ⟨hx1, hx2, hx3⟩)
                rw [hx1, hx2, hx3] at HG1
                clear ho hx1 hx2 hx3
                go_wp2_with fail
                refine HG1.out.mono ?_
                rintro _ w9 ⟨rfl, hb9⟩
                have HS9 := Lib.hid (HSJ.out.step hb9)
                obtain ⟨-, f0, f1, f2, f3, f4, f5, f6, f7, f8⟩ := HAT.out w9 HS9.out.s.bel
                obtain ⟨d0, d1, d2, d3⟩ := HCI.out _ HS9.out.s.bel
                have HG2 := Lib.hid (rget_any HS9.out.o (by have := HS9.out.s.len; omega) tu o HOO.out)
                rw [HX.out.1, HX.out.2.1, HX.out.2.2] at HG2
                clear hb9 HG1 e0 e1 e2 e3 e4 e5 e6 e7 e8 c0 c1 c2 c3
                go_wp2_with fail
                refine HG2.out.mono ?_
                rintro _ w10 ⟨rfl, hb10⟩
                have HS10 := Lib.hid (HS9.out.step hb10)
                clear hb10 HG2
                go_wp2
                go_roundw
                case rel => exact ⟨j + 1, by omega, by go_num, HS10.out⟩
                case measure => simp [intOf]; omega
              · go_wp2
                go_roundw
                case rel => exact ⟨q + 1, m1, F, by omega, by go_num, HSJ.out⟩
                case measure => simp [intOf]; omega
            · obtain rfl : j = len1 := by omega
              go_wp2
              go_roundw
              case rel => exact ⟨q + 1, m1, F, by omega, by go_num, HSJ.out⟩
              case measure => simp [intOf]; omega)
      · obtain rfl : q = len0 := by omega
        go_wp2
        go_ret
        exact ⟨rfl, HS.out.s.bel⟩
end Go.Proofs.Ytpmgabeefppajaa
