/- the document's own Three: the walk. -/
import Derived.Test.YtlcchkpjcekinaaGreatDoorZbe
namespace Go.Proofs.YtlcchkpjcekinaaGreatDoor
open Go.RowKit
open Go.Lib hiding intOf
open Go.Sort Go.Proofs
set_option linter.unusedVariables false
set_option linter.unusedSimpArgs false
set_option maxRecDepth 100000
theorem fr3_blk {w : World} {B n : Nat} {V : Value} {L : List F3} (h : Fr3 w B V n L) (hl : L.length = n) (hn : 0 < n) : ∃ g cap cur, V = .slice (some ⟨g, 0, none⟩) n cap ∧ B ≤ g ∧ Blk w g 37 cur ∧ Fv w (some ⟨g, 0, none⟩) cap g 0 L := by
  obtain ⟨g, cap, e1, e2, e3, e4, _, e6⟩ := holds_fr3 h hl hn
  obtain ⟨_, ⟨e, _⟩ | ⟨g', cap', cur, f1, _, f3, _⟩⟩ := h
  · rw [e1] at e; cases e
  · rw [e1] at f1
    cases f1
    exact ⟨g, cap, cur, e1, e2, f3, holds_fv_o e6 e3 (by omega)⟩
theorem fv_one {w : World} {g : Nat} {f1 f2 : Int} {f3 : ByteArray} (h : Blk w g 37 #[.int .i64 f1, .int .i64 f2, .string f3]) : Fv w (some ⟨g, 0, none⟩) 1 g 0 [(f1, f2, f3)] :=
  ⟨Nat.le_refl _, fun j x hj => by
    match j, hj with
    | 0, hj => cases hj; exact ⟨rfl, h.lt, h.cell 0, h.cell 1, h.cell 2⟩
    | j + 1, hj => simp at hj⟩
set_option maxHeartbeats 32000000 in
theorem rthree_any (o a b : ByteArray) (ho : o.size ≤ 1000000) (ha : a.size ≤ 1000000) (hb : b.size ≤ 1000000) (s : ByteArray) (n e : Int) (hr : threeS o a b = (s, n, e)) (w : World) :
    Calls Tryz.prog 11 #[.string o, .string a, .string b] w fun x w' => x = .returned (.tuple #[.string s, .int .i64 n, .int .i64 e]) ∧ Below w.heap.size w w' := by
  obtain ⟨W, e1, hp1⟩ : ∃ W e1, parL o = (W, e1) := ⟨_, _, rfl⟩
  obtain ⟨X, e2, hp2⟩ : ∃ X e2, parL a = (X, e2) := ⟨_, _, rfl⟩
  obtain ⟨Y, e3, hp3⟩ : ∃ Y e3, parL b = (Y, e3) := ⟨_, _, rfl⟩
  obtain ⟨nW, hnW⟩ : ∃ m, W.length = m := ⟨_, rfl⟩
  obtain ⟨nX, hnX⟩ : ∃ m, X.length = m := ⟨_, rfl⟩
  obtain ⟨nY, hnY⟩ : ∃ m, Y.length = m := ⟨_, rfl⟩
  have HR := Lib.hid hr
  have HQ1 := Lib.hid hp1
  have HQ2 := Lib.hid hp2
  have HQ3 := Lib.hid hp3
  have HNW := Lib.hid hnW
  have HNX := Lib.hid hnX
  have HNY := Lib.hid hnY
  have HVX := Lib.hid (show ∀ f ∈ X, f.2.2.size ≤ 1000000 from by have := parL_vals a ha; rw [hp2] at this; exact this)
  have HVY := Lib.hid (show ∀ f ∈ Y, f.2.2.size ≤ 1000000 from by have := parL_vals b hb; rw [hp3] at this; exact this)
  have HP1 := Lib.hid (fun v => rparse_on_f o ho W e1 hp1 nW hnW v)
  have HP2 := Lib.hid (fun v => rparse_on_f a ha X e2 hp2 nX hnX v)
  have HP3 := Lib.hid (fun v => rparse_on_f b hb Y e3 hp3 nY hnY v)
  have HC1 := Lib.hid (show (isC o = true ∧ e1 = 0 ∧ IsCard W) ∨ (isC o = false ∧ e1 = 1) from by
    cases h : isC o with
    | true => have h1 := isC_card h; have h2 := (parL_card h1.1).1; rw [hp1] at h1 h2; exact .inl ⟨rfl, h1.1, h2⟩
    | false => have := isC_not h; rw [hp1] at this; exact .inr ⟨rfl, this⟩)
  have HC2 := Lib.hid (show (isC a = true ∧ e2 = 0 ∧ IsCard X) ∨ (isC a = false ∧ e2 = 1) from by
    cases h : isC a with
    | true => have h1 := isC_card h; have h2 := (parL_card h1.1).1; rw [hp2] at h1 h2; exact .inl ⟨rfl, h1.1, h2⟩
    | false => have := isC_not h; rw [hp2] at this; exact .inr ⟨rfl, this⟩)
  have HC3 := Lib.hid (show (isC b = true ∧ e3 = 0 ∧ IsCard Y) ∨ (isC b = false ∧ e3 = 1) from by
    cases h : isC b with
    | true => have h1 := isC_card h; have h2 := (parL_card h1.1).1; rw [hp3] at h1 h2; exact .inl ⟨rfl, h1.1, h2⟩
    | false => have := isC_not h; rw [hp3] at this; exact .inr ⟨rfl, this⟩)
  clear hr hp1 hp2 hp3 hnW hnX hnY ho ha hb
  rcases HC1.out with ⟨hc1, rfl, cW⟩ | ⟨hc1, rfl⟩
  · rcases HC2.out with ⟨hc2, rfl, cX⟩ | ⟨hc2, rfl⟩
    · rcases HC3.out with ⟨hc3, rfl, cY⟩ | ⟨hc3, rfl⟩
      · have HT := Lib.hid (show (if (txtL (rthr W X Y 6).1).2 = 0 then ((txtL (rthr W X Y 6).1).1, ((rthr W X Y 6).2 : Int), 0) else (⟨#[]⟩, 0, (txtL (rthr W X Y 6).1).2)) = (s, n, e) from by rw [← HR.out, ← threeL_ref cW cX cY]; unfold threeS; rw [hc1, hc2, hc3, HQ1.out, HQ2.out, HQ3.out]; rfl)
        have hl1 : nW ≤ 12 := by have := (card_nums cW).1; have := HNW.out; omega
        have hl2 : nX ≤ 12 := by have := (card_nums cX).1; have := HNX.out; omega
        have hl3 : nY ≤ 12 := by have := (card_nums cY).1; have := HNY.out; omega
        have hX0 : 0 < nX := by have := card_pos cX; have := HNX.out; omega
        have hY0 : 0 < nY := by have := card_pos cY; have := HNY.out; omega
        clear HR HQ1 HQ2 HQ3 HC1 HC2 HC3 cW cX cY hc1 hc2 hc3
        go_enter Tryz.func11, Tryz.ntmps11
        go_wp2_with (first
          | (go_at_call 16; (with_reducible refine (HP1.out _).mono ?_); rintro _ w1 ⟨AW, cW, gW, rfl, hf, hb⟩; have HF1 := Lib.hid hf; have HB1 := Lib.hid (hb); clear hf hb)
          | (go_at_call 16; (with_reducible refine (HP2.out _).mono ?_); rintro _ w2 ⟨AX, cX, gX, rfl, hf, hb⟩; have HF2 := Lib.hid hf; have HB2 := Lib.hid (HB1.out.trans (hb.mono HB1.out.size)); have HF1b := Lib.hid (HF1.out.below hb); clear hf hb)
          | (go_at_call 16; (with_reducible refine (HP3.out _).mono ?_); rintro _ w3 ⟨AY, cY, gY, rfl, hf, hb⟩; have HF3 := Lib.hid hf; have HB3 := Lib.hid (HB2.out.trans (hb.mono HB2.out.size)); have HF1c := Lib.hid (HF1b.out.below hb); have HF2c := Lib.hid (HF2.out.below hb); clear hf hb)
          | fail)
        obtain ⟨B, hB⟩ : ∃ B, w3.heap.size = B := ⟨_, rfl⟩
        have HBB := Lib.hid hB
        clear hB HP1 HP2 HP3 HF1 HF1b HF2
        go_loopw [15, 16, 17] (fun l t k wr => ∃ q : Nat, q ≤ 6 ∧ k = .int .i64 ((q : Int) + 1) ∧ t = .int .i64 (((rthr W X Y q).2 : Nat) : Int) ∧ Fr3 wr B l (rthr W X Y q).1.length (rthr W X Y q).1 ∧ Below B w3 wr) (fun _ _ k _ => 7 - (intOf k).toNat)
        case atStart => exact ⟨0, Nat.zero_le _, rfl, rfl, ⟨rfl, .inl ⟨rfl, rfl⟩⟩, HBB.out ▸ Below.refl _ _⟩
        case round =>
          obtain ⟨q, hq, rfl, rfl, hrow, hb⟩ := hrel
          obtain ⟨ML, tm, hML⟩ : ∃ ML tm, rthr W X Y q = (ML, tm) := ⟨_, _, rfl⟩
          have hlen := rthr_len (W := W) (X := X) (Y := Y) q hq
          rw [hML] at hrow hlen ⊢
          simp only at hrow hlen ⊢
          obtain ⟨m, hm⟩ : ∃ m, ML.length = m := ⟨_, rfl⟩
          rw [hm] at hrow hlen
          have hm1 : m ≤ 150 := by
            have h1 := hlen.1
            have h2 : q * (X.length + Y.length + 1) ≤ 6 * 25 := Nat.mul_le_mul hq (by have := HNX.out; have := HNY.out; omega)
            omega
          have htI : (tm : Int) ≤ 6 := by omega
          have htI0 : (0 : Int) ≤ (tm : Int) := by omega
          have HM := Lib.hid hm
          have HTH := Lib.hid hML
          have HROW := Lib.hid hrow
          have HB := Lib.hid hb
          have HBs := Lib.hid (show B ≤ wr.heap.size from by have h1 := hb.size; have h2 := HBB.out; omega)
          have i3 : IntKind.i64.wrap ((tm : Int) + 1) = (tm : Int) + 1 := IntWalk.i64_in _ (by omega)
          have HTC := Lib.hid (show ((tm + 1 : Nat) : Int) = (tm : Int) + 1 from by omega)
          clear hrow hb hm hML hlen
          by_cases hql : q < 6
          · rcases (show q = 0 ∨ q = 1 ∨ q = 2 ∨ q = 3 ∨ q = 4 ∨ q = 5 by omega) with rfl | rfl | rfl | rfl | rfl | rfl
            · have hq0 := hq
              have hk6 : kinds6[0]? = some 1 := rfl
              have HKQ := Lib.hid (show (((0 + 1 : Nat) : Int) + 1) = 2 from rfl)
              have hst := rthr_step (W := W) (X := X) (Y := Y) hk6
              rw [HTH.out] at hst
              unfold rst at hst
              rw [if_neg (by decide)] at hst
              obtain ⟨Rp, hRp⟩ : ∃ R, onlyR 1 W = R := ⟨_, rfl⟩
              obtain ⟨mp, hmp⟩ : ∃ m, Rp.length = m := ⟨_, rfl⟩
              have lp : mp ≤ 1 := by have := onlyR_len 1 W; rw [hRp] at this; omega
              have HMp := Lib.hid hmp
              obtain ⟨Rq, hRq⟩ : ∃ R, onlyR 1 X = R := ⟨_, rfl⟩
              obtain ⟨mq, hmq⟩ : ∃ m, Rq.length = m := ⟨_, rfl⟩
              have lq : mq ≤ 1 := by have := onlyR_len 1 X; rw [hRq] at this; omega
              have HMq := Lib.hid hmq
              obtain ⟨Rr, hRr⟩ : ∃ R, onlyR 1 Y = R := ⟨_, rfl⟩
              obtain ⟨mr, hmr⟩ : ∃ m, Rr.length = m := ⟨_, rfl⟩
              have lr : mr ≤ 1 := by have := onlyR_len 1 Y; rw [hRr] at this; omega
              have HMr := Lib.hid hmr
              have HOp := Lib.hid (fun (v : World) (h : Below B w3 v) => ronly_any (HF1c.out.below (HBB.out ▸ h)) nW HNW.out (by omega) 1 Rp hRp mp hmp)
              have HOq := Lib.hid (fun (v : World) (h : Below B w3 v) => ronly_any (HF2c.out.below (HBB.out ▸ h)) nX HNX.out (by omega) 1 Rq hRq mq hmq)
              have HOr := Lib.hid (fun (v : World) (h : Below B w3 v) => ronly_any (HF3.out.below (HBB.out ▸ h)) nY HNY.out (by omega) 1 Rr hRr mr hmr)
              rw [hRp, hRq, hRr] at hst
              clear hRp hRq hRr hmp hmq hmr
              by_cases h1 : Rq = Rp
              · have d1 := Lib.hid (show decide (Rq = Rp) = true from decide_eq_true h1)
                have HST := Lib.hid (show rthr W X Y (0 + 1) = (ML ++ Rr, tm) from by rw [hst]; rw [if_pos h1])
                clear hst h1
                go_wp2_with (first
                  | (go_at_call 24; (with_reducible refine (HOp.out _ HB.out).mono ?_); rintro _ u1 ⟨Ap, cp, gp, rfl, hf, hn, hb⟩; have HU1 := Lib.hid (HB.out.trans (hb.mono HBs.out)); have HS1 := Lib.hid (Nat.le_trans HBs.out hb.size); have HR1 := Lib.hid (fr3_keep HROW.out (fun j _ hj => hb.block j hj)); have Zp1 := Lib.hid hf; have HNp := Lib.hid hn; clear hf hn hb)
                  | (go_at_call 24; (with_reducible refine (HOq.out _ HU1.out).mono ?_); rintro _ u2 ⟨Aq, cq, gq, rfl, hf, hn, hb⟩; have HU2 := Lib.hid (HU1.out.trans (hb.mono HS1.out)); have HS2 := Lib.hid (Nat.le_trans HS1.out hb.size); have HR2 := Lib.hid (fr3_keep HR1.out (fun j _ hj => hb.block j hj)); have Zp2 := Lib.hid (Zp1.out.below hb); have Zq2 := Lib.hid hf; have HNq := Lib.hid hn; clear hf hn hb)
                  | (go_at_call 24; (with_reducible refine (HOr.out _ HU2.out).mono ?_); rintro _ u3 ⟨Ar, cr, gr, rfl, hf, hn, hb⟩; have HU3 := Lib.hid (HU2.out.trans (hb.mono HS2.out)); have HS3 := Lib.hid (Nat.le_trans HS2.out hb.size); have HR3 := Lib.hid (fr3_keep HR2.out (fun j _ hj => hb.block j hj)); have Zp3 := Lib.hid (Zp2.out.below hb); have Zq3 := Lib.hid (Zq2.out.below hb); have Zr3 := Lib.hid hf; have HNr := Lib.hid hn; clear hf hn hb)
                  | (go_at_call 25; (with_reducible refine (rsame_any Zq3.out Zp3.out mq mp HMq.out HMp.out lq lp).mono ?_); rw [d1.out]; rintro _ u4 ⟨rfl, hb⟩; have HU4 := Lib.hid (HU3.out.trans (hb.mono HS3.out)); have HS4 := Lib.hid (Nat.le_trans HS3.out hb.size); have HR4 := Lib.hid (fr3_keep HR3.out (fun j _ hj => hb.block j hj)); have Zp4 := Lib.hid (Zp3.out.below hb); have Zq4 := Lib.hid (Zq3.out.below hb); have Zr4 := Lib.hid (Zr3.out.below hb); clear hb)
                  | (at_builtin; go_must (refine fr3_any _ rfl (.tmp 132) (.tmp 133) 27 rfl Tryz.underlying27 info36 B _ m ML rfl HR4.out Ar mr cr gr Rr HMr.out rfl Zr4.out HNr.out (by omega) HS4.out ?_))
                  | fail)
                intro V' w7 hown hgr _
                have HO7 := Lib.hid hown
                have HW7 := Lib.hid (HU4.out.grown hgr HS4.out (fun j e => (HR4.out.lt j e).1))
                clear hown hgr
                go_wp2_with fail
                go_roundw
                case rel => exact ⟨0 + 1, by omega, by rw [HKQ.out], by rw [HST.out], by rw [HST.out]; show Fr3 _ B _ (ML ++ Rr).length _; rw [List.length_append, HM.out, HMr.out]; exact HO7.out, HW7.out⟩
                case measure => (simp [intOf]) <;> omega
              · have d1 := Lib.hid (show decide (Rq = Rp) = false from decide_eq_false h1)
                by_cases h2 : Rr = Rp
                · have d2 := Lib.hid (show decide (Rr = Rp) = true from decide_eq_true h2)
                  have HST := Lib.hid (show rthr W X Y (0 + 1) = (ML ++ Rq, tm) from by rw [hst]; rw [if_neg h1, if_pos (.inl h2)])
                  clear hst h1 h2
                  go_wp2_with (first
                    | (go_at_call 24; (with_reducible refine (HOp.out _ HB.out).mono ?_); rintro _ u1 ⟨Ap, cp, gp, rfl, hf, hn, hb⟩; have HU1 := Lib.hid (HB.out.trans (hb.mono HBs.out)); have HS1 := Lib.hid (Nat.le_trans HBs.out hb.size); have HR1 := Lib.hid (fr3_keep HROW.out (fun j _ hj => hb.block j hj)); have Zp1 := Lib.hid hf; have HNp := Lib.hid hn; clear hf hn hb)
                    | (go_at_call 24; (with_reducible refine (HOq.out _ HU1.out).mono ?_); rintro _ u2 ⟨Aq, cq, gq, rfl, hf, hn, hb⟩; have HU2 := Lib.hid (HU1.out.trans (hb.mono HS1.out)); have HS2 := Lib.hid (Nat.le_trans HS1.out hb.size); have HR2 := Lib.hid (fr3_keep HR1.out (fun j _ hj => hb.block j hj)); have Zp2 := Lib.hid (Zp1.out.below hb); have Zq2 := Lib.hid hf; have HNq := Lib.hid hn; clear hf hn hb)
                    | (go_at_call 24; (with_reducible refine (HOr.out _ HU2.out).mono ?_); rintro _ u3 ⟨Ar, cr, gr, rfl, hf, hn, hb⟩; have HU3 := Lib.hid (HU2.out.trans (hb.mono HS2.out)); have HS3 := Lib.hid (Nat.le_trans HS2.out hb.size); have HR3 := Lib.hid (fr3_keep HR2.out (fun j _ hj => hb.block j hj)); have Zp3 := Lib.hid (Zp2.out.below hb); have Zq3 := Lib.hid (Zq2.out.below hb); have Zr3 := Lib.hid hf; have HNr := Lib.hid hn; clear hf hn hb)
                    | (go_at_call 25; (with_reducible refine (rsame_any Zq3.out Zp3.out mq mp HMq.out HMp.out lq lp).mono ?_); rw [d1.out]; rintro _ u4 ⟨rfl, hb⟩; have HU4 := Lib.hid (HU3.out.trans (hb.mono HS3.out)); have HS4 := Lib.hid (Nat.le_trans HS3.out hb.size); have HR4 := Lib.hid (fr3_keep HR3.out (fun j _ hj => hb.block j hj)); have Zp4 := Lib.hid (Zp3.out.below hb); have Zq4 := Lib.hid (Zq3.out.below hb); have Zr4 := Lib.hid (Zr3.out.below hb); clear hb)
                    | (go_at_call 25; (with_reducible refine (rsame_any Zr4.out Zp4.out mr mp HMr.out HMp.out lr lp).mono ?_); rw [d2.out]; rintro _ u5 ⟨rfl, hb⟩; have HU5 := Lib.hid (HU4.out.trans (hb.mono HS4.out)); have HS5 := Lib.hid (Nat.le_trans HS4.out hb.size); have HR5 := Lib.hid (fr3_keep HR4.out (fun j _ hj => hb.block j hj)); have Zp5 := Lib.hid (Zp4.out.below hb); have Zq5 := Lib.hid (Zq4.out.below hb); have Zr5 := Lib.hid (Zr4.out.below hb); clear hb)
                    | (at_builtin; go_must (refine fr3_any _ rfl (.tmp 144) (.tmp 145) 27 rfl Tryz.underlying27 info36 B _ m ML rfl HR5.out Aq mq cq gq Rq HMq.out rfl Zq5.out HNq.out (by omega) HS5.out ?_))
                    | fail)
                  intro V' w7 hown hgr _
                  have HO7 := Lib.hid hown
                  have HW7 := Lib.hid (HU5.out.grown hgr HS5.out (fun j e => (HR5.out.lt j e).1))
                  clear hown hgr
                  go_wp2_with fail
                  go_roundw
                  case rel => exact ⟨0 + 1, by omega, by rw [HKQ.out], by rw [HST.out], by rw [HST.out]; show Fr3 _ B _ (ML ++ Rq).length _; rw [List.length_append, HM.out, HMq.out]; exact HO7.out, HW7.out⟩
                  case measure => (simp [intOf]) <;> omega
                · have d2 := Lib.hid (show decide (Rr = Rp) = false from decide_eq_false h2)
                  by_cases h3 : Rq = Rr
                  · have d3 := Lib.hid (show decide (Rq = Rr) = true from decide_eq_true h3)
                    have HST := Lib.hid (show rthr W X Y (0 + 1) = (ML ++ Rq, tm) from by rw [hst]; rw [if_neg h1, if_pos (.inr h3)])
                    clear hst h1 h2 h3
                    go_wp2_with (first
                      | (go_at_call 24; (with_reducible refine (HOp.out _ HB.out).mono ?_); rintro _ u1 ⟨Ap, cp, gp, rfl, hf, hn, hb⟩; have HU1 := Lib.hid (HB.out.trans (hb.mono HBs.out)); have HS1 := Lib.hid (Nat.le_trans HBs.out hb.size); have HR1 := Lib.hid (fr3_keep HROW.out (fun j _ hj => hb.block j hj)); have Zp1 := Lib.hid hf; have HNp := Lib.hid hn; clear hf hn hb)
                      | (go_at_call 24; (with_reducible refine (HOq.out _ HU1.out).mono ?_); rintro _ u2 ⟨Aq, cq, gq, rfl, hf, hn, hb⟩; have HU2 := Lib.hid (HU1.out.trans (hb.mono HS1.out)); have HS2 := Lib.hid (Nat.le_trans HS1.out hb.size); have HR2 := Lib.hid (fr3_keep HR1.out (fun j _ hj => hb.block j hj)); have Zp2 := Lib.hid (Zp1.out.below hb); have Zq2 := Lib.hid hf; have HNq := Lib.hid hn; clear hf hn hb)
                      | (go_at_call 24; (with_reducible refine (HOr.out _ HU2.out).mono ?_); rintro _ u3 ⟨Ar, cr, gr, rfl, hf, hn, hb⟩; have HU3 := Lib.hid (HU2.out.trans (hb.mono HS2.out)); have HS3 := Lib.hid (Nat.le_trans HS2.out hb.size); have HR3 := Lib.hid (fr3_keep HR2.out (fun j _ hj => hb.block j hj)); have Zp3 := Lib.hid (Zp2.out.below hb); have Zq3 := Lib.hid (Zq2.out.below hb); have Zr3 := Lib.hid hf; have HNr := Lib.hid hn; clear hf hn hb)
                      | (go_at_call 25; (with_reducible refine (rsame_any Zq3.out Zp3.out mq mp HMq.out HMp.out lq lp).mono ?_); rw [d1.out]; rintro _ u4 ⟨rfl, hb⟩; have HU4 := Lib.hid (HU3.out.trans (hb.mono HS3.out)); have HS4 := Lib.hid (Nat.le_trans HS3.out hb.size); have HR4 := Lib.hid (fr3_keep HR3.out (fun j _ hj => hb.block j hj)); have Zp4 := Lib.hid (Zp3.out.below hb); have Zq4 := Lib.hid (Zq3.out.below hb); have Zr4 := Lib.hid (Zr3.out.below hb); clear hb)
                      | (go_at_call 25; (with_reducible refine (rsame_any Zr4.out Zp4.out mr mp HMr.out HMp.out lr lp).mono ?_); rw [d2.out]; rintro _ u5 ⟨rfl, hb⟩; have HU5 := Lib.hid (HU4.out.trans (hb.mono HS4.out)); have HS5 := Lib.hid (Nat.le_trans HS4.out hb.size); have HR5 := Lib.hid (fr3_keep HR4.out (fun j _ hj => hb.block j hj)); have Zp5 := Lib.hid (Zp4.out.below hb); have Zq5 := Lib.hid (Zq4.out.below hb); have Zr5 := Lib.hid (Zr4.out.below hb); clear hb)
                      | (go_at_call 25; (with_reducible refine (rsame_any Zq5.out Zr5.out mq mr HMq.out HMr.out lq lr).mono ?_); rw [d3.out]; rintro _ u6 ⟨rfl, hb⟩; have HU6 := Lib.hid (HU5.out.trans (hb.mono HS5.out)); have HS6 := Lib.hid (Nat.le_trans HS5.out hb.size); have HR6 := Lib.hid (fr3_keep HR5.out (fun j _ hj => hb.block j hj)); have Zp6 := Lib.hid (Zp5.out.below hb); have Zq6 := Lib.hid (Zq5.out.below hb); have Zr6 := Lib.hid (Zr5.out.below hb); clear hb)
                      | (at_builtin; go_must (refine fr3_any _ rfl (.tmp 144) (.tmp 145) 27 rfl Tryz.underlying27 info36 B _ m ML rfl HR6.out Aq mq cq gq Rq HMq.out rfl Zq6.out HNq.out (by omega) HS6.out ?_))
                      | fail)
                    intro V' w7 hown hgr _
                    have HO7 := Lib.hid hown
                    have HW7 := Lib.hid (HU6.out.grown hgr HS6.out (fun j e => (HR6.out.lt j e).1))
                    clear hown hgr
                    go_wp2_with fail
                    go_roundw
                    case rel => exact ⟨0 + 1, by omega, by rw [HKQ.out], by rw [HST.out], by rw [HST.out]; show Fr3 _ B _ (ML ++ Rq).length _; rw [List.length_append, HM.out, HMq.out]; exact HO7.out, HW7.out⟩
                    case measure => (simp [intOf]) <;> omega
                  · have d3 := Lib.hid (show decide (Rq = Rr) = false from decide_eq_false h3)
                    have HST := Lib.hid (show rthr W X Y (0 + 1) = (ML ++ Rq, tm + 1) from by rw [hst]; rw [if_neg h1, if_neg (fun h => h.elim h2 h3)])
                    clear hst h1 h2 h3
                    go_wp2_with (first
                      | (go_at_call 24; (with_reducible refine (HOp.out _ HB.out).mono ?_); rintro _ u1 ⟨Ap, cp, gp, rfl, hf, hn, hb⟩; have HU1 := Lib.hid (HB.out.trans (hb.mono HBs.out)); have HS1 := Lib.hid (Nat.le_trans HBs.out hb.size); have HR1 := Lib.hid (fr3_keep HROW.out (fun j _ hj => hb.block j hj)); have Zp1 := Lib.hid hf; have HNp := Lib.hid hn; clear hf hn hb)
                      | (go_at_call 24; (with_reducible refine (HOq.out _ HU1.out).mono ?_); rintro _ u2 ⟨Aq, cq, gq, rfl, hf, hn, hb⟩; have HU2 := Lib.hid (HU1.out.trans (hb.mono HS1.out)); have HS2 := Lib.hid (Nat.le_trans HS1.out hb.size); have HR2 := Lib.hid (fr3_keep HR1.out (fun j _ hj => hb.block j hj)); have Zp2 := Lib.hid (Zp1.out.below hb); have Zq2 := Lib.hid hf; have HNq := Lib.hid hn; clear hf hn hb)
                      | (go_at_call 24; (with_reducible refine (HOr.out _ HU2.out).mono ?_); rintro _ u3 ⟨Ar, cr, gr, rfl, hf, hn, hb⟩; have HU3 := Lib.hid (HU2.out.trans (hb.mono HS2.out)); have HS3 := Lib.hid (Nat.le_trans HS2.out hb.size); have HR3 := Lib.hid (fr3_keep HR2.out (fun j _ hj => hb.block j hj)); have Zp3 := Lib.hid (Zp2.out.below hb); have Zq3 := Lib.hid (Zq2.out.below hb); have Zr3 := Lib.hid hf; have HNr := Lib.hid hn; clear hf hn hb)
                      | (go_at_call 25; (with_reducible refine (rsame_any Zq3.out Zp3.out mq mp HMq.out HMp.out lq lp).mono ?_); rw [d1.out]; rintro _ u4 ⟨rfl, hb⟩; have HU4 := Lib.hid (HU3.out.trans (hb.mono HS3.out)); have HS4 := Lib.hid (Nat.le_trans HS3.out hb.size); have HR4 := Lib.hid (fr3_keep HR3.out (fun j _ hj => hb.block j hj)); have Zp4 := Lib.hid (Zp3.out.below hb); have Zq4 := Lib.hid (Zq3.out.below hb); have Zr4 := Lib.hid (Zr3.out.below hb); clear hb)
                      | (go_at_call 25; (with_reducible refine (rsame_any Zr4.out Zp4.out mr mp HMr.out HMp.out lr lp).mono ?_); rw [d2.out]; rintro _ u5 ⟨rfl, hb⟩; have HU5 := Lib.hid (HU4.out.trans (hb.mono HS4.out)); have HS5 := Lib.hid (Nat.le_trans HS4.out hb.size); have HR5 := Lib.hid (fr3_keep HR4.out (fun j _ hj => hb.block j hj)); have Zp5 := Lib.hid (Zp4.out.below hb); have Zq5 := Lib.hid (Zq4.out.below hb); have Zr5 := Lib.hid (Zr4.out.below hb); clear hb)
                      | (go_at_call 25; (with_reducible refine (rsame_any Zq5.out Zr5.out mq mr HMq.out HMr.out lq lr).mono ?_); rw [d3.out]; rintro _ u6 ⟨rfl, hb⟩; have HU6 := Lib.hid (HU5.out.trans (hb.mono HS5.out)); have HS6 := Lib.hid (Nat.le_trans HS5.out hb.size); have HR6 := Lib.hid (fr3_keep HR5.out (fun j _ hj => hb.block j hj)); have Zp6 := Lib.hid (Zp5.out.below hb); have Zq6 := Lib.hid (Zq5.out.below hb); have Zr6 := Lib.hid (Zr5.out.below hb); clear hb)
                      | (at_builtin; go_must (refine fr3_any _ rfl (.tmp 123) (.tmp 124) 27 rfl Tryz.underlying27 info36 B _ m ML rfl HR6.out Aq mq cq gq Rq HMq.out rfl Zq6.out HNq.out (by omega) HS6.out ?_))
                      | fail)
                    intro V' w7 hown hgr _
                    have HO7 := Lib.hid hown
                    have HW7 := Lib.hid (HU6.out.grown hgr HS6.out (fun j e => (HR6.out.lt j e).1))
                    clear hown hgr
                    go_wp2_with fail
                    go_roundw
                    case rel => exact ⟨0 + 1, by omega, by rw [HKQ.out], by rw [HST.out]; show _ = Value.int .i64 ((tm + 1 : Nat) : Int); rw [HTC.out], by rw [HST.out]; show Fr3 _ B _ (ML ++ Rq).length _; rw [List.length_append, HM.out, HMq.out]; exact HO7.out, HW7.out⟩
                    case measure => (simp [intOf]) <;> omega
            · have hq1 := hq
              have hk6 : kinds6[1]? = some 2 := rfl
              have HKQ := Lib.hid (show (((1 + 1 : Nat) : Int) + 1) = 3 from rfl)
              have hst := rthr_step (W := W) (X := X) (Y := Y) hk6
              rw [HTH.out] at hst
              unfold rst at hst
              rw [if_neg (by decide)] at hst
              obtain ⟨Rp, hRp⟩ : ∃ R, onlyR 2 W = R := ⟨_, rfl⟩
              obtain ⟨mp, hmp⟩ : ∃ m, Rp.length = m := ⟨_, rfl⟩
              have lp : mp ≤ 1 := by have := onlyR_len 2 W; rw [hRp] at this; omega
              have HMp := Lib.hid hmp
              obtain ⟨Rq, hRq⟩ : ∃ R, onlyR 2 X = R := ⟨_, rfl⟩
              obtain ⟨mq, hmq⟩ : ∃ m, Rq.length = m := ⟨_, rfl⟩
              have lq : mq ≤ 1 := by have := onlyR_len 2 X; rw [hRq] at this; omega
              have HMq := Lib.hid hmq
              obtain ⟨Rr, hRr⟩ : ∃ R, onlyR 2 Y = R := ⟨_, rfl⟩
              obtain ⟨mr, hmr⟩ : ∃ m, Rr.length = m := ⟨_, rfl⟩
              have lr : mr ≤ 1 := by have := onlyR_len 2 Y; rw [hRr] at this; omega
              have HMr := Lib.hid hmr
              have HOp := Lib.hid (fun (v : World) (h : Below B w3 v) => ronly_any (HF1c.out.below (HBB.out ▸ h)) nW HNW.out (by omega) 2 Rp hRp mp hmp)
              have HOq := Lib.hid (fun (v : World) (h : Below B w3 v) => ronly_any (HF2c.out.below (HBB.out ▸ h)) nX HNX.out (by omega) 2 Rq hRq mq hmq)
              have HOr := Lib.hid (fun (v : World) (h : Below B w3 v) => ronly_any (HF3.out.below (HBB.out ▸ h)) nY HNY.out (by omega) 2 Rr hRr mr hmr)
              rw [hRp, hRq, hRr] at hst
              clear hRp hRq hRr hmp hmq hmr
              by_cases h1 : Rq = Rp
              · have d1 := Lib.hid (show decide (Rq = Rp) = true from decide_eq_true h1)
                have HST := Lib.hid (show rthr W X Y (1 + 1) = (ML ++ Rr, tm) from by rw [hst]; rw [if_pos h1])
                clear hst h1
                go_wp2_with (first
                  | (go_at_call 24; (with_reducible refine (HOp.out _ HB.out).mono ?_); rintro _ u1 ⟨Ap, cp, gp, rfl, hf, hn, hb⟩; have HU1 := Lib.hid (HB.out.trans (hb.mono HBs.out)); have HS1 := Lib.hid (Nat.le_trans HBs.out hb.size); have HR1 := Lib.hid (fr3_keep HROW.out (fun j _ hj => hb.block j hj)); have Zp1 := Lib.hid hf; have HNp := Lib.hid hn; clear hf hn hb)
                  | (go_at_call 24; (with_reducible refine (HOq.out _ HU1.out).mono ?_); rintro _ u2 ⟨Aq, cq, gq, rfl, hf, hn, hb⟩; have HU2 := Lib.hid (HU1.out.trans (hb.mono HS1.out)); have HS2 := Lib.hid (Nat.le_trans HS1.out hb.size); have HR2 := Lib.hid (fr3_keep HR1.out (fun j _ hj => hb.block j hj)); have Zp2 := Lib.hid (Zp1.out.below hb); have Zq2 := Lib.hid hf; have HNq := Lib.hid hn; clear hf hn hb)
                  | (go_at_call 24; (with_reducible refine (HOr.out _ HU2.out).mono ?_); rintro _ u3 ⟨Ar, cr, gr, rfl, hf, hn, hb⟩; have HU3 := Lib.hid (HU2.out.trans (hb.mono HS2.out)); have HS3 := Lib.hid (Nat.le_trans HS2.out hb.size); have HR3 := Lib.hid (fr3_keep HR2.out (fun j _ hj => hb.block j hj)); have Zp3 := Lib.hid (Zp2.out.below hb); have Zq3 := Lib.hid (Zq2.out.below hb); have Zr3 := Lib.hid hf; have HNr := Lib.hid hn; clear hf hn hb)
                  | (go_at_call 25; (with_reducible refine (rsame_any Zq3.out Zp3.out mq mp HMq.out HMp.out lq lp).mono ?_); rw [d1.out]; rintro _ u4 ⟨rfl, hb⟩; have HU4 := Lib.hid (HU3.out.trans (hb.mono HS3.out)); have HS4 := Lib.hid (Nat.le_trans HS3.out hb.size); have HR4 := Lib.hid (fr3_keep HR3.out (fun j _ hj => hb.block j hj)); have Zp4 := Lib.hid (Zp3.out.below hb); have Zq4 := Lib.hid (Zq3.out.below hb); have Zr4 := Lib.hid (Zr3.out.below hb); clear hb)
                  | (at_builtin; go_must (refine fr3_any _ rfl (.tmp 132) (.tmp 133) 27 rfl Tryz.underlying27 info36 B _ m ML rfl HR4.out Ar mr cr gr Rr HMr.out rfl Zr4.out HNr.out (by omega) HS4.out ?_))
                  | fail)
                intro V' w7 hown hgr _
                have HO7 := Lib.hid hown
                have HW7 := Lib.hid (HU4.out.grown hgr HS4.out (fun j e => (HR4.out.lt j e).1))
                clear hown hgr
                go_wp2_with fail
                go_roundw
                case rel => exact ⟨1 + 1, by omega, by rw [HKQ.out], by rw [HST.out], by rw [HST.out]; show Fr3 _ B _ (ML ++ Rr).length _; rw [List.length_append, HM.out, HMr.out]; exact HO7.out, HW7.out⟩
                case measure => (simp [intOf]) <;> omega
              · have d1 := Lib.hid (show decide (Rq = Rp) = false from decide_eq_false h1)
                by_cases h2 : Rr = Rp
                · have d2 := Lib.hid (show decide (Rr = Rp) = true from decide_eq_true h2)
                  have HST := Lib.hid (show rthr W X Y (1 + 1) = (ML ++ Rq, tm) from by rw [hst]; rw [if_neg h1, if_pos (.inl h2)])
                  clear hst h1 h2
                  go_wp2_with (first
                    | (go_at_call 24; (with_reducible refine (HOp.out _ HB.out).mono ?_); rintro _ u1 ⟨Ap, cp, gp, rfl, hf, hn, hb⟩; have HU1 := Lib.hid (HB.out.trans (hb.mono HBs.out)); have HS1 := Lib.hid (Nat.le_trans HBs.out hb.size); have HR1 := Lib.hid (fr3_keep HROW.out (fun j _ hj => hb.block j hj)); have Zp1 := Lib.hid hf; have HNp := Lib.hid hn; clear hf hn hb)
                    | (go_at_call 24; (with_reducible refine (HOq.out _ HU1.out).mono ?_); rintro _ u2 ⟨Aq, cq, gq, rfl, hf, hn, hb⟩; have HU2 := Lib.hid (HU1.out.trans (hb.mono HS1.out)); have HS2 := Lib.hid (Nat.le_trans HS1.out hb.size); have HR2 := Lib.hid (fr3_keep HR1.out (fun j _ hj => hb.block j hj)); have Zp2 := Lib.hid (Zp1.out.below hb); have Zq2 := Lib.hid hf; have HNq := Lib.hid hn; clear hf hn hb)
                    | (go_at_call 24; (with_reducible refine (HOr.out _ HU2.out).mono ?_); rintro _ u3 ⟨Ar, cr, gr, rfl, hf, hn, hb⟩; have HU3 := Lib.hid (HU2.out.trans (hb.mono HS2.out)); have HS3 := Lib.hid (Nat.le_trans HS2.out hb.size); have HR3 := Lib.hid (fr3_keep HR2.out (fun j _ hj => hb.block j hj)); have Zp3 := Lib.hid (Zp2.out.below hb); have Zq3 := Lib.hid (Zq2.out.below hb); have Zr3 := Lib.hid hf; have HNr := Lib.hid hn; clear hf hn hb)
                    | (go_at_call 25; (with_reducible refine (rsame_any Zq3.out Zp3.out mq mp HMq.out HMp.out lq lp).mono ?_); rw [d1.out]; rintro _ u4 ⟨rfl, hb⟩; have HU4 := Lib.hid (HU3.out.trans (hb.mono HS3.out)); have HS4 := Lib.hid (Nat.le_trans HS3.out hb.size); have HR4 := Lib.hid (fr3_keep HR3.out (fun j _ hj => hb.block j hj)); have Zp4 := Lib.hid (Zp3.out.below hb); have Zq4 := Lib.hid (Zq3.out.below hb); have Zr4 := Lib.hid (Zr3.out.below hb); clear hb)
                    | (go_at_call 25; (with_reducible refine (rsame_any Zr4.out Zp4.out mr mp HMr.out HMp.out lr lp).mono ?_); rw [d2.out]; rintro _ u5 ⟨rfl, hb⟩; have HU5 := Lib.hid (HU4.out.trans (hb.mono HS4.out)); have HS5 := Lib.hid (Nat.le_trans HS4.out hb.size); have HR5 := Lib.hid (fr3_keep HR4.out (fun j _ hj => hb.block j hj)); have Zp5 := Lib.hid (Zp4.out.below hb); have Zq5 := Lib.hid (Zq4.out.below hb); have Zr5 := Lib.hid (Zr4.out.below hb); clear hb)
                    | (at_builtin; go_must (refine fr3_any _ rfl (.tmp 144) (.tmp 145) 27 rfl Tryz.underlying27 info36 B _ m ML rfl HR5.out Aq mq cq gq Rq HMq.out rfl Zq5.out HNq.out (by omega) HS5.out ?_))
                    | fail)
                  intro V' w7 hown hgr _
                  have HO7 := Lib.hid hown
                  have HW7 := Lib.hid (HU5.out.grown hgr HS5.out (fun j e => (HR5.out.lt j e).1))
                  clear hown hgr
                  go_wp2_with fail
                  go_roundw
                  case rel => exact ⟨1 + 1, by omega, by rw [HKQ.out], by rw [HST.out], by rw [HST.out]; show Fr3 _ B _ (ML ++ Rq).length _; rw [List.length_append, HM.out, HMq.out]; exact HO7.out, HW7.out⟩
                  case measure => (simp [intOf]) <;> omega
                · have d2 := Lib.hid (show decide (Rr = Rp) = false from decide_eq_false h2)
                  by_cases h3 : Rq = Rr
                  · have d3 := Lib.hid (show decide (Rq = Rr) = true from decide_eq_true h3)
                    have HST := Lib.hid (show rthr W X Y (1 + 1) = (ML ++ Rq, tm) from by rw [hst]; rw [if_neg h1, if_pos (.inr h3)])
                    clear hst h1 h2 h3
                    go_wp2_with (first
                      | (go_at_call 24; (with_reducible refine (HOp.out _ HB.out).mono ?_); rintro _ u1 ⟨Ap, cp, gp, rfl, hf, hn, hb⟩; have HU1 := Lib.hid (HB.out.trans (hb.mono HBs.out)); have HS1 := Lib.hid (Nat.le_trans HBs.out hb.size); have HR1 := Lib.hid (fr3_keep HROW.out (fun j _ hj => hb.block j hj)); have Zp1 := Lib.hid hf; have HNp := Lib.hid hn; clear hf hn hb)
                      | (go_at_call 24; (with_reducible refine (HOq.out _ HU1.out).mono ?_); rintro _ u2 ⟨Aq, cq, gq, rfl, hf, hn, hb⟩; have HU2 := Lib.hid (HU1.out.trans (hb.mono HS1.out)); have HS2 := Lib.hid (Nat.le_trans HS1.out hb.size); have HR2 := Lib.hid (fr3_keep HR1.out (fun j _ hj => hb.block j hj)); have Zp2 := Lib.hid (Zp1.out.below hb); have Zq2 := Lib.hid hf; have HNq := Lib.hid hn; clear hf hn hb)
                      | (go_at_call 24; (with_reducible refine (HOr.out _ HU2.out).mono ?_); rintro _ u3 ⟨Ar, cr, gr, rfl, hf, hn, hb⟩; have HU3 := Lib.hid (HU2.out.trans (hb.mono HS2.out)); have HS3 := Lib.hid (Nat.le_trans HS2.out hb.size); have HR3 := Lib.hid (fr3_keep HR2.out (fun j _ hj => hb.block j hj)); have Zp3 := Lib.hid (Zp2.out.below hb); have Zq3 := Lib.hid (Zq2.out.below hb); have Zr3 := Lib.hid hf; have HNr := Lib.hid hn; clear hf hn hb)
                      | (go_at_call 25; (with_reducible refine (rsame_any Zq3.out Zp3.out mq mp HMq.out HMp.out lq lp).mono ?_); rw [d1.out]; rintro _ u4 ⟨rfl, hb⟩; have HU4 := Lib.hid (HU3.out.trans (hb.mono HS3.out)); have HS4 := Lib.hid (Nat.le_trans HS3.out hb.size); have HR4 := Lib.hid (fr3_keep HR3.out (fun j _ hj => hb.block j hj)); have Zp4 := Lib.hid (Zp3.out.below hb); have Zq4 := Lib.hid (Zq3.out.below hb); have Zr4 := Lib.hid (Zr3.out.below hb); clear hb)
                      | (go_at_call 25; (with_reducible refine (rsame_any Zr4.out Zp4.out mr mp HMr.out HMp.out lr lp).mono ?_); rw [d2.out]; rintro _ u5 ⟨rfl, hb⟩; have HU5 := Lib.hid (HU4.out.trans (hb.mono HS4.out)); have HS5 := Lib.hid (Nat.le_trans HS4.out hb.size); have HR5 := Lib.hid (fr3_keep HR4.out (fun j _ hj => hb.block j hj)); have Zp5 := Lib.hid (Zp4.out.below hb); have Zq5 := Lib.hid (Zq4.out.below hb); have Zr5 := Lib.hid (Zr4.out.below hb); clear hb)
                      | (go_at_call 25; (with_reducible refine (rsame_any Zq5.out Zr5.out mq mr HMq.out HMr.out lq lr).mono ?_); rw [d3.out]; rintro _ u6 ⟨rfl, hb⟩; have HU6 := Lib.hid (HU5.out.trans (hb.mono HS5.out)); have HS6 := Lib.hid (Nat.le_trans HS5.out hb.size); have HR6 := Lib.hid (fr3_keep HR5.out (fun j _ hj => hb.block j hj)); have Zp6 := Lib.hid (Zp5.out.below hb); have Zq6 := Lib.hid (Zq5.out.below hb); have Zr6 := Lib.hid (Zr5.out.below hb); clear hb)
                      | (at_builtin; go_must (refine fr3_any _ rfl (.tmp 144) (.tmp 145) 27 rfl Tryz.underlying27 info36 B _ m ML rfl HR6.out Aq mq cq gq Rq HMq.out rfl Zq6.out HNq.out (by omega) HS6.out ?_))
                      | fail)
                    intro V' w7 hown hgr _
                    have HO7 := Lib.hid hown
                    have HW7 := Lib.hid (HU6.out.grown hgr HS6.out (fun j e => (HR6.out.lt j e).1))
                    clear hown hgr
                    go_wp2_with fail
                    go_roundw
                    case rel => exact ⟨1 + 1, by omega, by rw [HKQ.out], by rw [HST.out], by rw [HST.out]; show Fr3 _ B _ (ML ++ Rq).length _; rw [List.length_append, HM.out, HMq.out]; exact HO7.out, HW7.out⟩
                    case measure => (simp [intOf]) <;> omega
                  · have d3 := Lib.hid (show decide (Rq = Rr) = false from decide_eq_false h3)
                    have HST := Lib.hid (show rthr W X Y (1 + 1) = (ML ++ Rq, tm + 1) from by rw [hst]; rw [if_neg h1, if_neg (fun h => h.elim h2 h3)])
                    clear hst h1 h2 h3
                    go_wp2_with (first
                      | (go_at_call 24; (with_reducible refine (HOp.out _ HB.out).mono ?_); rintro _ u1 ⟨Ap, cp, gp, rfl, hf, hn, hb⟩; have HU1 := Lib.hid (HB.out.trans (hb.mono HBs.out)); have HS1 := Lib.hid (Nat.le_trans HBs.out hb.size); have HR1 := Lib.hid (fr3_keep HROW.out (fun j _ hj => hb.block j hj)); have Zp1 := Lib.hid hf; have HNp := Lib.hid hn; clear hf hn hb)
                      | (go_at_call 24; (with_reducible refine (HOq.out _ HU1.out).mono ?_); rintro _ u2 ⟨Aq, cq, gq, rfl, hf, hn, hb⟩; have HU2 := Lib.hid (HU1.out.trans (hb.mono HS1.out)); have HS2 := Lib.hid (Nat.le_trans HS1.out hb.size); have HR2 := Lib.hid (fr3_keep HR1.out (fun j _ hj => hb.block j hj)); have Zp2 := Lib.hid (Zp1.out.below hb); have Zq2 := Lib.hid hf; have HNq := Lib.hid hn; clear hf hn hb)
                      | (go_at_call 24; (with_reducible refine (HOr.out _ HU2.out).mono ?_); rintro _ u3 ⟨Ar, cr, gr, rfl, hf, hn, hb⟩; have HU3 := Lib.hid (HU2.out.trans (hb.mono HS2.out)); have HS3 := Lib.hid (Nat.le_trans HS2.out hb.size); have HR3 := Lib.hid (fr3_keep HR2.out (fun j _ hj => hb.block j hj)); have Zp3 := Lib.hid (Zp2.out.below hb); have Zq3 := Lib.hid (Zq2.out.below hb); have Zr3 := Lib.hid hf; have HNr := Lib.hid hn; clear hf hn hb)
                      | (go_at_call 25; (with_reducible refine (rsame_any Zq3.out Zp3.out mq mp HMq.out HMp.out lq lp).mono ?_); rw [d1.out]; rintro _ u4 ⟨rfl, hb⟩; have HU4 := Lib.hid (HU3.out.trans (hb.mono HS3.out)); have HS4 := Lib.hid (Nat.le_trans HS3.out hb.size); have HR4 := Lib.hid (fr3_keep HR3.out (fun j _ hj => hb.block j hj)); have Zp4 := Lib.hid (Zp3.out.below hb); have Zq4 := Lib.hid (Zq3.out.below hb); have Zr4 := Lib.hid (Zr3.out.below hb); clear hb)
                      | (go_at_call 25; (with_reducible refine (rsame_any Zr4.out Zp4.out mr mp HMr.out HMp.out lr lp).mono ?_); rw [d2.out]; rintro _ u5 ⟨rfl, hb⟩; have HU5 := Lib.hid (HU4.out.trans (hb.mono HS4.out)); have HS5 := Lib.hid (Nat.le_trans HS4.out hb.size); have HR5 := Lib.hid (fr3_keep HR4.out (fun j _ hj => hb.block j hj)); have Zp5 := Lib.hid (Zp4.out.below hb); have Zq5 := Lib.hid (Zq4.out.below hb); have Zr5 := Lib.hid (Zr4.out.below hb); clear hb)
                      | (go_at_call 25; (with_reducible refine (rsame_any Zq5.out Zr5.out mq mr HMq.out HMr.out lq lr).mono ?_); rw [d3.out]; rintro _ u6 ⟨rfl, hb⟩; have HU6 := Lib.hid (HU5.out.trans (hb.mono HS5.out)); have HS6 := Lib.hid (Nat.le_trans HS5.out hb.size); have HR6 := Lib.hid (fr3_keep HR5.out (fun j _ hj => hb.block j hj)); have Zp6 := Lib.hid (Zp5.out.below hb); have Zq6 := Lib.hid (Zq5.out.below hb); have Zr6 := Lib.hid (Zr5.out.below hb); clear hb)
                      | (at_builtin; go_must (refine fr3_any _ rfl (.tmp 123) (.tmp 124) 27 rfl Tryz.underlying27 info36 B _ m ML rfl HR6.out Aq mq cq gq Rq HMq.out rfl Zq6.out HNq.out (by omega) HS6.out ?_))
                      | fail)
                    intro V' w7 hown hgr _
                    have HO7 := Lib.hid hown
                    have HW7 := Lib.hid (HU6.out.grown hgr HS6.out (fun j e => (HR6.out.lt j e).1))
                    clear hown hgr
                    go_wp2_with fail
                    go_roundw
                    case rel => exact ⟨1 + 1, by omega, by rw [HKQ.out], by rw [HST.out]; show _ = Value.int .i64 ((tm + 1 : Nat) : Int); rw [HTC.out], by rw [HST.out]; show Fr3 _ B _ (ML ++ Rq).length _; rw [List.length_append, HM.out, HMq.out]; exact HO7.out, HW7.out⟩
                    case measure => (simp [intOf]) <;> omega
            · have hq2 := hq
              have hk6 : kinds6[2]? = some 3 := rfl
              have HKQ := Lib.hid (show (((2 + 1 : Nat) : Int) + 1) = 4 from rfl)
              have hst := rthr_step (W := W) (X := X) (Y := Y) hk6
              rw [HTH.out] at hst
              unfold rst at hst
              rw [if_pos (by decide)] at hst
              obtain ⟨x0, hx0⟩ : ∃ f, X[0]? = some f := ⟨X[0]'(by rw [HNX.out]; exact hX0), List.getElem?_eq_getElem _⟩
              obtain ⟨y0, hy0⟩ : ∃ f, Y[0]? = some f := ⟨Y[0]'(by rw [HNY.out]; exact hY0), List.getElem?_eq_getElem _⟩
              obtain ⟨rfl, _⟩ := HF2c.out.2 0 x0 hx0
              obtain ⟨rfl, _⟩ := HF3.out.2 0 y0 hy0
              have HFW3 := Lib.hid (fun (v : World) (h : Below B w3 v) => HF1c.out.below (HBB.out ▸ h))
              have HFX3 := Lib.hid (fun (v : World) (h : Below B w3 v) => HF2c.out.below (HBB.out ▸ h))
              have HFY3 := Lib.hid (fun (v : World) (h : Below B w3 v) => HF3.out.below (HBB.out ▸ h))
              obtain ⟨b9, hb9⟩ : ∃ b, wr.heap.size = b := ⟨_, rfl⟩
              obtain ⟨W9, hW9⟩ : ∃ W9, wr.alloc (.cells #[] 37) = W9 := ⟨_, rfl⟩
              have HR9 := Lib.hid (show Fr3 W9 b9 (.slice (some ⟨b9, 0, none⟩) 0 0) 0 [] from hb9 ▸ hW9 ▸ World.ownsRow_made wr #[] 0 (Nat.le_refl _) (Nat.zero_le _) rfl)
              have HB9 := Lib.hid (show Below b9 wr W9 from hb9 ▸ hW9 ▸ (Below.refl _ wr).alloc (Nat.le_refl _) _)
              have Hb9 := Lib.hid hb9
              have HW9 := Lib.hid hW9
              have HBb := Lib.hid (fun (v : World) (h : Below b9 wr v) => show Below B w3 v from HB.out.trans (h.mono (by have := HBs.out; omega)))
              clear hx0 hy0 hb9 hW9 HF1c HF2c HF3
              go_wp2_with (first
                | (at_builtin; rw [HW9.out]; go_must (refine fr3_any _ rfl (.tmp 64) (.tmp 65) 27 rfl Tryz.underlying27 info36 b9 _ 0 [] (by rw [← Hb9.out]; rfl) HR9.out _ nX cX gX X HNX.out rfl (HFX3.out _ (HBb.out _ HB9.out)) (fun h => by cases h) (by omega) (by have := HB9.out.size; have := Hb9.out; omega) ?_))
                | fail)
              intro V1 w10 hown hgr _
              have HR10 := Lib.hid (show Fr3 w10 b9 V1 nX X from by first | exact hown | simpa using hown)
              have HB10 := Lib.hid (HB9.out.grown hgr (by have := HB9.out.size; have := Hb9.out; omega) (fun k e => (HR9.out.lt k e).1))
              clear hown hgr
              go_wp2_with (first
                | (at_builtin; go_must (refine fr3_any _ rfl (.tmp 66) (.tmp 67) 27 rfl Tryz.underlying27 info36 b9 _ nX X rfl HR10.out _ nY cY gY Y HNY.out rfl (HFY3.out _ (HBb.out _ HB10.out)) (fun h => by cases h) (by omega) (by have := HB10.out.size; have := Hb9.out; omega) ?_))
                | fail)
              intro V2 w11 hown hgr _
              obtain ⟨nZ, hnZ⟩ : ∃ z, nX + nY = z := ⟨_, rfl⟩
              obtain ⟨Z, hZ⟩ : ∃ Z, X ++ Y = Z := ⟨_, rfl⟩
              rw [hnZ, hZ] at hown
              rw [hZ] at hst
              have HNZ := Lib.hid (show Z.length = nZ from by rw [← hZ, List.length_append, HNX.out, HNY.out, hnZ])
              have HB11 := Lib.hid (HB10.out.grown hgr (by have := HB10.out.size; have := Hb9.out; omega) (fun k e => (HR10.out.lt k e).1))
              obtain ⟨g2, gc, cur, rfl, hg2b, hbk, hz⟩ := fr3_blk hown HNZ.out (by omega)
              have HBK := Lib.hid hbk
              have HZ11 := Lib.hid hz
              have HL11 := Lib.hid (fr3_keep HROW.out (fun j _ hj => HB11.out.block j (by rw [← Hb9.out]; exact hj)))
              have HLO := Lib.hid (fun e => (absurd (HROW.out.lt g2 e).2 (Nat.not_lt.2 (by rw [Hb9.out]; exact hg2b)) : False))
              have HB113 := Lib.hid (HBb.out _ HB11.out)
              have hZn : nZ ≤ 24 := by omega
              have HST := Lib.hid hst
              clear hown hgr hZ hnZ hbk hz hg2b hst HR10 HB10 HR9 HB9 HW9 HB11 HROW HB HBs HBb
              go_wp2_with fail
              go_loopw [15, 19] (fun l i v => ∃ j : Nat, j ≤ nZ ∧ i = .int .i64 (j : Int) ∧ Fr3 v B l (ML ++ (Z.take j).filter (pK W X Y 3)).length (ML ++ (Z.take j).filter (pK W X Y 3)) ∧ (l.ownBlock = some g2 → False) ∧ Blk v g2 37 cur ∧ w11.heap.size ≤ v.heap.size ∧ Below B w3 v) (fun _ i _ => nZ - (intOf i).toNat)
              case atStart => exact ⟨0, Nat.zero_le _, rfl, by rw [List.take_zero, List.filter_nil, List.append_nil, HM.out]; exact HL11.out, HLO.out, HBK.out, Nat.le_refl _, HB113.out⟩
              case round =>
                clear HL11 HLO HB113
                obtain ⟨j, hj, rfl, hrow, hlo, hblk, hsz, hb⟩ := hrel
                obtain ⟨NL, hNL⟩ : ∃ M, ML ++ (Z.take j).filter (pK W X Y 3) = M := ⟨_, rfl⟩
                have hnl : NL.length ≤ 200 := by
                  rw [← hNL, List.length_append, HM.out]
                  have h1 := List.length_filter_le (pK W X Y 3) (Z.take j)
                  rw [List.length_take] at h1
                  omega
                rw [hNL] at hrow
                obtain ⟨m2, hm2⟩ : ∃ m, NL.length = m := ⟨_, rfl⟩
                rw [hm2] at hrow hnl
                have HM2 := Lib.hid hm2
                have HNL := Lib.hid hNL
                have R0 := Lib.hid hrow
                have LO := Lib.hid hlo
                have K0 := Lib.hid hblk
                have D0 := Lib.hid hsz
                have U0 := Lib.hid hb
                have S0 := Lib.hid (show B ≤ wr.heap.size from by have h1 := hb.size; have h2 := HBB.out; omega)
                have HZV := Lib.hid (fun (v : World) (h1 : w11.heap.size ≤ v.heap.size) (h2 : Blk v g2 37 cur) => fv_keep HZ11.out h1 (h2.trans HBK.out.symm))
                clear hrow hlo hblk hsz hb hNL hm2
                by_cases hjl : j < nZ
                · obtain ⟨f, hf⟩ : ∃ f, Z[j]? = some f := ⟨Z[j]'(by rw [HNZ.out]; exact hjl), List.getElem?_eq_getElem _⟩
                  obtain ⟨_, _, c0, c1, c2⟩ := (HZV.out _ D0.out K0.out).2 j f hf
                  have HGJ := Lib.hid hf
                  have HYES := Lib.hid (fun (hp : pK W X Y 3 f = true) => (show ML ++ (Z.take (j + 1)).filter (pK W X Y 3) = NL ++ [f] from by rw [filt_yes hf hp, ← List.append_assoc, HNL.out]))
                  have HNO := Lib.hid (fun (hp : pK W X Y 3 f = false) => (show ML ++ (Z.take (j + 1)).filter (pK W X Y 3) = NL from by rw [filt_no hf hp, HNL.out]))
                  have hkp : pK W X Y 3 f = (decide (f.1 = 3) && ((hasF f X && hasF f Y) || !hasF f W)) := rfl
                  have HHX := Lib.hid (fun (v : World) (h : Below B w3 v) => has_any (HFX3.out v h) nX HNX.out (by omega) f)
                  have HHY := Lib.hid (fun (v : World) (h : Below B w3 v) => has_any (HFY3.out v h) nY HNY.out (by omega) f)
                  have HHW := Lib.hid (fun (v : World) (h : Below B w3 v) => has_any (HFW3.out v h) nW HNW.out (by omega) f)
                  obtain ⟨sX, hsX⟩ : ∃ r, hasF f X = r := ⟨_, rfl⟩
                  obtain ⟨sY, hsY⟩ : ∃ r, hasF f Y = r := ⟨_, rfl⟩
                  obtain ⟨sW, hsW⟩ : ∃ r, hasF f W = r := ⟨_, rfl⟩
                  rw [hsX] at HHX
                  rw [hsY] at HHY
                  rw [hsW] at HHW
                  rw [hsX, hsY, hsW] at hkp
                  have hjI : (j : Int) < (nZ : Int) := by omega
                  have hjJ : (0 : Int) ≤ (j : Int) := by omega
                  have i1 : IntKind.i64.wrap ((j : Int) + 1) = ((j + 1 : Nat) : Int) := by rw [IntWalk.i64_in _ (by omega)]; omega
                  obtain ⟨f1, f2, f3⟩ := f
                  simp only [Nat.zero_add] at c0 c1 c2
                  simp only at hkp HHX HHY HHW
                  clear hf hsX hsY hsW
                  by_cases hfk : f1 = 3
                  · have hfb : (f1 == 3) = true := by simpa using hfk
                    rw [decide_eq_true hfk, Bool.true_and] at hkp
                    have HKP := Lib.hid hkp
                    clear hkp hfk
                    cases sX with
                    | true =>
                      cases sY with
                      | true =>
                        go_wp2_with (first
                          | (go_at_call 17; (with_reducible refine (HHX.out _ U0.out).mono ?_); rintro _ u1 ⟨rfl, hb⟩; have U1 := Lib.hid (U0.out.trans (hb.mono S0.out)); have S1 := Lib.hid (Nat.le_trans S0.out hb.size); have R1 := Lib.hid (fr3_keep R0.out (fun j _ hj => hb.block j hj)); have K1 := Lib.hid (K0.out.below hb K0.out.lt); have D1 := Lib.hid (Nat.le_trans D0.out hb.size); obtain ⟨_, _, d10, d11, d12⟩ := (HZV.out _ D1.out K1.out).2 j _ HGJ.out; simp only [Nat.zero_add] at d10 d11 d12; clear hb)
                          | (go_at_call 17; (with_reducible refine (HHY.out _ U1.out).mono ?_); rintro _ u2 ⟨rfl, hb⟩; have U2 := Lib.hid (U1.out.trans (hb.mono S1.out)); have S2 := Lib.hid (Nat.le_trans S1.out hb.size); have R2 := Lib.hid (fr3_keep R1.out (fun j _ hj => hb.block j hj)); have K2 := Lib.hid (K1.out.below hb K1.out.lt); have D2 := Lib.hid (Nat.le_trans D1.out hb.size); obtain ⟨_, _, d20, d21, d22⟩ := (HZV.out _ D2.out K2.out).2 j _ HGJ.out; simp only [Nat.zero_add] at d20 d21 d22; clear hb; obtain ⟨w6, hw6⟩ : ∃ w6, u2.alloc (.cells #[.int .i64 f1, .int .i64 f2, .string f3] 37) = w6 := ⟨_, rfl⟩; have F6 := Lib.hid (fv_one (show Blk w6 u2.heap.size 37 #[.int .i64 f1, .int .i64 f2, .string f3] from hw6 ▸ Blk.new u2 37 _)); have R6 := Lib.hid (show Fr3 w6 B _ m2 NL from hw6 ▸ World.ownsRow.alloc R2.out _); have K6 := Lib.hid (show Blk w6 g2 37 cur from hw6 ▸ K2.out.alloc _); have U6 := Lib.hid (show Below B w3 w6 from hw6 ▸ U2.out.alloc S2.out _); have S6 := Lib.hid (show B ≤ w6.heap.size from by have h1 := U6.out.size; have h2 := HBB.out; omega); have D6 := Lib.hid (show w11.heap.size ≤ w6.heap.size from by have h1 := D2.out; rw [← hw6]; simp; omega); have E6 := Lib.hid hw6; clear hw6)
                          | (at_builtin; rw [E6.out]; go_must (refine fr3_any _ rfl (.tmp 107) (.tmp 112) 27 rfl Tryz.underlying27 info36 B _ m2 NL rfl R6.out _ 1 1 _ [(f1, f2, f3)] rfl rfl F6.out (fun h => by cases h) (by omega) S6.out ?_))
                          | fail)
                        intro V' w7 hown hgr hob
                        have O7 := Lib.hid hown
                        have U7 := Lib.hid (U6.out.grown hgr S6.out (fun j e => (R6.out.lt j e).1))
                        have K7 := Lib.hid (K6.out.grown hgr (fun e => LO.out e.symm))
                        have D7 := Lib.hid (Nat.le_trans D6.out hgr.size)
                        have L7 := Lib.hid (show V'.ownBlock = some g2 → False from fun e => by
                          rcases hob with h | h
                          · exact LO.out (h.symm.trans e)
                          · rw [h] at e; have := Option.some.inj e; have := K6.out.lt; omega)
                        clear hown hgr hob
                        go_wp2_with fail
                        go_roundw
                        case rel => exact ⟨j + 1, by omega, by go_num, by rw [HYES.out (by rw [HKP.out]; rfl), List.length_append, HM2.out]; exact O7.out, L7.out, K7.out, D7.out, U7.out⟩
                        case measure => simp [intOf]; omega
                      | false =>
                        cases sW with
                        | true =>
                          go_wp2_with (first
                            | (go_at_call 17; (with_reducible refine (HHX.out _ U0.out).mono ?_); rintro _ u1 ⟨rfl, hb⟩; have U1 := Lib.hid (U0.out.trans (hb.mono S0.out)); have S1 := Lib.hid (Nat.le_trans S0.out hb.size); have R1 := Lib.hid (fr3_keep R0.out (fun j _ hj => hb.block j hj)); have K1 := Lib.hid (K0.out.below hb K0.out.lt); have D1 := Lib.hid (Nat.le_trans D0.out hb.size); obtain ⟨_, _, d10, d11, d12⟩ := (HZV.out _ D1.out K1.out).2 j _ HGJ.out; simp only [Nat.zero_add] at d10 d11 d12; clear hb)
                            | (go_at_call 17; (with_reducible refine (HHY.out _ U1.out).mono ?_); rintro _ u2 ⟨rfl, hb⟩; have U2 := Lib.hid (U1.out.trans (hb.mono S1.out)); have S2 := Lib.hid (Nat.le_trans S1.out hb.size); have R2 := Lib.hid (fr3_keep R1.out (fun j _ hj => hb.block j hj)); have K2 := Lib.hid (K1.out.below hb K1.out.lt); have D2 := Lib.hid (Nat.le_trans D1.out hb.size); obtain ⟨_, _, d20, d21, d22⟩ := (HZV.out _ D2.out K2.out).2 j _ HGJ.out; simp only [Nat.zero_add] at d20 d21 d22; clear hb)
                            | (go_at_call 17; (with_reducible refine (HHW.out _ U2.out).mono ?_); rintro _ u3 ⟨rfl, hb⟩; have U3 := Lib.hid (U2.out.trans (hb.mono S2.out)); have S3 := Lib.hid (Nat.le_trans S2.out hb.size); have R3 := Lib.hid (fr3_keep R2.out (fun j _ hj => hb.block j hj)); have K3 := Lib.hid (K2.out.below hb K2.out.lt); have D3 := Lib.hid (Nat.le_trans D2.out hb.size); obtain ⟨_, _, d30, d31, d32⟩ := (HZV.out _ D3.out K3.out).2 j _ HGJ.out; simp only [Nat.zero_add] at d30 d31 d32; clear hb)
                            | fail)
                          go_wp2_with fail
                          go_roundw
                          case rel => exact ⟨j + 1, by omega, by go_num, by rw [HNO.out (by rw [HKP.out]; rfl), HM2.out]; exact R3.out, LO.out, K3.out, D3.out, U3.out⟩
                          case measure => simp [intOf]; omega
                        | false =>
                          go_wp2_with (first
                            | (go_at_call 17; (with_reducible refine (HHX.out _ U0.out).mono ?_); rintro _ u1 ⟨rfl, hb⟩; have U1 := Lib.hid (U0.out.trans (hb.mono S0.out)); have S1 := Lib.hid (Nat.le_trans S0.out hb.size); have R1 := Lib.hid (fr3_keep R0.out (fun j _ hj => hb.block j hj)); have K1 := Lib.hid (K0.out.below hb K0.out.lt); have D1 := Lib.hid (Nat.le_trans D0.out hb.size); obtain ⟨_, _, d10, d11, d12⟩ := (HZV.out _ D1.out K1.out).2 j _ HGJ.out; simp only [Nat.zero_add] at d10 d11 d12; clear hb)
                            | (go_at_call 17; (with_reducible refine (HHY.out _ U1.out).mono ?_); rintro _ u2 ⟨rfl, hb⟩; have U2 := Lib.hid (U1.out.trans (hb.mono S1.out)); have S2 := Lib.hid (Nat.le_trans S1.out hb.size); have R2 := Lib.hid (fr3_keep R1.out (fun j _ hj => hb.block j hj)); have K2 := Lib.hid (K1.out.below hb K1.out.lt); have D2 := Lib.hid (Nat.le_trans D1.out hb.size); obtain ⟨_, _, d20, d21, d22⟩ := (HZV.out _ D2.out K2.out).2 j _ HGJ.out; simp only [Nat.zero_add] at d20 d21 d22; clear hb)
                            | (go_at_call 17; (with_reducible refine (HHW.out _ U2.out).mono ?_); rintro _ u3 ⟨rfl, hb⟩; have U3 := Lib.hid (U2.out.trans (hb.mono S2.out)); have S3 := Lib.hid (Nat.le_trans S2.out hb.size); have R3 := Lib.hid (fr3_keep R2.out (fun j _ hj => hb.block j hj)); have K3 := Lib.hid (K2.out.below hb K2.out.lt); have D3 := Lib.hid (Nat.le_trans D2.out hb.size); obtain ⟨_, _, d30, d31, d32⟩ := (HZV.out _ D3.out K3.out).2 j _ HGJ.out; simp only [Nat.zero_add] at d30 d31 d32; clear hb; obtain ⟨w6, hw6⟩ : ∃ w6, u3.alloc (.cells #[.int .i64 f1, .int .i64 f2, .string f3] 37) = w6 := ⟨_, rfl⟩; have F6 := Lib.hid (fv_one (show Blk w6 u3.heap.size 37 #[.int .i64 f1, .int .i64 f2, .string f3] from hw6 ▸ Blk.new u3 37 _)); have R6 := Lib.hid (show Fr3 w6 B _ m2 NL from hw6 ▸ World.ownsRow.alloc R3.out _); have K6 := Lib.hid (show Blk w6 g2 37 cur from hw6 ▸ K3.out.alloc _); have U6 := Lib.hid (show Below B w3 w6 from hw6 ▸ U3.out.alloc S3.out _); have S6 := Lib.hid (show B ≤ w6.heap.size from by have h1 := U6.out.size; have h2 := HBB.out; omega); have D6 := Lib.hid (show w11.heap.size ≤ w6.heap.size from by have h1 := D3.out; rw [← hw6]; simp; omega); have E6 := Lib.hid hw6; clear hw6)
                            | (at_builtin; rw [E6.out]; go_must (refine fr3_any _ rfl (.tmp 107) (.tmp 112) 27 rfl Tryz.underlying27 info36 B _ m2 NL rfl R6.out _ 1 1 _ [(f1, f2, f3)] rfl rfl F6.out (fun h => by cases h) (by omega) S6.out ?_))
                            | fail)
                          intro V' w7 hown hgr hob
                          have O7 := Lib.hid hown
                          have U7 := Lib.hid (U6.out.grown hgr S6.out (fun j e => (R6.out.lt j e).1))
                          have K7 := Lib.hid (K6.out.grown hgr (fun e => LO.out e.symm))
                          have D7 := Lib.hid (Nat.le_trans D6.out hgr.size)
                          have L7 := Lib.hid (show V'.ownBlock = some g2 → False from fun e => by
                            rcases hob with h | h
                            · exact LO.out (h.symm.trans e)
                            · rw [h] at e; have := Option.some.inj e; have := K6.out.lt; omega)
                          clear hown hgr hob
                          go_wp2_with fail
                          go_roundw
                          case rel => exact ⟨j + 1, by omega, by go_num, by rw [HYES.out (by rw [HKP.out]; rfl), List.length_append, HM2.out]; exact O7.out, L7.out, K7.out, D7.out, U7.out⟩
                          case measure => simp [intOf]; omega
                    | false =>
                      cases sW with
                      | true =>
                        go_wp2_with (first
                          | (go_at_call 17; (with_reducible refine (HHX.out _ U0.out).mono ?_); rintro _ u1 ⟨rfl, hb⟩; have U1 := Lib.hid (U0.out.trans (hb.mono S0.out)); have S1 := Lib.hid (Nat.le_trans S0.out hb.size); have R1 := Lib.hid (fr3_keep R0.out (fun j _ hj => hb.block j hj)); have K1 := Lib.hid (K0.out.below hb K0.out.lt); have D1 := Lib.hid (Nat.le_trans D0.out hb.size); obtain ⟨_, _, d10, d11, d12⟩ := (HZV.out _ D1.out K1.out).2 j _ HGJ.out; simp only [Nat.zero_add] at d10 d11 d12; clear hb)
                          | (go_at_call 17; (with_reducible refine (HHW.out _ U1.out).mono ?_); rintro _ u2 ⟨rfl, hb⟩; have U2 := Lib.hid (U1.out.trans (hb.mono S1.out)); have S2 := Lib.hid (Nat.le_trans S1.out hb.size); have R2 := Lib.hid (fr3_keep R1.out (fun j _ hj => hb.block j hj)); have K2 := Lib.hid (K1.out.below hb K1.out.lt); have D2 := Lib.hid (Nat.le_trans D1.out hb.size); obtain ⟨_, _, d20, d21, d22⟩ := (HZV.out _ D2.out K2.out).2 j _ HGJ.out; simp only [Nat.zero_add] at d20 d21 d22; clear hb)
                          | fail)
                        go_wp2_with fail
                        go_roundw
                        case rel => exact ⟨j + 1, by omega, by go_num, by rw [HNO.out (by rw [HKP.out]; rfl), HM2.out]; exact R2.out, LO.out, K2.out, D2.out, U2.out⟩
                        case measure => simp [intOf]; omega
                      | false =>
                        go_wp2_with (first
                          | (go_at_call 17; (with_reducible refine (HHX.out _ U0.out).mono ?_); rintro _ u1 ⟨rfl, hb⟩; have U1 := Lib.hid (U0.out.trans (hb.mono S0.out)); have S1 := Lib.hid (Nat.le_trans S0.out hb.size); have R1 := Lib.hid (fr3_keep R0.out (fun j _ hj => hb.block j hj)); have K1 := Lib.hid (K0.out.below hb K0.out.lt); have D1 := Lib.hid (Nat.le_trans D0.out hb.size); obtain ⟨_, _, d10, d11, d12⟩ := (HZV.out _ D1.out K1.out).2 j _ HGJ.out; simp only [Nat.zero_add] at d10 d11 d12; clear hb)
                          | (go_at_call 17; (with_reducible refine (HHW.out _ U1.out).mono ?_); rintro _ u2 ⟨rfl, hb⟩; have U2 := Lib.hid (U1.out.trans (hb.mono S1.out)); have S2 := Lib.hid (Nat.le_trans S1.out hb.size); have R2 := Lib.hid (fr3_keep R1.out (fun j _ hj => hb.block j hj)); have K2 := Lib.hid (K1.out.below hb K1.out.lt); have D2 := Lib.hid (Nat.le_trans D1.out hb.size); obtain ⟨_, _, d20, d21, d22⟩ := (HZV.out _ D2.out K2.out).2 j _ HGJ.out; simp only [Nat.zero_add] at d20 d21 d22; clear hb; obtain ⟨w6, hw6⟩ : ∃ w6, u2.alloc (.cells #[.int .i64 f1, .int .i64 f2, .string f3] 37) = w6 := ⟨_, rfl⟩; have F6 := Lib.hid (fv_one (show Blk w6 u2.heap.size 37 #[.int .i64 f1, .int .i64 f2, .string f3] from hw6 ▸ Blk.new u2 37 _)); have R6 := Lib.hid (show Fr3 w6 B _ m2 NL from hw6 ▸ World.ownsRow.alloc R2.out _); have K6 := Lib.hid (show Blk w6 g2 37 cur from hw6 ▸ K2.out.alloc _); have U6 := Lib.hid (show Below B w3 w6 from hw6 ▸ U2.out.alloc S2.out _); have S6 := Lib.hid (show B ≤ w6.heap.size from by have h1 := U6.out.size; have h2 := HBB.out; omega); have D6 := Lib.hid (show w11.heap.size ≤ w6.heap.size from by have h1 := D2.out; rw [← hw6]; simp; omega); have E6 := Lib.hid hw6; clear hw6)
                          | (at_builtin; rw [E6.out]; go_must (refine fr3_any _ rfl (.tmp 107) (.tmp 112) 27 rfl Tryz.underlying27 info36 B _ m2 NL rfl R6.out _ 1 1 _ [(f1, f2, f3)] rfl rfl F6.out (fun h => by cases h) (by omega) S6.out ?_))
                          | fail)
                        intro V' w7 hown hgr hob
                        have O7 := Lib.hid hown
                        have U7 := Lib.hid (U6.out.grown hgr S6.out (fun j e => (R6.out.lt j e).1))
                        have K7 := Lib.hid (K6.out.grown hgr (fun e => LO.out e.symm))
                        have D7 := Lib.hid (Nat.le_trans D6.out hgr.size)
                        have L7 := Lib.hid (show V'.ownBlock = some g2 → False from fun e => by
                          rcases hob with h | h
                          · exact LO.out (h.symm.trans e)
                          · rw [h] at e; have := Option.some.inj e; have := K6.out.lt; omega)
                        clear hown hgr hob
                        go_wp2_with fail
                        go_roundw
                        case rel => exact ⟨j + 1, by omega, by go_num, by rw [HYES.out (by rw [HKP.out]; rfl), List.length_append, HM2.out]; exact O7.out, L7.out, K7.out, D7.out, U7.out⟩
                        case measure => simp [intOf]; omega
                  · have hfb : (f1 == 3) = false := by simpa using hfk
                    rw [decide_eq_false hfk, Bool.false_and] at hkp
                    have HKP := Lib.hid hkp
                    clear hkp hfk
                    go_wp2_with fail
                    go_roundw
                    case rel => exact ⟨j + 1, by omega, by go_num, by rw [HNO.out HKP.out, HM2.out]; exact R0.out, LO.out, K0.out, D0.out, U0.out⟩
                    case measure => simp [intOf]; omega
                · have hje : j = nZ := by omega
                  have hjI : ¬ (j : Int) < (nZ : Int) := by omega
                  have HE := Lib.hid (show rthr W X Y (2 + 1) = (NL, tm) from by rw [HST.out, ← HNL.out, hje, ← HNZ.out, List.take_length])
                  clear hjl hje
                  go_wp2_with fail
                  go_roundw
                  case rel => exact ⟨2 + 1, by omega, by rw [HKQ.out], by rw [HE.out], by rw [HE.out]; show Fr3 _ B _ NL.length _; rw [HM2.out]; exact R0.out, U0.out⟩
                  case measure => (simp [intOf]) <;> omega
            · have hq3 := hq
              have hk6 : kinds6[3]? = some 4 := rfl
              have HKQ := Lib.hid (show (((3 + 1 : Nat) : Int) + 1) = 5 from rfl)
              have hst := rthr_step (W := W) (X := X) (Y := Y) hk6
              rw [HTH.out] at hst
              unfold rst at hst
              rw [if_pos (by decide)] at hst
              obtain ⟨x0, hx0⟩ : ∃ f, X[0]? = some f := ⟨X[0]'(by rw [HNX.out]; exact hX0), List.getElem?_eq_getElem _⟩
              obtain ⟨y0, hy0⟩ : ∃ f, Y[0]? = some f := ⟨Y[0]'(by rw [HNY.out]; exact hY0), List.getElem?_eq_getElem _⟩
              obtain ⟨rfl, _⟩ := HF2c.out.2 0 x0 hx0
              obtain ⟨rfl, _⟩ := HF3.out.2 0 y0 hy0
              have HFW3 := Lib.hid (fun (v : World) (h : Below B w3 v) => HF1c.out.below (HBB.out ▸ h))
              have HFX3 := Lib.hid (fun (v : World) (h : Below B w3 v) => HF2c.out.below (HBB.out ▸ h))
              have HFY3 := Lib.hid (fun (v : World) (h : Below B w3 v) => HF3.out.below (HBB.out ▸ h))
              obtain ⟨b9, hb9⟩ : ∃ b, wr.heap.size = b := ⟨_, rfl⟩
              obtain ⟨W9, hW9⟩ : ∃ W9, wr.alloc (.cells #[] 37) = W9 := ⟨_, rfl⟩
              have HR9 := Lib.hid (show Fr3 W9 b9 (.slice (some ⟨b9, 0, none⟩) 0 0) 0 [] from hb9 ▸ hW9 ▸ World.ownsRow_made wr #[] 0 (Nat.le_refl _) (Nat.zero_le _) rfl)
              have HB9 := Lib.hid (show Below b9 wr W9 from hb9 ▸ hW9 ▸ (Below.refl _ wr).alloc (Nat.le_refl _) _)
              have Hb9 := Lib.hid hb9
              have HW9 := Lib.hid hW9
              have HBb := Lib.hid (fun (v : World) (h : Below b9 wr v) => show Below B w3 v from HB.out.trans (h.mono (by have := HBs.out; omega)))
              clear hx0 hy0 hb9 hW9 HF1c HF2c HF3
              go_wp2_with (first
                | (at_builtin; rw [HW9.out]; go_must (refine fr3_any _ rfl (.tmp 64) (.tmp 65) 27 rfl Tryz.underlying27 info36 b9 _ 0 [] (by rw [← Hb9.out]; rfl) HR9.out _ nX cX gX X HNX.out rfl (HFX3.out _ (HBb.out _ HB9.out)) (fun h => by cases h) (by omega) (by have := HB9.out.size; have := Hb9.out; omega) ?_))
                | fail)
              intro V1 w10 hown hgr _
              have HR10 := Lib.hid (show Fr3 w10 b9 V1 nX X from by first | exact hown | simpa using hown)
              have HB10 := Lib.hid (HB9.out.grown hgr (by have := HB9.out.size; have := Hb9.out; omega) (fun k e => (HR9.out.lt k e).1))
              clear hown hgr
              go_wp2_with (first
                | (at_builtin; go_must (refine fr3_any _ rfl (.tmp 66) (.tmp 67) 27 rfl Tryz.underlying27 info36 b9 _ nX X rfl HR10.out _ nY cY gY Y HNY.out rfl (HFY3.out _ (HBb.out _ HB10.out)) (fun h => by cases h) (by omega) (by have := HB10.out.size; have := Hb9.out; omega) ?_))
                | fail)
              intro V2 w11 hown hgr _
              obtain ⟨nZ, hnZ⟩ : ∃ z, nX + nY = z := ⟨_, rfl⟩
              obtain ⟨Z, hZ⟩ : ∃ Z, X ++ Y = Z := ⟨_, rfl⟩
              rw [hnZ, hZ] at hown
              rw [hZ] at hst
              have HNZ := Lib.hid (show Z.length = nZ from by rw [← hZ, List.length_append, HNX.out, HNY.out, hnZ])
              have HB11 := Lib.hid (HB10.out.grown hgr (by have := HB10.out.size; have := Hb9.out; omega) (fun k e => (HR10.out.lt k e).1))
              obtain ⟨g2, gc, cur, rfl, hg2b, hbk, hz⟩ := fr3_blk hown HNZ.out (by omega)
              have HBK := Lib.hid hbk
              have HZ11 := Lib.hid hz
              have HL11 := Lib.hid (fr3_keep HROW.out (fun j _ hj => HB11.out.block j (by rw [← Hb9.out]; exact hj)))
              have HLO := Lib.hid (fun e => (absurd (HROW.out.lt g2 e).2 (Nat.not_lt.2 (by rw [Hb9.out]; exact hg2b)) : False))
              have HB113 := Lib.hid (HBb.out _ HB11.out)
              have hZn : nZ ≤ 24 := by omega
              have HST := Lib.hid hst
              clear hown hgr hZ hnZ hbk hz hg2b hst HR10 HB10 HR9 HB9 HW9 HB11 HROW HB HBs HBb
              go_wp2_with fail
              go_loopw [15, 19] (fun l i v => ∃ j : Nat, j ≤ nZ ∧ i = .int .i64 (j : Int) ∧ Fr3 v B l (ML ++ (Z.take j).filter (pK W X Y 4)).length (ML ++ (Z.take j).filter (pK W X Y 4)) ∧ (l.ownBlock = some g2 → False) ∧ Blk v g2 37 cur ∧ w11.heap.size ≤ v.heap.size ∧ Below B w3 v) (fun _ i _ => nZ - (intOf i).toNat)
              case atStart => exact ⟨0, Nat.zero_le _, rfl, by rw [List.take_zero, List.filter_nil, List.append_nil, HM.out]; exact HL11.out, HLO.out, HBK.out, Nat.le_refl _, HB113.out⟩
              case round =>
                clear HL11 HLO HB113
                obtain ⟨j, hj, rfl, hrow, hlo, hblk, hsz, hb⟩ := hrel
                obtain ⟨NL, hNL⟩ : ∃ M, ML ++ (Z.take j).filter (pK W X Y 4) = M := ⟨_, rfl⟩
                have hnl : NL.length ≤ 200 := by
                  rw [← hNL, List.length_append, HM.out]
                  have h1 := List.length_filter_le (pK W X Y 4) (Z.take j)
                  rw [List.length_take] at h1
                  omega
                rw [hNL] at hrow
                obtain ⟨m2, hm2⟩ : ∃ m, NL.length = m := ⟨_, rfl⟩
                rw [hm2] at hrow hnl
                have HM2 := Lib.hid hm2
                have HNL := Lib.hid hNL
                have R0 := Lib.hid hrow
                have LO := Lib.hid hlo
                have K0 := Lib.hid hblk
                have D0 := Lib.hid hsz
                have U0 := Lib.hid hb
                have S0 := Lib.hid (show B ≤ wr.heap.size from by have h1 := hb.size; have h2 := HBB.out; omega)
                have HZV := Lib.hid (fun (v : World) (h1 : w11.heap.size ≤ v.heap.size) (h2 : Blk v g2 37 cur) => fv_keep HZ11.out h1 (h2.trans HBK.out.symm))
                clear hrow hlo hblk hsz hb hNL hm2
                by_cases hjl : j < nZ
                · obtain ⟨f, hf⟩ : ∃ f, Z[j]? = some f := ⟨Z[j]'(by rw [HNZ.out]; exact hjl), List.getElem?_eq_getElem _⟩
                  obtain ⟨_, _, c0, c1, c2⟩ := (HZV.out _ D0.out K0.out).2 j f hf
                  have HGJ := Lib.hid hf
                  have HYES := Lib.hid (fun (hp : pK W X Y 4 f = true) => (show ML ++ (Z.take (j + 1)).filter (pK W X Y 4) = NL ++ [f] from by rw [filt_yes hf hp, ← List.append_assoc, HNL.out]))
                  have HNO := Lib.hid (fun (hp : pK W X Y 4 f = false) => (show ML ++ (Z.take (j + 1)).filter (pK W X Y 4) = NL from by rw [filt_no hf hp, HNL.out]))
                  have hkp : pK W X Y 4 f = (decide (f.1 = 4) && ((hasF f X && hasF f Y) || !hasF f W)) := rfl
                  have HHX := Lib.hid (fun (v : World) (h : Below B w3 v) => has_any (HFX3.out v h) nX HNX.out (by omega) f)
                  have HHY := Lib.hid (fun (v : World) (h : Below B w3 v) => has_any (HFY3.out v h) nY HNY.out (by omega) f)
                  have HHW := Lib.hid (fun (v : World) (h : Below B w3 v) => has_any (HFW3.out v h) nW HNW.out (by omega) f)
                  obtain ⟨sX, hsX⟩ : ∃ r, hasF f X = r := ⟨_, rfl⟩
                  obtain ⟨sY, hsY⟩ : ∃ r, hasF f Y = r := ⟨_, rfl⟩
                  obtain ⟨sW, hsW⟩ : ∃ r, hasF f W = r := ⟨_, rfl⟩
                  rw [hsX] at HHX
                  rw [hsY] at HHY
                  rw [hsW] at HHW
                  rw [hsX, hsY, hsW] at hkp
                  have hjI : (j : Int) < (nZ : Int) := by omega
                  have hjJ : (0 : Int) ≤ (j : Int) := by omega
                  have i1 : IntKind.i64.wrap ((j : Int) + 1) = ((j + 1 : Nat) : Int) := by rw [IntWalk.i64_in _ (by omega)]; omega
                  obtain ⟨f1, f2, f3⟩ := f
                  simp only [Nat.zero_add] at c0 c1 c2
                  simp only at hkp HHX HHY HHW
                  clear hf hsX hsY hsW
                  by_cases hfk : f1 = 4
                  · have hfb : (f1 == 4) = true := by simpa using hfk
                    rw [decide_eq_true hfk, Bool.true_and] at hkp
                    have HKP := Lib.hid hkp
                    clear hkp hfk
                    cases sX with
                    | true =>
                      cases sY with
                      | true =>
                        go_wp2_with (first
                          | (go_at_call 17; (with_reducible refine (HHX.out _ U0.out).mono ?_); rintro _ u1 ⟨rfl, hb⟩; have U1 := Lib.hid (U0.out.trans (hb.mono S0.out)); have S1 := Lib.hid (Nat.le_trans S0.out hb.size); have R1 := Lib.hid (fr3_keep R0.out (fun j _ hj => hb.block j hj)); have K1 := Lib.hid (K0.out.below hb K0.out.lt); have D1 := Lib.hid (Nat.le_trans D0.out hb.size); obtain ⟨_, _, d10, d11, d12⟩ := (HZV.out _ D1.out K1.out).2 j _ HGJ.out; simp only [Nat.zero_add] at d10 d11 d12; clear hb)
                          | (go_at_call 17; (with_reducible refine (HHY.out _ U1.out).mono ?_); rintro _ u2 ⟨rfl, hb⟩; have U2 := Lib.hid (U1.out.trans (hb.mono S1.out)); have S2 := Lib.hid (Nat.le_trans S1.out hb.size); have R2 := Lib.hid (fr3_keep R1.out (fun j _ hj => hb.block j hj)); have K2 := Lib.hid (K1.out.below hb K1.out.lt); have D2 := Lib.hid (Nat.le_trans D1.out hb.size); obtain ⟨_, _, d20, d21, d22⟩ := (HZV.out _ D2.out K2.out).2 j _ HGJ.out; simp only [Nat.zero_add] at d20 d21 d22; clear hb; obtain ⟨w6, hw6⟩ : ∃ w6, u2.alloc (.cells #[.int .i64 f1, .int .i64 f2, .string f3] 37) = w6 := ⟨_, rfl⟩; have F6 := Lib.hid (fv_one (show Blk w6 u2.heap.size 37 #[.int .i64 f1, .int .i64 f2, .string f3] from hw6 ▸ Blk.new u2 37 _)); have R6 := Lib.hid (show Fr3 w6 B _ m2 NL from hw6 ▸ World.ownsRow.alloc R2.out _); have K6 := Lib.hid (show Blk w6 g2 37 cur from hw6 ▸ K2.out.alloc _); have U6 := Lib.hid (show Below B w3 w6 from hw6 ▸ U2.out.alloc S2.out _); have S6 := Lib.hid (show B ≤ w6.heap.size from by have h1 := U6.out.size; have h2 := HBB.out; omega); have D6 := Lib.hid (show w11.heap.size ≤ w6.heap.size from by have h1 := D2.out; rw [← hw6]; simp; omega); have E6 := Lib.hid hw6; clear hw6)
                          | (at_builtin; rw [E6.out]; go_must (refine fr3_any _ rfl (.tmp 107) (.tmp 112) 27 rfl Tryz.underlying27 info36 B _ m2 NL rfl R6.out _ 1 1 _ [(f1, f2, f3)] rfl rfl F6.out (fun h => by cases h) (by omega) S6.out ?_))
                          | fail)
                        intro V' w7 hown hgr hob
                        have O7 := Lib.hid hown
                        have U7 := Lib.hid (U6.out.grown hgr S6.out (fun j e => (R6.out.lt j e).1))
                        have K7 := Lib.hid (K6.out.grown hgr (fun e => LO.out e.symm))
                        have D7 := Lib.hid (Nat.le_trans D6.out hgr.size)
                        have L7 := Lib.hid (show V'.ownBlock = some g2 → False from fun e => by
                          rcases hob with h | h
                          · exact LO.out (h.symm.trans e)
                          · rw [h] at e; have := Option.some.inj e; have := K6.out.lt; omega)
                        clear hown hgr hob
                        go_wp2_with fail
                        go_roundw
                        case rel => exact ⟨j + 1, by omega, by go_num, by rw [HYES.out (by rw [HKP.out]; rfl), List.length_append, HM2.out]; exact O7.out, L7.out, K7.out, D7.out, U7.out⟩
                        case measure => simp [intOf]; omega
                      | false =>
                        cases sW with
                        | true =>
                          go_wp2_with (first
                            | (go_at_call 17; (with_reducible refine (HHX.out _ U0.out).mono ?_); rintro _ u1 ⟨rfl, hb⟩; have U1 := Lib.hid (U0.out.trans (hb.mono S0.out)); have S1 := Lib.hid (Nat.le_trans S0.out hb.size); have R1 := Lib.hid (fr3_keep R0.out (fun j _ hj => hb.block j hj)); have K1 := Lib.hid (K0.out.below hb K0.out.lt); have D1 := Lib.hid (Nat.le_trans D0.out hb.size); obtain ⟨_, _, d10, d11, d12⟩ := (HZV.out _ D1.out K1.out).2 j _ HGJ.out; simp only [Nat.zero_add] at d10 d11 d12; clear hb)
                            | (go_at_call 17; (with_reducible refine (HHY.out _ U1.out).mono ?_); rintro _ u2 ⟨rfl, hb⟩; have U2 := Lib.hid (U1.out.trans (hb.mono S1.out)); have S2 := Lib.hid (Nat.le_trans S1.out hb.size); have R2 := Lib.hid (fr3_keep R1.out (fun j _ hj => hb.block j hj)); have K2 := Lib.hid (K1.out.below hb K1.out.lt); have D2 := Lib.hid (Nat.le_trans D1.out hb.size); obtain ⟨_, _, d20, d21, d22⟩ := (HZV.out _ D2.out K2.out).2 j _ HGJ.out; simp only [Nat.zero_add] at d20 d21 d22; clear hb)
                            | (go_at_call 17; (with_reducible refine (HHW.out _ U2.out).mono ?_); rintro _ u3 ⟨rfl, hb⟩; have U3 := Lib.hid (U2.out.trans (hb.mono S2.out)); have S3 := Lib.hid (Nat.le_trans S2.out hb.size); have R3 := Lib.hid (fr3_keep R2.out (fun j _ hj => hb.block j hj)); have K3 := Lib.hid (K2.out.below hb K2.out.lt); have D3 := Lib.hid (Nat.le_trans D2.out hb.size); obtain ⟨_, _, d30, d31, d32⟩ := (HZV.out _ D3.out K3.out).2 j _ HGJ.out; simp only [Nat.zero_add] at d30 d31 d32; clear hb)
                            | fail)
                          go_wp2_with fail
                          go_roundw
                          case rel => exact ⟨j + 1, by omega, by go_num, by rw [HNO.out (by rw [HKP.out]; rfl), HM2.out]; exact R3.out, LO.out, K3.out, D3.out, U3.out⟩
                          case measure => simp [intOf]; omega
                        | false =>
                          go_wp2_with (first
                            | (go_at_call 17; (with_reducible refine (HHX.out _ U0.out).mono ?_); rintro _ u1 ⟨rfl, hb⟩; have U1 := Lib.hid (U0.out.trans (hb.mono S0.out)); have S1 := Lib.hid (Nat.le_trans S0.out hb.size); have R1 := Lib.hid (fr3_keep R0.out (fun j _ hj => hb.block j hj)); have K1 := Lib.hid (K0.out.below hb K0.out.lt); have D1 := Lib.hid (Nat.le_trans D0.out hb.size); obtain ⟨_, _, d10, d11, d12⟩ := (HZV.out _ D1.out K1.out).2 j _ HGJ.out; simp only [Nat.zero_add] at d10 d11 d12; clear hb)
                            | (go_at_call 17; (with_reducible refine (HHY.out _ U1.out).mono ?_); rintro _ u2 ⟨rfl, hb⟩; have U2 := Lib.hid (U1.out.trans (hb.mono S1.out)); have S2 := Lib.hid (Nat.le_trans S1.out hb.size); have R2 := Lib.hid (fr3_keep R1.out (fun j _ hj => hb.block j hj)); have K2 := Lib.hid (K1.out.below hb K1.out.lt); have D2 := Lib.hid (Nat.le_trans D1.out hb.size); obtain ⟨_, _, d20, d21, d22⟩ := (HZV.out _ D2.out K2.out).2 j _ HGJ.out; simp only [Nat.zero_add] at d20 d21 d22; clear hb)
                            | (go_at_call 17; (with_reducible refine (HHW.out _ U2.out).mono ?_); rintro _ u3 ⟨rfl, hb⟩; have U3 := Lib.hid (U2.out.trans (hb.mono S2.out)); have S3 := Lib.hid (Nat.le_trans S2.out hb.size); have R3 := Lib.hid (fr3_keep R2.out (fun j _ hj => hb.block j hj)); have K3 := Lib.hid (K2.out.below hb K2.out.lt); have D3 := Lib.hid (Nat.le_trans D2.out hb.size); obtain ⟨_, _, d30, d31, d32⟩ := (HZV.out _ D3.out K3.out).2 j _ HGJ.out; simp only [Nat.zero_add] at d30 d31 d32; clear hb; obtain ⟨w6, hw6⟩ : ∃ w6, u3.alloc (.cells #[.int .i64 f1, .int .i64 f2, .string f3] 37) = w6 := ⟨_, rfl⟩; have F6 := Lib.hid (fv_one (show Blk w6 u3.heap.size 37 #[.int .i64 f1, .int .i64 f2, .string f3] from hw6 ▸ Blk.new u3 37 _)); have R6 := Lib.hid (show Fr3 w6 B _ m2 NL from hw6 ▸ World.ownsRow.alloc R3.out _); have K6 := Lib.hid (show Blk w6 g2 37 cur from hw6 ▸ K3.out.alloc _); have U6 := Lib.hid (show Below B w3 w6 from hw6 ▸ U3.out.alloc S3.out _); have S6 := Lib.hid (show B ≤ w6.heap.size from by have h1 := U6.out.size; have h2 := HBB.out; omega); have D6 := Lib.hid (show w11.heap.size ≤ w6.heap.size from by have h1 := D3.out; rw [← hw6]; simp; omega); have E6 := Lib.hid hw6; clear hw6)
                            | (at_builtin; rw [E6.out]; go_must (refine fr3_any _ rfl (.tmp 107) (.tmp 112) 27 rfl Tryz.underlying27 info36 B _ m2 NL rfl R6.out _ 1 1 _ [(f1, f2, f3)] rfl rfl F6.out (fun h => by cases h) (by omega) S6.out ?_))
                            | fail)
                          intro V' w7 hown hgr hob
                          have O7 := Lib.hid hown
                          have U7 := Lib.hid (U6.out.grown hgr S6.out (fun j e => (R6.out.lt j e).1))
                          have K7 := Lib.hid (K6.out.grown hgr (fun e => LO.out e.symm))
                          have D7 := Lib.hid (Nat.le_trans D6.out hgr.size)
                          have L7 := Lib.hid (show V'.ownBlock = some g2 → False from fun e => by
                            rcases hob with h | h
                            · exact LO.out (h.symm.trans e)
                            · rw [h] at e; have := Option.some.inj e; have := K6.out.lt; omega)
                          clear hown hgr hob
                          go_wp2_with fail
                          go_roundw
                          case rel => exact ⟨j + 1, by omega, by go_num, by rw [HYES.out (by rw [HKP.out]; rfl), List.length_append, HM2.out]; exact O7.out, L7.out, K7.out, D7.out, U7.out⟩
                          case measure => simp [intOf]; omega
                    | false =>
                      cases sW with
                      | true =>
                        go_wp2_with (first
                          | (go_at_call 17; (with_reducible refine (HHX.out _ U0.out).mono ?_); rintro _ u1 ⟨rfl, hb⟩; have U1 := Lib.hid (U0.out.trans (hb.mono S0.out)); have S1 := Lib.hid (Nat.le_trans S0.out hb.size); have R1 := Lib.hid (fr3_keep R0.out (fun j _ hj => hb.block j hj)); have K1 := Lib.hid (K0.out.below hb K0.out.lt); have D1 := Lib.hid (Nat.le_trans D0.out hb.size); obtain ⟨_, _, d10, d11, d12⟩ := (HZV.out _ D1.out K1.out).2 j _ HGJ.out; simp only [Nat.zero_add] at d10 d11 d12; clear hb)
                          | (go_at_call 17; (with_reducible refine (HHW.out _ U1.out).mono ?_); rintro _ u2 ⟨rfl, hb⟩; have U2 := Lib.hid (U1.out.trans (hb.mono S1.out)); have S2 := Lib.hid (Nat.le_trans S1.out hb.size); have R2 := Lib.hid (fr3_keep R1.out (fun j _ hj => hb.block j hj)); have K2 := Lib.hid (K1.out.below hb K1.out.lt); have D2 := Lib.hid (Nat.le_trans D1.out hb.size); obtain ⟨_, _, d20, d21, d22⟩ := (HZV.out _ D2.out K2.out).2 j _ HGJ.out; simp only [Nat.zero_add] at d20 d21 d22; clear hb)
                          | fail)
                        go_wp2_with fail
                        go_roundw
                        case rel => exact ⟨j + 1, by omega, by go_num, by rw [HNO.out (by rw [HKP.out]; rfl), HM2.out]; exact R2.out, LO.out, K2.out, D2.out, U2.out⟩
                        case measure => simp [intOf]; omega
                      | false =>
                        go_wp2_with (first
                          | (go_at_call 17; (with_reducible refine (HHX.out _ U0.out).mono ?_); rintro _ u1 ⟨rfl, hb⟩; have U1 := Lib.hid (U0.out.trans (hb.mono S0.out)); have S1 := Lib.hid (Nat.le_trans S0.out hb.size); have R1 := Lib.hid (fr3_keep R0.out (fun j _ hj => hb.block j hj)); have K1 := Lib.hid (K0.out.below hb K0.out.lt); have D1 := Lib.hid (Nat.le_trans D0.out hb.size); obtain ⟨_, _, d10, d11, d12⟩ := (HZV.out _ D1.out K1.out).2 j _ HGJ.out; simp only [Nat.zero_add] at d10 d11 d12; clear hb)
                          | (go_at_call 17; (with_reducible refine (HHW.out _ U1.out).mono ?_); rintro _ u2 ⟨rfl, hb⟩; have U2 := Lib.hid (U1.out.trans (hb.mono S1.out)); have S2 := Lib.hid (Nat.le_trans S1.out hb.size); have R2 := Lib.hid (fr3_keep R1.out (fun j _ hj => hb.block j hj)); have K2 := Lib.hid (K1.out.below hb K1.out.lt); have D2 := Lib.hid (Nat.le_trans D1.out hb.size); obtain ⟨_, _, d20, d21, d22⟩ := (HZV.out _ D2.out K2.out).2 j _ HGJ.out; simp only [Nat.zero_add] at d20 d21 d22; clear hb; obtain ⟨w6, hw6⟩ : ∃ w6, u2.alloc (.cells #[.int .i64 f1, .int .i64 f2, .string f3] 37) = w6 := ⟨_, rfl⟩; have F6 := Lib.hid (fv_one (show Blk w6 u2.heap.size 37 #[.int .i64 f1, .int .i64 f2, .string f3] from hw6 ▸ Blk.new u2 37 _)); have R6 := Lib.hid (show Fr3 w6 B _ m2 NL from hw6 ▸ World.ownsRow.alloc R2.out _); have K6 := Lib.hid (show Blk w6 g2 37 cur from hw6 ▸ K2.out.alloc _); have U6 := Lib.hid (show Below B w3 w6 from hw6 ▸ U2.out.alloc S2.out _); have S6 := Lib.hid (show B ≤ w6.heap.size from by have h1 := U6.out.size; have h2 := HBB.out; omega); have D6 := Lib.hid (show w11.heap.size ≤ w6.heap.size from by have h1 := D2.out; rw [← hw6]; simp; omega); have E6 := Lib.hid hw6; clear hw6)
                          | (at_builtin; rw [E6.out]; go_must (refine fr3_any _ rfl (.tmp 107) (.tmp 112) 27 rfl Tryz.underlying27 info36 B _ m2 NL rfl R6.out _ 1 1 _ [(f1, f2, f3)] rfl rfl F6.out (fun h => by cases h) (by omega) S6.out ?_))
                          | fail)
                        intro V' w7 hown hgr hob
                        have O7 := Lib.hid hown
                        have U7 := Lib.hid (U6.out.grown hgr S6.out (fun j e => (R6.out.lt j e).1))
                        have K7 := Lib.hid (K6.out.grown hgr (fun e => LO.out e.symm))
                        have D7 := Lib.hid (Nat.le_trans D6.out hgr.size)
                        have L7 := Lib.hid (show V'.ownBlock = some g2 → False from fun e => by
                          rcases hob with h | h
                          · exact LO.out (h.symm.trans e)
                          · rw [h] at e; have := Option.some.inj e; have := K6.out.lt; omega)
                        clear hown hgr hob
                        go_wp2_with fail
                        go_roundw
                        case rel => exact ⟨j + 1, by omega, by go_num, by rw [HYES.out (by rw [HKP.out]; rfl), List.length_append, HM2.out]; exact O7.out, L7.out, K7.out, D7.out, U7.out⟩
                        case measure => simp [intOf]; omega
                  · have hfb : (f1 == 4) = false := by simpa using hfk
                    rw [decide_eq_false hfk, Bool.false_and] at hkp
                    have HKP := Lib.hid hkp
                    clear hkp hfk
                    go_wp2_with fail
                    go_roundw
                    case rel => exact ⟨j + 1, by omega, by go_num, by rw [HNO.out HKP.out, HM2.out]; exact R0.out, LO.out, K0.out, D0.out, U0.out⟩
                    case measure => simp [intOf]; omega
                · have hje : j = nZ := by omega
                  have hjI : ¬ (j : Int) < (nZ : Int) := by omega
                  have HE := Lib.hid (show rthr W X Y (3 + 1) = (NL, tm) from by rw [HST.out, ← HNL.out, hje, ← HNZ.out, List.take_length])
                  clear hjl hje
                  go_wp2_with fail
                  go_roundw
                  case rel => exact ⟨3 + 1, by omega, by rw [HKQ.out], by rw [HE.out], by rw [HE.out]; show Fr3 _ B _ NL.length _; rw [HM2.out]; exact R0.out, U0.out⟩
                  case measure => (simp [intOf]) <;> omega
            · have hq4 := hq
              have hk6 : kinds6[4]? = some 5 := rfl
              have HKQ := Lib.hid (show (((4 + 1 : Nat) : Int) + 1) = 6 from rfl)
              have hst := rthr_step (W := W) (X := X) (Y := Y) hk6
              rw [HTH.out] at hst
              unfold rst at hst
              rw [if_neg (by decide)] at hst
              obtain ⟨Rp, hRp⟩ : ∃ R, onlyR 5 W = R := ⟨_, rfl⟩
              obtain ⟨mp, hmp⟩ : ∃ m, Rp.length = m := ⟨_, rfl⟩
              have lp : mp ≤ 1 := by have := onlyR_len 5 W; rw [hRp] at this; omega
              have HMp := Lib.hid hmp
              obtain ⟨Rq, hRq⟩ : ∃ R, onlyR 5 X = R := ⟨_, rfl⟩
              obtain ⟨mq, hmq⟩ : ∃ m, Rq.length = m := ⟨_, rfl⟩
              have lq : mq ≤ 1 := by have := onlyR_len 5 X; rw [hRq] at this; omega
              have HMq := Lib.hid hmq
              obtain ⟨Rr, hRr⟩ : ∃ R, onlyR 5 Y = R := ⟨_, rfl⟩
              obtain ⟨mr, hmr⟩ : ∃ m, Rr.length = m := ⟨_, rfl⟩
              have lr : mr ≤ 1 := by have := onlyR_len 5 Y; rw [hRr] at this; omega
              have HMr := Lib.hid hmr
              have HOp := Lib.hid (fun (v : World) (h : Below B w3 v) => ronly_any (HF1c.out.below (HBB.out ▸ h)) nW HNW.out (by omega) 5 Rp hRp mp hmp)
              have HOq := Lib.hid (fun (v : World) (h : Below B w3 v) => ronly_any (HF2c.out.below (HBB.out ▸ h)) nX HNX.out (by omega) 5 Rq hRq mq hmq)
              have HOr := Lib.hid (fun (v : World) (h : Below B w3 v) => ronly_any (HF3.out.below (HBB.out ▸ h)) nY HNY.out (by omega) 5 Rr hRr mr hmr)
              rw [hRp, hRq, hRr] at hst
              clear hRp hRq hRr hmp hmq hmr
              by_cases h1 : Rq = Rp
              · have d1 := Lib.hid (show decide (Rq = Rp) = true from decide_eq_true h1)
                have HST := Lib.hid (show rthr W X Y (4 + 1) = (ML ++ Rr, tm) from by rw [hst]; rw [if_pos h1])
                clear hst h1
                go_wp2_with (first
                  | (go_at_call 24; (with_reducible refine (HOp.out _ HB.out).mono ?_); rintro _ u1 ⟨Ap, cp, gp, rfl, hf, hn, hb⟩; have HU1 := Lib.hid (HB.out.trans (hb.mono HBs.out)); have HS1 := Lib.hid (Nat.le_trans HBs.out hb.size); have HR1 := Lib.hid (fr3_keep HROW.out (fun j _ hj => hb.block j hj)); have Zp1 := Lib.hid hf; have HNp := Lib.hid hn; clear hf hn hb)
                  | (go_at_call 24; (with_reducible refine (HOq.out _ HU1.out).mono ?_); rintro _ u2 ⟨Aq, cq, gq, rfl, hf, hn, hb⟩; have HU2 := Lib.hid (HU1.out.trans (hb.mono HS1.out)); have HS2 := Lib.hid (Nat.le_trans HS1.out hb.size); have HR2 := Lib.hid (fr3_keep HR1.out (fun j _ hj => hb.block j hj)); have Zp2 := Lib.hid (Zp1.out.below hb); have Zq2 := Lib.hid hf; have HNq := Lib.hid hn; clear hf hn hb)
                  | (go_at_call 24; (with_reducible refine (HOr.out _ HU2.out).mono ?_); rintro _ u3 ⟨Ar, cr, gr, rfl, hf, hn, hb⟩; have HU3 := Lib.hid (HU2.out.trans (hb.mono HS2.out)); have HS3 := Lib.hid (Nat.le_trans HS2.out hb.size); have HR3 := Lib.hid (fr3_keep HR2.out (fun j _ hj => hb.block j hj)); have Zp3 := Lib.hid (Zp2.out.below hb); have Zq3 := Lib.hid (Zq2.out.below hb); have Zr3 := Lib.hid hf; have HNr := Lib.hid hn; clear hf hn hb)
                  | (go_at_call 25; (with_reducible refine (rsame_any Zq3.out Zp3.out mq mp HMq.out HMp.out lq lp).mono ?_); rw [d1.out]; rintro _ u4 ⟨rfl, hb⟩; have HU4 := Lib.hid (HU3.out.trans (hb.mono HS3.out)); have HS4 := Lib.hid (Nat.le_trans HS3.out hb.size); have HR4 := Lib.hid (fr3_keep HR3.out (fun j _ hj => hb.block j hj)); have Zp4 := Lib.hid (Zp3.out.below hb); have Zq4 := Lib.hid (Zq3.out.below hb); have Zr4 := Lib.hid (Zr3.out.below hb); clear hb)
                  | (at_builtin; go_must (refine fr3_any _ rfl (.tmp 132) (.tmp 133) 27 rfl Tryz.underlying27 info36 B _ m ML rfl HR4.out Ar mr cr gr Rr HMr.out rfl Zr4.out HNr.out (by omega) HS4.out ?_))
                  | fail)
                intro V' w7 hown hgr _
                have HO7 := Lib.hid hown
                have HW7 := Lib.hid (HU4.out.grown hgr HS4.out (fun j e => (HR4.out.lt j e).1))
                clear hown hgr
                go_wp2_with fail
                go_roundw
                case rel => exact ⟨4 + 1, by omega, by rw [HKQ.out], by rw [HST.out], by rw [HST.out]; show Fr3 _ B _ (ML ++ Rr).length _; rw [List.length_append, HM.out, HMr.out]; exact HO7.out, HW7.out⟩
                case measure => (simp [intOf]) <;> omega
              · have d1 := Lib.hid (show decide (Rq = Rp) = false from decide_eq_false h1)
                by_cases h2 : Rr = Rp
                · have d2 := Lib.hid (show decide (Rr = Rp) = true from decide_eq_true h2)
                  have HST := Lib.hid (show rthr W X Y (4 + 1) = (ML ++ Rq, tm) from by rw [hst]; rw [if_neg h1, if_pos (.inl h2)])
                  clear hst h1 h2
                  go_wp2_with (first
                    | (go_at_call 24; (with_reducible refine (HOp.out _ HB.out).mono ?_); rintro _ u1 ⟨Ap, cp, gp, rfl, hf, hn, hb⟩; have HU1 := Lib.hid (HB.out.trans (hb.mono HBs.out)); have HS1 := Lib.hid (Nat.le_trans HBs.out hb.size); have HR1 := Lib.hid (fr3_keep HROW.out (fun j _ hj => hb.block j hj)); have Zp1 := Lib.hid hf; have HNp := Lib.hid hn; clear hf hn hb)
                    | (go_at_call 24; (with_reducible refine (HOq.out _ HU1.out).mono ?_); rintro _ u2 ⟨Aq, cq, gq, rfl, hf, hn, hb⟩; have HU2 := Lib.hid (HU1.out.trans (hb.mono HS1.out)); have HS2 := Lib.hid (Nat.le_trans HS1.out hb.size); have HR2 := Lib.hid (fr3_keep HR1.out (fun j _ hj => hb.block j hj)); have Zp2 := Lib.hid (Zp1.out.below hb); have Zq2 := Lib.hid hf; have HNq := Lib.hid hn; clear hf hn hb)
                    | (go_at_call 24; (with_reducible refine (HOr.out _ HU2.out).mono ?_); rintro _ u3 ⟨Ar, cr, gr, rfl, hf, hn, hb⟩; have HU3 := Lib.hid (HU2.out.trans (hb.mono HS2.out)); have HS3 := Lib.hid (Nat.le_trans HS2.out hb.size); have HR3 := Lib.hid (fr3_keep HR2.out (fun j _ hj => hb.block j hj)); have Zp3 := Lib.hid (Zp2.out.below hb); have Zq3 := Lib.hid (Zq2.out.below hb); have Zr3 := Lib.hid hf; have HNr := Lib.hid hn; clear hf hn hb)
                    | (go_at_call 25; (with_reducible refine (rsame_any Zq3.out Zp3.out mq mp HMq.out HMp.out lq lp).mono ?_); rw [d1.out]; rintro _ u4 ⟨rfl, hb⟩; have HU4 := Lib.hid (HU3.out.trans (hb.mono HS3.out)); have HS4 := Lib.hid (Nat.le_trans HS3.out hb.size); have HR4 := Lib.hid (fr3_keep HR3.out (fun j _ hj => hb.block j hj)); have Zp4 := Lib.hid (Zp3.out.below hb); have Zq4 := Lib.hid (Zq3.out.below hb); have Zr4 := Lib.hid (Zr3.out.below hb); clear hb)
                    | (go_at_call 25; (with_reducible refine (rsame_any Zr4.out Zp4.out mr mp HMr.out HMp.out lr lp).mono ?_); rw [d2.out]; rintro _ u5 ⟨rfl, hb⟩; have HU5 := Lib.hid (HU4.out.trans (hb.mono HS4.out)); have HS5 := Lib.hid (Nat.le_trans HS4.out hb.size); have HR5 := Lib.hid (fr3_keep HR4.out (fun j _ hj => hb.block j hj)); have Zp5 := Lib.hid (Zp4.out.below hb); have Zq5 := Lib.hid (Zq4.out.below hb); have Zr5 := Lib.hid (Zr4.out.below hb); clear hb)
                    | (at_builtin; go_must (refine fr3_any _ rfl (.tmp 144) (.tmp 145) 27 rfl Tryz.underlying27 info36 B _ m ML rfl HR5.out Aq mq cq gq Rq HMq.out rfl Zq5.out HNq.out (by omega) HS5.out ?_))
                    | fail)
                  intro V' w7 hown hgr _
                  have HO7 := Lib.hid hown
                  have HW7 := Lib.hid (HU5.out.grown hgr HS5.out (fun j e => (HR5.out.lt j e).1))
                  clear hown hgr
                  go_wp2_with fail
                  go_roundw
                  case rel => exact ⟨4 + 1, by omega, by rw [HKQ.out], by rw [HST.out], by rw [HST.out]; show Fr3 _ B _ (ML ++ Rq).length _; rw [List.length_append, HM.out, HMq.out]; exact HO7.out, HW7.out⟩
                  case measure => (simp [intOf]) <;> omega
                · have d2 := Lib.hid (show decide (Rr = Rp) = false from decide_eq_false h2)
                  by_cases h3 : Rq = Rr
                  · have d3 := Lib.hid (show decide (Rq = Rr) = true from decide_eq_true h3)
                    have HST := Lib.hid (show rthr W X Y (4 + 1) = (ML ++ Rq, tm) from by rw [hst]; rw [if_neg h1, if_pos (.inr h3)])
                    clear hst h1 h2 h3
                    go_wp2_with (first
                      | (go_at_call 24; (with_reducible refine (HOp.out _ HB.out).mono ?_); rintro _ u1 ⟨Ap, cp, gp, rfl, hf, hn, hb⟩; have HU1 := Lib.hid (HB.out.trans (hb.mono HBs.out)); have HS1 := Lib.hid (Nat.le_trans HBs.out hb.size); have HR1 := Lib.hid (fr3_keep HROW.out (fun j _ hj => hb.block j hj)); have Zp1 := Lib.hid hf; have HNp := Lib.hid hn; clear hf hn hb)
                      | (go_at_call 24; (with_reducible refine (HOq.out _ HU1.out).mono ?_); rintro _ u2 ⟨Aq, cq, gq, rfl, hf, hn, hb⟩; have HU2 := Lib.hid (HU1.out.trans (hb.mono HS1.out)); have HS2 := Lib.hid (Nat.le_trans HS1.out hb.size); have HR2 := Lib.hid (fr3_keep HR1.out (fun j _ hj => hb.block j hj)); have Zp2 := Lib.hid (Zp1.out.below hb); have Zq2 := Lib.hid hf; have HNq := Lib.hid hn; clear hf hn hb)
                      | (go_at_call 24; (with_reducible refine (HOr.out _ HU2.out).mono ?_); rintro _ u3 ⟨Ar, cr, gr, rfl, hf, hn, hb⟩; have HU3 := Lib.hid (HU2.out.trans (hb.mono HS2.out)); have HS3 := Lib.hid (Nat.le_trans HS2.out hb.size); have HR3 := Lib.hid (fr3_keep HR2.out (fun j _ hj => hb.block j hj)); have Zp3 := Lib.hid (Zp2.out.below hb); have Zq3 := Lib.hid (Zq2.out.below hb); have Zr3 := Lib.hid hf; have HNr := Lib.hid hn; clear hf hn hb)
                      | (go_at_call 25; (with_reducible refine (rsame_any Zq3.out Zp3.out mq mp HMq.out HMp.out lq lp).mono ?_); rw [d1.out]; rintro _ u4 ⟨rfl, hb⟩; have HU4 := Lib.hid (HU3.out.trans (hb.mono HS3.out)); have HS4 := Lib.hid (Nat.le_trans HS3.out hb.size); have HR4 := Lib.hid (fr3_keep HR3.out (fun j _ hj => hb.block j hj)); have Zp4 := Lib.hid (Zp3.out.below hb); have Zq4 := Lib.hid (Zq3.out.below hb); have Zr4 := Lib.hid (Zr3.out.below hb); clear hb)
                      | (go_at_call 25; (with_reducible refine (rsame_any Zr4.out Zp4.out mr mp HMr.out HMp.out lr lp).mono ?_); rw [d2.out]; rintro _ u5 ⟨rfl, hb⟩; have HU5 := Lib.hid (HU4.out.trans (hb.mono HS4.out)); have HS5 := Lib.hid (Nat.le_trans HS4.out hb.size); have HR5 := Lib.hid (fr3_keep HR4.out (fun j _ hj => hb.block j hj)); have Zp5 := Lib.hid (Zp4.out.below hb); have Zq5 := Lib.hid (Zq4.out.below hb); have Zr5 := Lib.hid (Zr4.out.below hb); clear hb)
                      | (go_at_call 25; (with_reducible refine (rsame_any Zq5.out Zr5.out mq mr HMq.out HMr.out lq lr).mono ?_); rw [d3.out]; rintro _ u6 ⟨rfl, hb⟩; have HU6 := Lib.hid (HU5.out.trans (hb.mono HS5.out)); have HS6 := Lib.hid (Nat.le_trans HS5.out hb.size); have HR6 := Lib.hid (fr3_keep HR5.out (fun j _ hj => hb.block j hj)); have Zp6 := Lib.hid (Zp5.out.below hb); have Zq6 := Lib.hid (Zq5.out.below hb); have Zr6 := Lib.hid (Zr5.out.below hb); clear hb)
                      | (at_builtin; go_must (refine fr3_any _ rfl (.tmp 144) (.tmp 145) 27 rfl Tryz.underlying27 info36 B _ m ML rfl HR6.out Aq mq cq gq Rq HMq.out rfl Zq6.out HNq.out (by omega) HS6.out ?_))
                      | fail)
                    intro V' w7 hown hgr _
                    have HO7 := Lib.hid hown
                    have HW7 := Lib.hid (HU6.out.grown hgr HS6.out (fun j e => (HR6.out.lt j e).1))
                    clear hown hgr
                    go_wp2_with fail
                    go_roundw
                    case rel => exact ⟨4 + 1, by omega, by rw [HKQ.out], by rw [HST.out], by rw [HST.out]; show Fr3 _ B _ (ML ++ Rq).length _; rw [List.length_append, HM.out, HMq.out]; exact HO7.out, HW7.out⟩
                    case measure => (simp [intOf]) <;> omega
                  · have d3 := Lib.hid (show decide (Rq = Rr) = false from decide_eq_false h3)
                    have HST := Lib.hid (show rthr W X Y (4 + 1) = (ML ++ Rq, tm + 1) from by rw [hst]; rw [if_neg h1, if_neg (fun h => h.elim h2 h3)])
                    clear hst h1 h2 h3
                    go_wp2_with (first
                      | (go_at_call 24; (with_reducible refine (HOp.out _ HB.out).mono ?_); rintro _ u1 ⟨Ap, cp, gp, rfl, hf, hn, hb⟩; have HU1 := Lib.hid (HB.out.trans (hb.mono HBs.out)); have HS1 := Lib.hid (Nat.le_trans HBs.out hb.size); have HR1 := Lib.hid (fr3_keep HROW.out (fun j _ hj => hb.block j hj)); have Zp1 := Lib.hid hf; have HNp := Lib.hid hn; clear hf hn hb)
                      | (go_at_call 24; (with_reducible refine (HOq.out _ HU1.out).mono ?_); rintro _ u2 ⟨Aq, cq, gq, rfl, hf, hn, hb⟩; have HU2 := Lib.hid (HU1.out.trans (hb.mono HS1.out)); have HS2 := Lib.hid (Nat.le_trans HS1.out hb.size); have HR2 := Lib.hid (fr3_keep HR1.out (fun j _ hj => hb.block j hj)); have Zp2 := Lib.hid (Zp1.out.below hb); have Zq2 := Lib.hid hf; have HNq := Lib.hid hn; clear hf hn hb)
                      | (go_at_call 24; (with_reducible refine (HOr.out _ HU2.out).mono ?_); rintro _ u3 ⟨Ar, cr, gr, rfl, hf, hn, hb⟩; have HU3 := Lib.hid (HU2.out.trans (hb.mono HS2.out)); have HS3 := Lib.hid (Nat.le_trans HS2.out hb.size); have HR3 := Lib.hid (fr3_keep HR2.out (fun j _ hj => hb.block j hj)); have Zp3 := Lib.hid (Zp2.out.below hb); have Zq3 := Lib.hid (Zq2.out.below hb); have Zr3 := Lib.hid hf; have HNr := Lib.hid hn; clear hf hn hb)
                      | (go_at_call 25; (with_reducible refine (rsame_any Zq3.out Zp3.out mq mp HMq.out HMp.out lq lp).mono ?_); rw [d1.out]; rintro _ u4 ⟨rfl, hb⟩; have HU4 := Lib.hid (HU3.out.trans (hb.mono HS3.out)); have HS4 := Lib.hid (Nat.le_trans HS3.out hb.size); have HR4 := Lib.hid (fr3_keep HR3.out (fun j _ hj => hb.block j hj)); have Zp4 := Lib.hid (Zp3.out.below hb); have Zq4 := Lib.hid (Zq3.out.below hb); have Zr4 := Lib.hid (Zr3.out.below hb); clear hb)
                      | (go_at_call 25; (with_reducible refine (rsame_any Zr4.out Zp4.out mr mp HMr.out HMp.out lr lp).mono ?_); rw [d2.out]; rintro _ u5 ⟨rfl, hb⟩; have HU5 := Lib.hid (HU4.out.trans (hb.mono HS4.out)); have HS5 := Lib.hid (Nat.le_trans HS4.out hb.size); have HR5 := Lib.hid (fr3_keep HR4.out (fun j _ hj => hb.block j hj)); have Zp5 := Lib.hid (Zp4.out.below hb); have Zq5 := Lib.hid (Zq4.out.below hb); have Zr5 := Lib.hid (Zr4.out.below hb); clear hb)
                      | (go_at_call 25; (with_reducible refine (rsame_any Zq5.out Zr5.out mq mr HMq.out HMr.out lq lr).mono ?_); rw [d3.out]; rintro _ u6 ⟨rfl, hb⟩; have HU6 := Lib.hid (HU5.out.trans (hb.mono HS5.out)); have HS6 := Lib.hid (Nat.le_trans HS5.out hb.size); have HR6 := Lib.hid (fr3_keep HR5.out (fun j _ hj => hb.block j hj)); have Zp6 := Lib.hid (Zp5.out.below hb); have Zq6 := Lib.hid (Zq5.out.below hb); have Zr6 := Lib.hid (Zr5.out.below hb); clear hb)
                      | (at_builtin; go_must (refine fr3_any _ rfl (.tmp 123) (.tmp 124) 27 rfl Tryz.underlying27 info36 B _ m ML rfl HR6.out Aq mq cq gq Rq HMq.out rfl Zq6.out HNq.out (by omega) HS6.out ?_))
                      | fail)
                    intro V' w7 hown hgr _
                    have HO7 := Lib.hid hown
                    have HW7 := Lib.hid (HU6.out.grown hgr HS6.out (fun j e => (HR6.out.lt j e).1))
                    clear hown hgr
                    go_wp2_with fail
                    go_roundw
                    case rel => exact ⟨4 + 1, by omega, by rw [HKQ.out], by rw [HST.out]; show _ = Value.int .i64 ((tm + 1 : Nat) : Int); rw [HTC.out], by rw [HST.out]; show Fr3 _ B _ (ML ++ Rq).length _; rw [List.length_append, HM.out, HMq.out]; exact HO7.out, HW7.out⟩
                    case measure => (simp [intOf]) <;> omega
            · have hq5 := hq
              have hk6 : kinds6[5]? = some 6 := rfl
              have HKQ := Lib.hid (show (((5 + 1 : Nat) : Int) + 1) = 7 from rfl)
              have hst := rthr_step (W := W) (X := X) (Y := Y) hk6
              rw [HTH.out] at hst
              unfold rst at hst
              rw [if_pos (by decide)] at hst
              obtain ⟨x0, hx0⟩ : ∃ f, X[0]? = some f := ⟨X[0]'(by rw [HNX.out]; exact hX0), List.getElem?_eq_getElem _⟩
              obtain ⟨y0, hy0⟩ : ∃ f, Y[0]? = some f := ⟨Y[0]'(by rw [HNY.out]; exact hY0), List.getElem?_eq_getElem _⟩
              obtain ⟨rfl, _⟩ := HF2c.out.2 0 x0 hx0
              obtain ⟨rfl, _⟩ := HF3.out.2 0 y0 hy0
              have HFW3 := Lib.hid (fun (v : World) (h : Below B w3 v) => HF1c.out.below (HBB.out ▸ h))
              have HFX3 := Lib.hid (fun (v : World) (h : Below B w3 v) => HF2c.out.below (HBB.out ▸ h))
              have HFY3 := Lib.hid (fun (v : World) (h : Below B w3 v) => HF3.out.below (HBB.out ▸ h))
              obtain ⟨b9, hb9⟩ : ∃ b, wr.heap.size = b := ⟨_, rfl⟩
              obtain ⟨W9, hW9⟩ : ∃ W9, wr.alloc (.cells #[] 37) = W9 := ⟨_, rfl⟩
              have HR9 := Lib.hid (show Fr3 W9 b9 (.slice (some ⟨b9, 0, none⟩) 0 0) 0 [] from hb9 ▸ hW9 ▸ World.ownsRow_made wr #[] 0 (Nat.le_refl _) (Nat.zero_le _) rfl)
              have HB9 := Lib.hid (show Below b9 wr W9 from hb9 ▸ hW9 ▸ (Below.refl _ wr).alloc (Nat.le_refl _) _)
              have Hb9 := Lib.hid hb9
              have HW9 := Lib.hid hW9
              have HBb := Lib.hid (fun (v : World) (h : Below b9 wr v) => show Below B w3 v from HB.out.trans (h.mono (by have := HBs.out; omega)))
              clear hx0 hy0 hb9 hW9 HF1c HF2c HF3
              go_wp2_with (first
                | (at_builtin; rw [HW9.out]; go_must (refine fr3_any _ rfl (.tmp 64) (.tmp 65) 27 rfl Tryz.underlying27 info36 b9 _ 0 [] (by rw [← Hb9.out]; rfl) HR9.out _ nX cX gX X HNX.out rfl (HFX3.out _ (HBb.out _ HB9.out)) (fun h => by cases h) (by omega) (by have := HB9.out.size; have := Hb9.out; omega) ?_))
                | fail)
              intro V1 w10 hown hgr _
              have HR10 := Lib.hid (show Fr3 w10 b9 V1 nX X from by first | exact hown | simpa using hown)
              have HB10 := Lib.hid (HB9.out.grown hgr (by have := HB9.out.size; have := Hb9.out; omega) (fun k e => (HR9.out.lt k e).1))
              clear hown hgr
              go_wp2_with (first
                | (at_builtin; go_must (refine fr3_any _ rfl (.tmp 66) (.tmp 67) 27 rfl Tryz.underlying27 info36 b9 _ nX X rfl HR10.out _ nY cY gY Y HNY.out rfl (HFY3.out _ (HBb.out _ HB10.out)) (fun h => by cases h) (by omega) (by have := HB10.out.size; have := Hb9.out; omega) ?_))
                | fail)
              intro V2 w11 hown hgr _
              obtain ⟨nZ, hnZ⟩ : ∃ z, nX + nY = z := ⟨_, rfl⟩
              obtain ⟨Z, hZ⟩ : ∃ Z, X ++ Y = Z := ⟨_, rfl⟩
              rw [hnZ, hZ] at hown
              rw [hZ] at hst
              have HNZ := Lib.hid (show Z.length = nZ from by rw [← hZ, List.length_append, HNX.out, HNY.out, hnZ])
              have HB11 := Lib.hid (HB10.out.grown hgr (by have := HB10.out.size; have := Hb9.out; omega) (fun k e => (HR10.out.lt k e).1))
              obtain ⟨g2, gc, cur, rfl, hg2b, hbk, hz⟩ := fr3_blk hown HNZ.out (by omega)
              have HBK := Lib.hid hbk
              have HZ11 := Lib.hid hz
              have HL11 := Lib.hid (fr3_keep HROW.out (fun j _ hj => HB11.out.block j (by rw [← Hb9.out]; exact hj)))
              have HLO := Lib.hid (fun e => (absurd (HROW.out.lt g2 e).2 (Nat.not_lt.2 (by rw [Hb9.out]; exact hg2b)) : False))
              have HB113 := Lib.hid (HBb.out _ HB11.out)
              have hZn : nZ ≤ 24 := by omega
              have HST := Lib.hid hst
              clear hown hgr hZ hnZ hbk hz hg2b hst HR10 HB10 HR9 HB9 HW9 HB11 HROW HB HBs HBb
              go_wp2_with fail
              go_loopw [15, 19] (fun l i v => ∃ j : Nat, j ≤ nZ ∧ i = .int .i64 (j : Int) ∧ Fr3 v B l (ML ++ (Z.take j).filter (pK W X Y 6)).length (ML ++ (Z.take j).filter (pK W X Y 6)) ∧ (l.ownBlock = some g2 → False) ∧ Blk v g2 37 cur ∧ w11.heap.size ≤ v.heap.size ∧ Below B w3 v) (fun _ i _ => nZ - (intOf i).toNat)
              case atStart => exact ⟨0, Nat.zero_le _, rfl, by rw [List.take_zero, List.filter_nil, List.append_nil, HM.out]; exact HL11.out, HLO.out, HBK.out, Nat.le_refl _, HB113.out⟩
              case round =>
                clear HL11 HLO HB113
                obtain ⟨j, hj, rfl, hrow, hlo, hblk, hsz, hb⟩ := hrel
                obtain ⟨NL, hNL⟩ : ∃ M, ML ++ (Z.take j).filter (pK W X Y 6) = M := ⟨_, rfl⟩
                have hnl : NL.length ≤ 200 := by
                  rw [← hNL, List.length_append, HM.out]
                  have h1 := List.length_filter_le (pK W X Y 6) (Z.take j)
                  rw [List.length_take] at h1
                  omega
                rw [hNL] at hrow
                obtain ⟨m2, hm2⟩ : ∃ m, NL.length = m := ⟨_, rfl⟩
                rw [hm2] at hrow hnl
                have HM2 := Lib.hid hm2
                have HNL := Lib.hid hNL
                have R0 := Lib.hid hrow
                have LO := Lib.hid hlo
                have K0 := Lib.hid hblk
                have D0 := Lib.hid hsz
                have U0 := Lib.hid hb
                have S0 := Lib.hid (show B ≤ wr.heap.size from by have h1 := hb.size; have h2 := HBB.out; omega)
                have HZV := Lib.hid (fun (v : World) (h1 : w11.heap.size ≤ v.heap.size) (h2 : Blk v g2 37 cur) => fv_keep HZ11.out h1 (h2.trans HBK.out.symm))
                clear hrow hlo hblk hsz hb hNL hm2
                by_cases hjl : j < nZ
                · obtain ⟨f, hf⟩ : ∃ f, Z[j]? = some f := ⟨Z[j]'(by rw [HNZ.out]; exact hjl), List.getElem?_eq_getElem _⟩
                  obtain ⟨_, _, c0, c1, c2⟩ := (HZV.out _ D0.out K0.out).2 j f hf
                  have HGJ := Lib.hid hf
                  have HYES := Lib.hid (fun (hp : pK W X Y 6 f = true) => (show ML ++ (Z.take (j + 1)).filter (pK W X Y 6) = NL ++ [f] from by rw [filt_yes hf hp, ← List.append_assoc, HNL.out]))
                  have HNO := Lib.hid (fun (hp : pK W X Y 6 f = false) => (show ML ++ (Z.take (j + 1)).filter (pK W X Y 6) = NL from by rw [filt_no hf hp, HNL.out]))
                  have hkp : pK W X Y 6 f = (decide (f.1 = 6) && ((hasF f X && hasF f Y) || !hasF f W)) := rfl
                  have HHX := Lib.hid (fun (v : World) (h : Below B w3 v) => has_any (HFX3.out v h) nX HNX.out (by omega) f)
                  have HHY := Lib.hid (fun (v : World) (h : Below B w3 v) => has_any (HFY3.out v h) nY HNY.out (by omega) f)
                  have HHW := Lib.hid (fun (v : World) (h : Below B w3 v) => has_any (HFW3.out v h) nW HNW.out (by omega) f)
                  obtain ⟨sX, hsX⟩ : ∃ r, hasF f X = r := ⟨_, rfl⟩
                  obtain ⟨sY, hsY⟩ : ∃ r, hasF f Y = r := ⟨_, rfl⟩
                  obtain ⟨sW, hsW⟩ : ∃ r, hasF f W = r := ⟨_, rfl⟩
                  rw [hsX] at HHX
                  rw [hsY] at HHY
                  rw [hsW] at HHW
                  rw [hsX, hsY, hsW] at hkp
                  have hjI : (j : Int) < (nZ : Int) := by omega
                  have hjJ : (0 : Int) ≤ (j : Int) := by omega
                  have i1 : IntKind.i64.wrap ((j : Int) + 1) = ((j + 1 : Nat) : Int) := by rw [IntWalk.i64_in _ (by omega)]; omega
                  obtain ⟨f1, f2, f3⟩ := f
                  simp only [Nat.zero_add] at c0 c1 c2
                  simp only at hkp HHX HHY HHW
                  clear hf hsX hsY hsW
                  by_cases hfk : f1 = 6
                  · have hfb : (f1 == 6) = true := by simpa using hfk
                    rw [decide_eq_true hfk, Bool.true_and] at hkp
                    have HKP := Lib.hid hkp
                    clear hkp hfk
                    cases sX with
                    | true =>
                      cases sY with
                      | true =>
                        go_wp2_with (first
                          | (go_at_call 17; (with_reducible refine (HHX.out _ U0.out).mono ?_); rintro _ u1 ⟨rfl, hb⟩; have U1 := Lib.hid (U0.out.trans (hb.mono S0.out)); have S1 := Lib.hid (Nat.le_trans S0.out hb.size); have R1 := Lib.hid (fr3_keep R0.out (fun j _ hj => hb.block j hj)); have K1 := Lib.hid (K0.out.below hb K0.out.lt); have D1 := Lib.hid (Nat.le_trans D0.out hb.size); obtain ⟨_, _, d10, d11, d12⟩ := (HZV.out _ D1.out K1.out).2 j _ HGJ.out; simp only [Nat.zero_add] at d10 d11 d12; clear hb)
                          | (go_at_call 17; (with_reducible refine (HHY.out _ U1.out).mono ?_); rintro _ u2 ⟨rfl, hb⟩; have U2 := Lib.hid (U1.out.trans (hb.mono S1.out)); have S2 := Lib.hid (Nat.le_trans S1.out hb.size); have R2 := Lib.hid (fr3_keep R1.out (fun j _ hj => hb.block j hj)); have K2 := Lib.hid (K1.out.below hb K1.out.lt); have D2 := Lib.hid (Nat.le_trans D1.out hb.size); obtain ⟨_, _, d20, d21, d22⟩ := (HZV.out _ D2.out K2.out).2 j _ HGJ.out; simp only [Nat.zero_add] at d20 d21 d22; clear hb; obtain ⟨w6, hw6⟩ : ∃ w6, u2.alloc (.cells #[.int .i64 f1, .int .i64 f2, .string f3] 37) = w6 := ⟨_, rfl⟩; have F6 := Lib.hid (fv_one (show Blk w6 u2.heap.size 37 #[.int .i64 f1, .int .i64 f2, .string f3] from hw6 ▸ Blk.new u2 37 _)); have R6 := Lib.hid (show Fr3 w6 B _ m2 NL from hw6 ▸ World.ownsRow.alloc R2.out _); have K6 := Lib.hid (show Blk w6 g2 37 cur from hw6 ▸ K2.out.alloc _); have U6 := Lib.hid (show Below B w3 w6 from hw6 ▸ U2.out.alloc S2.out _); have S6 := Lib.hid (show B ≤ w6.heap.size from by have h1 := U6.out.size; have h2 := HBB.out; omega); have D6 := Lib.hid (show w11.heap.size ≤ w6.heap.size from by have h1 := D2.out; rw [← hw6]; simp; omega); have E6 := Lib.hid hw6; clear hw6)
                          | (at_builtin; rw [E6.out]; go_must (refine fr3_any _ rfl (.tmp 107) (.tmp 112) 27 rfl Tryz.underlying27 info36 B _ m2 NL rfl R6.out _ 1 1 _ [(f1, f2, f3)] rfl rfl F6.out (fun h => by cases h) (by omega) S6.out ?_))
                          | fail)
                        intro V' w7 hown hgr hob
                        have O7 := Lib.hid hown
                        have U7 := Lib.hid (U6.out.grown hgr S6.out (fun j e => (R6.out.lt j e).1))
                        have K7 := Lib.hid (K6.out.grown hgr (fun e => LO.out e.symm))
                        have D7 := Lib.hid (Nat.le_trans D6.out hgr.size)
                        have L7 := Lib.hid (show V'.ownBlock = some g2 → False from fun e => by
                          rcases hob with h | h
                          · exact LO.out (h.symm.trans e)
                          · rw [h] at e; have := Option.some.inj e; have := K6.out.lt; omega)
                        clear hown hgr hob
                        go_wp2_with fail
                        go_roundw
                        case rel => exact ⟨j + 1, by omega, by go_num, by rw [HYES.out (by rw [HKP.out]; rfl), List.length_append, HM2.out]; exact O7.out, L7.out, K7.out, D7.out, U7.out⟩
                        case measure => simp [intOf]; omega
                      | false =>
                        cases sW with
                        | true =>
                          go_wp2_with (first
                            | (go_at_call 17; (with_reducible refine (HHX.out _ U0.out).mono ?_); rintro _ u1 ⟨rfl, hb⟩; have U1 := Lib.hid (U0.out.trans (hb.mono S0.out)); have S1 := Lib.hid (Nat.le_trans S0.out hb.size); have R1 := Lib.hid (fr3_keep R0.out (fun j _ hj => hb.block j hj)); have K1 := Lib.hid (K0.out.below hb K0.out.lt); have D1 := Lib.hid (Nat.le_trans D0.out hb.size); obtain ⟨_, _, d10, d11, d12⟩ := (HZV.out _ D1.out K1.out).2 j _ HGJ.out; simp only [Nat.zero_add] at d10 d11 d12; clear hb)
                            | (go_at_call 17; (with_reducible refine (HHY.out _ U1.out).mono ?_); rintro _ u2 ⟨rfl, hb⟩; have U2 := Lib.hid (U1.out.trans (hb.mono S1.out)); have S2 := Lib.hid (Nat.le_trans S1.out hb.size); have R2 := Lib.hid (fr3_keep R1.out (fun j _ hj => hb.block j hj)); have K2 := Lib.hid (K1.out.below hb K1.out.lt); have D2 := Lib.hid (Nat.le_trans D1.out hb.size); obtain ⟨_, _, d20, d21, d22⟩ := (HZV.out _ D2.out K2.out).2 j _ HGJ.out; simp only [Nat.zero_add] at d20 d21 d22; clear hb)
                            | (go_at_call 17; (with_reducible refine (HHW.out _ U2.out).mono ?_); rintro _ u3 ⟨rfl, hb⟩; have U3 := Lib.hid (U2.out.trans (hb.mono S2.out)); have S3 := Lib.hid (Nat.le_trans S2.out hb.size); have R3 := Lib.hid (fr3_keep R2.out (fun j _ hj => hb.block j hj)); have K3 := Lib.hid (K2.out.below hb K2.out.lt); have D3 := Lib.hid (Nat.le_trans D2.out hb.size); obtain ⟨_, _, d30, d31, d32⟩ := (HZV.out _ D3.out K3.out).2 j _ HGJ.out; simp only [Nat.zero_add] at d30 d31 d32; clear hb)
                            | fail)
                          go_wp2_with fail
                          go_roundw
                          case rel => exact ⟨j + 1, by omega, by go_num, by rw [HNO.out (by rw [HKP.out]; rfl), HM2.out]; exact R3.out, LO.out, K3.out, D3.out, U3.out⟩
                          case measure => simp [intOf]; omega
                        | false =>
                          go_wp2_with (first
                            | (go_at_call 17; (with_reducible refine (HHX.out _ U0.out).mono ?_); rintro _ u1 ⟨rfl, hb⟩; have U1 := Lib.hid (U0.out.trans (hb.mono S0.out)); have S1 := Lib.hid (Nat.le_trans S0.out hb.size); have R1 := Lib.hid (fr3_keep R0.out (fun j _ hj => hb.block j hj)); have K1 := Lib.hid (K0.out.below hb K0.out.lt); have D1 := Lib.hid (Nat.le_trans D0.out hb.size); obtain ⟨_, _, d10, d11, d12⟩ := (HZV.out _ D1.out K1.out).2 j _ HGJ.out; simp only [Nat.zero_add] at d10 d11 d12; clear hb)
                            | (go_at_call 17; (with_reducible refine (HHY.out _ U1.out).mono ?_); rintro _ u2 ⟨rfl, hb⟩; have U2 := Lib.hid (U1.out.trans (hb.mono S1.out)); have S2 := Lib.hid (Nat.le_trans S1.out hb.size); have R2 := Lib.hid (fr3_keep R1.out (fun j _ hj => hb.block j hj)); have K2 := Lib.hid (K1.out.below hb K1.out.lt); have D2 := Lib.hid (Nat.le_trans D1.out hb.size); obtain ⟨_, _, d20, d21, d22⟩ := (HZV.out _ D2.out K2.out).2 j _ HGJ.out; simp only [Nat.zero_add] at d20 d21 d22; clear hb)
                            | (go_at_call 17; (with_reducible refine (HHW.out _ U2.out).mono ?_); rintro _ u3 ⟨rfl, hb⟩; have U3 := Lib.hid (U2.out.trans (hb.mono S2.out)); have S3 := Lib.hid (Nat.le_trans S2.out hb.size); have R3 := Lib.hid (fr3_keep R2.out (fun j _ hj => hb.block j hj)); have K3 := Lib.hid (K2.out.below hb K2.out.lt); have D3 := Lib.hid (Nat.le_trans D2.out hb.size); obtain ⟨_, _, d30, d31, d32⟩ := (HZV.out _ D3.out K3.out).2 j _ HGJ.out; simp only [Nat.zero_add] at d30 d31 d32; clear hb; obtain ⟨w6, hw6⟩ : ∃ w6, u3.alloc (.cells #[.int .i64 f1, .int .i64 f2, .string f3] 37) = w6 := ⟨_, rfl⟩; have F6 := Lib.hid (fv_one (show Blk w6 u3.heap.size 37 #[.int .i64 f1, .int .i64 f2, .string f3] from hw6 ▸ Blk.new u3 37 _)); have R6 := Lib.hid (show Fr3 w6 B _ m2 NL from hw6 ▸ World.ownsRow.alloc R3.out _); have K6 := Lib.hid (show Blk w6 g2 37 cur from hw6 ▸ K3.out.alloc _); have U6 := Lib.hid (show Below B w3 w6 from hw6 ▸ U3.out.alloc S3.out _); have S6 := Lib.hid (show B ≤ w6.heap.size from by have h1 := U6.out.size; have h2 := HBB.out; omega); have D6 := Lib.hid (show w11.heap.size ≤ w6.heap.size from by have h1 := D3.out; rw [← hw6]; simp; omega); have E6 := Lib.hid hw6; clear hw6)
                            | (at_builtin; rw [E6.out]; go_must (refine fr3_any _ rfl (.tmp 107) (.tmp 112) 27 rfl Tryz.underlying27 info36 B _ m2 NL rfl R6.out _ 1 1 _ [(f1, f2, f3)] rfl rfl F6.out (fun h => by cases h) (by omega) S6.out ?_))
                            | fail)
                          intro V' w7 hown hgr hob
                          have O7 := Lib.hid hown
                          have U7 := Lib.hid (U6.out.grown hgr S6.out (fun j e => (R6.out.lt j e).1))
                          have K7 := Lib.hid (K6.out.grown hgr (fun e => LO.out e.symm))
                          have D7 := Lib.hid (Nat.le_trans D6.out hgr.size)
                          have L7 := Lib.hid (show V'.ownBlock = some g2 → False from fun e => by
                            rcases hob with h | h
                            · exact LO.out (h.symm.trans e)
                            · rw [h] at e; have := Option.some.inj e; have := K6.out.lt; omega)
                          clear hown hgr hob
                          go_wp2_with fail
                          go_roundw
                          case rel => exact ⟨j + 1, by omega, by go_num, by rw [HYES.out (by rw [HKP.out]; rfl), List.length_append, HM2.out]; exact O7.out, L7.out, K7.out, D7.out, U7.out⟩
                          case measure => simp [intOf]; omega
                    | false =>
                      cases sW with
                      | true =>
                        go_wp2_with (first
                          | (go_at_call 17; (with_reducible refine (HHX.out _ U0.out).mono ?_); rintro _ u1 ⟨rfl, hb⟩; have U1 := Lib.hid (U0.out.trans (hb.mono S0.out)); have S1 := Lib.hid (Nat.le_trans S0.out hb.size); have R1 := Lib.hid (fr3_keep R0.out (fun j _ hj => hb.block j hj)); have K1 := Lib.hid (K0.out.below hb K0.out.lt); have D1 := Lib.hid (Nat.le_trans D0.out hb.size); obtain ⟨_, _, d10, d11, d12⟩ := (HZV.out _ D1.out K1.out).2 j _ HGJ.out; simp only [Nat.zero_add] at d10 d11 d12; clear hb)
                          | (go_at_call 17; (with_reducible refine (HHW.out _ U1.out).mono ?_); rintro _ u2 ⟨rfl, hb⟩; have U2 := Lib.hid (U1.out.trans (hb.mono S1.out)); have S2 := Lib.hid (Nat.le_trans S1.out hb.size); have R2 := Lib.hid (fr3_keep R1.out (fun j _ hj => hb.block j hj)); have K2 := Lib.hid (K1.out.below hb K1.out.lt); have D2 := Lib.hid (Nat.le_trans D1.out hb.size); obtain ⟨_, _, d20, d21, d22⟩ := (HZV.out _ D2.out K2.out).2 j _ HGJ.out; simp only [Nat.zero_add] at d20 d21 d22; clear hb)
                          | fail)
                        go_wp2_with fail
                        go_roundw
                        case rel => exact ⟨j + 1, by omega, by go_num, by rw [HNO.out (by rw [HKP.out]; rfl), HM2.out]; exact R2.out, LO.out, K2.out, D2.out, U2.out⟩
                        case measure => simp [intOf]; omega
                      | false =>
                        go_wp2_with (first
                          | (go_at_call 17; (with_reducible refine (HHX.out _ U0.out).mono ?_); rintro _ u1 ⟨rfl, hb⟩; have U1 := Lib.hid (U0.out.trans (hb.mono S0.out)); have S1 := Lib.hid (Nat.le_trans S0.out hb.size); have R1 := Lib.hid (fr3_keep R0.out (fun j _ hj => hb.block j hj)); have K1 := Lib.hid (K0.out.below hb K0.out.lt); have D1 := Lib.hid (Nat.le_trans D0.out hb.size); obtain ⟨_, _, d10, d11, d12⟩ := (HZV.out _ D1.out K1.out).2 j _ HGJ.out; simp only [Nat.zero_add] at d10 d11 d12; clear hb)
                          | (go_at_call 17; (with_reducible refine (HHW.out _ U1.out).mono ?_); rintro _ u2 ⟨rfl, hb⟩; have U2 := Lib.hid (U1.out.trans (hb.mono S1.out)); have S2 := Lib.hid (Nat.le_trans S1.out hb.size); have R2 := Lib.hid (fr3_keep R1.out (fun j _ hj => hb.block j hj)); have K2 := Lib.hid (K1.out.below hb K1.out.lt); have D2 := Lib.hid (Nat.le_trans D1.out hb.size); obtain ⟨_, _, d20, d21, d22⟩ := (HZV.out _ D2.out K2.out).2 j _ HGJ.out; simp only [Nat.zero_add] at d20 d21 d22; clear hb; obtain ⟨w6, hw6⟩ : ∃ w6, u2.alloc (.cells #[.int .i64 f1, .int .i64 f2, .string f3] 37) = w6 := ⟨_, rfl⟩; have F6 := Lib.hid (fv_one (show Blk w6 u2.heap.size 37 #[.int .i64 f1, .int .i64 f2, .string f3] from hw6 ▸ Blk.new u2 37 _)); have R6 := Lib.hid (show Fr3 w6 B _ m2 NL from hw6 ▸ World.ownsRow.alloc R2.out _); have K6 := Lib.hid (show Blk w6 g2 37 cur from hw6 ▸ K2.out.alloc _); have U6 := Lib.hid (show Below B w3 w6 from hw6 ▸ U2.out.alloc S2.out _); have S6 := Lib.hid (show B ≤ w6.heap.size from by have h1 := U6.out.size; have h2 := HBB.out; omega); have D6 := Lib.hid (show w11.heap.size ≤ w6.heap.size from by have h1 := D2.out; rw [← hw6]; simp; omega); have E6 := Lib.hid hw6; clear hw6)
                          | (at_builtin; rw [E6.out]; go_must (refine fr3_any _ rfl (.tmp 107) (.tmp 112) 27 rfl Tryz.underlying27 info36 B _ m2 NL rfl R6.out _ 1 1 _ [(f1, f2, f3)] rfl rfl F6.out (fun h => by cases h) (by omega) S6.out ?_))
                          | fail)
                        intro V' w7 hown hgr hob
                        have O7 := Lib.hid hown
                        have U7 := Lib.hid (U6.out.grown hgr S6.out (fun j e => (R6.out.lt j e).1))
                        have K7 := Lib.hid (K6.out.grown hgr (fun e => LO.out e.symm))
                        have D7 := Lib.hid (Nat.le_trans D6.out hgr.size)
                        have L7 := Lib.hid (show V'.ownBlock = some g2 → False from fun e => by
                          rcases hob with h | h
                          · exact LO.out (h.symm.trans e)
                          · rw [h] at e; have := Option.some.inj e; have := K6.out.lt; omega)
                        clear hown hgr hob
                        go_wp2_with fail
                        go_roundw
                        case rel => exact ⟨j + 1, by omega, by go_num, by rw [HYES.out (by rw [HKP.out]; rfl), List.length_append, HM2.out]; exact O7.out, L7.out, K7.out, D7.out, U7.out⟩
                        case measure => simp [intOf]; omega
                  · have hfb : (f1 == 6) = false := by simpa using hfk
                    rw [decide_eq_false hfk, Bool.false_and] at hkp
                    have HKP := Lib.hid hkp
                    clear hkp hfk
                    go_wp2_with fail
                    go_roundw
                    case rel => exact ⟨j + 1, by omega, by go_num, by rw [HNO.out HKP.out, HM2.out]; exact R0.out, LO.out, K0.out, D0.out, U0.out⟩
                    case measure => simp [intOf]; omega
                · have hje : j = nZ := by omega
                  have hjI : ¬ (j : Int) < (nZ : Int) := by omega
                  have HE := Lib.hid (show rthr W X Y (5 + 1) = (NL, tm) from by rw [HST.out, ← HNL.out, hje, ← HNZ.out, List.take_length])
                  clear hjl hje
                  go_wp2_with fail
                  go_roundw
                  case rel => exact ⟨5 + 1, by omega, by rw [HKQ.out], by rw [HE.out], by rw [HE.out]; show Fr3 _ B _ NL.length _; rw [HM2.out]; exact R0.out, U0.out⟩
                  case measure => (simp [intOf]) <;> omega
          · have hqe : q = 6 := by omega
            have hqI : ¬ (q : Int) + 1 ≤ 6 := by omega
            have HV := Lib.hid (show ∀ f ∈ ML, f.2.2.size ≤ 1000000 from fun f hf => (rthr_mem (W := W) (X := X) (Y := Y) q hq f (by rw [HTH.out]; exact hf)).elim (HVX.out f) (HVY.out f))
            obtain ⟨tv, te, htx⟩ : ∃ tv te, txtL ML = (tv, te) := ⟨_, _, rfl⟩
            have HT3 := Lib.hid (show (if te = 0 then (tv, (tm : Int), 0) else (⟨#[]⟩, 0, te)) = (s, n, e) from by rw [← HT.out, ← hqe, HTH.out]; simp only; rw [htx])
            obtain ⟨A, cap, g, rfl, hfv⟩ := fr3_fv HROW.out HM.out
            have HBW := Lib.hid (show Below w.heap.size w wr from HB3.out.trans (HB.out.mono (by have := HB3.out.size; have := HBB.out; omega)))
            have ht9 := rtext_any hfv (by have := HM.out; omega) HV.out
            rw [htx, HM.out] at ht9
            have HTX := Lib.hid ht9
            clear hql hqe htx hfv HF1c HF2c HF3 ht9
            by_cases hte : te = 0
            · subst hte
              have HT4 := Lib.hid (show (tv, (tm : Int), (0 : Int)) = (s, n, e) from by rw [← HT3.out, if_pos rfl])
              clear HT3
              go_wp2_with (first
                | (go_at_call 18; (with_reducible refine HTX.out.mono ?_); rintro _ u1 ⟨rfl, hb⟩; have HU1 := Lib.hid (HBW.out.trans (hb.mono HBW.out.size)); clear hb)
                | fail)
              go_ret3
              obtain ⟨rfl, h2⟩ := Prod.mk.inj HT4.out
              obtain ⟨rfl, rfl⟩ := Prod.mk.inj h2
              exact ⟨rfl, HU1.out⟩
            · have hteb : (te != 0) = true := by simpa using hte
              have HT4 := Lib.hid (show ((⟨#[]⟩, 0, te) : ByteArray × Int × Int) = (s, n, e) from by rw [← HT3.out, if_neg hte])
              clear HT3 hte
              go_wp2_with (first
                | (go_at_call 18; (with_reducible refine HTX.out.mono ?_); rintro _ u1 ⟨rfl, hb⟩; have HU1 := Lib.hid (HBW.out.trans (hb.mono HBW.out.size)); clear hb)
                | fail)
              go_ret3
              obtain ⟨rfl, h2⟩ := Prod.mk.inj HT4.out
              obtain ⟨rfl, rfl⟩ := Prod.mk.inj h2
              exact ⟨rfl, HU1.out⟩
      · have HBAD := Lib.hid (show ((⟨#[]⟩, 0, 1) : ByteArray × Int × Int) = (s, n, e) from by rw [← HR.out]; unfold threeS; rw [hc3]; simp)
        clear HR
        go_enter Tryz.func11, Tryz.ntmps11
        go_wp2_with (first
          | (go_at_call 16; (with_reducible refine (HP1.out _).mono ?_); rintro _ w1 ⟨AW, cW, gW, rfl, hf, hb⟩; have HF1 := Lib.hid hf; have HB1 := Lib.hid (hb); clear hf hb)
          | (go_at_call 16; (with_reducible refine (HP2.out _).mono ?_); rintro _ w2 ⟨AX, cX, gX, rfl, hf, hb⟩; have HF2 := Lib.hid hf; have HB2 := Lib.hid (HB1.out.trans (hb.mono HB1.out.size)); have HF1b := Lib.hid (HF1.out.below hb); clear hf hb)
          | (go_at_call 16; (with_reducible refine (HP3.out _).mono ?_); rintro _ w3 ⟨AY, cY, gY, rfl, hf, hb⟩; have HF3 := Lib.hid hf; have HB3 := Lib.hid (HB2.out.trans (hb.mono HB2.out.size)); have HF1c := Lib.hid (HF1b.out.below hb); have HF2c := Lib.hid (HF2.out.below hb); clear hf hb)
          | fail)
        go_ret3
        obtain ⟨rfl, h2⟩ := Prod.mk.inj HBAD.out
        obtain ⟨rfl, rfl⟩ := Prod.mk.inj h2
        exact ⟨rfl, HB3.out⟩
    · have HBAD := Lib.hid (show ((⟨#[]⟩, 0, 1) : ByteArray × Int × Int) = (s, n, e) from by rw [← HR.out]; unfold threeS; rw [hc2]; simp)
      clear HR
      go_enter Tryz.func11, Tryz.ntmps11
      go_wp2_with (first
        | (go_at_call 16; (with_reducible refine (HP1.out _).mono ?_); rintro _ w1 ⟨AW, cW, gW, rfl, hf, hb⟩; have HF1 := Lib.hid hf; have HB1 := Lib.hid (hb); clear hf hb)
        | (go_at_call 16; (with_reducible refine (HP2.out _).mono ?_); rintro _ w2 ⟨AX, cX, gX, rfl, hf, hb⟩; have HF2 := Lib.hid hf; have HB2 := Lib.hid (HB1.out.trans (hb.mono HB1.out.size)); have HF1b := Lib.hid (HF1.out.below hb); clear hf hb)
        | (go_at_call 16; (with_reducible refine (HP3.out _).mono ?_); rintro _ w3 ⟨AY, cY, gY, rfl, hf, hb⟩; have HF3 := Lib.hid hf; have HB3 := Lib.hid (HB2.out.trans (hb.mono HB2.out.size)); have HF1c := Lib.hid (HF1b.out.below hb); have HF2c := Lib.hid (HF2.out.below hb); clear hf hb)
        | fail)
      go_ret3
      obtain ⟨rfl, h2⟩ := Prod.mk.inj HBAD.out
      obtain ⟨rfl, rfl⟩ := Prod.mk.inj h2
      exact ⟨rfl, HB3.out⟩
  · have HBAD := Lib.hid (show ((⟨#[]⟩, 0, 1) : ByteArray × Int × Int) = (s, n, e) from by rw [← HR.out]; unfold threeS; rw [hc1]; simp)
    clear HR
    go_enter Tryz.func11, Tryz.ntmps11
    go_wp2_with (first
      | (go_at_call 16; (with_reducible refine (HP1.out _).mono ?_); rintro _ w1 ⟨AW, cW, gW, rfl, hf, hb⟩; have HF1 := Lib.hid hf; have HB1 := Lib.hid (hb); clear hf hb)
      | (go_at_call 16; (with_reducible refine (HP2.out _).mono ?_); rintro _ w2 ⟨AX, cX, gX, rfl, hf, hb⟩; have HF2 := Lib.hid hf; have HB2 := Lib.hid (HB1.out.trans (hb.mono HB1.out.size)); have HF1b := Lib.hid (HF1.out.below hb); clear hf hb)
      | (go_at_call 16; (with_reducible refine (HP3.out _).mono ?_); rintro _ w3 ⟨AY, cY, gY, rfl, hf, hb⟩; have HF3 := Lib.hid hf; have HB3 := Lib.hid (HB2.out.trans (hb.mono HB2.out.size)); have HF1c := Lib.hid (HF1b.out.below hb); have HF2c := Lib.hid (HF2.out.below hb); clear hf hb)
      | fail)
    go_ret3
    obtain ⟨rfl, h2⟩ := Prod.mk.inj HBAD.out
    obtain ⟨rfl, rfl⟩ := Prod.mk.inj h2
    exact ⟨rfl, HB3.out⟩
end Go.Proofs.YtlcchkpjcekinaaGreatDoor
