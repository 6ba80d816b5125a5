/- ClockPlays: its walk. -/
import Derived.Test.YtchjgojagmhpeaaRk
import Derived.Test.YtchjgojagmhpeaaSt
import Derived.Deep.QuietTactic
import Derived.BigQuiet
namespace Go.Proofs.Ytchjgojagmhpeaa
open Go.RowKit Go.Maps
open Go.ChangeShapes Go.ChangeAt
set_option linter.unusedVariables false
set_option linter.unusedSimpArgs false
set_option maxRecDepth 100000
attribute [local go_sem ↓] Go.wp_at_zero Go.wp_at_succ
/-- What the loop leaves. -/
def Pl (w0 W : World) (R b g k : Nat) : Prop := ∃ (now : Int) (n : Nat) (D : MD) (L : List (Int × Int)), 0 ≤ now ∧ now ≤ 1099511627776 ∧ n ≤ k ∧ L.length ≤ k ∧ Lk L D ∧ Pw w0 W R b now n D g now L
theorem drop_put_le (L : List (Int × Int)) (x v : Int) : (dropL L x ++ [(x, v)]).length ≤ L.length + 1 := by
  have := dropL_le L x
  simp; omega
theorem pw_new {w0 W W' : World} {R b : Nat} (h : Cs w0 W R b 0 0 (.map [])) (hb : W' = W.alloc (.cells #[.int .i64 0, .slice none 0 0, .slice none 0 0] 29)) : Pw w0 W' R b 0 0 (.map []) W.heap.size 0 [] := by
  subst hb
  have l := h.clk.lt
  have hs := h.bel.size
  refine ⟨none, 0, W.heap.size + 1, none, 0, W.heap.size + 2, ⟨⟨h.clk.kept ((Below.refl _ _).alloc (Nat.le_refl _) _), h.geR, h.geb, h.bel.alloc hs _⟩, ⟨?_, .inl ⟨rfl, rfl, rfl⟩, .inl ⟨rfl, rfl, rfl⟩, by omega, by omega, by omega⟩, ⟨by omega, by omega, by omega⟩, ⟨by omega, by omega, by omega⟩, ⟨hs, by omega, by omega⟩⟩⟩
  exact Blk.new W 29 _
set_option maxHeartbeats 16000000 in
theorem plays_in (HS : SortOK) (HN : SortNil) (w : World) (A : Option Addr) (len cap blk off : Nat) (xs : Nat → Int × Int × Int) (hl : len ≤ cap) (hm : cap ≤ maxLen) (hlen : len ≤ 100) (hA : Acts w A len blk off xs) (other : Int) (hwo : wf other) :
    Calls Try.prog 3 #[.slice A len cap, .int .i64 other] w fun e w' => e = .returned (.bool true) ∧ Below w.heap.size w w' := by
  have HA := Lib.hid hA
  have HSO := Lib.hid HS
  have HNO := Lib.hid HN
  have HWO := Lib.hid hwo
  have hl2 : ¬ (len : Int) > 100 := by omega
  clear hA HS HN hwo
  unfold maxLen at hm
  go_enter Try.func3, Try.ntmps3
  go_wp2_with fail
  refine (first_any _).mono ?_
  rintro _ w1 ⟨rfl, hb⟩
  have HB1 := Lib.hid hb
  clear hb
  go_wp2_with fail
  refine (new_any _).mono ?_
  rintro _ w2 ⟨R, b, rfl, h1, h2, h3, h4⟩
  have HC := Lib.hid (show Cs w w2 R b 0 0 (.map []) from ⟨h1, Nat.le_trans HB1.out.size h2, Nat.le_trans HB1.out.size h3, HB1.out.trans (h4.mono HB1.out.size)⟩)
  clear h1 h2 h3 h4
  go_wp2_with fail
  obtain ⟨g, hg⟩ : ∃ g, w2.heap.size = g := ⟨_, rfl⟩
  have HP0 := Lib.hid (pw_new HC.out rfl)
  rw [hg] at HP0
  simp only [hg]
  clear hg
  go_loopw [7] (fun i wr => ∃ k : Nat, k ≤ len ∧ i = .int .i64 (k : Int) ∧ Pl w wr R b g k) (fun i _ => len - (intOf i).toNat)
  case atStart => exact ⟨0, Nat.zero_le _, rfl, 0, 0, _, [], by omega, by omega, by omega, by simp, Lk.nil, HP0.out⟩
  case round =>
    obtain ⟨k, hk, rfl, now, n, D, L, r1, r2, r3, r4, hlk, hc⟩ := hrel
    have HCC := Lib.hid hc
    have HLK := Lib.hid hlk
    by_cases hlt : k < len
    · obtain ⟨c0, c1, c2, f1, f2⟩ := (HA.out.keep hc.bel).2 k hlt
      obtain rfl := (HA.out.1 (by omega)).1
      have HX := Lib.hid (fun w' (h : Below w.heap.size w w') => (HA.out.keep h).2 k hlt)
      obtain ⟨op, hop⟩ : ∃ op, op = (xs k).1 := ⟨_, rfl⟩
      obtain ⟨x, hx⟩ : ∃ x, x = (xs k).2.1 := ⟨_, rfl⟩
      obtain ⟨y, hy⟩ : ∃ y, y = (xs k).2.2 := ⟨_, rfl⟩
      rw [← hop] at c0 HX
      rw [← hx] at c1 f1 HX
      rw [← hy] at c2 f2 HX
      have F1 := Lib.hid f1
      have F2 := Lib.hid f2
      clear hop hx hy hc hlk f1 f2
      by_cases o0 : op = 0
      · subst o0
        have hL1 : L.length ≤ 1000 := by omega
        by_cases ht : 0 ≤ y ∧ y ≤ 1099511627776 - now
        · obtain ⟨z1, z2⟩ := ht
          go_wp2_with fail
          have c2d : wr.drew.cell? ⟨blk, off + k * 3 + 2, none⟩ = some (.int .i64 y) := c2
          have HCD := Lib.hid (show Pw w wr.drew R b now n D g now L from HCC.out.drewN 1)
          have HT1 := Lib.hid (p_yes HCD.out ⟨r1, r2⟩ y (now + y) z1 z2 rfl)
          go_region_held3 (fun W' => W'.cell? ⟨blk, off + k * 3 + 2, none⟩ = some (.int .i64 y)) (first | exact c2d | assumption) (first
            | (go_at_call 9
               (with_reducible refine (HT1.out).mono ?_)
               rintro _ w3 ⟨rfl, h1⟩
               have HT2 := Lib.hid (q_yes h1 ⟨r1, r2⟩ y (now + y) z1 z2 rfl)
               obtain ⟨_, _, e3, _⟩ := HX.out _ h1.bel
               clear h1)
            | (go_at_call 10
               (with_reducible refine (HT2.out).mono ?_)
               rintro _ w4 ⟨rfl, h1⟩
               have HC4 := Lib.hid h1
               obtain ⟨_, _, e4, _⟩ := HX.out _ h1.bel
               clear h1))
          all_goals (
            clear c0 c1 c2 c2d HCD HT1 HT2
            obtain ⟨T, n2, D2, L2, t1, t2, t3, t4, hl, hp⟩ : Pl w w4 R b g (k + 1) := ⟨now + y, n, D, L, by omega, by omega, by omega, by omega, HLK.out, HC4.out⟩
            have HP := Lib.hid hp
            have HL := Lib.hid hl
            have hL1000 : L2.length ≤ 1000 := by omega
            have hn1000 : n2 ≤ 1000000 := by omega
            clear hl hp
            obtain ⟨r, hr⟩ : ∃ r, (al D2 x).getD 0 = r := ⟨_, rfl⟩
            obtain ⟨s, hs⟩ : ∃ s, (al D2 x).isSome = s := ⟨_, rfl⟩
            obtain ⟨d1, hd1⟩ : ∃ d, dueB D2 T x = d := ⟨_, rfl⟩
            obtain ⟨d2, hd2⟩ : ∃ d, dueB D2 T other = d := ⟨_, rfl⟩
            have HPA := Lib.hid (p_at HP.out x F1.out r s hr hs)
            have HQA := Lib.hid (q_at HP.out HL.out hL1000 x r s hr hs)
            have HPD := Lib.hid (show Pw w (World.drew w4) R b T n2 D2 g T L2 from HP.out.drewN 1)
            have HPN := Lib.hid (p_now HPD.out)
            have HU1 := Lib.hid (p_due HPD.out x F1.out d1 hd1)
            have HU2 := Lib.hid (p_due HPD.out other HWO.out d2 hd2)
            have HV1 := Lib.hid (q_due HPD.out HL.out hL1000 x d1 hd1)
            have HV2 := Lib.hid (q_due HPD.out HL.out hL1000 other d2 hd2)
            have HAL := Lib.hid (p_all HSO.out HNO.out HPD.out hn1000)
            clear hr hs hd1 hd2
            skip
            go_wp2_with (first
              | (go_at_call 15; (with_reducible refine (HPA.out).mono ?_); rintro _ x1 ⟨rfl, hw⟩; replace hw := hw.symm; subst hw)
              | (go_at_call 16; (with_reducible refine (HQA.out).mono ?_); rintro _ x1 ⟨rfl, hw⟩; replace hw := hw.symm; subst hw)
              | fail)
            have c0d : (World.drew w4).cell? ⟨g, 0, none⟩ = some (.int .i64 T) := HPD.out.c0
            clear HPA HQA
            go_region_held3 (fun W' => W'.cell? ⟨g, 0, none⟩ = some (.int .i64 T)) (first | exact c0d | assumption) (first
              | (go_at_call 17; (with_reducible refine (HPN.out).mono ?_); rintro _ x1 ⟨rfl, hw⟩; replace hw := hw.symm; subst hw)
              | (go_at_call 18; (with_reducible refine (HU1.out).mono ?_); rintro _ x1 ⟨rfl, hw⟩; replace hw := hw.symm; subst hw)
              | (go_at_call 18; (with_reducible refine (HU2.out).mono ?_); rintro _ x1 ⟨rfl, hw⟩; replace hw := hw.symm; subst hw)
              | (go_at_call 19; (with_reducible refine (HV1.out).mono ?_); rintro _ x1 ⟨rfl, hw⟩; replace hw := hw.symm; subst hw)
              | (go_at_call 19; (with_reducible refine (HV2.out).mono ?_); rintro _ x1 ⟨rfl, hw⟩; replace hw := hw.symm; subst hw)
              | (go_at_call 21
                 (with_reducible refine (HAL.out).mono ?_)
                 rintro _ w5 ⟨Aa, ca, ga, ys, rfl, h1, h2, h3, h4⟩
                 have HN1 := Lib.hid h1
                 have HP5 := Lib.hid (HPD.out.below h4)
                 have HQL := Lib.hid (q_all HP5.out HL.out hL1000 ys h2)
                 have hy1000 : ys.length ≤ 1000000 := by omega
                 have c05 := HP5.out.c0
                 clear h1 h2 h3 h4 HPN HU1 HU2 HV1 HV2 HAL)
              | (go_at_call 22
                 (with_reducible refine (HQL.out).mono ?_)
                 rintro _ w6 ⟨Ab, cb, gb, rfl, h1, h4⟩
                 have HIS := Lib.hid (ints_same (HN1.out.below h4) h1 hy1000)
                 have HP6 := Lib.hid (HP5.out.below h4)
                 have c06 := HP6.out.c0
                 clear h1 h4 HQL)
              | (go_at_call 20
                 (with_reducible refine (HIS.out).mono ?_)
                 rintro _ w7 ⟨rfl, h4⟩
                 have HP7 := Lib.hid (HP6.out.below h4)
                 have c07 := HP7.out.c0
                 clear h4 HIS))
            all_goals (
              go_wp2_with fail
              go_roundw
              case rel => exact ⟨k + 1, by omega, by go_num, T, n2, D2, L2, t1, t2, t3, t4, HL.out, HP7.out⟩
              case measure => simp [intOf]; omega))
        · have ht2 : y < 0 ∨ 1099511627776 - now < y := by omega
          have HT := Lib.hid ht2
          clear ht ht2
          go_wp2_with fail
          have c2d : wr.drew.cell? ⟨blk, off + k * 3 + 2, none⟩ = some (.int .i64 y) := c2
          have HCD := Lib.hid (show Pw w wr.drew R b now n D g now L from HCC.out.drewN 1)
          have HT1 := Lib.hid (p_no HCD.out ⟨r1, r2⟩ y HT.out)
          go_region_held3 (fun W' => W'.cell? ⟨blk, off + k * 3 + 2, none⟩ = some (.int .i64 y)) (first | exact c2d | assumption) (first
            | (go_at_call 9
               (with_reducible refine (HT1.out).mono ?_)
               rintro _ w3 ⟨rfl, h1⟩
               have HT2 := Lib.hid (q_no h1 ⟨r1, r2⟩ y HT.out)
               obtain ⟨_, _, e3, _⟩ := HX.out _ h1.bel
               clear h1)
            | (go_at_call 10
               (with_reducible refine (HT2.out).mono ?_)
               rintro _ w4 ⟨rfl, h1⟩
               have HC4 := Lib.hid h1
               obtain ⟨_, _, e4, _⟩ := HX.out _ h1.bel
               clear h1))
          all_goals (
            clear c0 c1 c2 c2d HCD HT1 HT2
            obtain ⟨T, n2, D2, L2, t1, t2, t3, t4, hl, hp⟩ : Pl w w4 R b g (k + 1) := ⟨now, n, D, L, by omega, by omega, by omega, by omega, HLK.out, HC4.out⟩
            have HP := Lib.hid hp
            have HL := Lib.hid hl
            have hL1000 : L2.length ≤ 1000 := by omega
            have hn1000 : n2 ≤ 1000000 := by omega
            clear hl hp
            obtain ⟨r, hr⟩ : ∃ r, (al D2 x).getD 0 = r := ⟨_, rfl⟩
            obtain ⟨s, hs⟩ : ∃ s, (al D2 x).isSome = s := ⟨_, rfl⟩
            obtain ⟨d1, hd1⟩ : ∃ d, dueB D2 T x = d := ⟨_, rfl⟩
            obtain ⟨d2, hd2⟩ : ∃ d, dueB D2 T other = d := ⟨_, rfl⟩
            have HPA := Lib.hid (p_at HP.out x F1.out r s hr hs)
            have HQA := Lib.hid (q_at HP.out HL.out hL1000 x r s hr hs)
            have HPD := Lib.hid (show Pw w (World.drew w4) R b T n2 D2 g T L2 from HP.out.drewN 1)
            have HPN := Lib.hid (p_now HPD.out)
            have HU1 := Lib.hid (p_due HPD.out x F1.out d1 hd1)
            have HU2 := Lib.hid (p_due HPD.out other HWO.out d2 hd2)
            have HV1 := Lib.hid (q_due HPD.out HL.out hL1000 x d1 hd1)
            have HV2 := Lib.hid (q_due HPD.out HL.out hL1000 other d2 hd2)
            have HAL := Lib.hid (p_all HSO.out HNO.out HPD.out hn1000)
            clear hr hs hd1 hd2
            skip
            go_wp2_with (first
              | (go_at_call 15; (with_reducible refine (HPA.out).mono ?_); rintro _ x1 ⟨rfl, hw⟩; replace hw := hw.symm; subst hw)
              | (go_at_call 16; (with_reducible refine (HQA.out).mono ?_); rintro _ x1 ⟨rfl, hw⟩; replace hw := hw.symm; subst hw)
              | fail)
            have c0d : (World.drew w4).cell? ⟨g, 0, none⟩ = some (.int .i64 T) := HPD.out.c0
            clear HPA HQA
            go_region_held3 (fun W' => W'.cell? ⟨g, 0, none⟩ = some (.int .i64 T)) (first | exact c0d | assumption) (first
              | (go_at_call 17; (with_reducible refine (HPN.out).mono ?_); rintro _ x1 ⟨rfl, hw⟩; replace hw := hw.symm; subst hw)
              | (go_at_call 18; (with_reducible refine (HU1.out).mono ?_); rintro _ x1 ⟨rfl, hw⟩; replace hw := hw.symm; subst hw)
              | (go_at_call 18; (with_reducible refine (HU2.out).mono ?_); rintro _ x1 ⟨rfl, hw⟩; replace hw := hw.symm; subst hw)
              | (go_at_call 19; (with_reducible refine (HV1.out).mono ?_); rintro _ x1 ⟨rfl, hw⟩; replace hw := hw.symm; subst hw)
              | (go_at_call 19; (with_reducible refine (HV2.out).mono ?_); rintro _ x1 ⟨rfl, hw⟩; replace hw := hw.symm; subst hw)
              | (go_at_call 21
                 (with_reducible refine (HAL.out).mono ?_)
                 rintro _ w5 ⟨Aa, ca, ga, ys, rfl, h1, h2, h3, h4⟩
                 have HN1 := Lib.hid h1
                 have HP5 := Lib.hid (HPD.out.below h4)
                 have HQL := Lib.hid (q_all HP5.out HL.out hL1000 ys h2)
                 have hy1000 : ys.length ≤ 1000000 := by omega
                 have c05 := HP5.out.c0
                 clear h1 h2 h3 h4 HPN HU1 HU2 HV1 HV2 HAL)
              | (go_at_call 22
                 (with_reducible refine (HQL.out).mono ?_)
                 rintro _ w6 ⟨Ab, cb, gb, rfl, h1, h4⟩
                 have HIS := Lib.hid (ints_same (HN1.out.below h4) h1 hy1000)
                 have HP6 := Lib.hid (HP5.out.below h4)
                 have c06 := HP6.out.c0
                 clear h1 h4 HQL)
              | (go_at_call 20
                 (with_reducible refine (HIS.out).mono ?_)
                 rintro _ w7 ⟨rfl, h4⟩
                 have HP7 := Lib.hid (HP6.out.below h4)
                 have c07 := HP7.out.c0
                 clear h4 HIS))
            all_goals (
              go_wp2_with fail
              go_roundw
              case rel => exact ⟨k + 1, by omega, by go_num, T, n2, D2, L2, t1, t2, t3, t4, HL.out, HP7.out⟩
              case measure => simp [intOf]; omega))
      · have o0' : (op == 0) = false := by simpa using o0
        have hL1 : L.length ≤ 1000 := by omega
        by_cases o1 : op = 1
        · subst o1
          have HT1 := Lib.hid (p_set HCC.out (by omega) x y F1.out F2.out)
          go_wp2_with (first
            | (go_at_call 11
               (with_reducible refine (HT1.out).mono ?_)
               rintro _ w3 ⟨rfl, h1⟩
               have HT2 := Lib.hid (q_set h1 hL1 x y)
               obtain ⟨_, _, e3, _⟩ := HX.out _ h1.bel
               clear h1)
            | fail)
          refine (HT2.out).mono ?_
          rintro _ w4 ⟨rfl, h1⟩
          have HC4 := Lib.hid h1
          clear h1
          clear c0 c1 c2 e3 HT1 HT2
          have hlen2 := drop_put_le L x y
          obtain ⟨T, n2, D2, L2, t1, t2, t3, t4, hl, hp⟩ : Pl w w4 R b g (k + 1) := ⟨now, n + 1, _, _, by omega, by omega, by omega, by omega, HLK.out.put HCC.out.cs.clk.is x y F1.out, HC4.out⟩
          have HP := Lib.hid hp
          have HL := Lib.hid hl
          have hL1000 : L2.length ≤ 1000 := by omega
          have hn1000 : n2 ≤ 1000000 := by omega
          clear hl hp
          obtain ⟨r, hr⟩ : ∃ r, (al D2 x).getD 0 = r := ⟨_, rfl⟩
          obtain ⟨s, hs⟩ : ∃ s, (al D2 x).isSome = s := ⟨_, rfl⟩
          obtain ⟨d1, hd1⟩ : ∃ d, dueB D2 T x = d := ⟨_, rfl⟩
          obtain ⟨d2, hd2⟩ : ∃ d, dueB D2 T other = d := ⟨_, rfl⟩
          have HPA := Lib.hid (p_at HP.out x F1.out r s hr hs)
          have HQA := Lib.hid (q_at HP.out HL.out hL1000 x r s hr hs)
          have HPD := Lib.hid (show Pw w (World.drew w4) R b T n2 D2 g T L2 from HP.out.drewN 1)
          have HPN := Lib.hid (p_now HPD.out)
          have HU1 := Lib.hid (p_due HPD.out x F1.out d1 hd1)
          have HU2 := Lib.hid (p_due HPD.out other HWO.out d2 hd2)
          have HV1 := Lib.hid (q_due HPD.out HL.out hL1000 x d1 hd1)
          have HV2 := Lib.hid (q_due HPD.out HL.out hL1000 other d2 hd2)
          have HAL := Lib.hid (p_all HSO.out HNO.out HPD.out hn1000)
          clear hr hs hd1 hd2
          skip
          go_wp2_with (first
            | (go_at_call 15; (with_reducible refine (HPA.out).mono ?_); rintro _ x1 ⟨rfl, hw⟩; replace hw := hw.symm; subst hw)
            | (go_at_call 16; (with_reducible refine (HQA.out).mono ?_); rintro _ x1 ⟨rfl, hw⟩; replace hw := hw.symm; subst hw)
            | fail)
          have c0d : (World.drew w4).cell? ⟨g, 0, none⟩ = some (.int .i64 T) := HPD.out.c0
          clear HPA HQA
          go_region_held3 (fun W' => W'.cell? ⟨g, 0, none⟩ = some (.int .i64 T)) (first | exact c0d | assumption) (first
            | (go_at_call 17; (with_reducible refine (HPN.out).mono ?_); rintro _ x1 ⟨rfl, hw⟩; replace hw := hw.symm; subst hw)
            | (go_at_call 18; (with_reducible refine (HU1.out).mono ?_); rintro _ x1 ⟨rfl, hw⟩; replace hw := hw.symm; subst hw)
            | (go_at_call 18; (with_reducible refine (HU2.out).mono ?_); rintro _ x1 ⟨rfl, hw⟩; replace hw := hw.symm; subst hw)
            | (go_at_call 19; (with_reducible refine (HV1.out).mono ?_); rintro _ x1 ⟨rfl, hw⟩; replace hw := hw.symm; subst hw)
            | (go_at_call 19; (with_reducible refine (HV2.out).mono ?_); rintro _ x1 ⟨rfl, hw⟩; replace hw := hw.symm; subst hw)
            | (go_at_call 21
               (with_reducible refine (HAL.out).mono ?_)
               rintro _ w5 ⟨Aa, ca, ga, ys, rfl, h1, h2, h3, h4⟩
               have HN1 := Lib.hid h1
               have HP5 := Lib.hid (HPD.out.below h4)
               have HQL := Lib.hid (q_all HP5.out HL.out hL1000 ys h2)
               have hy1000 : ys.length ≤ 1000000 := by omega
               have c05 := HP5.out.c0
               clear h1 h2 h3 h4 HPN HU1 HU2 HV1 HV2 HAL)
            | (go_at_call 22
               (with_reducible refine (HQL.out).mono ?_)
               rintro _ w6 ⟨Ab, cb, gb, rfl, h1, h4⟩
               have HIS := Lib.hid (ints_same (HN1.out.below h4) h1 hy1000)
               have HP6 := Lib.hid (HP5.out.below h4)
               have c06 := HP6.out.c0
               clear h1 h4 HQL)
            | (go_at_call 20
               (with_reducible refine (HIS.out).mono ?_)
               rintro _ w7 ⟨rfl, h4⟩
               have HP7 := Lib.hid (HP6.out.below h4)
               have c07 := HP7.out.c0
               clear h4 HIS))
          all_goals (
            go_wp2_with fail
            go_roundw
            case rel => exact ⟨k + 1, by omega, by go_num, T, n2, D2, L2, t1, t2, t3, t4, HL.out, HP7.out⟩
            case measure => simp [intOf]; omega)
        · have o1' : (op == 1) = false := by simpa using o1
          obtain ⟨ok, hok⟩ : ∃ ok, (al D x).isSome = ok := ⟨_, rfl⟩
          have HT1 := Lib.hid (p_drop HCC.out x F1.out ok hok)
          have HOK := Lib.hid hok
          clear hok
          go_wp2_with (first
            | (go_at_call 13
               (with_reducible refine (HT1.out).mono ?_)
               rintro _ w3 ⟨rfl, h1⟩
               have HT2 := Lib.hid (q_drop h1 HLK.out hL1 x ok HOK.out)
               clear h1)
            | fail)
          refine (HT2.out).mono ?_
          rintro _ w4 ⟨rfl, h1⟩
          have HC4 := Lib.hid h1
          clear h1
          clear c0 c1 c2 HT1 HT2
          have hlen2 := dropL_le L x
          obtain ⟨T, n2, D2, L2, t1, t2, t3, t4, hl, hp⟩ : Pl w w4 R b g (k + 1) := ⟨now, n, _, _, by omega, by omega, by omega, by omega, HLK.out.del x, HC4.out⟩
          have HP := Lib.hid hp
          have HL := Lib.hid hl
          have hL1000 : L2.length ≤ 1000 := by omega
          have hn1000 : n2 ≤ 1000000 := by omega
          clear hl hp
          obtain ⟨r, hr⟩ : ∃ r, (al D2 x).getD 0 = r := ⟨_, rfl⟩
          obtain ⟨s, hs⟩ : ∃ s, (al D2 x).isSome = s := ⟨_, rfl⟩
          obtain ⟨d1, hd1⟩ : ∃ d, dueB D2 T x = d := ⟨_, rfl⟩
          obtain ⟨d2, hd2⟩ : ∃ d, dueB D2 T other = d := ⟨_, rfl⟩
          have HPA := Lib.hid (p_at HP.out x F1.out r s hr hs)
          have HQA := Lib.hid (q_at HP.out HL.out hL1000 x r s hr hs)
          have HPD := Lib.hid (show Pw w (World.drew w4) R b T n2 D2 g T L2 from HP.out.drewN 1)
          have HPN := Lib.hid (p_now HPD.out)
          have HU1 := Lib.hid (p_due HPD.out x F1.out d1 hd1)
          have HU2 := Lib.hid (p_due HPD.out other HWO.out d2 hd2)
          have HV1 := Lib.hid (q_due HPD.out HL.out hL1000 x d1 hd1)
          have HV2 := Lib.hid (q_due HPD.out HL.out hL1000 other d2 hd2)
          have HAL := Lib.hid (p_all HSO.out HNO.out HPD.out hn1000)
          clear hr hs hd1 hd2
          skip
          go_wp2_with (first
            | (go_at_call 15; (with_reducible refine (HPA.out).mono ?_); rintro _ x1 ⟨rfl, hw⟩; replace hw := hw.symm; subst hw)
            | (go_at_call 16; (with_reducible refine (HQA.out).mono ?_); rintro _ x1 ⟨rfl, hw⟩; replace hw := hw.symm; subst hw)
            | fail)
          have c0d : (World.drew w4).cell? ⟨g, 0, none⟩ = some (.int .i64 T) := HPD.out.c0
          clear HPA HQA
          go_region_held3 (fun W' => W'.cell? ⟨g, 0, none⟩ = some (.int .i64 T)) (first | exact c0d | assumption) (first
            | (go_at_call 17; (with_reducible refine (HPN.out).mono ?_); rintro _ x1 ⟨rfl, hw⟩; replace hw := hw.symm; subst hw)
            | (go_at_call 18; (with_reducible refine (HU1.out).mono ?_); rintro _ x1 ⟨rfl, hw⟩; replace hw := hw.symm; subst hw)
            | (go_at_call 18; (with_reducible refine (HU2.out).mono ?_); rintro _ x1 ⟨rfl, hw⟩; replace hw := hw.symm; subst hw)
            | (go_at_call 19; (with_reducible refine (HV1.out).mono ?_); rintro _ x1 ⟨rfl, hw⟩; replace hw := hw.symm; subst hw)
            | (go_at_call 19; (with_reducible refine (HV2.out).mono ?_); rintro _ x1 ⟨rfl, hw⟩; replace hw := hw.symm; subst hw)
            | (go_at_call 21
               (with_reducible refine (HAL.out).mono ?_)
               rintro _ w5 ⟨Aa, ca, ga, ys, rfl, h1, h2, h3, h4⟩
               have HN1 := Lib.hid h1
               have HP5 := Lib.hid (HPD.out.below h4)
               have HQL := Lib.hid (q_all HP5.out HL.out hL1000 ys h2)
               have hy1000 : ys.length ≤ 1000000 := by omega
               have c05 := HP5.out.c0
               clear h1 h2 h3 h4 HPN HU1 HU2 HV1 HV2 HAL)
            | (go_at_call 22
               (with_reducible refine (HQL.out).mono ?_)
               rintro _ w6 ⟨Ab, cb, gb, rfl, h1, h4⟩
               have HIS := Lib.hid (ints_same (HN1.out.below h4) h1 hy1000)
               have HP6 := Lib.hid (HP5.out.below h4)
               have c06 := HP6.out.c0
               clear h1 h4 HQL)
            | (go_at_call 20
               (with_reducible refine (HIS.out).mono ?_)
               rintro _ w7 ⟨rfl, h4⟩
               have HP7 := Lib.hid (HP6.out.below h4)
               have c07 := HP7.out.c0
               clear h4 HIS))
          all_goals (
            go_wp2_with fail
            go_roundw
            case rel => exact ⟨k + 1, by omega, by go_num, T, n2, D2, L2, t1, t2, t3, t4, HL.out, HP7.out⟩
            case measure => simp [intOf]; omega)
    · obtain rfl : k = len := by omega
      clear hc hlk hlt
      go_wp2
      go_ret
      exact ⟨rfl, HCC.out.bel⟩
end Go.Proofs.Ytchjgojagmhpeaa
