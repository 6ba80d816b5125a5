/- OmapPlays. -/
import Derived.Test.YtmapfbnfcbkjpaaLi
import Derived.Deep.RegionHeld3
import Derived.Deep.DrawnRows
import Derived.Deep.CutRange
namespace Go.Proofs.Ytmapfbnfcbkjpaa
open Go.RowKit
open Go.Lib
set_option linter.unusedVariables false
set_option linter.unusedSimpArgs false
set_option maxRecDepth 100000
theorem infoS : (Try.prog.info? 9).map (fun i => (i.zero, i.size, i.bytes)) = some (some (.string .empty), 1, 16) := by kernel_rfl
theorem infoI : (Try.prog.info? 2).map (fun i => (i.zero, i.size, i.bytes)) = some (some (.int .i64 0), 1, 8) := by kernel_rfl
theorem Sv.drop_at2 {w W : World} {A : Option Addr} {cap g n : Nat} {vs : List Value} (h : Sv w A cap g vs) (hF : Fr w W) (hl : vs.length = n) {k : Nat} (hk : k ≤ n) : 0 < n - k → ∃ ad, cutA A cap k = some ad ∧ ∀ j u, (vs.drop k)[j]? = some u → W.cell? (ad.add j) = some u := by
  subst hl
  exact h.drop_at hF hk
theorem blk_ko {w w' : World} {g b : Nat} {L : LI} {cs : Array Value} (h : OI.Om w g L) (hb : Blk w b 30 cs) (hk : OI.Ko w w' g) : Blk w' b 30 cs := by
  obtain ⟨p, hg⟩ := h.box
  refine (hk.block b hb.lt (fun e => ?_)).trans hb
  subst e
  unfold Blk at hb hg
  rw [hg] at hb
  cases hb
set_option maxHeartbeats 32000000 in
theorem plays_in (w : World) (A : Option Addr) (len cap b off : Nat) (xs : Nat → A3) (hl : len ≤ cap) (hm : cap ≤ maxLen) (hA : Acts w A len b off xs) (at_ : Int) :
    Calls Try.prog 3 #[.slice A len cap, .int .i64 at_] w fun e w' => e = .returned (.bool true) ∧ Below w.heap.size w w' := by
  obtain ⟨i9, h90, h91, h92, h93⟩ := info_parts infoS
  obtain ⟨i2, h20, h21, h22, h23⟩ := info_parts infoI
  have HA := Lib.hid hA
  have HM := Lib.hid hm
  have HLC := Lib.hid hl
  clear hA hm hl
  go_enter Try.func3, Try.ntmps3
  go_wp2_with fail
  refine (first_any _).mono ?_
  rintro _ w1 ⟨rfl, hb⟩
  have HB1 := Lib.hid hb
  have HA1 := Lib.hid (HA.out.keep hb)
  clear hb
  go_wp2_with fail
  refine (light_any w1 A len cap b off xs HLC.out HM.out HA1.out).mono ?_
  rintro _ wz ⟨⟨bb, rfl, hlt⟩, hw0⟩
  replace hw0 := hw0.symm
  subst hw0
  have HLT := Lib.hid hlt
  clear hlt
  cases bb with
  | false =>
    go_wp2_with fail
    refine (first_any _).mono ?_
    rintro _ w2 ⟨rfl, hb⟩
    have HB2 := Lib.hid hb
    clear hb
    go_wp2
    go_ret
    exact ⟨rfl, HB1.out.trans (HB2.out.mono HB1.out.size)⟩
  | true =>
    obtain ⟨h80, h40⟩ := HLT.out rfl
    have H40 := Lib.hid h40
    clear h40 HLT
    go_wp2_with fail
    refine (OI.om_new _).mono ?_
    rintro _ w2 ⟨g, rfl, h1, hb, hg⟩
    have HP0 := Lib.hid (show Pl w1 w2 g 0 [] 0 none 0 none 0 from ⟨h1, ⟨rfl, .inl ⟨rfl, rfl⟩⟩, ⟨rfl, .inl ⟨rfl, rfl⟩⟩, rfl, hb, hg, Nat.le_refl _, fun q hq => (by cases hq)⟩)
    clear h1 hb hg
    go_wp2
    go_loopw [6, 7, 8] (fun kv vv i wr => ∃ (q : Nat) (L : LI) (nL : Nat) (Ak : Option Addr) (ck : Nat) (Av : Option Addr) (cv : Nat), q ≤ len ∧ kv = .slice Ak nL ck ∧ vv = .slice Av nL cv ∧ i = .int .i64 (q : Int) ∧ Pl w1 wr g q L nL Ak ck Av cv) (fun _ _ i _ => len - (intOf i).toNat)
    case atStart => exact ⟨0, [], 0, none, 0, none, 0, Nat.zero_le _, rfl, rfl, rfl, HP0.out⟩
    case round =>
      obtain ⟨q, L, nL, Ak, ck, Av, cv, hq, rfl, rfl, rfl, hP⟩ := hrel
      have HP := Lib.hid hP
      clear hP HP0
      by_cases hlt : q < len
      · obtain ⟨c0, c1, c2, _, _⟩ := (HA1.out.keep (HP.out.bel)).2 q hlt
        obtain rfl := (HA1.out.1 (by omega)).1
        have HX40 := Lib.hid (H40.out q hlt)
        have hcap := HLC.out
        have hqI : (q : Int) < (len : Int) := by omega
        obtain ⟨o, ho⟩ : ∃ o, (xs q).1 = o := ⟨_, rfl⟩
        obtain ⟨x, hx⟩ : ∃ x, (xs q).2.1 = x := ⟨_, rfl⟩
        obtain ⟨v, hv⟩ : ∃ v, (xs q).2.2 = v := ⟨_, rfl⟩
        rw [ho] at c0
        rw [hx] at c1 HX40
        rw [hv] at c2
        clear ho hx hv
        have HN100 := Lib.hid (show nL ≤ 100 by have := HP.out.hl; have := HP.out.len; omega)
        have hnI : (nL : Int) ≤ 100 := by have := HN100.out; omega
        obtain ⟨n9, hn9⟩ : ∃ n, wr.heap.size = n := ⟨_, rfl⟩
        obtain ⟨W1, hW1⟩ : ∃ W1, wr.alloc (.cells #[.int .i64 0, .string { data := #[] }, .int .i64 0] 30) = W1 := ⟨_, rfl⟩
        have HC1 := Lib.hid (show Below wr.heap.size wr W1 from hW1 ▸ (Below.refl _ wr).alloc (Nat.le_refl _) _)
        have HY1 := Lib.hid (show Blk W1 n9 30 #[.int .i64 0, .string .empty, .int .i64 0] from hn9 ▸ hW1 ▸ Blk.new wr 30 _)
        have y0 := HY1.out.cell 0
        have y1 := HY1.out.cell 1
        have y2 := HY1.out.cell 2
        have f0 := HY1.out.frozen 0
        have f1 := HY1.out.frozen 1
        have f2 := HY1.out.frozen 2
        obtain ⟨w2, hw2⟩ : ∃ w2, ((W1.setCell ⟨n9, 0, none⟩ (.int .i64 o)).setCell ⟨n9, 1, none⟩ (.string x)).setCell ⟨n9, 2, none⟩ (.int .i64 v) = w2 := ⟨_, rfl⟩
        have HB2 := Lib.hid (show Blk w2 n9 30 #[.int .i64 o, .string x, .int .i64 v] from hw2 ▸ (((HY1.out.set_ 0 _).set_ 1 _).set_ 2 _))
        have HC2 := Lib.hid (show Below n9 wr w2 from hw2 ▸ (((((HC1.out.mono (Nat.le_of_eq hn9.symm)).setCell (p := ⟨n9, 0, none⟩) (Nat.le_refl _) _).setCell (p := ⟨n9, 1, none⟩) (Nat.le_refl _) _).setCell (p := ⟨n9, 2, none⟩) (Nat.le_refl _) _)))
        have HP2 := Lib.hid (HP.out.step (HC2.out.mono (Nat.le_of_eq hn9)))
        obtain ⟨⟨pk, pb⟩, hp⟩ : ∃ r, lplace x (keysL L) = r := ⟨_, rfl⟩
        have HPP := Lib.hid hp
        have HPL := Lib.hid (HP2.out.place (by omega) x pk pb hp)
        have hpkn : pk ≤ nL := HP2.out.pk_le hp
        have z0 := HB2.out.cell 0
        have z1 := HB2.out.cell 1
        have z2 := HB2.out.cell 2
        clear hp HP
        go_wp2_with fail
        try rw [hw2]
        clear hw2 y0 y1 y2 f0 f1 f2 HY1 HC1 hW1 c0 c1 c2
        refine HPL.out.mono ?_
        rintro _ w3 ⟨rfl, hb⟩
        have HP3 := Lib.hid (HP2.out.step hb)
        have HB3 := Lib.hid (HB2.out.below hb HB2.out.lt)
        clear hb HPL z0 z1 z2 HP2
        have z0 := HB3.out.cell 0
        have z1 := HB3.out.cell 1
        have z2 := HB3.out.cell 2
        have HS := Lib.hid (HP3.out.isSome HPP.out)
        by_cases ho0 : o = 0
        · have he0 : (o == 0) = true := by rw [ho0]; rfl
          have HPU := Lib.hid (OI.om_put HP3.out.om (by have := HP3.out.len; omega) x v pb HS.out)
          clear ho0
          go_wp2_with fail
          refine HPU.out.mono ?_
          rintro _ w4 ⟨rfl, ho4, hk4⟩
          have HOM4 := Lib.hid ho4
          have HK4 := Lib.hid hk4
          have HR4 := Lib.hid (HP3.out.rows hk4)
          have HB4 := Lib.hid (show Blk w4 n9 30 #[.int .i64 o, .string x, .int .i64 v] from blk_ko HP3.out.om HB3.out hk4)
          clear ho4 hk4 HPU z0 z1 z2
          cases pb with
          | true =>
            obtain ⟨gv, u, ea, hpn, hcv, hcell, hfr, hP5, hne⟩ := HP3.out.set_case HPP.out HX40.out HOM4.out HK4.out
            subst ea
            have HP5 := Lib.hid hP5
            have HB5 := Lib.hid (show Blk (w4.setCell ⟨gv, pk, none⟩ (.int .i64 v)) n9 30 #[.int .i64 o, .string x, .int .i64 v] from HB4.out.far (p := ⟨gv, pk, none⟩) (hne n9 _ HB4.out) _)
            have hpnI : (pk : Int) < (nL : Int) := by omega
            have z2 := HB4.out.cell 2
            obtain ⟨w5, hw5⟩ : ∃ w5, w4.setCell ⟨gv, pk, none⟩ (.int .i64 v) = w5 := ⟨_, rfl⟩
            rw [hw5] at HP5 HB5
            clear hP5 hne
            as_aux_lemma =>
              obtain ⟨⟨pk2, pb2⟩, hp2⟩ : ∃ r, lplace x (keysL (insL x v L)) = r := ⟨_, rfl⟩
              have HPP2 := Lib.hid hp2
              have b1 := HB5.out.cell 1
              have HPL2 := Lib.hid (HP5.out.place (by omega) x pk2 pb2 hp2)
              clear hp2
              go_wp2_with fail
              refine HPL2.out.mono ?_
              rintro _ wt ⟨rfl, hb⟩
              have HPt := Lib.hid (HP5.out.step hb)
              have HBt := Lib.hid (HB5.out.below hb HB5.out.lt)
              clear hb HPL2 b1
              have b1 := HBt.out.cell 1
              have HLn := Lib.hid (OI.om_len HPt.out.om)
              rw [HPt.out.hl] at HLn
              have HPc := Lib.hid (OI.om_place HPt.out.om (by have := HPt.out.len; omega) x)
              rw [HPt.out.plc_at HPP2.out] at HPc
              cases pb2 with
              | true =>
                obtain ⟨u2, gv2, hg1, hlt1, ea, hcell, hle⟩ := HPt.out.get_at HPP2.out
                cases ea
                have HG := Lib.hid (OI.om_get HPt.out.om x (some u2) hg1)
                rw [show OI.ov (some u2) = .int .i64 u2 from rfl, show (some u2).isSome = true from rfl] at HG
                have hltI : (pk2 : Int) < ((nL : Nat) : Int) := by omega
                clear hg1
                go_wp2_with fail
                refine HG.out.mono ?_
                rintro _ wz ⟨rfl, hw0⟩
                replace hw0 := hw0.symm
                subst hw0
                go_wp2_with fail
                refine HPc.out.mono ?_
                rintro _ wz ⟨rfl, hw0⟩
                replace hw0 := hw0.symm
                subst hw0
                go_wp2_with fail
                refine HLn.out.mono ?_
                rintro _ wz ⟨rfl, hw0⟩
                replace hw0 := hw0.symm
                subst hw0
                go_wp2
                go_roundw
                case rel => exact ⟨q + 1, _, _, _, _, _, _, by omega, rfl, rfl, by go_num, HPt.out⟩
                case measure => simp [intOf]; omega
              | false =>
                have HG := Lib.hid (OI.om_get HPt.out.om x none (HPt.out.get_no HPP2.out))
                rw [show OI.ov (none : Option Int) = .int .i64 0 from rfl, show (none : Option Int).isSome = false from rfl] at HG
                go_wp2_with fail
                refine HG.out.mono ?_
                rintro _ wz ⟨rfl, hw0⟩
                replace hw0 := hw0.symm
                subst hw0
                go_wp2_with fail
                refine HPc.out.mono ?_
                rintro _ wz ⟨rfl, hw0⟩
                replace hw0 := hw0.symm
                subst hw0
                go_wp2_with fail
                refine HLn.out.mono ?_
                rintro _ wz ⟨rfl, hw0⟩
                replace hw0 := hw0.symm
                subst hw0
                go_wp2
                go_roundw
                case rel => exact ⟨q + 1, _, _, _, _, _, _, by omega, rfl, rfl, by go_num, HPt.out⟩
                case measure => simp [intOf]; omega
          | false =>
            as_aux_lemma =>
              obtain ⟨gk, hsk⟩ := sv_of HR4.out.1 (by rw [keysL_len', HP3.out.hl])
              have HSVk := Lib.hid hsk
              have HVLk := Lib.hid (show (svs (keysL L)).length = nL by rw [keysL_len', HP3.out.hl])
              have HCEL := Lib.hid (fun (W : World) (hF : Fr w4 W) => show W.cell? ⟨n9, 1, none⟩ = some (.string x) from (HB4.out.below hF.bel HB4.out.lt).cell 1)
              have hc1 := cutk_to Ak nL ck pk (by have := HSVk.out.1; rw [HVLk.out] at this; omega)
              have hc2 := cutk_from Ak nL ck pk _ rfl (by omega)
              have b1 := HB4.out.cell 1
              clear hsk
              go_wp2_with fail
              go_cut [6] from 31 to 171 (fun kx wx => Fr w4 wx ∧ wx.ownsRow w4.heap.size 9 1 kx (0 + pk + 1 + (nL - pk)) ([] ++ (svs (keysL L)).take pk ++ [.string x] ++ (svs (keysL L)).drop pk))
              case first =>
                go_region_held3 (fun W => W.cell? ⟨n9, 1, none⟩ = some (.string x)) (exact HCEL.out _ (by (repeat (first | with_reducible assumption | with_reducible exact Fr.refl _ | with_reducible refine Fr.alloc ?_ _ | with_reducible refine Fr.drew ?_)))) (first
                         | (refine step_fr_append (w0 := w4) _ rfl (.tmp 66) (.tmp 69) 27 rfl 9 i9 _ 16 Try.underlying27 h90 h91 h92 h93 rfl (Value.slice (some ⟨w4.heap.size, 0, none⟩) 0 0) 0 [] rfl ?_ ?_ Ak pk ck ((svs (keysL L)).take pk) rfl ?_ ?_ ?_ ?_ (by decide) ?_
                            focus ((repeat (first | with_reducible assumption | with_reducible exact Fr.refl _ | with_reducible refine Fr.alloc ?_ _ | with_reducible refine Fr.drew ?_)); done)
                            focus ((repeat (first | ((with_reducible refine row_lit _ ?_ ?_); (focus (refine Fr.le (w := w4) ?_; (repeat (first | with_reducible assumption | with_reducible exact Fr.refl _ | with_reducible refine Fr.alloc ?_ _ | with_reducible refine Fr.drew ?_)); done)); (focus (first | rfl | (simp; done)))) | with_reducible refine row_alloc ?_ _ | with_reducible refine row_drew ?_)); done)
                            focus (rw [List.length_take, HVLk.out]; omega)
                            focus (refine HSVk.out.take_at ?_ (by rw [HVLk.out]; omega); (repeat (first | with_reducible assumption | with_reducible exact Fr.refl _ | with_reducible refine Fr.alloc ?_ _ | with_reducible refine Fr.drew ?_)); done)
                            focus (exact fun u hu => svs_one (keysL L) u (List.mem_of_mem_take hu))
                            focus (have := HN100.out; omega)
                            intro V1k W1k hok hF1k hPk
                            have HO1k := Lib.hid hok
                            (first
                              | (refine have hTk := hPk w4.heap.size 9 #[.string x] ?_ ?_; ?_; (focus ((repeat (first | with_reducible assumption | ((with_reducible refine Blk.newEq _ ?_); focus (first | rfl | (simp; done))) | with_reducible refine Blk.alloc ?_ _ | with_reducible refine Blk.drew ?_)); done)); (focus (intro e; have e := Option.some.inj e; first | omega | (simp at e; done) | (simp at e; omega))))
                              | (refine have hTk := hPk (w4.heap.size + 1) 9 #[.string x] ?_ ?_; ?_; (focus ((repeat (first | with_reducible assumption | ((with_reducible refine Blk.newEq _ ?_); focus (first | rfl | (simp; done))) | with_reducible refine Blk.alloc ?_ _ | with_reducible refine Blk.drew ?_)); done)); (focus (intro e; have e := Option.some.inj e; first | omega | (simp at e; done) | (simp at e; omega))))
                              | skip)
                            clear hok hPk)
                         | (refine step_fr_append (w0 := w4) _ rfl (.tmp 66) (.tmp 69) 27 rfl 9 i9 _ 16 Try.underlying27 h90 h91 h92 h93 rfl (Value.slice (some ⟨w4.heap.size + 1, 0, none⟩) 0 0) 0 [] rfl ?_ ?_ Ak pk ck ((svs (keysL L)).take pk) rfl ?_ ?_ ?_ ?_ (by decide) ?_
                            focus ((repeat (first | with_reducible assumption | with_reducible exact Fr.refl _ | with_reducible refine Fr.alloc ?_ _ | with_reducible refine Fr.drew ?_)); done)
                            focus ((repeat (first | ((with_reducible refine row_lit _ ?_ ?_); (focus (refine Fr.le (w := w4) ?_; (repeat (first | with_reducible assumption | with_reducible exact Fr.refl _ | with_reducible refine Fr.alloc ?_ _ | with_reducible refine Fr.drew ?_)); done)); (focus (first | rfl | (simp; done)))) | with_reducible refine row_alloc ?_ _ | with_reducible refine row_drew ?_)); done)
                            focus (rw [List.length_take, HVLk.out]; omega)
                            focus (refine HSVk.out.take_at ?_ (by rw [HVLk.out]; omega); (repeat (first | with_reducible assumption | with_reducible exact Fr.refl _ | with_reducible refine Fr.alloc ?_ _ | with_reducible refine Fr.drew ?_)); done)
                            focus (exact fun u hu => svs_one (keysL L) u (List.mem_of_mem_take hu))
                            focus (have := HN100.out; omega)
                            intro V1k W1k hok hF1k hPk
                            have HO1k := Lib.hid hok
                            (first
                              | (refine have hTk := hPk w4.heap.size 9 #[.string x] ?_ ?_; ?_; (focus ((repeat (first | with_reducible assumption | ((with_reducible refine Blk.newEq _ ?_); focus (first | rfl | (simp; done))) | with_reducible refine Blk.alloc ?_ _ | with_reducible refine Blk.drew ?_)); done)); (focus (intro e; have e := Option.some.inj e; first | omega | (simp at e; done) | (simp at e; omega))))
                              | (refine have hTk := hPk (w4.heap.size + 1) 9 #[.string x] ?_ ?_; ?_; (focus ((repeat (first | with_reducible assumption | ((with_reducible refine Blk.newEq _ ?_); focus (first | rfl | (simp; done))) | with_reducible refine Blk.alloc ?_ _ | with_reducible refine Blk.drew ?_)); done)); (focus (intro e; have e := Option.some.inj e; first | omega | (simp at e; done) | (simp at e; omega))))
                              | skip)
                            clear hok hPk)
                         | (refine step_fr_append (w0 := w4) _ rfl (.tmp 70) (.tmp 73) 27 rfl 9 i9 _ 16 Try.underlying27 h90 h91 h92 h93 rfl V1k (0 + pk) ([] ++ (svs (keysL L)).take pk) rfl ?_ ?_ (some ⟨w4.heap.size, 0, none⟩) 1 1 [.string x] rfl rfl ?_ ?_ ?_ (by decide) ?_
                            focus ((repeat (first | with_reducible assumption | with_reducible exact Fr.refl _ | with_reducible refine Fr.alloc ?_ _ | with_reducible refine Fr.drew ?_)); done)
                            focus ((repeat (first | with_reducible exact HO1k.out | with_reducible refine row_alloc ?_ _ | with_reducible refine row_drew ?_)); done)
                            focus (exact fun _ => ⟨_, rfl, World.news_of_block (cs := #[.string x]) (t := 9) (fr := (0, 0)) (show Blk _ _ 9 #[.string x] from by (repeat (first | with_reducible assumption | ((with_reducible refine Blk.newEq _ ?_); focus (first | rfl | (simp; done))) | with_reducible refine Blk.alloc ?_ _ | with_reducible refine Blk.drew ?_)))⟩)
                            focus (intro u hu; simp at hu; subst hu; rfl)
                            focus (have := HN100.out; omega)
                            intro V2k W2k hok hF2k hPk
                            have HO2k := Lib.hid hok
                            clear hok hPk hF1k)
                         | (refine step_fr_append (w0 := w4) _ rfl (.tmp 70) (.tmp 73) 27 rfl 9 i9 _ 16 Try.underlying27 h90 h91 h92 h93 rfl V1k (0 + pk) ([] ++ (svs (keysL L)).take pk) rfl ?_ ?_ (some ⟨w4.heap.size + 1, 0, none⟩) 1 1 [.string x] rfl rfl ?_ ?_ ?_ (by decide) ?_
                            focus ((repeat (first | with_reducible assumption | with_reducible exact Fr.refl _ | with_reducible refine Fr.alloc ?_ _ | with_reducible refine Fr.drew ?_)); done)
                            focus ((repeat (first | with_reducible exact HO1k.out | with_reducible refine row_alloc ?_ _ | with_reducible refine row_drew ?_)); done)
                            focus (exact fun _ => ⟨_, rfl, World.news_of_block (cs := #[.string x]) (t := 9) (fr := (0, 0)) (show Blk _ _ 9 #[.string x] from by (repeat (first | with_reducible assumption | ((with_reducible refine Blk.newEq _ ?_); focus (first | rfl | (simp; done))) | with_reducible refine Blk.alloc ?_ _ | with_reducible refine Blk.drew ?_)))⟩)
                            focus (intro u hu; simp at hu; subst hu; rfl)
                            focus (have := HN100.out; omega)
                            intro V2k W2k hok hF2k hPk
                            have HO2k := Lib.hid hok
                            clear hok hPk hF1k)
                         | (refine step_fr_append (w0 := w4) _ rfl (.tmp 70) (.tmp 73) 27 rfl 9 i9 _ 16 Try.underlying27 h90 h91 h92 h93 rfl V1k (0 + pk) ([] ++ (svs (keysL L)).take pk) rfl ?_ ?_ (some ⟨W1k.heap.size, 0, none⟩) 1 1 [.string x] rfl rfl ?_ ?_ ?_ (by decide) ?_
                            focus ((repeat (first | with_reducible assumption | with_reducible exact Fr.refl _ | with_reducible refine Fr.alloc ?_ _ | with_reducible refine Fr.drew ?_)); done)
                            focus ((repeat (first | with_reducible exact HO1k.out | with_reducible refine row_alloc ?_ _ | with_reducible refine row_drew ?_)); done)
                            focus (exact fun _ => ⟨_, rfl, World.news_of_block (cs := #[.string x]) (t := 9) (fr := (0, 0)) (show Blk _ _ 9 #[.string x] from by (repeat (first | with_reducible assumption | ((with_reducible refine Blk.newEq _ ?_); focus (first | rfl | (simp; done))) | with_reducible refine Blk.alloc ?_ _ | with_reducible refine Blk.drew ?_)))⟩)
                            focus (intro u hu; simp at hu; subst hu; rfl)
                            focus (have := HN100.out; omega)
                            intro V2k W2k hok hF2k hPk
                            have HO2k := Lib.hid hok
                            clear hok hPk hF1k)
                         | (refine step_fr_append (w0 := w4) _ rfl (.tmp 74) (.tmp 77) 27 rfl 9 i9 _ 16 Try.underlying27 h90 h91 h92 h93 rfl V2k (0 + pk + 1) ([] ++ (svs (keysL L)).take pk ++ [.string x]) rfl ?_ ?_ (cutA Ak ck pk) (nL - pk) (ck - pk) ((svs (keysL L)).drop pk) rfl ?_ ?_ ?_ ?_ (by decide) ?_
                            focus ((repeat (first | with_reducible assumption | with_reducible exact Fr.refl _ | with_reducible refine Fr.alloc ?_ _ | with_reducible refine Fr.drew ?_)); done)
                            focus ((repeat (first | with_reducible exact HO2k.out | with_reducible refine row_alloc ?_ _ | with_reducible refine row_drew ?_)); done)
                            focus (rw [List.length_drop, HVLk.out])
                            focus (refine HSVk.out.drop_at2 ?_ HVLk.out (by omega); (repeat (first | with_reducible assumption | with_reducible exact Fr.refl _ | with_reducible refine Fr.alloc ?_ _ | with_reducible refine Fr.drew ?_)); done)
                            focus (exact fun u hu => svs_one (keysL L) u (List.mem_of_mem_drop hu))
                            focus (have := HN100.out; omega)
                            intro V3k W3k hok hF3k hPk
                            have HO3k := Lib.hid hok
                            clear hok hPk hF2k)
                         | fail)
                all_goals (
                  go_wp2_with fail
                  go_meet
                  exact ⟨hF3k, HO3k.out⟩)
              case rest =>
                obtain ⟨hF5, hO5⟩ := hcut
                rename World => w5
                have HF5 := Lib.hid hF5
                have HO5 := Lib.hid hO5
                have HB5 := Lib.hid (HB4.out.below HF5.out.bel HB4.out.lt)
                clear hF5 hO5 hc1 hc2 b1
                obtain ⟨gv, hsv⟩ := sv_of (row_below HR4.out.2.1 HF5.out.bel) (by rw [valsL_len', HP3.out.hl])
                have HSVv := Lib.hid hsv
                have HVLv := Lib.hid (show (ivs (valsL L)).length = nL by rw [valsL_len', HP3.out.hl])
                have HCEL2 := Lib.hid (fun (W : World) (hF : Fr w5 W) => show W.cell? ⟨n9, 2, none⟩ = some (.int .i64 v) from (HB5.out.below hF.bel HB5.out.lt).cell 2)
                have hc1 := cutv_to Av nL cv pk (by have := HSVv.out.1; rw [HVLv.out] at this; omega)
                have hc2 := cutv_from Av nL cv pk _ rfl (by omega)
                have b2 := HB5.out.cell 2
                clear hsv
                go_wp2_with fail
                go_region_held3 (fun W => W.cell? ⟨n9, 2, none⟩ = some (.int .i64 v)) (exact HCEL2.out _ (by (repeat (first | with_reducible assumption | with_reducible exact Fr.refl _ | with_reducible refine Fr.alloc ?_ _ | with_reducible refine Fr.drew ?_)))) (first
                         | (refine step_fr_append (w0 := w5) _ rfl (.tmp 79) (.tmp 82) 28 rfl 2 i2 _ 8 Try.underlying28 h20 h21 h22 h23 rfl (Value.slice (some ⟨w5.heap.size, 0, none⟩) 0 0) 0 [] rfl ?_ ?_ Av pk cv ((ivs (valsL L)).take pk) rfl ?_ ?_ ?_ ?_ (by decide) ?_
                            focus ((repeat (first | with_reducible assumption | with_reducible exact Fr.refl _ | with_reducible refine Fr.alloc ?_ _ | with_reducible refine Fr.drew ?_)); done)
                            focus ((repeat (first | ((with_reducible refine row_lit _ ?_ ?_); (focus (refine Fr.le (w := w5) ?_; (repeat (first | with_reducible assumption | with_reducible exact Fr.refl _ | with_reducible refine Fr.alloc ?_ _ | with_reducible refine Fr.drew ?_)); done)); (focus (first | rfl | (simp; done)))) | with_reducible refine row_alloc ?_ _ | with_reducible refine row_drew ?_)); done)
                            focus (rw [List.length_take, HVLv.out]; omega)
                            focus (refine HSVv.out.take_at ?_ (by rw [HVLv.out]; omega); (repeat (first | with_reducible assumption | with_reducible exact Fr.refl _ | with_reducible refine Fr.alloc ?_ _ | with_reducible refine Fr.drew ?_)); done)
                            focus (exact fun u hu => ivs_one (valsL L) u (List.mem_of_mem_take hu))
                            focus (have := HN100.out; omega)
                            intro V1v W1v hov hF1v hPv
                            have HO1v := Lib.hid hov
                            (first
                              | (refine have hTv := hPv w5.heap.size 2 #[.int .i64 v] ?_ ?_; ?_; (focus ((repeat (first | with_reducible assumption | ((with_reducible refine Blk.newEq _ ?_); focus (first | rfl | (simp; done))) | with_reducible refine Blk.alloc ?_ _ | with_reducible refine Blk.drew ?_)); done)); (focus (intro e; have e := Option.some.inj e; first | omega | (simp at e; done) | (simp at e; omega))))
                              | (refine have hTv := hPv (w5.heap.size + 1) 2 #[.int .i64 v] ?_ ?_; ?_; (focus ((repeat (first | with_reducible assumption | ((with_reducible refine Blk.newEq _ ?_); focus (first | rfl | (simp; done))) | with_reducible refine Blk.alloc ?_ _ | with_reducible refine Blk.drew ?_)); done)); (focus (intro e; have e := Option.some.inj e; first | omega | (simp at e; done) | (simp at e; omega))))
                              | skip)
                            clear hov hPv)
                         | (refine step_fr_append (w0 := w5) _ rfl (.tmp 79) (.tmp 82) 28 rfl 2 i2 _ 8 Try.underlying28 h20 h21 h22 h23 rfl (Value.slice (some ⟨w5.heap.size + 1, 0, none⟩) 0 0) 0 [] rfl ?_ ?_ Av pk cv ((ivs (valsL L)).take pk) rfl ?_ ?_ ?_ ?_ (by decide) ?_
                            focus ((repeat (first | with_reducible assumption | with_reducible exact Fr.refl _ | with_reducible refine Fr.alloc ?_ _ | with_reducible refine Fr.drew ?_)); done)
                            focus ((repeat (first | ((with_reducible refine row_lit _ ?_ ?_); (focus (refine Fr.le (w := w5) ?_; (repeat (first | with_reducible assumption | with_reducible exact Fr.refl _ | with_reducible refine Fr.alloc ?_ _ | with_reducible refine Fr.drew ?_)); done)); (focus (first | rfl | (simp; done)))) | with_reducible refine row_alloc ?_ _ | with_reducible refine row_drew ?_)); done)
                            focus (rw [List.length_take, HVLv.out]; omega)
                            focus (refine HSVv.out.take_at ?_ (by rw [HVLv.out]; omega); (repeat (first | with_reducible assumption | with_reducible exact Fr.refl _ | with_reducible refine Fr.alloc ?_ _ | with_reducible refine Fr.drew ?_)); done)
                            focus (exact fun u hu => ivs_one (valsL L) u (List.mem_of_mem_take hu))
                            focus (have := HN100.out; omega)
                            intro V1v W1v hov hF1v hPv
                            have HO1v := Lib.hid hov
                            (first
                              | (refine have hTv := hPv w5.heap.size 2 #[.int .i64 v] ?_ ?_; ?_; (focus ((repeat (first | with_reducible assumption | ((with_reducible refine Blk.newEq _ ?_); focus (first | rfl | (simp; done))) | with_reducible refine Blk.alloc ?_ _ | with_reducible refine Blk.drew ?_)); done)); (focus (intro e; have e := Option.some.inj e; first | omega | (simp at e; done) | (simp at e; omega))))
                              | (refine have hTv := hPv (w5.heap.size + 1) 2 #[.int .i64 v] ?_ ?_; ?_; (focus ((repeat (first | with_reducible assumption | ((with_reducible refine Blk.newEq _ ?_); focus (first | rfl | (simp; done))) | with_reducible refine Blk.alloc ?_ _ | with_reducible refine Blk.drew ?_)); done)); (focus (intro e; have e := Option.some.inj e; first | omega | (simp at e; done) | (simp at e; omega))))
                              | skip)
                            clear hov hPv)
                         | (refine step_fr_append (w0 := w5) _ rfl (.tmp 83) (.tmp 86) 28 rfl 2 i2 _ 8 Try.underlying28 h20 h21 h22 h23 rfl V1v (0 + pk) ([] ++ (ivs (valsL L)).take pk) rfl ?_ ?_ (some ⟨w5.heap.size, 0, none⟩) 1 1 [.int .i64 v] rfl rfl ?_ ?_ ?_ (by decide) ?_
                            focus ((repeat (first | with_reducible assumption | with_reducible exact Fr.refl _ | with_reducible refine Fr.alloc ?_ _ | with_reducible refine Fr.drew ?_)); done)
                            focus ((repeat (first | with_reducible exact HO1v.out | with_reducible refine row_alloc ?_ _ | with_reducible refine row_drew ?_)); done)
                            focus (exact fun _ => ⟨_, rfl, World.news_of_block (cs := #[.int .i64 v]) (t := 2) (fr := (0, 0)) (show Blk _ _ 2 #[.int .i64 v] from by (repeat (first | with_reducible assumption | ((with_reducible refine Blk.newEq _ ?_); focus (first | rfl | (simp; done))) | with_reducible refine Blk.alloc ?_ _ | with_reducible refine Blk.drew ?_)))⟩)
                            focus (intro u hu; simp at hu; subst hu; rfl)
                            focus (have := HN100.out; omega)
                            intro V2v W2v hov hF2v hPv
                            have HO2v := Lib.hid hov
                            clear hov hPv hF1v)
                         | (refine step_fr_append (w0 := w5) _ rfl (.tmp 83) (.tmp 86) 28 rfl 2 i2 _ 8 Try.underlying28 h20 h21 h22 h23 rfl V1v (0 + pk) ([] ++ (ivs (valsL L)).take pk) rfl ?_ ?_ (some ⟨w5.heap.size + 1, 0, none⟩) 1 1 [.int .i64 v] rfl rfl ?_ ?_ ?_ (by decide) ?_
                            focus ((repeat (first | with_reducible assumption | with_reducible exact Fr.refl _ | with_reducible refine Fr.alloc ?_ _ | with_reducible refine Fr.drew ?_)); done)
                            focus ((repeat (first | with_reducible exact HO1v.out | with_reducible refine row_alloc ?_ _ | with_reducible refine row_drew ?_)); done)
                            focus (exact fun _ => ⟨_, rfl, World.news_of_block (cs := #[.int .i64 v]) (t := 2) (fr := (0, 0)) (show Blk _ _ 2 #[.int .i64 v] from by (repeat (first | with_reducible assumption | ((with_reducible refine Blk.newEq _ ?_); focus (first | rfl | (simp; done))) | with_reducible refine Blk.alloc ?_ _ | with_reducible refine Blk.drew ?_)))⟩)
                            focus (intro u hu; simp at hu; subst hu; rfl)
                            focus (have := HN100.out; omega)
                            intro V2v W2v hov hF2v hPv
                            have HO2v := Lib.hid hov
                            clear hov hPv hF1v)
                         | (refine step_fr_append (w0 := w5) _ rfl (.tmp 83) (.tmp 86) 28 rfl 2 i2 _ 8 Try.underlying28 h20 h21 h22 h23 rfl V1v (0 + pk) ([] ++ (ivs (valsL L)).take pk) rfl ?_ ?_ (some ⟨W1v.heap.size, 0, none⟩) 1 1 [.int .i64 v] rfl rfl ?_ ?_ ?_ (by decide) ?_
                            focus ((repeat (first | with_reducible assumption | with_reducible exact Fr.refl _ | with_reducible refine Fr.alloc ?_ _ | with_reducible refine Fr.drew ?_)); done)
                            focus ((repeat (first | with_reducible exact HO1v.out | with_reducible refine row_alloc ?_ _ | with_reducible refine row_drew ?_)); done)
                            focus (exact fun _ => ⟨_, rfl, World.news_of_block (cs := #[.int .i64 v]) (t := 2) (fr := (0, 0)) (show Blk _ _ 2 #[.int .i64 v] from by (repeat (first | with_reducible assumption | ((with_reducible refine Blk.newEq _ ?_); focus (first | rfl | (simp; done))) | with_reducible refine Blk.alloc ?_ _ | with_reducible refine Blk.drew ?_)))⟩)
                            focus (intro u hu; simp at hu; subst hu; rfl)
                            focus (have := HN100.out; omega)
                            intro V2v W2v hov hF2v hPv
                            have HO2v := Lib.hid hov
                            clear hov hPv hF1v)
                         | (refine step_fr_append (w0 := w5) _ rfl (.tmp 87) (.tmp 90) 28 rfl 2 i2 _ 8 Try.underlying28 h20 h21 h22 h23 rfl V2v (0 + pk + 1) ([] ++ (ivs (valsL L)).take pk ++ [.int .i64 v]) rfl ?_ ?_ (cutA Av cv pk) (nL - pk) (cv - pk) ((ivs (valsL L)).drop pk) rfl ?_ ?_ ?_ ?_ (by decide) ?_
                            focus ((repeat (first | with_reducible assumption | with_reducible exact Fr.refl _ | with_reducible refine Fr.alloc ?_ _ | with_reducible refine Fr.drew ?_)); done)
                            focus ((repeat (first | with_reducible exact HO2v.out | with_reducible refine row_alloc ?_ _ | with_reducible refine row_drew ?_)); done)
                            focus (rw [List.length_drop, HVLv.out])
                            focus (refine HSVv.out.drop_at2 ?_ HVLv.out (by omega); (repeat (first | with_reducible assumption | with_reducible exact Fr.refl _ | with_reducible refine Fr.alloc ?_ _ | with_reducible refine Fr.drew ?_)); done)
                            focus (exact fun u hu => ivs_one (valsL L) u (List.mem_of_mem_drop hu))
                            focus (have := HN100.out; omega)
                            intro V3v W3v hov hF3v hPv
                            have HO3v := Lib.hid hov
                            clear hov hPv hF2v)
                         | fail)
                all_goals (
                  have HF6 := Lib.hid hF3v
                  have HB6 := Lib.hid (HB5.out.below HF6.out.bel HB5.out.lt)
                  obtain ⟨A1, c1, A2, c2, e1, e2, hP6⟩ := HP3.out.ins_case HPP.out HX40.out HOM4.out HK4.out HF5.out HO5.out HF6.out HO3v.out
                  subst e1 e2
                  have HP6 := Lib.hid hP6
                  clear hP6 hF3v hc1 hc2 b2 HO5
                  obtain ⟨⟨pk2, pb2⟩, hp2⟩ : ∃ r, lplace x (keysL (insL x v L)) = r := ⟨_, rfl⟩
                  have HPP2 := Lib.hid hp2
                  have b1 := HB6.out.cell 1
                  have HPL2 := Lib.hid (HP6.out.place (by omega) x pk2 pb2 hp2)
                  clear hp2
                  go_wp2_with fail
                  refine HPL2.out.mono ?_
                  rintro _ wt ⟨rfl, hb⟩
                  have HPt := Lib.hid (HP6.out.step hb)
                  have HBt := Lib.hid (HB6.out.below hb HB6.out.lt)
                  clear hb HPL2 b1
                  have b1 := HBt.out.cell 1
                  have HLn := Lib.hid (OI.om_len HPt.out.om)
                  rw [HPt.out.hl] at HLn
                  have HPc := Lib.hid (OI.om_place HPt.out.om (by have := HPt.out.len; omega) x)
                  rw [HPt.out.plc_at HPP2.out] at HPc
                  cases pb2 with
                  | true =>
                    obtain ⟨u2, gv2, hg1, hlt1, ea, hcell, hle⟩ := HPt.out.get_at HPP2.out
                    cases ea
                    have HG := Lib.hid (OI.om_get HPt.out.om x (some u2) hg1)
                    rw [show OI.ov (some u2) = .int .i64 u2 from rfl, show (some u2).isSome = true from rfl] at HG
                    have hltI : (pk2 : Int) < ((nL + 1 : Nat) : Int) := by omega
                    clear hg1
                    go_wp2_with fail
                    refine HG.out.mono ?_
                    rintro _ wz ⟨rfl, hw0⟩
                    replace hw0 := hw0.symm
                    subst hw0
                    go_wp2_with fail
                    refine HPc.out.mono ?_
                    rintro _ wz ⟨rfl, hw0⟩
                    replace hw0 := hw0.symm
                    subst hw0
                    go_wp2_with fail
                    refine HLn.out.mono ?_
                    rintro _ wz ⟨rfl, hw0⟩
                    replace hw0 := hw0.symm
                    subst hw0
                    go_wp2
                    go_roundw
                    case rel => exact ⟨q + 1, _, _, _, _, _, _, by omega, rfl, rfl, by go_num, HPt.out⟩
                    case measure => simp [intOf]; omega
                  | false =>
                    have HG := Lib.hid (OI.om_get HPt.out.om x none (HPt.out.get_no HPP2.out))
                    rw [show OI.ov (none : Option Int) = .int .i64 0 from rfl, show (none : Option Int).isSome = false from rfl] at HG
                    go_wp2_with fail
                    refine HG.out.mono ?_
                    rintro _ wz ⟨rfl, hw0⟩
                    replace hw0 := hw0.symm
                    subst hw0
                    go_wp2_with fail
                    refine HPc.out.mono ?_
                    rintro _ wz ⟨rfl, hw0⟩
                    replace hw0 := hw0.symm
                    subst hw0
                    go_wp2_with fail
                    refine HLn.out.mono ?_
                    rintro _ wz ⟨rfl, hw0⟩
                    replace hw0 := hw0.symm
                    subst hw0
                    go_wp2
                    go_roundw
                    case rel => exact ⟨q + 1, _, _, _, _, _, _, by omega, rfl, rfl, by go_num, HPt.out⟩
                    case measure => simp [intOf]; omega)
        · have he0 : (o == 0) = false := by simpa using ho0
          clear ho0
          by_cases ho1 : o = 1
          · have he1 : (o == 1) = true := by rw [ho1]; rfl
            have HPU := Lib.hid (OI.om_del HP3.out.om (by have := HP3.out.len; omega) x pb HS.out)
            clear ho1
            go_wp2_with fail
            refine HPU.out.mono ?_
            rintro _ w4 ⟨rfl, ho4, hk4⟩
            have HOM4 := Lib.hid ho4
            have HK4 := Lib.hid hk4
            have HR4 := Lib.hid (HP3.out.rows hk4)
            have HB4 := Lib.hid (show Blk w4 n9 30 #[.int .i64 o, .string x, .int .i64 v] from blk_ko HP3.out.om HB3.out hk4)
            clear ho4 hk4 HPU z0 z1 z2
            cases pb with
            | true =>
              as_aux_lemma =>
                obtain ⟨gk, hsk⟩ := sv_of HR4.out.1 (by rw [keysL_len', HP3.out.hl])
                have HSVk := Lib.hid hsk
                have HVLk := Lib.hid (show (svs (keysL L)).length = nL by rw [keysL_len', HP3.out.hl])
                have HCEL := Lib.hid (fun (W : World) (hF : Fr w4 W) => show W.cell? ⟨n9, 1, none⟩ = some (.string x) from (HB4.out.below hF.bel HB4.out.lt).cell 1)
                have hc1 := cutk_to Ak nL ck pk (by have := HSVk.out.1; rw [HVLk.out] at this; omega)
                obtain ⟨_, _, hpn⟩ := HP3.out.some_at HPP.out
                have hws : IntKind.i64.wrap ((pk : Int) + 1) = (pk : Int) + 1 := IntWalk.i64_in _ (by omega)
                have hc2 := cutk_from Ak nL ck (pk + 1) ((pk : Int) + 1) (by omega) (by omega)
                have b1 := HB4.out.cell 1
                clear hsk
                go_wp2_with fail
                go_cut [6] from 31 to 171 (fun kx wx => Fr w4 wx ∧ wx.ownsRow w4.heap.size 9 1 kx (0 + pk + (nL - (pk + 1))) ([] ++ (svs (keysL L)).take pk ++ (svs (keysL L)).drop (pk + 1)))
                case first =>
                  go_region_held3 (fun W => W.cell? ⟨n9, 1, none⟩ = some (.string x)) (exact HCEL.out _ (by (repeat (first | with_reducible assumption | with_reducible exact Fr.refl _ | with_reducible refine Fr.alloc ?_ _ | with_reducible refine Fr.drew ?_)))) (first
                           | (refine step_fr_append (w0 := w4) _ rfl (.tmp 101) (.tmp 104) 27 rfl 9 i9 _ 16 Try.underlying27 h90 h91 h92 h93 rfl (Value.slice (some ⟨w4.heap.size, 0, none⟩) 0 0) 0 [] rfl ?_ ?_ Ak pk ck ((svs (keysL L)).take pk) rfl ?_ ?_ ?_ ?_ (by decide) ?_
                              focus ((repeat (first | with_reducible assumption | with_reducible exact Fr.refl _ | with_reducible refine Fr.alloc ?_ _ | with_reducible refine Fr.drew ?_)); done)
                              focus ((repeat (first | ((with_reducible refine row_lit _ ?_ ?_); (focus (refine Fr.le (w := w4) ?_; (repeat (first | with_reducible assumption | with_reducible exact Fr.refl _ | with_reducible refine Fr.alloc ?_ _ | with_reducible refine Fr.drew ?_)); done)); (focus (first | rfl | (simp; done)))) | with_reducible refine row_alloc ?_ _ | with_reducible refine row_drew ?_)); done)
                              focus (rw [List.length_take, HVLk.out]; omega)
                              focus (refine HSVk.out.take_at ?_ (by rw [HVLk.out]; omega); (repeat (first | with_reducible assumption | with_reducible exact Fr.refl _ | with_reducible refine Fr.alloc ?_ _ | with_reducible refine Fr.drew ?_)); done)
                              focus (exact fun u hu => svs_one (keysL L) u (List.mem_of_mem_take hu))
                              focus (have := HN100.out; omega)
                              intro V1k W1k hok hF1k hPk
                              have HO1k := Lib.hid hok
                              clear hok hPk)
                           | (refine step_fr_append (w0 := w4) _ rfl (.tmp 101) (.tmp 104) 27 rfl 9 i9 _ 16 Try.underlying27 h90 h91 h92 h93 rfl (Value.slice (some ⟨w4.heap.size + 1, 0, none⟩) 0 0) 0 [] rfl ?_ ?_ Ak pk ck ((svs (keysL L)).take pk) rfl ?_ ?_ ?_ ?_ (by decide) ?_
                              focus ((repeat (first | with_reducible assumption | with_reducible exact Fr.refl _ | with_reducible refine Fr.alloc ?_ _ | with_reducible refine Fr.drew ?_)); done)
                              focus ((repeat (first | ((with_reducible refine row_lit _ ?_ ?_); (focus (refine Fr.le (w := w4) ?_; (repeat (first | with_reducible assumption | with_reducible exact Fr.refl _ | with_reducible refine Fr.alloc ?_ _ | with_reducible refine Fr.drew ?_)); done)); (focus (first | rfl | (simp; done)))) | with_reducible refine row_alloc ?_ _ | with_reducible refine row_drew ?_)); done)
                              focus (rw [List.length_take, HVLk.out]; omega)
                              focus (refine HSVk.out.take_at ?_ (by rw [HVLk.out]; omega); (repeat (first | with_reducible assumption | with_reducible exact Fr.refl _ | with_reducible refine Fr.alloc ?_ _ | with_reducible refine Fr.drew ?_)); done)
                              focus (exact fun u hu => svs_one (keysL L) u (List.mem_of_mem_take hu))
                              focus (have := HN100.out; omega)
                              intro V1k W1k hok hF1k hPk
                              have HO1k := Lib.hid hok
                              clear hok hPk)
                           | (refine step_fr_append (w0 := w4) _ rfl (.tmp 105) (.tmp 109) 27 rfl 9 i9 _ 16 Try.underlying27 h90 h91 h92 h93 rfl V1k (0 + pk) ([] ++ (svs (keysL L)).take pk) rfl ?_ ?_ (cutA Ak ck (pk + 1)) (nL - (pk + 1)) (ck - (pk + 1)) ((svs (keysL L)).drop (pk + 1)) rfl ?_ ?_ ?_ ?_ (by decide) ?_
                              focus ((repeat (first | with_reducible assumption | with_reducible exact Fr.refl _ | with_reducible refine Fr.alloc ?_ _ | with_reducible refine Fr.drew ?_)); done)
                              focus ((repeat (first | with_reducible exact HO1k.out | with_reducible refine row_alloc ?_ _ | with_reducible refine row_drew ?_)); done)
                              focus (rw [List.length_drop, HVLk.out])
                              focus (refine HSVk.out.drop_at2 ?_ HVLk.out (by omega); (repeat (first | with_reducible assumption | with_reducible exact Fr.refl _ | with_reducible refine Fr.alloc ?_ _ | with_reducible refine Fr.drew ?_)); done)
                              focus (exact fun u hu => svs_one (keysL L) u (List.mem_of_mem_drop hu))
                              focus (have := HN100.out; omega)
                              intro V3k W3k hok hF3k hPk
                              have HO3k := Lib.hid hok
                              clear hok hPk hF1k)
                           | fail)
                  all_goals (
                    go_wp2_with fail
                    go_meet
                    exact ⟨hF3k, HO3k.out⟩)
                case rest =>
                  obtain ⟨hF5, hO5⟩ := hcut
                  rename World => w5
                  have HF5 := Lib.hid hF5
                  have HO5 := Lib.hid hO5
                  have HB5 := Lib.hid (HB4.out.below HF5.out.bel HB4.out.lt)
                  clear hF5 hO5 hc1 hc2 b1
                  obtain ⟨gv, hsv⟩ := sv_of (row_below HR4.out.2.1 HF5.out.bel) (by rw [valsL_len', HP3.out.hl])
                  have HSVv := Lib.hid hsv
                  have HVLv := Lib.hid (show (ivs (valsL L)).length = nL by rw [valsL_len', HP3.out.hl])
                  have HCEL2 := Lib.hid (fun (W : World) (hF : Fr w5 W) => show W.cell? ⟨n9, 2, none⟩ = some (.int .i64 v) from (HB5.out.below hF.bel HB5.out.lt).cell 2)
                  have hc1 := cutv_to Av nL cv pk (by have := HSVv.out.1; rw [HVLv.out] at this; omega)
                  have hc2 := cutv_from Av nL cv (pk + 1) ((pk : Int) + 1) (by omega) (by omega)
                  have b2 := HB5.out.cell 2
                  clear hsv
                  go_wp2_with fail
                  go_region_held3 (fun W => W.cell? ⟨n9, 2, none⟩ = some (.int .i64 v)) (exact HCEL2.out _ (by (repeat (first | with_reducible assumption | with_reducible exact Fr.refl _ | with_reducible refine Fr.alloc ?_ _ | with_reducible refine Fr.drew ?_)))) (first
                           | (refine step_fr_append (w0 := w5) _ rfl (.tmp 111) (.tmp 114) 28 rfl 2 i2 _ 8 Try.underlying28 h20 h21 h22 h23 rfl (Value.slice (some ⟨w5.heap.size, 0, none⟩) 0 0) 0 [] rfl ?_ ?_ Av pk cv ((ivs (valsL L)).take pk) rfl ?_ ?_ ?_ ?_ (by decide) ?_
                              focus ((repeat (first | with_reducible assumption | with_reducible exact Fr.refl _ | with_reducible refine Fr.alloc ?_ _ | with_reducible refine Fr.drew ?_)); done)
                              focus ((repeat (first | ((with_reducible refine row_lit _ ?_ ?_); (focus (refine Fr.le (w := w5) ?_; (repeat (first | with_reducible assumption | with_reducible exact Fr.refl _ | with_reducible refine Fr.alloc ?_ _ | with_reducible refine Fr.drew ?_)); done)); (focus (first | rfl | (simp; done)))) | with_reducible refine row_alloc ?_ _ | with_reducible refine row_drew ?_)); done)
                              focus (rw [List.length_take, HVLv.out]; omega)
                              focus (refine HSVv.out.take_at ?_ (by rw [HVLv.out]; omega); (repeat (first | with_reducible assumption | with_reducible exact Fr.refl _ | with_reducible refine Fr.alloc ?_ _ | with_reducible refine Fr.drew ?_)); done)
                              focus (exact fun u hu => ivs_one (valsL L) u (List.mem_of_mem_take hu))
                              focus (have := HN100.out; omega)
                              intro V1v W1v hov hF1v hPv
                              have HO1v := Lib.hid hov
                              clear hov hPv)
                           | (refine step_fr_append (w0 := w5) _ rfl (.tmp 111) (.tmp 114) 28 rfl 2 i2 _ 8 Try.underlying28 h20 h21 h22 h23 rfl (Value.slice (some ⟨w5.heap.size + 1, 0, none⟩) 0 0) 0 [] rfl ?_ ?_ Av pk cv ((ivs (valsL L)).take pk) rfl ?_ ?_ ?_ ?_ (by decide) ?_
                              focus ((repeat (first | with_reducible assumption | with_reducible exact Fr.refl _ | with_reducible refine Fr.alloc ?_ _ | with_reducible refine Fr.drew ?_)); done)
                              focus ((repeat (first | ((with_reducible refine row_lit _ ?_ ?_); (focus (refine Fr.le (w := w5) ?_; (repeat (first | with_reducible assumption | with_reducible exact Fr.refl _ | with_reducible refine Fr.alloc ?_ _ | with_reducible refine Fr.drew ?_)); done)); (focus (first | rfl | (simp; done)))) | with_reducible refine row_alloc ?_ _ | with_reducible refine row_drew ?_)); done)
                              focus (rw [List.length_take, HVLv.out]; omega)
                              focus (refine HSVv.out.take_at ?_ (by rw [HVLv.out]; omega); (repeat (first | with_reducible assumption | with_reducible exact Fr.refl _ | with_reducible refine Fr.alloc ?_ _ | with_reducible refine Fr.drew ?_)); done)
                              focus (exact fun u hu => ivs_one (valsL L) u (List.mem_of_mem_take hu))
                              focus (have := HN100.out; omega)
                              intro V1v W1v hov hF1v hPv
                              have HO1v := Lib.hid hov
                              clear hov hPv)
                           | (refine step_fr_append (w0 := w5) _ rfl (.tmp 115) (.tmp 119) 28 rfl 2 i2 _ 8 Try.underlying28 h20 h21 h22 h23 rfl V1v (0 + pk) ([] ++ (ivs (valsL L)).take pk) rfl ?_ ?_ (cutA Av cv (pk + 1)) (nL - (pk + 1)) (cv - (pk + 1)) ((ivs (valsL L)).drop (pk + 1)) rfl ?_ ?_ ?_ ?_ (by decide) ?_
                              focus ((repeat (first | with_reducible assumption | with_reducible exact Fr.refl _ | with_reducible refine Fr.alloc ?_ _ | with_reducible refine Fr.drew ?_)); done)
                              focus ((repeat (first | with_reducible exact HO1v.out | with_reducible refine row_alloc ?_ _ | with_reducible refine row_drew ?_)); done)
                              focus (rw [List.length_drop, HVLv.out])
                              focus (refine HSVv.out.drop_at2 ?_ HVLv.out (by omega); (repeat (first | with_reducible assumption | with_reducible exact Fr.refl _ | with_reducible refine Fr.alloc ?_ _ | with_reducible refine Fr.drew ?_)); done)
                              focus (exact fun u hu => ivs_one (valsL L) u (List.mem_of_mem_drop hu))
                              focus (have := HN100.out; omega)
                              intro V3v W3v hov hF3v hPv
                              have HO3v := Lib.hid hov
                              clear hov hPv hF1v)
                           | fail)
                  all_goals (
                    have HF6 := Lib.hid hF3v
                    have HB6 := Lib.hid (HB5.out.below HF6.out.bel HB5.out.lt)
                    obtain ⟨A1, c1, A2, c2, e1, e2, hP6⟩ := HP3.out.del_case HPP.out HOM4.out HK4.out HF5.out HO5.out HF6.out HO3v.out
                    subst e1 e2
                    have HP6 := Lib.hid hP6
                    clear hP6 hF3v hc1 hc2 b2 HO5
                    obtain ⟨⟨pk2, pb2⟩, hp2⟩ : ∃ r, lplace x (keysL (delL x L)) = r := ⟨_, rfl⟩
                    have HPP2 := Lib.hid hp2
                    have b1 := HB6.out.cell 1
                    have HPL2 := Lib.hid (HP6.out.place (by omega) x pk2 pb2 hp2)
                    clear hp2
                    go_wp2_with fail
                    refine HPL2.out.mono ?_
                    rintro _ wt ⟨rfl, hb⟩
                    have HPt := Lib.hid (HP6.out.step hb)
                    have HBt := Lib.hid (HB6.out.below hb HB6.out.lt)
                    clear hb HPL2 b1
                    have b1 := HBt.out.cell 1
                    have HLn := Lib.hid (OI.om_len HPt.out.om)
                    rw [HPt.out.hl] at HLn
                    have HPc := Lib.hid (OI.om_place HPt.out.om (by have := HPt.out.len; omega) x)
                    rw [HPt.out.plc_at HPP2.out] at HPc
                    cases pb2 with
                    | true =>
                      obtain ⟨u2, gv2, hg1, hlt1, ea, hcell, hle⟩ := HPt.out.get_at HPP2.out
                      cases ea
                      have HG := Lib.hid (OI.om_get HPt.out.om x (some u2) hg1)
                      rw [show OI.ov (some u2) = .int .i64 u2 from rfl, show (some u2).isSome = true from rfl] at HG
                      have hltI : (pk2 : Int) < ((nL - 1 : Nat) : Int) := by omega
                      clear hg1
                      go_wp2_with fail
                      refine HG.out.mono ?_
                      rintro _ wz ⟨rfl, hw0⟩
                      replace hw0 := hw0.symm
                      subst hw0
                      go_wp2_with fail
                      refine HPc.out.mono ?_
                      rintro _ wz ⟨rfl, hw0⟩
                      replace hw0 := hw0.symm
                      subst hw0
                      go_wp2_with fail
                      refine HLn.out.mono ?_
                      rintro _ wz ⟨rfl, hw0⟩
                      replace hw0 := hw0.symm
                      subst hw0
                      go_wp2
                      go_roundw
                      case rel => exact ⟨q + 1, _, _, _, _, _, _, by omega, rfl, rfl, by go_num, HPt.out⟩
                      case measure => simp [intOf]; omega
                    | false =>
                      have HG := Lib.hid (OI.om_get HPt.out.om x none (HPt.out.get_no HPP2.out))
                      rw [show OI.ov (none : Option Int) = .int .i64 0 from rfl, show (none : Option Int).isSome = false from rfl] at HG
                      go_wp2_with fail
                      refine HG.out.mono ?_
                      rintro _ wz ⟨rfl, hw0⟩
                      replace hw0 := hw0.symm
                      subst hw0
                      go_wp2_with fail
                      refine HPc.out.mono ?_
                      rintro _ wz ⟨rfl, hw0⟩
                      replace hw0 := hw0.symm
                      subst hw0
                      go_wp2_with fail
                      refine HLn.out.mono ?_
                      rintro _ wz ⟨rfl, hw0⟩
                      replace hw0 := hw0.symm
                      subst hw0
                      go_wp2
                      go_roundw
                      case rel => exact ⟨q + 1, _, _, _, _, _, _, by omega, rfl, rfl, by go_num, HPt.out⟩
                      case measure => simp [intOf]; omega)
            | false =>
              have HP5 := Lib.hid (HP3.out.no_case HPP.out HOM4.out HK4.out)
              as_aux_lemma =>
                obtain ⟨⟨pk2, pb2⟩, hp2⟩ : ∃ r, lplace x (keysL L) = r := ⟨_, rfl⟩
                have HPP2 := Lib.hid hp2
                have b1 := HB4.out.cell 1
                have HPL2 := Lib.hid (HP5.out.place (by omega) x pk2 pb2 hp2)
                clear hp2
                go_wp2_with fail
                refine HPL2.out.mono ?_
                rintro _ wt ⟨rfl, hb⟩
                have HPt := Lib.hid (HP5.out.step hb)
                have HBt := Lib.hid (HB4.out.below hb HB4.out.lt)
                clear hb HPL2 b1
                have b1 := HBt.out.cell 1
                have HLn := Lib.hid (OI.om_len HPt.out.om)
                rw [HPt.out.hl] at HLn
                have HPc := Lib.hid (OI.om_place HPt.out.om (by have := HPt.out.len; omega) x)
                rw [HPt.out.plc_at HPP2.out] at HPc
                cases pb2 with
                | true =>
                  obtain ⟨u2, gv2, hg1, hlt1, ea, hcell, hle⟩ := HPt.out.get_at HPP2.out
                  cases ea
                  have HG := Lib.hid (OI.om_get HPt.out.om x (some u2) hg1)
                  rw [show OI.ov (some u2) = .int .i64 u2 from rfl, show (some u2).isSome = true from rfl] at HG
                  have hltI : (pk2 : Int) < ((nL : Nat) : Int) := by omega
                  clear hg1
                  go_wp2_with fail
                  refine HG.out.mono ?_
                  rintro _ wz ⟨rfl, hw0⟩
                  replace hw0 := hw0.symm
                  subst hw0
                  go_wp2_with fail
                  refine HPc.out.mono ?_
                  rintro _ wz ⟨rfl, hw0⟩
                  replace hw0 := hw0.symm
                  subst hw0
                  go_wp2_with fail
                  refine HLn.out.mono ?_
                  rintro _ wz ⟨rfl, hw0⟩
                  replace hw0 := hw0.symm
                  subst hw0
                  go_wp2
                  go_roundw
                  case rel => exact ⟨q + 1, _, _, _, _, _, _, by omega, rfl, rfl, by go_num, HPt.out⟩
                  case measure => simp [intOf]; omega
                | false =>
                  have HG := Lib.hid (OI.om_get HPt.out.om x none (HPt.out.get_no HPP2.out))
                  rw [show OI.ov (none : Option Int) = .int .i64 0 from rfl, show (none : Option Int).isSome = false from rfl] at HG
                  go_wp2_with fail
                  refine HG.out.mono ?_
                  rintro _ wz ⟨rfl, hw0⟩
                  replace hw0 := hw0.symm
                  subst hw0
                  go_wp2_with fail
                  refine HPc.out.mono ?_
                  rintro _ wz ⟨rfl, hw0⟩
                  replace hw0 := hw0.symm
                  subst hw0
                  go_wp2_with fail
                  refine HLn.out.mono ?_
                  rintro _ wz ⟨rfl, hw0⟩
                  replace hw0 := hw0.symm
                  subst hw0
                  go_wp2
                  go_roundw
                  case rel => exact ⟨q + 1, _, _, _, _, _, _, by omega, rfl, rfl, by go_num, HPt.out⟩
                  case measure => simp [intOf]; omega
          · have he1 : (o == 1) = false := by simpa using ho1
            clear ho1
            have HP5 := Lib.hid HP3.out.up
            as_aux_lemma =>
              obtain ⟨⟨pk2, pb2⟩, hp2⟩ : ∃ r, lplace x (keysL L) = r := ⟨_, rfl⟩
              have HPP2 := Lib.hid hp2
              have b1 := HB3.out.cell 1
              have HPL2 := Lib.hid (HP5.out.place (by omega) x pk2 pb2 hp2)
              clear hp2
              go_wp2_with fail
              refine HPL2.out.mono ?_
              rintro _ wt ⟨rfl, hb⟩
              have HPt := Lib.hid (HP5.out.step hb)
              have HBt := Lib.hid (HB3.out.below hb HB3.out.lt)
              clear hb HPL2 b1
              have b1 := HBt.out.cell 1
              have HLn := Lib.hid (OI.om_len HPt.out.om)
              rw [HPt.out.hl] at HLn
              have HPc := Lib.hid (OI.om_place HPt.out.om (by have := HPt.out.len; omega) x)
              rw [HPt.out.plc_at HPP2.out] at HPc
              cases pb2 with
              | true =>
                obtain ⟨u2, gv2, hg1, hlt1, ea, hcell, hle⟩ := HPt.out.get_at HPP2.out
                cases ea
                have HG := Lib.hid (OI.om_get HPt.out.om x (some u2) hg1)
                rw [show OI.ov (some u2) = .int .i64 u2 from rfl, show (some u2).isSome = true from rfl] at HG
                have hltI : (pk2 : Int) < ((nL : Nat) : Int) := by omega
                clear hg1
                go_wp2_with fail
                refine HG.out.mono ?_
                rintro _ wz ⟨rfl, hw0⟩
                replace hw0 := hw0.symm
                subst hw0
                go_wp2_with fail
                refine HPc.out.mono ?_
                rintro _ wz ⟨rfl, hw0⟩
                replace hw0 := hw0.symm
                subst hw0
                go_wp2_with fail
                refine HLn.out.mono ?_
                rintro _ wz ⟨rfl, hw0⟩
                replace hw0 := hw0.symm
                subst hw0
                go_wp2
                go_roundw
                case rel => exact ⟨q + 1, _, _, _, _, _, _, by omega, rfl, rfl, by go_num, HPt.out⟩
                case measure => simp [intOf]; omega
              | false =>
                have HG := Lib.hid (OI.om_get HPt.out.om x none (HPt.out.get_no HPP2.out))
                rw [show OI.ov (none : Option Int) = .int .i64 0 from rfl, show (none : Option Int).isSome = false from rfl] at HG
                go_wp2_with fail
                refine HG.out.mono ?_
                rintro _ wz ⟨rfl, hw0⟩
                replace hw0 := hw0.symm
                subst hw0
                go_wp2_with fail
                refine HPc.out.mono ?_
                rintro _ wz ⟨rfl, hw0⟩
                replace hw0 := hw0.symm
                subst hw0
                go_wp2_with fail
                refine HLn.out.mono ?_
                rintro _ wz ⟨rfl, hw0⟩
                replace hw0 := hw0.symm
                subst hw0
                go_wp2
                go_roundw
                case rel => exact ⟨q + 1, _, _, _, _, _, _, by omega, rfl, rfl, by go_num, HPt.out⟩
                case measure => simp [intOf]; omega
      · obtain rfl : q = len := by omega
        as_aux_lemma =>
          have HKX := Lib.hid (om_keysX HP.out.om (by have := HP.out.len; omega) (fun p hp => Nat.le_trans (HP.out.key p hp) (by decide)) nL HP.out.hl)
          have hnI : (nL : Int) ≤ 80 := by have := HP.out.hl; have := HP.out.len; omega
          go_wp2_with fail
          refine HKX.out.mono ?_
          rintro _ w3 ⟨A3', cap3, gk3, rfl, hs3, _, hb3⟩
          have HP3 := Lib.hid (HP.out.step hb3)
          obtain ⟨gk, hsk⟩ := HP3.out.keys
          have HTX := Lib.hid (texts_same hs3 (sl_of hsk) (by rw [keysL_len]; have := HP3.out.len; omega))
          rw [keysL_len, HP3.out.hl] at HTX
          clear hs3 hb3 hsk HKX
          go_wp2_with fail
          refine HTX.out.mono ?_
          rintro _ w4 ⟨rfl, hb4⟩
          have HP4 := Lib.hid (HP3.out.step hb4)
          clear hb4 HTX
          go_wp2
          go_loopw [14] (fun i wr => ∃ z : Int, -1 ≤ z ∧ z ≤ (nL : Int) + 1 ∧ i = .int .i64 z ∧ Pl w1 wr g q L nL Ak ck Av cv) (fun i _ => ((nL : Int) + 1 - intOf i).toNat)
          case atStart => exact ⟨-1, by omega, by omega, rfl, HP4.out⟩
          case round =>
            obtain ⟨z, hz1, hz2, rfl, hP⟩ := hrel
            have HPZ := Lib.hid hP
            clear hP HP4 HP3
            by_cases hzn : z ≤ (nL : Int)
            · by_cases hin : 0 ≤ z ∧ z < (nL : Int)
              · obtain ⟨j, rfl⟩ : ∃ j : Nat, z = (j : Int) := ⟨z.toNat, by omega⟩
                have hjn : j < nL := by omega
                obtain ⟨⟨jk, jv⟩, hj⟩ : ∃ p, L[j]? = some p := ⟨L[j]'(by rw [HPZ.out.hl]; exact hjn), List.getElem?_eq_getElem _⟩
                have HAT := Lib.hid (OI.om_at HPZ.out.om (by have := HPZ.out.len; omega) j jk jv hj)
                have hj0 : (j : Int) ≥ 0 := by omega
                have hj1 : (j : Int) < (nL : Int) := by omega
                have HJ := Lib.hid hj
                clear hj hin
                go_wp2_with fail
                refine HAT.out.mono ?_
                rintro _ w5 ⟨rfl, hb5⟩
                have HP5 := Lib.hid (HPZ.out.step hb5)
                obtain ⟨gk, hsk⟩ := HP5.out.keys
                obtain ⟨gv, hsv⟩ := HP5.out.vals
                obtain ⟨ek, _, ck1⟩ := hsk.2 j (.string jk) (by unfold svs keysL; rw [List.getElem?_map, List.getElem?_map, HJ.out]; rfl)
                obtain ⟨ev, _, cv1⟩ := hsv.2 j (.int .i64 jv) (by unfold ivs valsL; rw [List.getElem?_map, List.getElem?_map, HJ.out]; rfl)
                have hck : nL ≤ ck := by have := hsk.1; rw [keysL_len', HP5.out.hl] at this; exact this
                have hcv : nL ≤ cv := by have := hsv.1; rw [valsL_len', HP5.out.hl] at this; exact this
                subst ek ev
                clear hsk hsv hb5 HAT
                go_wp2
                go_roundw
                case rel => exact ⟨(j : Int) + 1, by omega, by omega, by go_num, HP5.out⟩
                case measure => simp [intOf]; omega
              · have HAT := Lib.hid (OI.om_at_out HPZ.out.om z (by rw [HPZ.out.hl]; omega))
                by_cases hz0 : 0 ≤ z
                · have hz3 : z ≥ (nL : Int) := by omega
                  clear hin
                  go_wp2_with fail
                  refine HAT.out.mono ?_
                  rintro _ w5 ⟨rfl, hb5⟩
                  have HP5 := Lib.hid (HPZ.out.step hb5)
                  clear hb5 HAT
                  go_wp2
                  go_roundw
                  case rel => exact ⟨z + 1, by omega, by omega, by go_num, HP5.out⟩
                  case measure => simp [intOf]; omega
                · have hz3 : z < 0 := by omega
                  clear hin
                  go_wp2_with fail
                  refine HAT.out.mono ?_
                  rintro _ w5 ⟨rfl, hb5⟩
                  have HP5 := Lib.hid (HPZ.out.step hb5)
                  clear hb5 HAT
                  go_wp2
                  go_roundw
                  case rel => exact ⟨z + 1, by omega, by omega, by go_num, HP5.out⟩
                  case measure => simp [intOf]; omega
            · by_cases hin : 0 ≤ at_ ∧ at_ < (nL : Int)
              · obtain ⟨j, rfl⟩ : ∃ j : Nat, at_ = (j : Int) := ⟨at_.toNat, by omega⟩
                have hjn : j < nL := by omega
                obtain ⟨⟨jk, jv⟩, hj⟩ : ∃ p, L[j]? = some p := ⟨L[j]'(by rw [HPZ.out.hl]; exact hjn), List.getElem?_eq_getElem _⟩
                have HAT := Lib.hid (OI.om_at HPZ.out.om (by have := HPZ.out.len; omega) j jk jv hj)
                have hj0 : (j : Int) ≥ 0 := by omega
                have hj1 : (j : Int) < (nL : Int) := by omega
                clear hj hin
                go_wp2_with fail
                refine HAT.out.mono ?_
                rintro _ w5 ⟨rfl, hb5⟩
                have HP5 := Lib.hid (HPZ.out.step hb5)
                clear hb5 HAT
                go_wp2
                go_ret
                exact ⟨rfl, HB1.out.trans (HP5.out.bel.mono HB1.out.size)⟩
              · have HAT := Lib.hid (OI.om_at_out HPZ.out.om at_ (by rw [HPZ.out.hl]; omega))
                by_cases hz0 : 0 ≤ at_
                · have hz3 : at_ ≥ (nL : Int) := by omega
                  clear hin
                  go_wp2_with fail
                  refine HAT.out.mono ?_
                  rintro _ w5 ⟨rfl, hb5⟩
                  have HP5 := Lib.hid (HPZ.out.step hb5)
                  clear hb5 HAT
                  go_wp2
                  go_ret
                  exact ⟨by simp; omega, HB1.out.trans (HP5.out.bel.mono HB1.out.size)⟩
                · have hz3 : at_ < 0 := by omega
                  clear hin
                  go_wp2_with fail
                  refine HAT.out.mono ?_
                  rintro _ w5 ⟨rfl, hb5⟩
                  have HP5 := Lib.hid (HPZ.out.step hb5)
                  clear hb5 HAT
                  go_wp2
                  go_ret
                  exact ⟨by simp, HB1.out.trans (HP5.out.bel.mono HB1.out.size)⟩
theorem omapPlays_walk (w : World) (A0 : Option Addr) (len0 cap0 : Nat) (S0 : Sh.ok w (Sh.slice 3 (Sh.agg 3 [(0, 1, (Sh.int .i64)), (1, 1, Sh.str), (2, 1, (Sh.int .i64))])) [.slice A0 len0 cap0]) (a1 : Int) (w1 : (Lit.int .i64 a1).wf = true) :
    Calls Try.prog 3 #[.slice A0 len0 cap0, .int .i64 a1] w fun e w' => e = .returned (.bool true) ∧ Below w.heap.size w w' := by
  obtain ⟨b, off, xs, hl, hm, hA⟩ := acts_of S0
  exact plays_in w A0 len0 cap0 b off xs hl hm hA a1
end Go.Proofs.Ytmapfbnfcbkjpaa
