/- Texts of one proof, joined. -/
import Derived.Test.YtphijnkiiokieaaGreatDoorZbe
set_option linter.unusedVariables false
set_option linter.unusedSimpArgs false
set_option maxRecDepth 100000
set_option maxHeartbeats 80000000
namespace Go.Proofs.YtphijnkiiokieaaGreatDoor
open Go.RowKit
open Go.Lib hiding intOf
open Go.Sort Go.Proofs
def cntA (L : List F3) (q : Nat) : Array Value := #[.int .i64 (cntF 0 L q : Int), .int .i64 (cntF 1 L q : Int), .int .i64 (cntF 2 L q : Int), .int .i64 (cntF 3 L q : Int), .int .i64 (cntF 4 L q : Int), .int .i64 (cntF 5 L q : Int), .int .i64 (cntF 6 L q : Int)]
theorem cntA_get {L : List F3} {q k : Nat} (hk : k < 7) : (cntA L q)[k]? = some (.int .i64 (cntF (k : Int) L q : Int)) := by
 match k, hk with
 | 0, _ => rfl
 | 1, _ => rfl
 | 2, _ => rfl
 | 3, _ => rfl
 | 4, _ => rfl
 | 5, _ => rfl
 | 6, _ => rfl
theorem cntA_step {L : List F3} {q k : Nat} {f : F3} (h : L[q]? = some f) (hk : k < 7) (hf : f.1 = (k : Int)) : (cntA L q).setIfInBounds k (.int .i64 ((cntF (k : Int) L q : Int) + 1)) = cntA L (q + 1) := by
 have hs := fun j : Int => cntF_step (k := j) h
 have e : ∀ j : Nat, j ≠ k → cntF (j : Int) L (q + 1) = cntF (j : Int) L q := fun j hj => by rw [hs, if_neg (by rw [hf]; omega)]; rfl
 have e2 : cntF (k : Int) L (q + 1) = cntF (k : Int) L q + 1 := by rw [hs, if_pos hf]
 have e0 := e 0; have e1 := e 1; have e2' := e 2; have e3 := e 3; have e4 := e 4; have e5 := e 5; have e6 := e 6; have c : k = 0 ∨ k = 1 ∨ k = 2 ∨ k = 3 ∨ k = 4 ∨ k = 5 ∨ k = 6 := by omega
 rcases c with rfl | rfl | rfl | rfl | rfl | rfl | rfl
 all_goals (
  simp at e0 e1 e2' e3 e4 e5 e6 e2
  simp [cntA, e0, e1, e2', e3, e4, e5, e6, e2])
theorem rfields_any {w : World} {A : Option Addr} {cap b off : Nat} {L : List F3} (h : Fv w A cap b off L) (n : Nat) (hnn : L.length = n) (hn : n ≤ 1000) (hv : ∀ f ∈ L, f.2.2.size ≤ 1000000) :
  Calls Tryz.prog 92 #[.slice A n cap] w fun e w' => Below w.heap.size w w' ∧ ∃ A' cap' g, e = .returned (.tuple #[.slice A' (canL L).1.length cap', .int .i64 (canL L).2]) ∧ Fv w' A' cap' g 0 (canL L).1 := by
 obtain ⟨B, hB⟩ : ∃ B, w.heap.size = B := ⟨_, rfl⟩; have HBW := Zh hB; have H := Zh h; have HV := Zh hv; have HN := Zh hnn; have HVA := Zh (@cnA_size L); have HEr := Zh (fun er (h : errL L = er) (he : er ≠ 0) => canL_err h he); have HOk := Zh (@canL_ok L); have HCL := Zh (cnL_all L); have HCN1 := Zh (@cnn_rise L); obtain ⟨rv, re, hres⟩ : ∃ rv re, canL L = (rv, re) := ⟨_, _, rfl⟩; have HRES := Zh hres; rw [hres]; obtain ⟨er, her⟩ : ∃ er, errL L = er := ⟨_, rfl⟩; have HER := Zh her; have hnI : (n : Int) ≤ 1000 := by omega
 rw [hB]; clear h hv hnn hB her hres
 show Calls Tryz.prog 92 _ w fun e w' => Below B w w' ∧ ∃ A' cap' g, e = .returned (.tuple #[.slice A' rv.length cap', .int .i64 re]) ∧ Fv w' A' cap' g 0 rv
 go_enter Tryz.func92, Tryz.ntmps92
 go_wp2
 go_loopw [4, 5] (fun t i wr => ∃ q : Nat, q ≤ n ∧ Fr3 wr B t q (cnL L q) ∧ i = .int .i64 (q : Int) ∧ errL (L.drop q) = er ∧ Below B w wr) (fun _ i _ => n - (intOf i).toNat)
 case atStart => exact ⟨0, Nat.zero_le _, ⟨rfl, .inl ⟨rfl, rfl⟩⟩, rfl, HER.out, HBW.out ▸ Below.refl _ _⟩
 case round =>
  obtain ⟨q, hq, hrow, rfl, hed, hb⟩ := hrel; have HROW := Zh hrow; have HED := Zh hed; have HB := Zh hb; have HBs := Zh (show B ≤ wr.heap.size by have h1 := hb.size; have h2 := HBW.out; omega); clear hrow hed hb
  by_cases hql : q < n
  ·
   obtain ⟨f, hf⟩ : ∃ f, L[q]? = some f := ⟨L[q]'(by rw [HN.out]; exact hql), List.getElem?_eq_getElem _⟩; obtain ⟨rfl, hbl, c0, c1, c2⟩ := (H.out.below (HBW.out ▸ HB.out)).2 q f hf; have HVF := Zh (HV.out f (List.mem_of_getElem? hf)); have HCN := Zh (canon_cn1 f); have HST := Zh (cnL_step hf); have HDR := Zh (errL_drop hf); rw [HED.out] at HDR; obtain ⟨⟨⟨d1, d2, d3⟩, de⟩, hcn⟩ : ∃ p, cn1 f = p := ⟨_, rfl⟩; rw [hcn] at HCN HST HDR; obtain ⟨f1, f2, f3⟩ := f; simp only at c0 c1 c2 HVF HCN HST HDR; have hqI : (q : Int) < (n : Int) := by omega
   have HC := Zh (frcanon_any f1 f2 f3 HVF.out wr); rw [HCN.out] at HC; simp only [fV] at HC; clear hf hbl hcn
   go_wp2_with fail
   refine HC.out.mono ?_; rintro _ w3 ⟨rfl, hb⟩; obtain ⟨m9, hm9⟩ : ∃ n, w3.heap.size = n := ⟨_, rfl⟩; have HW3 := Zh (show Below B w w3 from HB.out.trans (hb.mono HBs.out)); have HO3 := Zh (show w3.ownsRow B 92 3 _ q (encL (cnL L q)) from by
    obtain ⟨h0, h3 | ⟨g, cap', cur, e1, e2, e3, e4⟩⟩ := HROW.out
    ·
     exact ⟨h0, .inl h3⟩
    ·
     exact ⟨h0, .inr ⟨g, cap', cur, e1, e2, (hb.block g (Array.getElem?_eq_some_iff.1 e3).1).trans e3, e4⟩⟩)
   obtain ⟨W4, hW4⟩ : ∃ W4, w3.alloc (.cells #[.int .i64 0, .int .i64 0, .string { data := #[] }] 92) = W4 := ⟨_, rfl⟩; have HC4 := Zh (show Below w3.heap.size w3 W4 from hW4 ▸ (Below.refl _ w3).alloc (Nat.le_refl _) _); have HY4 := Zh (show Blk W4 m9 92 #[.int .i64 0, .int .i64 0, .string .empty] from hm9 ▸ hW4 ▸ Blk.new w3 92 _); have y0 := HY4.out.cell 0; have y1 := HY4.out.cell 1; have y2 := HY4.out.cell 2; have g0 := HY4.out.frozen 0; have g1 := HY4.out.frozen 1; have g2 := HY4.out.frozen 2; obtain ⟨w5, hw5⟩ : ∃ w5, ((W4.setCell ⟨m9, 0, none⟩ (.int .i64 d1)).setCell ⟨m9, 1, none⟩ (.int .i64 d2)).setCell ⟨m9, 2, none⟩ (.string d3) = w5 := ⟨_, rfl⟩; have HB5 := Zh (show Blk w5 m9 92 #[.int .i64 d1, .int .i64 d2, .string d3] from hw5 ▸ (((HY4.out.set_ 0 _).set_ 1 _).set_ 2 _)); have HC5 := Zh (show Below m9 w3 w5 from hw5 ▸ (((((HC4.out.mono (Nat.le_of_eq hm9.symm)).setCell (p := ⟨m9, 0, none⟩) (Nat.le_refl _) _).setCell (p := ⟨m9, 1, none⟩) (Nat.le_refl _) _).setCell (p := ⟨m9, 2, none⟩) (Nat.le_refl _) _))); have HS3 := Zh (show B ≤ m9 from by have h1 := HW3.out.size; have h2 := HBW.out; omega); have HW5 := Zh (show Below B w w5 from HW3.out.trans (HC5.out.mono HS3.out)); have HO5 := Zh (show w5.ownsRow B 92 3 _ q (encL (cnL L q)) from by
    obtain ⟨h0, h3 | ⟨g, cap', cur, e1, e2, e3, e4⟩⟩ := HO3.out
    ·
     exact ⟨h0, .inl h3⟩
    ·
     exact ⟨h0, .inr ⟨g, cap', cur, e1, e2, (HC5.out.block g (by have := (Array.getElem?_eq_some_iff.1 e3).1; omega)).trans e3, e4⟩⟩)
   have z0 : w5.cell? ⟨m9, 0, none⟩ = some (.int .i64 d1) := HB5.out.cell 0; have z1 : w5.cell? ⟨m9, 1, none⟩ = some (.int .i64 d2) := HB5.out.cell 1; have z2 : w5.cell? ⟨m9, 2, none⟩ = some (.string d3) := HB5.out.cell 2; clear hb HC c0 c1 c2
   by_cases hde : de = 0
   ·
    have hdb : (de != 0) = false := by simpa using hde
    have HDR2 := Zh (show errL (L.drop (q + 1)) = er from by have := HDR.out; rw [if_pos hde] at this; exact this.symm); have HS5 := Zh (show B ≤ w5.heap.size from by have h1 := HW5.out.size; have h2 := HBW.out; omega); clear hde; obtain ⟨w6, hw6⟩ : ∃ w6, w5.alloc (.cells #[.int .i64 d1, .int .i64 d2, .string d3] 92) = w6 := ⟨_, rfl⟩; have HB6 := Zh (show Blk w6 w5.heap.size 92 #[.int .i64 d1, .int .i64 d2, .string d3] from hw6 ▸ Blk.new w5 92 _); have HO6 := Zh (show Fr3 w6 B _ q (cnL L q) from hw6 ▸ World.ownsRow.alloc HO5.out _); have HW6 := Zh (show Below B w w6 from hw6 ▸ HW5.out.alloc HS5.out _); have HS6 := Zh (show B ≤ w6.heap.size from by have h1 := HW6.out.size; have h2 := HBW.out; omega)
    go_wp2_with (first
     | (at_builtin; (try rw [hw5]); (try rw [hw6]); go_must (refine fr3_push _ rfl (.tmp 27) (.tmp 29) 85 rfl Tryz.underlying85 info36 B _ q (cnL L q) rfl HO6.out w5.heap.size (d1, d2, d3) rfl HB6.out (by omega) HS6.out ?_))
     | fail)
    intro V' w7 hown hgr; have HO7 := Zh hown; have HW7 := Zh (HW6.out.grown hgr HS6.out (fun j e => (HO6.out.lt j e).1)); clear hown hgr hw6 hw5 y0 y1 y2 g0 g1 g2 hW4
    go_wp2_with fail
    go_roundw
    case rel => exact ⟨q + 1, by omega, by rw [HST.out]; exact HO7.out, by go_num, HDR2.out, HW7.out⟩
    case measure => simp [intOf]; omega
   ·
    have hdb : (de != 0) = true := by simpa using hde
    have HRS := Zh (show (rv, re) = (([], de) : List F3 × Int) from by
     have h1 := HDR.out; rw [if_neg hde] at h1
     rw [← HRES.out, HEr.out _ HER.out (by rw [h1]; exact hde), h1])
    go_wp2_with fail
    try rw [hw5]
    clear hw5 y0 y1 y2 g0 g1 g2 hW4
    go_wp2
    go_ret2
    obtain ⟨rfl, rfl⟩ := Prod.mk.inj HRS.out
    exact ⟨HW5.out, none, 0, 0, rfl, fv_nil _ _ _ _⟩
  ·
   have hqn : ¬ (q : Int) < (n : Int) := by omega
   have hqq : q = n := by omega
   have HZ := Zh (show er = 0 from by rw [← HED.out, hqq, ← HN.out, List.drop_length]; rfl); have hcl : cnL L q = cnA L := by rw [hqq, ← HN.out]; exact HCL.out
   have hrow := HROW.out; have hll : (cnA L).length = q := by rw [hqq, ← HN.out]; unfold cnA; rw [List.length_map]
   rw [hcl] at hrow; obtain ⟨A1, c1, g1, rfl, hf1⟩ := fr3_fv hrow hll; have HRI := Zh (rise_any hf1 q hll (by omega)); have HCO := Zh (show canO (rise (cnA L)) = (rv, re) from by rw [← HRES.out, HOk.out (HER.out.trans HZ.out)]); have HCC := Zh (HCN1.out (HER.out.trans HZ.out)); have HVO := Zh HVA.out; have HRLe := Zh (show (rise (cnA L)).length ≤ 1000 from by have := rise_length_le (cnA L); omega); obtain ⟨O, hO⟩ : ∃ O, rise (cnA L) = O := ⟨_, rfl⟩; rw [hO] at HRI HCO HCC HVO HRLe; obtain ⟨m, hm⟩ : ∃ m, O.length = m := ⟨_, rfl⟩; have HM := Zh hm; rw [hm] at HRI; clear hql hqq hcl hrow hll hf1 hO hm HRES HEr HOk HVA HCN1
   go_wp2_with fail
   refine HRI.out.mono ?_; rintro _ w2 ⟨V2, rfl, hr2, hb⟩; obtain ⟨A2, c2, g2, rfl, hf2⟩ := fr3_fv hr2 HM.out; have HF2 := Zh hf2; have HB2 := Zh (HB.out.trans (hb.mono HBs.out)); have HS2 := Zh (show B ≤ w2.heap.size from by have h1 := hb.size; have := HBs.out; omega); have hm1 : m ≤ 1000 := by have := HRLe.out; have := HM.out; omega
   clear hr2 hb hf2
   by_cases h12 : 12 < m
   ·
    have h12I : (m : Int) > 12 := by omega
    have HR2 := Zh (show (rv, re) = (([], 2) : List F3 × Int) from by rw [← HCO.out]; unfold canO; rw [if_pos (by rw [HM.out]; exact h12)]); clear h12
    go_wp2_with fail
    go_ret2
    obtain ⟨rfl, rfl⟩ := Prod.mk.inj HR2.out
    exact ⟨HB2.out, none, 0, 0, rfl, fv_nil _ _ _ _⟩
   ·
    have h12I : ¬ (m : Int) > 12 := by omega
    have HCN := Zh (show canO O = if cnt 1 O ≠ 1 ∨ 1 < cnt 2 O ∨ 1 < cnt 5 O then ([], 1) else if 900 < (txt O).size then ([], 2) else (O, 0) from by unfold canO; rw [if_neg (by rw [HM.out]; exact h12)]); obtain ⟨g, hg⟩ : ∃ g, w2.heap.size = g := ⟨_, rfl⟩; obtain ⟨W3, hW3⟩ : ∃ W3, w2.alloc (.cells #[.int .i64 0, .int .i64 0, .int .i64 0, .int .i64 0, .int .i64 0, .int .i64 0, .int .i64 0] 113) = W3 := ⟨_, rfl⟩; have HY3 := Zh (show Blk W3 g 113 (cntA O 0) from hg ▸ hW3 ▸ Blk.new w2 113 _); have HK3 := Zh (show Below w2.heap.size w2 W3 from hW3 ▸ (Below.refl _ w2).alloc (Nat.le_refl _) _); have HG := Zh hg; clear h12
    go_wp2_with fail
    try rw [hW3]
    try simp only [hg]
    go_loopw [9] (fun i wr => ∃ j : Nat, j ≤ m ∧ i = .int .i64 (j : Int) ∧ Blk wr g 113 (cntA O j) ∧ Below w2.heap.size w2 wr) (fun i _ => m - (intOf i).toNat)
    case atStart => exact ⟨0, Nat.zero_le _, rfl, HY3.out, HK3.out⟩
    case round =>
     obtain ⟨j, hj, rfl, hblk, hb⟩ := hrel; have HBK := Zh hblk; have HKr := Zh hb; clear hblk hb hW3
     by_cases hjm : j < m
     ·
      obtain ⟨f, hf⟩ : ∃ f, O[j]? = some f := ⟨O[j]'(by rw [HM.out]; exact hjm), List.getElem?_eq_getElem _⟩; obtain ⟨rfl, _, a0, a1, a2⟩ := (HF2.out.below HKr.out).2 j f hf; simp only [Nat.zero_add] at a0 a1 a2; have hkd := may_kinds (HCC.out f (List.mem_of_getElem? hf)).1; obtain ⟨k, hk⟩ : ∃ k : Nat, f.1 = (k : Int) := ⟨f.1.toNat, by omega⟩; have hk7 : k < 7 := by omega
      have HST := Zh (cntA_step hf hk7 hk); have hcl := cntF_le (k : Int) O j; obtain ⟨cc, hcc⟩ : ∃ c, cntF (k : Int) O j = c := ⟨_, rfl⟩; have c1 : wr.cell? ⟨g, k, none⟩ = some (.int .i64 (cc : Int)) := by have := HBK.out.cell k; rw [cntA_get hk7, hcc] at this; exact this
      have f1 : wr.frozen? ⟨g, k, none⟩ = false := HBK.out.frozen k; rw [hcc] at HST hcl; rw [hk] at a0; have hjI : (j : Int) < (m : Int) := by omega
      have hkI : (k : Int) < 7 := by omega
      have hccI : (cc : Int) ≤ 1000 := by have := HM.out; omega
      clear hf hkd hcl hcc
      go_wp2_with fail
      go_roundw
      case rel => exact ⟨j + 1, by omega, by go_num, by rw [← HST.out]; exact HBK.out.set_ k _, HKr.out.setCell (p := ⟨g, k, none⟩) (Nat.le_of_eq HG.out) _⟩
      case measure => simp [intOf]; omega
     ·
      have hjn : ¬ (j : Int) < (m : Int) := by omega
      have hjj : j = m := by omega
      have hB3 := HBK.out; have hcn : ∀ k : Int, cntF k O j = cnt k O := fun k => by rw [hjj, ← HM.out]; rfl
      obtain ⟨k1, hk1⟩ : ∃ k, cnt 1 O = k := ⟨_, rfl⟩; obtain ⟨k2, hk2⟩ : ∃ k, cnt 2 O = k := ⟨_, rfl⟩; obtain ⟨k5, hk5⟩ : ∃ k, cnt 5 O = k := ⟨_, rfl⟩; have c1 : wr.cell? ⟨g, 1, none⟩ = some (.int .i64 (k1 : Int)) := by rw [← hk1, ← hcn]; exact hB3.cell 1
      have c2 : wr.cell? ⟨g, 2, none⟩ = some (.int .i64 (k2 : Int)) := by rw [← hk2, ← hcn]; exact hB3.cell 2
      have c5 : wr.cell? ⟨g, 5, none⟩ = some (.int .i64 (k5 : Int)) := by rw [← hk5, ← hcn]; exact hB3.cell 5
      rw [hk1, hk2, hk5] at HCN; have HBw := Zh (HB2.out.trans (HKr.out.mono HS2.out)); have HSw := Zh (show B ≤ wr.heap.size from by have h1 := HKr.out.size; have := HS2.out; omega); have HFw := Zh (HF2.out.below HKr.out); have HLN := Zh (rlines_any HFw.out m HM.out hm1 (fun f hf => by have := HVO.out f hf; omega)); obtain ⟨tx, htx⟩ : ∃ tx, txt O = tx := ⟨_, rfl⟩; rw [htx] at HCN HLN; clear hjm hjj hB3 hcn hk1 hk2 hk5 htx
      by_cases h1 : k1 = 1
      ·
       have b1 : ((k1 : Int) != 1) = false := by simp; omega
       by_cases h2 : 1 < k2
       ·
        have b2 : (k2 : Int) > 1 := by omega
        have HR2 := Zh (show (rv, re) = (([], 1) : List F3 × Int) from by rw [← HCO.out, HCN.out, if_pos (.inr (.inl h2))]); clear h1 h2
        go_wp2_with fail
        go_ret2
        obtain ⟨rfl, rfl⟩ := Prod.mk.inj HR2.out
        first | exact ⟨HBw.out, none, 0, 0, rfl, fv_nil _ _ _ _⟩ | exact ⟨HBw.out, none, 0, rfl, 0, fv_nil _ _ _ _⟩
       ·
        have b2 : ¬ (k2 : Int) > 1 := by omega
        by_cases h5 : 1 < k5
        ·
         have b5 : (k5 : Int) > 1 := by omega
         have HR2 := Zh (show (rv, re) = (([], 1) : List F3 × Int) from by rw [← HCO.out, HCN.out, if_pos (.inr (.inr h5))]); clear h1 h2 h5
         go_wp2_with fail
         go_ret2
         obtain ⟨rfl, rfl⟩ := Prod.mk.inj HR2.out
         first | exact ⟨HBw.out, none, 0, 0, rfl, fv_nil _ _ _ _⟩ | exact ⟨HBw.out, none, 0, rfl, 0, fv_nil _ _ _ _⟩
        ·
         have b5 : ¬ (k5 : Int) > 1 := by omega
         have HC2 := Zh (show canO O = if 900 < tx.size then ([], 2) else (O, 0) from by rw [HCN.out, if_neg (by omega)]); clear h1 h2 h5
         by_cases h9 : 900 < tx.size
         ·
          have b9 : (tx.size : Int) > 900 := by omega
          have HR2 := Zh (show (rv, re) = (([], 2) : List F3 × Int) from by rw [← HCO.out, HC2.out, if_pos h9]); clear h9
          go_wp2_with fail
          refine HLN.out.mono ?_; rintro _ w7 ⟨rfl, hb⟩; have HB7 := Zh (HBw.out.trans (hb.mono HSw.out)); clear hb
          go_wp2_with fail
          go_ret2
          obtain ⟨rfl, rfl⟩ := Prod.mk.inj HR2.out
          exact ⟨HB7.out, none, 0, 0, rfl, fv_nil _ _ _ _⟩
         ·
          have b9 : ¬ (tx.size : Int) > 900 := by omega
          have HR2 := Zh (show (rv, re) = ((O, 0) : List F3 × Int) from by rw [← HCO.out, HC2.out, if_neg h9]); clear h9
          go_wp2_with fail
          refine HLN.out.mono ?_; rintro _ w7 ⟨rfl, hb⟩; have HB7 := Zh (HBw.out.trans (hb.mono HSw.out)); have HF7 := Zh (HFw.out.below hb); clear hb
          go_wp2_with fail
          go_ret2
          obtain ⟨rfl, rfl⟩ := Prod.mk.inj HR2.out
          exact ⟨HB7.out, _, _, _, by rw [HM.out]; rfl, HF7.out⟩
      ·
       have b1 : ((k1 : Int) != 1) = true := by simp; omega
       have HR2 := Zh (show (rv, re) = (([], 1) : List F3 × Int) from by rw [← HCO.out, HCN.out, if_pos (.inl h1)]); clear h1
       go_wp2_with fail
       go_ret2
       obtain ⟨rfl, rfl⟩ := Prod.mk.inj HR2.out
       first | exact ⟨HBw.out, none, 0, 0, rfl, fv_nil _ _ _ _⟩ | exact ⟨HBw.out, none, 0, rfl, 0, fv_nil _ _ _ _⟩
end Go.Proofs.YtphijnkiiokieaaGreatDoor
namespace Go.Proofs.YtphijnkiiokieaaGreatDoor
open Go.RowKit
open Go.Lib hiding intOf
attribute [local go_sem ↓] Go.wp_at_zero Go.wp_at_succ
def lblS (l : Nat) : ByteArray := if l = 0 then ⟨#[]⟩ else if l = 1 then ⟨#[59, 104, 111, 109, 101]⟩ else if l = 2 then ⟨#[59, 119, 111, 114, 107]⟩ else ⟨#[59, 99, 101, 108, 108]⟩
def wrdS (k : Nat) : ByteArray := if k = 1 then ⟨#[110, 97, 109, 101]⟩ else if k = 2 then ⟨#[111, 114, 103]⟩ else if k = 3 then ⟨#[116, 101, 108]⟩ else if k = 4 then ⟨#[109, 97, 105, 108]⟩ else if k = 5 then ⟨#[100, 97, 121]⟩ else if k = 6 then ⟨#[110, 111, 116, 101]⟩ else ⟨#[]⟩
abbrev wordCs : Array Value := #[.string ⟨#[]⟩, .string ⟨#[110, 97, 109, 101]⟩, .string ⟨#[111, 114, 103]⟩, .string ⟨#[116, 101, 108]⟩, .string ⟨#[109, 97, 105, 108]⟩, .string ⟨#[100, 97, 121]⟩, .string ⟨#[110, 111, 116, 101]⟩]
abbrev labelCs : Array Value := #[.string ⟨#[]⟩, .string ⟨#[59, 104, 111, 109, 101]⟩, .string ⟨#[59, 119, 111, 114, 107]⟩, .string ⟨#[59, 99, 101, 108, 108]⟩]
theorem word_at : ∀ k : Nat, k < 7 → wordCs[k]? = some (.string (wrdS k)) := by
 intro k h
 rcases (show k = 0 ∨ k = 1 ∨ k = 2 ∨ k = 3 ∨ k = 4 ∨ k = 5 ∨ k = 6 by omega) with rfl | rfl | rfl | rfl | rfl | rfl | rfl <;> rfl
theorem label_at : ∀ l : Nat, l < 4 → labelCs[l]? = some (.string (lblS l)) := by
 intro l h
 rcases (show l = 0 ∨ l = 1 ∨ l = 2 ∨ l = 3 by omega) with rfl | rfl | rfl | rfl <;> rfl
theorem hd_eq : ∀ k l : Nat, 1 ≤ k → k ≤ 6 → l ≤ 3 → (wrdS k ++ lblS l).data.toList = (headW (k : Int) (l : Int)).data.toList := by
 intro k l h1 h2 h3
 rcases (show k = 1 ∨ k = 2 ∨ k = 3 ∨ k = 4 ∨ k = 5 ∨ k = 6 by omega) with rfl | rfl | rfl | rfl | rfl | rfl <;> rcases (show l = 0 ∨ l = 1 ∨ l = 2 ∨ l = 3 by omega) with rfl | rfl | rfl | rfl <;> decide +kernel
theorem wl_size (k l : Nat) : (wrdS k).size ≤ 4 ∧ (lblS l).size ≤ 5 := by
 constructor
 ·
  unfold wrdS
  repeat' split
  all_goals decide
 ·
  unfold lblS
  repeat' split
  all_goals decide
theorem pre_cut {s H : ByteArray} {k l : Nat} (h1 : 1 ≤ k) (h2 : k ≤ 6) (h3 : l ≤ 3) (hH : H = (wrdS k ++ lblS l) ++ ⟨#[58]⟩) (hz : H.size ≤ s.size) (he : s.extract 0 H.size = H) :
  cutO s = true ∧ cutH s = headW (k : Int) (l : Int) ∧ cutV s = s.extract H.size s.size := by
 have e1 : s.data.toList = H.data.toList ++ (s.extract H.size s.size).data.toList := by
  have := congrArg (fun x : ByteArray => x.data.toList) he; simp only [ByteArray.data_extract, Array.toList_extract] at this ⊢; have hl : s.data.toList.length = s.size := by simp
  have e2 : s.data.toList.take H.size = H.data.toList := by
   rw [← this]; simp
  rw [← e2]
  simp [List.take_of_length_le]
 have e3 : s.data.toList = (headW (k : Int) (l : Int)).data.toList ++ 58 :: (s.extract H.size s.size).data.toList := by
  rw [e1]; have : H.data.toList = (headW (k : Int) (l : Int)).data.toList ++ [58] := by
   rw [hH, app_list, hd_eq k l h1 h2 h3]
  rw [this]; simp
 have hcut := cut_has (headW (k : Int) (l : Int)).data.toList (s.extract H.size s.size).data.toList 58 (head_colon (by omega) (by omega) (by omega) (by omega)); rw [← e3] at hcut
 unfold cutO cutH cutV
 rw [hcut]
 exact ⟨rfl, rfl, rfl⟩
theorem cut_pre {s H : ByteArray} {k l : Nat} (h1 : 1 ≤ k) (h2 : k ≤ 6) (h3 : l ≤ 3) (hH : H = (wrdS k ++ lblS l) ++ ⟨#[58]⟩) (ho : cutO s = true) (hh : cutH s = headW (k : Int) (l : Int)) : H.size ≤ s.size ∧ s.extract 0 H.size = H := by
 have hHl : H.data.toList = (headW (k : Int) (l : Int)).data.toList ++ [58] := by rw [hH, app_list, hd_eq k l h1 h2 h3]
 by_cases hc : (58 : UInt8) ∈ s.data.toList
 ·
  obtain ⟨a, b, e, ha⟩ := first_at _ _ hc; have hcut := cut_has a b 58 ha; rw [← e] at hcut; have h4 : a = (headW (k : Int) (l : Int)).data.toList := by
   rw [← hh]; unfold cutH; rw [hcut]
  have e2 : s.data.toList = H.data.toList ++ b := by rw [e, hHl, h4]; simp
  have hl : s.data.toList.length = s.size := by simp
  have hl2 : H.data.toList.length = H.size := by simp
  refine ⟨by rw [← hl, ← hl2, e2]; simp, bs_ext ?_⟩; simp only [ByteArray.data_extract, Array.toList_extract]
  rw [e2, ← hl2]; simp
 ·
  unfold cutO at ho
  rw [cut_not _ _ hc] at ho
  cases ho
def fitsP (s : ByteArray) (k l : Int) : Bool := cutO s && fits (cutH s) (cutV s) k l
theorem parse_fit {s : ByteArray} {k l : Int} (h1 : 1 ≤ k) (h2 : k ≤ 6) (h3 : 0 ≤ l) (h4 : l ≤ 3) (hf : fitsP s k l = true) : parseF s = ⟨k, l, cutV s, 0⟩ := by
 unfold fitsP at hf
 rw [Bool.and_eq_true] at hf
 unfold parseF
 rw [if_pos hf.1]
 exact find_one h1 h2 h3 h4 hf.2
theorem parse_not {s : ByteArray} (hn : ∀ k l : Int, 1 ≤ k → k ≤ 6 → 0 ≤ l → l ≤ 3 → fitsP s k l = false) : parseF s = noF := by
 unfold parseF
 by_cases ho : cutO s = true
 ·
  rw [if_pos ho]
  refine find_none fun k l h1 h2 h3 h4 => ?_
  have := hn k l h1 h2 h3 h4
  unfold fitsP at this
  rw [ho] at this
  exact this
 ·
  rw [if_neg ho]
def noBeforeP (s : ByteArray) (k : Int) : Prop := ∀ a b : Int, 1 ≤ a → a < k → 0 ≤ b → b ≤ 3 → fitsP s a b = false
def noInP (s : ByteArray) (k l : Int) : Prop := ∀ b : Int, 0 ≤ b → b < l → fitsP s k b = false
theorem noInP.next {s : ByteArray} {k l : Int} (a : noInP s k l) (b : fitsP s k l = false) : noInP s k (l + 1) := fun x h1 h2 => by
 by_cases e : x = l
 ·
  rw [e]; exact b
 ·
  exact a x h1 (by omega)
theorem noBeforeP.next {s : ByteArray} {k : Int} (a : noBeforeP s k) (b : noInP s k 4) : noBeforeP s (k + 1) := fun x y h1 h2 h3 h4 => by
 by_cases e : x = k
 ·
  rw [e]; exact b y h3 (by omega)
 ·
  exact a x y h1 (by omega) h3 h4
theorem fits_no {s H : ByteArray} {k l : Nat} (h1 : 1 ≤ k) (h2 : k ≤ 6) (h3 : l ≤ 3) (hH : H = (wrdS k ++ lblS l) ++ ⟨#[58]⟩) (hn : ¬ (H.size ≤ s.size ∧ s.extract 0 H.size = H)) : fitsP s (k : Int) (l : Int) = false := by
 cases hf : fitsP s (k : Int) (l : Int) with
 | false => rfl
 | true =>
  unfold fitsP at hf
  rw [Bool.and_eq_true] at hf
  exact absurd (cut_pre h1 h2 h3 hH hf.1 (fits_head hf.2).1) hn
theorem fits_yes {s H : ByteArray} {k l : Nat} (h1 : 1 ≤ k) (h2 : k ≤ 6) (h3 : l ≤ 3) (hH : H = (wrdS k ++ lblS l) ++ ⟨#[58]⟩) (hz : H.size ≤ s.size) (he : s.extract 0 H.size = H) : fitsP s (k : Int) (l : Int) = mayF (k : Int) (l : Int) (s.extract H.size s.size) ∧ cutV s = s.extract H.size s.size := by
 obtain ⟨g1, g2, g3⟩ := pre_cut h1 h2 h3 hH hz he
 unfold fitsP fits
 rw [g1, g2, g3]
 exact ⟨by simp, rfl⟩
attribute [local go_sem ↓] Go.wp_at_zero Go.wp_at_succ
theorem rparse_out {cs : Array Value} (hc : cs.size = 3) {R : Ending → World → Prop} {a : Act} {w : World} {g : Nat} (h2 : a.tmps.getD 2 undef = .pointer (some ⟨g, 0, none⟩)) (hd : a.defers = []) (hg : Blk w g 92 cs)
  (hR : R (.returned (.tuple #[.agg cs, a.tmps.getD 3 undef])) w) : bodyPost Tryz.prog Tryz.f79 R .ret a w :=
 bodyPost_ret (Day.results_cell1 (fn := Tryz.f79) rfl a.tmps Tryz.prog w g 92 cs (0, 0) _ h2 hg Tryz.underlying92 (by rw [hc]; rfl)) hd hR
theorem frparse_any (s : ByteArray) (hs : s.size ≤ 1000000) (w : World) : Calls Tryz.prog 79 #[.string s] w fun e w' => e = .returned (fldV (parseF s)) ∧ Below w.heap.size w w' := by
 obtain ⟨r, hr⟩ : ∃ r, parseF s = r := ⟨_, rfl⟩; have HR := Zh hr; rw [hr]; clear hr; have HSZ := Zh hs; have hsI : (s.size : Int) ≤ 1000000 := by omega
 have HX0 := Zh ((Bxs.start w).new 92 #[.int .i64 0, .int .i64 0, .string ⟨#[]⟩]); clear hs
 go_enter Tryz.func79, Tryz.ntmps79
 go_wp2_with (first
  | (go_at_call 89; (with_reducible refine (words_any _).mono ?_); rintro _ x4 ⟨rfl, hb⟩; have HX4 := Zh (show Bxs w x4 _ from hb ▸ HX0.out.put 9 wordCs (w.heap.size + 1) (by simp)); clear hb)
  | (go_at_call 90; (with_reducible refine (labels_any _).mono ?_); rintro _ x5 ⟨rfl, hb⟩; have HX5 := Zh (show Bxs w x5 _ from hb ▸ HX4.out.put 9 labelCs x4.heap.size rfl); clear hb))
 generalize x4.heap.size = LB at *
 clear HX4 HX0
 go_loopw [6] (fun i wr => ∃ k : Nat, 1 ≤ k ∧ k ≤ 7 ∧ i = .int .i64 (k : Int) ∧ noBeforeP s (k : Int) ∧ Bxs w wr [(w.heap.size, 92, #[.int .i64 0, .int .i64 0, .string ⟨#[]⟩]), (w.heap.size + 1, 9, wordCs), (LB, 9, labelCs)]) (fun i _ => 7 - (intOf i).toNat)
 case atStart => exact ⟨1, by decide, by decide, rfl, fun a b h1 h2 _ _ => by omega, HX5.out⟩
 case round =>
  obtain ⟨k, hk1, hk7, rfl, hN, hP⟩ := hrel; have HN := Zh hN; have HP := Zh hP; clear hN hP
  by_cases hk : k ≤ 6
  ·
   have hkI : (k : Int) ≤ 6 := by omega
   go_wp2
   (try simp only [show decide ((k : Int) ≤ 6) = true from decide_eq_true hkI])
   go_loopw [7] (fun i wr => ∃ l : Nat, l ≤ 4 ∧ i = .int .i64 (l : Int) ∧ noInP s (k : Int) (l : Int) ∧ Bxs w wr [(w.heap.size, 92, #[.int .i64 0, .int .i64 0, .string ⟨#[]⟩]), (w.heap.size + 1, 9, wordCs), (LB, 9, labelCs)]) (fun i _ => 4 - (intOf i).toNat)
   case atStart => exact ⟨0, by decide, rfl, fun b h1 h2 => by omega, HP.out⟩
   case round =>
    obtain ⟨l, hl4, rfl, hI, hP⟩ := hrel; have HI := Zh hI; have HQ := Zh hP; clear hI hP
    by_cases hl : l ≤ 3
    ·
     have hlI : (l : Int) < 4 := by omega
     have hk7I : (k : Int) < 7 := by omega
     have hk0I : (0 : Int) ≤ (k : Int) := by omega
     have hl0I : (0 : Int) ≤ (l : Int) := by omega
     have cw : wr.cell? ⟨w.heap.size + 1, k, none⟩ = some (.string (wrdS k)) := ((HQ.out.get 1 rfl).cell k).trans (word_at k (by omega)); have cl : wr.cell? ⟨LB, l, none⟩ = some (.string (lblS l)) := ((HQ.out.get 2 rfl).cell l).trans (label_at l (by omega)); have HWL := Zh (wl_size k l); have HFN := Zh (fun H (hH : H = (wrdS k ++ lblS l) ++ ⟨#[58]⟩) hn => fits_no (s := s) hk1 hk (by omega) hH hn); have HFY := Zh (fun H (hH : H = (wrdS k ++ lblS l) ++ ⟨#[58]⟩) hz he => fits_yes (s := s) hk1 hk (by omega) hH hz he); obtain ⟨A, hA⟩ : ∃ A, wrdS k = A := ⟨_, rfl⟩; obtain ⟨B, hB⟩ : ∃ B, lblS l = B := ⟨_, rfl⟩; rw [hA] at HWL HFN HFY cw; rw [hB] at HWL HFN HFY cl; clear hA hB; have ha : (A.size : Int) ≤ 4 := by have := HWL.out.1; omega
     have hb : (B.size : Int) ≤ 5 := by have := HWL.out.2; omega
     have hab : ((A ++ B).size : Int) ≤ 9 := by rw [ByteArray.size_append]; omega
     go_wp2
     go_quiet (fail)
     obtain ⟨H, hH⟩ : ∃ H, (A ++ B) ++ ⟨#[58]⟩ = H := ⟨_, rfl⟩; rw [hH]; have hHI : (H.size : Int) ≤ 10 := by
      have z : ((⟨#[58]⟩ : ByteArray).size : Int) = 1 := rfl
      rw [← hH, ByteArray.size_append]; omega
     have hqd := HQ.out.drewN nq; obtain ⟨wd, hwd⟩ : ∃ wd, wr.drewN nq = wd := ⟨_, rfl⟩; rw [hwd] at hqd ⊢; have HQD := Zh hqd; clear hqd hwd; have hn0 := HFN.out H hH.symm; have hy0 := HFY.out H hH.symm; have HFN2 := Zh hn0; have HFY2 := Zh hy0; clear HFN HFY hH hab ha hb cw cl HWL hn0 hy0
     by_cases hlt : (s.size : Int) < (H.size : Int)
     ·
      have HF := Zh (show fitsP s (k : Int) (l : Int) = false from HFN2.out fun h => by have := h.1; omega); have HIN := Zh (HI.out.next HF.out)
      go_wp2
      go_roundw
      case rel => exact ⟨l + 1, by omega, by go_num, by have := HIN.out; simpa using this, HQD.out⟩
      case measure => simp [intOf]; omega
     ·
      have hge : (H.size : Int) ≤ (s.size : Int) := by omega
      have hz : H.size ≤ s.size := by omega
      by_cases heq : s.extract 0 H.size = H
      ·
       have hyes := HFY2.out hz heq; have HV := Zh hyes.2; have HY := Zh hyes.1; have dq : ((s.extract 0 H.size).toList == H.toList) = true := by rw [heq]; simp
       have hvz : (s.extract H.size s.size).size ≤ 1000000 := by rw [ByteArray.size_extract]; have := HSZ.out; omega
       have HM := Zh (fun w => frmay_any (k : Int) (l : Int) (s.extract H.size s.size) hvz w); clear hyes heq hvz HFN2 HFY2 hz
       cases hm : mayF (k : Int) (l : Int) (s.extract H.size s.size) with
       | false =>
        rw [hm] at HM; have HF := Zh (show fitsP s (k : Int) (l : Int) = false from HY.out.trans hm); have HIN := Zh (HI.out.next HF.out); clear hm
        go_wp2_with (go_at_call 91; (with_reducible refine (HM.out _).mono ?_); rintro e w3 ⟨rfl, hb⟩; have HZ := Zh ((HQD.out.alloc _).step hb); clear hb)
        go_roundw
        case rel => exact ⟨l + 1, by omega, by go_num, by have := HIN.out; simpa using this, HZ.out⟩
        case measure => simp [intOf]; omega
       | true =>
        rw [hm] at HM; have HF := Zh (show r = ⟨(k : Int), (l : Int), s.extract H.size s.size, 0⟩ by
         rw [← HR.out, parse_fit (by omega) (by omega) (by omega) (by omega) (HY.out.trans hm), HV.out])
        clear hm
        go_wp2_with (go_at_call 91; (with_reducible refine (HM.out _).mono ?_); rintro e w3 ⟨rfl, hb⟩; have HZ := Zh ((HQD.out.put 92 #[.int .i64 (k : Int), .int .i64 (l : Int), .string (s.extract H.size s.size)] wd.heap.size rfl).step hb); have a0 := (HZ.out.get 3 rfl).cell 0; have a1 := (HZ.out.get 3 rfl).cell 1; have a2 := (HZ.out.get 3 rfl).cell 2; have b0 := (HZ.out.get 0 rfl).cell 0; have b1 := (HZ.out.get 0 rfl).cell 1; have b2 := (HZ.out.get 0 rfl).cell 2; have g0 := (HZ.out.get 0 rfl).frozen 0; have g1 := (HZ.out.get 0 rfl).frozen 1; have g2 := (HZ.out.get 0 rfl).frozen 2; clear hb)
        (try simp only [Exit.inBlock, Exit.then])
        rw [HF.out]
        exact rparse_out (cs := #[.int .i64 (k : Int), .int .i64 (l : Int), .string (s.extract H.size s.size)]) (g := w.heap.size) rfl rfl rfl (put3 (HZ.out.get 0 rfl) _ _ _) ⟨rfl, bel3 HZ.out.bel (Nat.le_refl _) _ _ _⟩
      ·
       have HF := Zh (show fitsP s (k : Int) (l : Int) = false from HFN2.out fun h => heq h.2); have HIN := Zh (HI.out.next HF.out); have dq : ((s.extract 0 H.size).toList == H.toList) = false := by
        simp only [ByteArray.toList_eq, beq_eq_false_iff_ne, ne_eq]
        exact fun e => heq (bs_ext e)
       clear heq HFN2 HFY2 hz
       go_wp2
       go_roundw
       case rel => exact ⟨l + 1, by omega, by go_num, by have := HIN.out; simpa using this, HQD.out⟩
       case measure => simp [intOf]; omega
    ·
     obtain rfl : l = 4 := by omega
     have HB := Zh (HN.out.next HI.out)
     go_wp2
     go_roundw
     case rel => exact ⟨k + 1, by omega, by omega, by go_num, by have := HB.out; simpa using this, HQ.out⟩
     case measure => simp [intOf]; omega
  ·
   obtain rfl : k = 7 := by omega
   have H0 := Zh (show r = noF by rw [← HR.out]; exact parse_not fun a b h1 h2 h3 h4 => HN.out a b h1 (by omega) h3 h4); have b0 := (HP.out.get 0 rfl).cell 0; have b1 := (HP.out.get 0 rfl).cell 1; have b2 := (HP.out.get 0 rfl).cell 2; have g0 := (HP.out.get 0 rfl).frozen 0; have g1 := (HP.out.get 0 rfl).frozen 1; have g2 := (HP.out.get 0 rfl).frozen 2
   go_wp2
   (try simp only [Exit.inBlock, Exit.then])
   rw [H0.out]
   exact rparse_out (cs := #[.int .i64 0, .int .i64 0, .string ⟨#[]⟩]) (g := w.heap.size) rfl rfl rfl (put3 (HP.out.get 0 rfl) _ _ _) ⟨rfl, bel3 HP.out.bel (Nat.le_refl _) _ _ _⟩
end Go.Proofs.YtphijnkiiokieaaGreatDoor
