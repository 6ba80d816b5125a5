/- Texts of one proof, joined. -/
import Derived.Test.YtphijnkiiokieaaGreatDoorZbf
import Derived.BigGuardPart
set_option linter.unusedVariables false
set_option linter.unusedSimpArgs false
set_option maxRecDepth 100000
set_option maxHeartbeats 80000000
namespace Go.Proofs.YtphijnkiiokieaaGreatDoor
open Go.RowKit
open Go.Lib hiding intOf
open Go.Sort Go.Proofs
theorem rtext_any {w : World} {A : Option Addr} {cap b off : Nat} {L : List F3} (h : Fv w A cap b off L) (hn : L.length ≤ 1000) (hv : ∀ f ∈ L, f.2.2.size ≤ 1000000) :
    Calls Tryz.prog 80 #[.slice A L.length cap] w fun e w' => e = .returned (.tuple #[.string (txtL L).1, .int .i64 (txtL L).2]) ∧ Below w.heap.size w w' := by
  have HC := Zh (rfields_any h L.length rfl hn hv); have HSP := Zh (canL_spec L); have HT : Hid (txtL L = if (canL L).2 = 0 then (txt (canL L).1, 0) else (⟨#[]⟩, (canL L).2)) := Zh rfl; have HV := Zh (@cnA_size L); obtain ⟨n, hnn⟩ : ∃ n, L.length = n := ⟨_, rfl⟩; obtain ⟨own, er, hres⟩ : ∃ own er, canL L = (own, er) := ⟨_, _, rfl⟩; obtain ⟨tv, te, htv⟩ : ∃ tv te, txtL L = (tv, te) := ⟨_, _, rfl⟩; rw [hres] at HC HSP HT; rw [htv] at HT ⊢; rw [hnn] at HC ⊢; simp only at HC HSP HT ⊢; clear h hn hv hres htv hnn
  go_enter Tryz.func80, Tryz.ntmps80
  go_wp2_with fail
  refine HC.out.mono ?_; rintro e w1 ⟨hb, A1, c1, g1, rfl, hf⟩; have HB1 := Zh hb; have HF1 := Zh hf; clear hb hf HC
  by_cases he : er = 0
  · subst he
    obtain ⟨rfl, rfl⟩ := Prod.mk.inj (HT.out.trans (if_pos rfl)); have hsp : own = rise (cnA L) ∧ own.length ≤ 12 := by
      rcases HSP.out with ⟨_, _, h1, h2, _⟩ | ⟨h, _⟩
      · exact ⟨h1, h2⟩
      · exact absurd rfl h
    have HL := Zh (rlines_any HF1.out own.length rfl (by have := hsp.2; omega) (fun f hf => by rw [hsp.1] at hf; have := HV.out f hf; omega)); obtain ⟨m, hm⟩ : ∃ m, own.length = m := ⟨_, rfl⟩; rw [hm] at HL ⊢; obtain ⟨tx, htx⟩ : ∃ tx, txt own = tx := ⟨_, rfl⟩; have HTX2 := Zh htx; rw [htx] at HL; clear hsp hm htx
    go_wp2_with fail
    refine HL.out.mono ?_; rintro _ w2 ⟨rfl, hb⟩; have HB2 := Zh (HB1.out.trans (hb.mono HB1.out.size)); clear hb
    go_wp2
    go_ret2
    exact ⟨by rw [HTX2.out]; rfl, HB2.out⟩
  · obtain ⟨rfl, rfl⟩ := Prod.mk.inj (HT.out.trans (if_neg he))
    have hne : (te != 0) = true := by simpa using he
    clear he
    go_wp2_with fail
    go_ret2
    exact ⟨rfl, HB1.out⟩
theorem ext_list (s : ByteArray) (a b : Nat) : (s.extract a b).data.toList = (s.data.toList.drop a).take (b - a) := by
  simp only [ByteArray.data_extract, Array.toList_extract]
theorem line_next {s : ByteArray} {f i : Nat} (h1 : f ≤ i) (h2 : i < s.size) (h10 : (10 : UInt8) ∉ (s.extract f i).data.toList) (hc : s[i] = 10) :
    linesB (s.extract f s.size) = s.extract f (i + 1) :: linesB (s.extract (i + 1) s.size) ∧ trimN (s.extract f (i + 1)) = s.extract f i := by
  have hlen : s.data.toList.length = s.size := by rw [Array.length_toList]; rfl
  have hsp : s.data.toList.drop f = (s.data.toList.drop f).take (i - f) ++ (10 : UInt8) :: s.data.toList.drop (i + 1) := by
    have e1 := (List.take_append_drop (i - f) (s.data.toList.drop f)).symm; rw [List.drop_drop, show f + (i - f) = i by omega] at e1; have e2 : s.data.toList.drop i = (10 : UInt8) :: s.data.toList.drop (i + 1) := by
      rw [List.drop_eq_getElem_cons (by omega)]
      congr 1
    rw [e2] at e1
    exact e1
  rw [ext_list] at h10; have hw : s.extract f s.size = ⟨((s.data.toList.drop f).take (i - f) ++ (10 : UInt8) :: s.data.toList.drop (i + 1)).toArray⟩ := by
    refine bs_ext ?_; rw [ext_list]
    show _ = (s.data.toList.drop f).take (i - f) ++ (10 : UInt8) :: s.data.toList.drop (i + 1)
    rw [← hsp, List.take_of_length_le (by rw [List.length_drop, hlen]; omega)]
  have hx : s.extract f (i + 1) = ⟨((s.data.toList.drop f).take (i - f) ++ [(10 : UInt8)]).toArray⟩ := by
    refine bs_ext ?_; rw [ext_list]
    show _ = (s.data.toList.drop f).take (i - f) ++ [(10 : UInt8)]
    have hl : ((s.data.toList.drop f).take (i - f)).length = i - f := by rw [List.length_take, List.length_drop, hlen]; omega
    conv => lhs; rw [hsp]
    rw [List.take_append, hl, List.take_of_length_le (by rw [hl]; omega), show i + 1 - f - (i - f) = 1 by omega]
    rfl
  have hr : s.extract (i + 1) s.size = ⟨(s.data.toList.drop (i + 1)).toArray⟩ := by
    refine bs_ext ?_; rw [ext_list]
    show _ = s.data.toList.drop (i + 1)
    rw [List.take_of_length_le (by rw [List.length_drop, hlen]; omega)]
  have hi : s.extract f i = ⟨((s.data.toList.drop f).take (i - f)).toArray⟩ := by
    refine bs_ext ?_; rw [ext_list]
  refine ⟨?_, by rw [hx, trim_line, hi]⟩; rw [hw, linesB_cons (by rw [size_bs, List.length_append, List.length_cons]; omega), lineOf_cut _ _ h10]
  simp only
  rw [← hx, ← hr]
theorem txt_ends {L : List F3} {s : ByteArray} (h : txtL L = (s, 0)) : s.data.toList.getLast? = some 10 := by
  have hc : (canL L).2 = 0 := by
    unfold txtL at h
    by_cases hh : (canL L).2 = 0
    · exact hh
    · rw [if_neg hh] at h; exact absurd (congrArg Prod.snd h) hh
  have hs : txt (canL L).1 = s := by
    unfold txtL at h
    rw [if_pos hc] at h
    exact congrArg Prod.fst h
  have hcd := card_of hc; obtain ⟨v, rest, he, _, _⟩ := card_head hcd; rw [← hs, txt_flat]
  show (((canL L).1.map lnB).flatten).getLast? = some 10
  have : ∀ (a : List F3) (f : F3), ((((f :: a).map lnB).flatten).getLast?) = some 10 := by
    intro a
    induction a with
    | nil => intro f; simp [lnB]
    | cons g a ih =>
      intro f; rw [List.map_cons, List.flatten_cons, List.getLast?_append, ih g]
      rfl
  rw [he]
  exact this rest _
theorem ref_end {s : ByteArray} {f : Nat} {pre : List ByteArray} (h9 : s.size ≤ 900) (hf : f ≤ s.size) (hl : linesB s = pre ++ linesB (s.extract f s.size)) (h10 : (10 : UInt8) ∉ (s.extract f s.size).data.toList) (hok : pre.any (fun x => perr x != 0) = false) :
    parL s = if (txtL (flds pre)).2 ≠ 0 ∨ (txtL (flds pre)).1 ≠ s then ([], 1) else (flds pre, 0) := by
  by_cases h0 : (s.extract f s.size).size = 0
  · rw [linesB_nil h0, List.append_nil] at hl
    unfold parL
    rw [if_neg (by omega), hl, hok, if_neg (by decide)]
  · have hne : ∀ L, txtL L ≠ (s, 0) := fun L hL => by
      have h1 := txt_ends hL; have hlen : s.data.toList.length = s.size := by rw [Array.length_toList]; rfl
      have hx : (s.extract f s.size).data.toList = s.data.toList.drop f := by rw [ext_list, List.take_of_length_le (by rw [List.length_drop, hlen]; omega)]
      rw [hx] at h10
      have hd : (s.data.toList.drop f) ≠ [] := fun e => h0 (by have : (s.extract f s.size).data.toList.length = 0 := by rw [hx, e]; rfl
                                                               rw [Array.length_toList] at this; exact this)
      rw [← List.take_append_drop f s.data.toList, List.getLast?_append, List.getLast?_eq_some_getLast hd] at h1; have h2 : (s.data.toList.drop f).getLast hd = 10 := by simpa using h1
      exact h10 (h2 ▸ List.getLast_mem hd)
    have hbad : ∀ L, (txtL L).2 ≠ 0 ∨ (txtL L).1 ≠ s := fun L => by
      by_cases h1 : (txtL L).2 = 0
      · exact .inr fun h2 => hne L (Prod.ext h2 h1)
      · exact .inl h1
    rw [if_pos (hbad _)]
    unfold parL
    rw [if_neg (by omega)]
    split
    · rfl
    · rw [if_pos (hbad _)]
theorem rparse_any (s : ByteArray) (hs : s.size ≤ 1000000) (w : World) :
    Calls Tryz.prog 70 #[.string s] w fun e w' => Below w.heap.size w w' ∧ ∃ A' cap' g, e = .returned (.tuple #[.slice A' (parL s).1.length cap', .int .i64 (parL s).2]) ∧ Fv w' A' cap' g 0 (parL s).1 := by
  obtain ⟨B, hB⟩ : ∃ B, w.heap.size = B := ⟨_, rfl⟩; have HBW := Zh hB; obtain ⟨pv, pe, hp⟩ : ∃ pv pe, parL s = (pv, pe) := ⟨_, _, rfl⟩; have HP := Zh hp; rw [hp, hB]; clear hp hB
  show Calls Tryz.prog 70 #[.string s] w fun e w' => Below B w w' ∧ ∃ A' cap' g, e = .returned (.tuple #[.slice A' pv.length cap', .int .i64 pe]) ∧ Fv w' A' cap' g 0 pv
  by_cases h9 : 900 < s.size
  · have h9I : (s.size : Int) > 900 := by omega
    have HR := Zh (show (pv, pe) = (([], 1) : List F3 × Int) from by rw [← HP.out]; unfold parL; rw [if_pos h9]); clear h9
    go_enter Tryz.func70, Tryz.ntmps70
    go_wp2_with fail
    go_ret2
    obtain ⟨rfl, rfl⟩ := Prod.mk.inj HR.out
    exact ⟨HBW.out ▸ Below.refl _ _, none, 0, 0, rfl, fv_nil _ _ _ _⟩
  · have h9I : ¬ (s.size : Int) > 900 := by omega
    have h9n : s.size ≤ 900 := by omega
    have H9 := Zh h9n; clear h9
    go_enter Tryz.func70, Tryz.ntmps70
    go_wp2_with fail
    go_loopw [4, 5, 6] (fun l fr i wr => ∃ (q f : Nat) (pre : List ByteArray), i = .int .i64 (q : Int) ∧ fr = .int .i64 (f : Int) ∧ f ≤ q ∧ q ≤ s.size ∧ (10 : UInt8) ∉ (s.extract f q).data.toList ∧ linesB s = pre ++ linesB (s.extract f s.size) ∧ pre.any (fun x => perr x != 0) = false ∧ Fr3 wr B l pre.length (flds pre) ∧ Below B w wr) (fun _ _ i _ => s.size - (intOf i).toNat)
    case atStart => exact ⟨0, 0, [], rfl, rfl, Nat.le_refl _, Nat.zero_le _, by rw [ext_list]; simp, by rw [List.nil_append]; congr 1; exact (bs_ext (by rw [ext_list, List.drop_zero, Nat.sub_zero]; exact List.take_of_length_le (by rw [Array.length_toList]; exact Nat.le_refl _))).symm, rfl, ⟨rfl, .inl ⟨rfl, rfl⟩⟩, HBW.out ▸ Below.refl _ _⟩
    case round =>
      obtain ⟨q, f, pre, rfl, rfl, hfq, hqs, h10, hln, hok, hrow, hb⟩ := hrel; have HROW := Zh hrow; have HB := Zh hb; have HLN := Zh hln; have HOK := Zh hok; have H10 := Zh h10; have HBs := Zh (show B ≤ wr.heap.size by have h1 := hb.size; have h2 := HBW.out; omega); have hpl : pre.length ≤ 900 := by
        have h1 := lines_len s.size s; have h2 : (linesB s).length = pre.length + (linesB (s.extract f s.size)).length := by rw [hln, List.length_append]
        unfold linesB at h2 h1
        omega
      have HPL := Zh hpl; clear hrow hb hln hok h10
      by_cases hq1 : q < s.size
      · have hqI : (q : Int) < (s.size : Int) := by omega
        obtain ⟨c, hc⟩ : ∃ c, s[q] = c := ⟨_, rfl⟩; have HC := Zh hc; have hc8 : (c.toNat : Int) ≤ 255 := by have := c.toNat_lt; omega
        by_cases m1 : (c.toNat : Int) = 10
        · have m1' : ((c.toNat : Int) != 10) = false := by rw [m1]; rfl
          have hcut := two_cut s f q hfq (by omega)
          have hc10 : c = 10 := by have h1 : c.toNat = 10 := by omega
                                   exact UInt8.toNat_inj.1 h1
          obtain ⟨hnx, htr⟩ := line_next hfq hq1 H10.out (by rw [HC.out, hc10]); obtain ⟨P, hP⟩ : ∃ P, s.extract f q = P := ⟨_, rfl⟩; obtain ⟨x, hx⟩ : ∃ x, s.extract f (q + 1) = x := ⟨_, rfl⟩; have hPz : P.size ≤ 1000000 := by rw [← hP, ByteArray.size_extract]; omega
          rw [hP] at hcut htr; rw [hx] at hnx htr; have HRP := Zh (frparse_any P hPz wr); have hfv : fldV (parseF P) = .tuple #[.agg #[.int .i64 (fof x).1, .int .i64 (fof x).2.1, .string (fof x).2.2], .int .i64 (perr x)] := by rw [← htr]; exact parse_v x
          rw [hfv] at HRP; obtain ⟨⟨d1, d2, d3⟩, hd⟩ : ∃ g, fof x = g := ⟨_, rfl⟩; obtain ⟨de, hde⟩ : ∃ e, perr x = e := ⟨_, rfl⟩; rw [hd, hde] at HRP; simp only at HRP; have HD := Zh hd; have HDE := Zh hde; have HNX := Zh (show linesB s = (pre ++ [x]) ++ linesB (s.extract (q + 1) s.size) from by rw [HLN.out, hnx]; simp); clear m1 hc10 hnx htr hP hx hfv hd hde
          go_wp2_with fail
          refine HRP.out.mono ?_; rintro _ w3 ⟨rfl, hb⟩; obtain ⟨m9, hm9⟩ : ∃ n, w3.heap.size = n := ⟨_, rfl⟩; have HW3 := Zh (show Below B w w3 from HB.out.trans (hb.mono HBs.out)); have HO3 := Zh (fr3_keep HROW.out (fun j _ hj => hb.block j hj)); obtain ⟨W4, hW4⟩ : ∃ W4, w3.alloc (.cells #[.int .i64 0, .int .i64 0, .string { data := #[] }] 92) = W4 := ⟨_, rfl⟩; have HC4 := Zh (show Below w3.heap.size w3 W4 from hW4 ▸ (Below.refl _ w3).alloc (Nat.le_refl _) _); have HY4 := Zh (show Blk W4 m9 92 #[.int .i64 0, .int .i64 0, .string .empty] from hm9 ▸ hW4 ▸ Blk.new w3 92 _); have y0 := HY4.out.cell 0; have y1 := HY4.out.cell 1; have y2 := HY4.out.cell 2; have g0 := HY4.out.frozen 0; have g1 := HY4.out.frozen 1; have g2 := HY4.out.frozen 2; obtain ⟨w5, hw5⟩ : ∃ w5, ((W4.setCell ⟨m9, 0, none⟩ (.int .i64 d1)).setCell ⟨m9, 1, none⟩ (.int .i64 d2)).setCell ⟨m9, 2, none⟩ (.string d3) = w5 := ⟨_, rfl⟩; have HB5 := Zh (show Blk w5 m9 92 #[.int .i64 d1, .int .i64 d2, .string d3] from hw5 ▸ (((HY4.out.set_ 0 _).set_ 1 _).set_ 2 _)); have HC5 := Zh (show Below m9 w3 w5 from hw5 ▸ (((((HC4.out.mono (Nat.le_of_eq hm9.symm)).setCell (p := ⟨m9, 0, none⟩) (Nat.le_refl _) _).setCell (p := ⟨m9, 1, none⟩) (Nat.le_refl _) _).setCell (p := ⟨m9, 2, none⟩) (Nat.le_refl _) _))); have HS3 := Zh (show B ≤ m9 from by have h1 := HW3.out.size; have h2 := HBW.out; omega); have HW5 := Zh (show Below B w w5 from HW3.out.trans (HC5.out.mono HS3.out)); have HO5 := Zh (fr3_keep HO3.out (fun j _ hj => HC5.out.block j (by omega))); have z0 : w5.cell? ⟨m9, 0, none⟩ = some (.int .i64 d1) := HB5.out.cell 0; have z1 : w5.cell? ⟨m9, 1, none⟩ = some (.int .i64 d2) := HB5.out.cell 1; have z2 : w5.cell? ⟨m9, 2, none⟩ = some (.string d3) := HB5.out.cell 2; clear hb hcut
          by_cases hde : de = 0
          · have hdb : (de != 0) = false := by simpa using hde
            have HS5 := Zh (show B ≤ w5.heap.size from by have h1 := HW5.out.size; have h2 := HBW.out; omega); obtain ⟨w6, hw6⟩ : ∃ w6, w5.alloc (.cells #[.int .i64 d1, .int .i64 d2, .string d3] 92) = w6 := ⟨_, rfl⟩; have HB6 := Zh (show Blk w6 w5.heap.size 92 #[.int .i64 d1, .int .i64 d2, .string d3] from hw6 ▸ Blk.new w5 92 _); have HO6 := Zh (show Fr3 w6 B _ pre.length (flds pre) from hw6 ▸ World.ownsRow.alloc HO5.out _); have HW6 := Zh (show Below B w w6 from hw6 ▸ HW5.out.alloc HS5.out _); have HS6 := Zh (show B ≤ w6.heap.size from by have h1 := HW6.out.size; have h2 := HBW.out; omega); have HOK2 := Zh (show (pre ++ [x]).any (fun x => perr x != 0) = false from by rw [List.any_append, HOK.out, List.any_cons, HDE.out, hde]; rfl); have hpI : (pre.length : Int) ≤ 900 := by omega
            clear hde
            go_wp2_with (first
              | (at_builtin; (try rw [hw5]); (try rw [hw6]); refine fr3_push _ rfl (.tmp 34) (.tmp 36) 85 rfl Tryz.underlying85 info36 B _ pre.length (flds pre) rfl HO6.out w5.heap.size (d1, d2, d3) rfl HB6.out (by omega) HS6.out ?_
                 intro V' w7 hown hgr; have HO7 := Zh hown; have HW7 := Zh (HW6.out.grown hgr HS6.out (fun j e => (HO6.out.lt j e).1))
                 clear hown hgr hw6 hw5 y0 y1 y2 g0 g1 g2 hW4)
              | fail)
            go_wp2_with fail
            go_roundw
            case rel => exact ⟨q + 1, q + 1, pre ++ [x], by go_num, by go_num, Nat.le_refl _, by omega, by rw [ext_list, Nat.sub_self]; simp, HNX.out, HOK2.out, by rw [flds_snoc, HD.out, List.length_append]; exact HO7.out, HW7.out⟩
            case measure => simp [intOf]; omega
          · have hdb : (de != 0) = true := by simpa using hde
            have HR := Zh (show (pv, pe) = (([], 1) : List F3 × Int) from by
              rw [← HP.out]; refine parL_bad ?_; rw [HNX.out, List.any_append, List.any_append, List.any_cons, HDE.out, hdb]
              simp)
            go_wp2_with fail
            try rw [hw5]
            clear hw5 y0 y1 y2 g0 g1 g2 hW4
            go_wp2
            go_ret2
            obtain ⟨rfl, rfl⟩ := Prod.mk.inj HR.out
            exact ⟨HW5.out, none, 0, 0, rfl, fv_nil _ _ _ _⟩
        · have m1' : ((c.toNat : Int) != 10) = true := by simpa using m1
          have HN10 := Zh (show (10 : UInt8) ∉ (s.extract f (q + 1)).data.toList from by
            have hlen : s.data.toList.length = s.size := by rw [Array.length_toList]; rfl
            have h1 := H10.out; rw [ext_list] at h1 ⊢; rw [show q + 1 - f = (q - f) + 1 by omega, List.take_add_one, List.getElem?_drop, show f + (q - f) = q by omega, List.getElem?_eq_getElem (by omega)]; intro hm
            rcases List.mem_append.1 hm with hm | hm
            · exact h1 hm
            · have h2 : (10 : UInt8) = s.data.toList[q]'(by omega) := by simpa using hm
              have h3 : s.data.toList[q]'(by omega) = s[q] := rfl; rw [h3, HC.out] at h2
              exact m1 (by rw [← h2]; rfl))
          clear m1
          go_wp2_with fail
          go_roundw
          case rel => exact ⟨q + 1, f, pre, by go_num, rfl, by omega, by omega, HN10.out, HLN.out, HOK.out, HROW.out, HB.out⟩
          case measure => simp [intOf]; omega
      · have hqn : ¬ (q : Int) < (s.size : Int) := by omega
        have hqq : q = s.size := by omega
        have HE := Zh (ref_end H9.out (by omega) HLN.out (hqq ▸ H10.out) HOK.out); obtain ⟨A, cap, g, rfl, hFv⟩ := fr3_fv HROW.out (show (flds pre).length = pre.length from by unfold flds; rw [List.length_map]); obtain ⟨L, hL⟩ : ∃ L, flds pre = L := ⟨_, rfl⟩; obtain ⟨n, hn⟩ : ∃ n, pre.length = n := ⟨_, rfl⟩; have hLn : L.length = n := by rw [← hL, ← hn]; unfold flds; rw [List.length_map]
        have hvl : ∀ g ∈ L, g.2.2.size ≤ 1000000 := fun g hg => by
          rw [← hL] at hg; obtain ⟨x, hx, rfl⟩ := List.mem_map.1 hg; have h1 := fof_size x; have h2 := lines_mem_size s.size s x (by have := HLN.out; unfold linesB at this; rw [this]; exact List.mem_append_left _ hx)
          omega
        rw [hL] at hFv HE; rw [hn]; have HT := Zh (rtext_any hFv (by rw [hLn, ← hn]; have := HPL.out; omega) hvl); rw [hLn] at HT; obtain ⟨tv, te, htv⟩ : ∃ tv te, txtL L = (tv, te) := ⟨_, _, rfl⟩; rw [htv] at HT HE; rw [HP.out] at HE; have HFV := Zh hFv; have HLn := Zh hLn; clear hqq hL hn hLn hvl hFv htv
        by_cases hte : te = 0
        · have b1 : (te != 0) = false := by simpa using hte
          by_cases htv : tv = s
          · have b2 : (tv.toList == s.toList) = true := by rw [htv]; exact beq_self_eq_true _
            have HR := Zh (show (pv, pe) = ((L, 0) : List F3 × Int) from by rw [HE.out, if_neg (by simp only [hte, htv]; simp)]); clear hte htv
            go_wp2_with fail
            refine HT.out.mono ?_; rintro _ w1 ⟨rfl, hb⟩; have HB1 := Zh (HB.out.trans (hb.mono HBs.out)); have HF1 := Zh (HFV.out.below hb); clear hb
            go_wp2_with fail
            go_ret2
            obtain ⟨rfl, rfl⟩ := Prod.mk.inj HR.out
            first | exact ⟨HB1.out, _, _, _, by rw [HLn.out]; rfl, HF1.out⟩ | exact ⟨HB1.out, _, _, by rw [HLn.out]; rfl, _, HF1.out⟩
          · have b2 : (tv.toList == s.toList) = false := Day.ne_str htv
            have HR := Zh (show (pv, pe) = (([], 1) : List F3 × Int) from by rw [HE.out, if_pos (.inr htv)]); clear hte htv
            go_wp2_with fail
            refine HT.out.mono ?_; rintro _ w1 ⟨rfl, hb⟩; have HB1 := Zh (HB.out.trans (hb.mono HBs.out)); clear hb
            go_wp2_with fail
            go_ret2
            obtain ⟨rfl, rfl⟩ := Prod.mk.inj HR.out
            first | exact ⟨HB1.out, none, 0, 0, rfl, fv_nil _ _ _ _⟩ | exact ⟨HB1.out, none, 0, rfl, 0, fv_nil _ _ _ _⟩
        · have b1 : (te != 0) = true := by simpa using hte
          have HR := Zh (show (pv, pe) = (([], 1) : List F3 × Int) from by rw [HE.out, if_pos (.inl hte)]); clear hte
          go_wp2_with fail
          refine HT.out.mono ?_; rintro _ w1 ⟨rfl, hb⟩; have HB1 := Zh (HB.out.trans (hb.mono HBs.out)); clear hb
          go_wp2_with fail
          go_ret2
          obtain ⟨rfl, rfl⟩ := Prod.mk.inj HR.out
          first | exact ⟨HB1.out, none, 0, 0, rfl, fv_nil _ _ _ _⟩ | exact ⟨HB1.out, none, 0, rfl, 0, fv_nil _ _ _ _⟩
theorem ris_any (s : ByteArray) (hs : s.size ≤ 1000000) (w : World) : Calls Tryz.prog 50 #[.string s] w fun e w' => e = .returned (.bool (isC s)) ∧ Below w.heap.size w w' := by
 have HP := Zh (rparse_any s hs w); obtain ⟨pv, pe, hp⟩ : ∃ pv pe, parL s = (pv, pe) := ⟨_, _, rfl⟩; obtain ⟨r, hr⟩ : ∃ r, isC s = r := ⟨_, rfl⟩; have HR := Zh (show (pe == 0) = r from by rw [← hr]; unfold isC; rw [hp]); rw [hp] at HP; rw [hr]; simp only at HP; clear hp hr
 go_enter Tryz.func50, Tryz.ntmps50
 go_wp2_with fail
 refine HP.out.mono ?_; rintro e w1 ⟨hb, A, cap, g, rfl, _⟩; have HB := Zh hb; clear hb
 cases hh : (pe == 0) with
 | true =>
  have HR2 := Zh (show true = r from hh ▸ HR.out)
  go_wp2
  go_ret
  exact ⟨by rw [← HR2.out]; rfl, HB.out⟩
 | false =>
  have HR2 := Zh (show false = r from hh ▸ HR.out)
  go_wp2
  go_ret
  exact ⟨by rw [← HR2.out]; rfl, HB.out⟩
end Go.Proofs.YtphijnkiiokieaaGreatDoor
namespace Go.Proofs.YtphijnkiiokieaaGreatDoor
open Go.RowKit
section
variable {P : Program} {ops : Array Oper} {Q : Exit → Act → World → Prop}
theorem letsOut_then {K : Act → World → Prop} (h : LetsOut (Exit.then K Q)) : LetsOut Q := by
 obtain ⟨a, w, h⟩ := h
 exact ⟨a, w, h⟩
theorem oper_then {o : Oper} {a : Act} {w : World} {K K' K2 : Act → World → Prop} (h : ∀ a w, K a w → K' a w)
  (hh : o.wp P a w K (Exit.then K2 Q)) : o.wp P a w K' Q := by
 unfold Oper.wp at *
 generalize (execOp a.eval o).run P w = r at *
 cases r with
 | ok n w' =>
  cases n <;> simp only [Oper.upon] at hh ⊢ <;>
   first
    | exact h _ _ hh
    | exact Calls.mono hh (fun e w'' he => by cases e <;> first | exact h _ _ he | exact letsOut_then he | exact he)
    | exact Rows.mono hh (fun _ _ he => h _ _ he)
 | halt x w' => cases x <;> simp only [Oper.upon] at hh ⊢ <;> exact hh
theorem wpList_then (l2 : List Oper) : ∀ (l1 : List Oper) (a : Act) (w : World), wpList P ops (Exit.then (wpList P ops Q l2) Q) l1 a w → wpList P ops Q (l1 ++ l2) a w
 | [], a, w, h => h
 | o :: l, a, w, h => by
  rw [List.cons_append]
  unfold wpList at h ⊢
  split
  ·
   rename_i hw
   rw [if_pos hw] at h
   rcases h with h | h
   ·
    exact .inl (oper_then (fun a w => wpList_then l2 l a w) h)
   ·
    exact .inr ⟨h.1, letsOut_then h.2⟩
  ·
   rename_i hw
   rw [if_neg hw] at h
   exact wpList_then l2 l _ _ h
theorem wpList_piece {l : List Oper} (n : Nat) {a : Act} {w : World} (T : Act → World → Act → World → Prop)
  (h1 : ∀ K : Act → World → Prop, (∀ a' w', T a w a' w' → K a' w') → wpList P ops (Exit.then K Q) (l.take n) a w)
  (h2 : ∀ a' w', T a w a' w' → wpList P ops Q (l.drop n) a' w') : wpList P ops Q l a w := by
 have := wpList_then (Q := Q) (P := P) (ops := ops) (l.drop n) (l.take n) a w (h1 _ h2)
 rwa [List.take_append_drop] at this
end
end Go.Proofs.YtphijnkiiokieaaGreatDoor
