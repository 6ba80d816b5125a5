/- merge: only, one. -/
import Derived.Test.YtlcchkpjcekinaaGreatDoorZax
import Derived.Test.YtlcchkpjcekinaaGreatDoorZan
import Derived.Test.YtlcchkpjcekinaaGreatDoorZaq
import Derived.BigQuiet
/- The document's own card: Text, Parse, Is, Title. -/
namespace Go.Proofs.YtlcchkpjcekinaaGreatDoor
open Go.RowKit
open Go.Lib hiding intOf
open Go.Sort Go.Proofs
set_option linter.unusedVariables false
set_option linter.unusedSimpArgs false
set_option maxRecDepth 100000
set_option maxHeartbeats 2000000 in
theorem rtext_any {w : World} {A : Option Addr} {cap b off : Nat} {L : List F3} (h : Fv w A cap b off L) (hn : L.length ≤ 1000) (hv : ∀ f ∈ L, f.2.2.size ≤ 1000000) :
    Calls Tryz.prog 18 #[.slice A L.length cap] w fun e w' => e = .returned (.tuple #[.string (txtL L).1, .int .i64 (txtL L).2]) ∧ Below w.heap.size w w' := by
  have HC := Lib.hid (rfields_any h L.length rfl hn hv)
  have HSP := Lib.hid (canL_spec L)
  have HT : Hid (txtL L = if (canL L).2 = 0 then (txt (canL L).1, 0) else (⟨#[]⟩, (canL L).2)) := Lib.hid rfl
  have HV := Lib.hid (@cnA_size L)
  obtain ⟨n, hnn⟩ : ∃ n, L.length = n := ⟨_, rfl⟩
  obtain ⟨own, er, hres⟩ : ∃ own er, canL L = (own, er) := ⟨_, _, rfl⟩
  obtain ⟨tv, te, htv⟩ : ∃ tv te, txtL L = (tv, te) := ⟨_, _, rfl⟩
  rw [hres] at HC HSP HT
  rw [htv] at HT ⊢
  rw [hnn] at HC ⊢
  simp only at HC HSP HT ⊢
  clear h hn hv hres htv hnn
  go_enter Tryz.func18, Tryz.ntmps18
  go_wp2_with fail
  refine HC.out.mono ?_
  rintro e w1 ⟨hb, A1, c1, g1, rfl, hf⟩
  have HB1 := Lib.hid hb
  have HF1 := Lib.hid hf
  clear hb hf HC
  by_cases he : er = 0
  · subst he
    obtain ⟨rfl, rfl⟩ := Prod.mk.inj (HT.out.trans (if_pos rfl))
    have hsp : own = rise (cnA L) ∧ own.length ≤ 12 := by
      rcases HSP.out with ⟨_, _, h1, h2, _⟩ | ⟨h, _⟩
      · exact ⟨h1, h2⟩
      · exact absurd rfl h
    have HL := Lib.hid (rlines_any HF1.out own.length rfl (by have := hsp.2; omega) (fun f hf => by rw [hsp.1] at hf; have := HV.out f hf; omega))
    obtain ⟨m, hm⟩ : ∃ m, own.length = m := ⟨_, rfl⟩
    rw [hm] at HL ⊢
    obtain ⟨tx, htx⟩ : ∃ tx, txt own = tx := ⟨_, rfl⟩
    have HTX2 := Lib.hid htx
    rw [htx] at HL
    clear hsp hm htx
    go_wp2_with fail
    refine HL.out.mono ?_
    rintro _ w2 ⟨rfl, hb⟩
    have HB2 := Lib.hid (HB1.out.trans (hb.mono HB1.out.size))
    clear hb
    go_wp2
    go_ret2
    exact ⟨by rw [HTX2.out]; rfl, HB2.out⟩
  · obtain ⟨rfl, rfl⟩ := Prod.mk.inj (HT.out.trans (if_neg he))
    have hne : (te != 0) = true := by simpa using he
    clear he
    go_wp2_with fail
    go_ret2
    exact ⟨rfl, HB1.out⟩
theorem ext_list (s : ByteArray) (a b : Nat) : (s.extract a b).data.toList = (s.data.toList.drop a).take (b - a) := by
  simp only [ByteArray.data_extract, Array.toList_extract]
theorem line_next {s : ByteArray} {f i : Nat} (h1 : f ≤ i) (h2 : i < s.size) (h10 : (10 : UInt8) ∉ (s.extract f i).data.toList) (hc : s[i] = 10) :
    linesB (s.extract f s.size) = s.extract f (i + 1) :: linesB (s.extract (i + 1) s.size) ∧ trimN (s.extract f (i + 1)) = s.extract f i := by
  have hlen : s.data.toList.length = s.size := by rw [Array.length_toList]; rfl
  have hsp : s.data.toList.drop f = (s.data.toList.drop f).take (i - f) ++ (10 : UInt8) :: s.data.toList.drop (i + 1) := by
    have e1 := (List.take_append_drop (i - f) (s.data.toList.drop f)).symm
    rw [List.drop_drop, show f + (i - f) = i by omega] at e1
    have e2 : s.data.toList.drop i = (10 : UInt8) :: s.data.toList.drop (i + 1) := by
      rw [List.drop_eq_getElem_cons (by omega)]
      congr 1
    rw [e2] at e1
    exact e1
  rw [ext_list] at h10
  have hw : s.extract f s.size = ⟨((s.data.toList.drop f).take (i - f) ++ (10 : UInt8) :: s.data.toList.drop (i + 1)).toArray⟩ := by
    refine bs_ext ?_
    rw [ext_list]
    show _ = (s.data.toList.drop f).take (i - f) ++ (10 : UInt8) :: s.data.toList.drop (i + 1)
    rw [← hsp, List.take_of_length_le (by rw [List.length_drop, hlen]; omega)]
  have hx : s.extract f (i + 1) = ⟨((s.data.toList.drop f).take (i - f) ++ [(10 : UInt8)]).toArray⟩ := by
    refine bs_ext ?_
    rw [ext_list]
    show _ = (s.data.toList.drop f).take (i - f) ++ [(10 : UInt8)]
    have hl : ((s.data.toList.drop f).take (i - f)).length = i - f := by rw [List.length_take, List.length_drop, hlen]; omega
    conv => lhs; rw [hsp]
    rw [List.take_append, hl, List.take_of_length_le (by rw [hl]; omega), show i + 1 - f - (i - f) = 1 by omega]
    rfl
  have hr : s.extract (i + 1) s.size = ⟨(s.data.toList.drop (i + 1)).toArray⟩ := by
    refine bs_ext ?_
    rw [ext_list]
    show _ = s.data.toList.drop (i + 1)
    rw [List.take_of_length_le (by rw [List.length_drop, hlen]; omega)]
  have hi : s.extract f i = ⟨((s.data.toList.drop f).take (i - f)).toArray⟩ := by
    refine bs_ext ?_
    rw [ext_list]
  refine ⟨?_, by rw [hx, trim_line, hi]⟩
  rw [hw, linesB_cons (by rw [size_bs, List.length_append, List.length_cons]; omega), lineOf_cut _ _ h10]
  simp only
  rw [← hx, ← hr]
/-- A text without an end. -/
theorem lines_last {s : ByteArray} (h10 : (10 : UInt8) ∉ s.data.toList) (h0 : s.size ≠ 0) : linesB s = [s] := by
  rw [linesB_cons h0]
  have hi : indexByte s.data.toList 10 = -1 := by rw [← index_one]; exact index_not _ _ h10
  have e : lineOf s = (s, ⟨#[]⟩) := by unfold lineOf; rw [hi, if_neg (by decide)]
  rw [e]
  simp only
  rw [linesB_nil rfl]
/-- A card's text ends with a line's end. -/
theorem txt_ends {L : List F3} {s : ByteArray} (h : txtL L = (s, 0)) : s.data.toList.getLast? = some 10 := by
  have hc : (canL L).2 = 0 := by
    unfold txtL at h
    by_cases hh : (canL L).2 = 0
    · exact hh
    · rw [if_neg hh] at h; exact absurd (congrArg Prod.snd h) hh
  have hs : txt (canL L).1 = s := by
    unfold txtL at h
    rw [if_pos hc] at h
    exact congrArg Prod.fst h
  have hcd := card_of hc
  obtain ⟨v, rest, he, _, _⟩ := card_head hcd
  rw [← hs, txt_flat]
  show (((canL L).1.map lnB).flatten).getLast? = some 10
  have : ∀ (a : List F3) (f : F3), ((((f :: a).map lnB).flatten).getLast?) = some 10 := by
    intro a
    induction a with
    | nil => intro f; simp [lnB]
    | cons g a ih =>
      intro f
      rw [List.map_cons, List.flatten_cons, List.getLast?_append, ih g]
      rfl
  rw [he]
  exact this rest _
theorem ref_end {s : ByteArray} {f : Nat} {pre : List ByteArray} (h9 : s.size ≤ 900) (hf : f ≤ s.size) (hl : linesB s = pre ++ linesB (s.extract f s.size)) (h10 : (10 : UInt8) ∉ (s.extract f s.size).data.toList) (hok : pre.any (fun x => perr x != 0) = false) :
    parL s = if (txtL (flds pre)).2 ≠ 0 ∨ (txtL (flds pre)).1 ≠ s then ([], 1) else (flds pre, 0) := by
  by_cases h0 : (s.extract f s.size).size = 0
  · rw [linesB_nil h0, List.append_nil] at hl
    unfold parL
    rw [if_neg (by omega), hl, hok, if_neg (by decide)]
  · have hne : ∀ L, txtL L ≠ (s, 0) := fun L hL => by
      have h1 := txt_ends hL
      have hlen : s.data.toList.length = s.size := by rw [Array.length_toList]; rfl
      have hx : (s.extract f s.size).data.toList = s.data.toList.drop f := by rw [ext_list, List.take_of_length_le (by rw [List.length_drop, hlen]; omega)]
      rw [hx] at h10
      have hd : (s.data.toList.drop f) ≠ [] := fun e => h0 (by have : (s.extract f s.size).data.toList.length = 0 := by rw [hx, e]; rfl
                                                               rw [Array.length_toList] at this; exact this)
      rw [← List.take_append_drop f s.data.toList, List.getLast?_append, List.getLast?_eq_some_getLast hd] at h1
      have h2 : (s.data.toList.drop f).getLast hd = 10 := by simpa using h1
      exact h10 (h2 ▸ List.getLast_mem hd)
    have hbad : ∀ L, (txtL L).2 ≠ 0 ∨ (txtL L).1 ≠ s := fun L => by
      by_cases h1 : (txtL L).2 = 0
      · exact .inr fun h2 => hne L (Prod.ext h2 h1)
      · exact .inl h1
    rw [if_pos (hbad _)]
    unfold parL
    rw [if_neg (by omega)]
    split
    · rfl
    · rw [if_pos (hbad _)]
set_option maxHeartbeats 16000000 in
theorem rparse_any (s : ByteArray) (hs : s.size ≤ 1000000) (w : World) :
    Calls Tryz.prog 16 #[.string s] w fun e w' => Below w.heap.size w w' ∧ ∃ A' cap' g, e = .returned (.tuple #[.slice A' (parL s).1.length cap', .int .i64 (parL s).2]) ∧ Fv w' A' cap' g 0 (parL s).1 := by
  obtain ⟨B, hB⟩ : ∃ B, w.heap.size = B := ⟨_, rfl⟩
  have HBW := Lib.hid hB
  obtain ⟨pv, pe, hp⟩ : ∃ pv pe, parL s = (pv, pe) := ⟨_, _, rfl⟩
  have HP := Lib.hid hp
  rw [hp, hB]
  clear hp hB
  show Calls Tryz.prog 16 #[.string s] w fun e w' => Below B w w' ∧ ∃ A' cap' g, e = .returned (.tuple #[.slice A' pv.length cap', .int .i64 pe]) ∧ Fv w' A' cap' g 0 pv
  by_cases h9 : 900 < s.size
  · have h9I : (s.size : Int) > 900 := by omega
    have HR := Lib.hid (show (pv, pe) = (([], 1) : List F3 × Int) from by rw [← HP.out]; unfold parL; rw [if_pos h9])
    clear h9
    go_enter Tryz.func16, Tryz.ntmps16
    go_wp2_with fail
    go_ret2
    obtain ⟨rfl, rfl⟩ := Prod.mk.inj HR.out
    exact ⟨HBW.out ▸ Below.refl _ _, none, 0, 0, rfl, fv_nil _ _ _ _⟩
  · have h9I : ¬ (s.size : Int) > 900 := by omega
    have h9n : s.size ≤ 900 := by omega
    have H9 := Lib.hid h9n
    clear h9
    go_enter Tryz.func16, Tryz.ntmps16
    go_wp2_with fail
    go_loopw [4, 5, 6] (fun l fr i wr => ∃ (q f : Nat) (pre : List ByteArray), i = .int .i64 (q : Int) ∧ fr = .int .i64 (f : Int) ∧ f ≤ q ∧ q ≤ s.size ∧ (10 : UInt8) ∉ (s.extract f q).data.toList ∧ linesB s = pre ++ linesB (s.extract f s.size) ∧ pre.any (fun x => perr x != 0) = false ∧ Fr3 wr B l pre.length (flds pre) ∧ Below B w wr) (fun _ _ i _ => s.size - (intOf i).toNat)
    case atStart => exact ⟨0, 0, [], rfl, rfl, Nat.le_refl _, Nat.zero_le _, by rw [ext_list]; simp, by rw [List.nil_append]; congr 1; exact (bs_ext (by rw [ext_list, List.drop_zero, Nat.sub_zero]; exact List.take_of_length_le (by rw [Array.length_toList]; exact Nat.le_refl _))).symm, rfl, ⟨rfl, .inl ⟨rfl, rfl⟩⟩, HBW.out ▸ Below.refl _ _⟩
    case round =>
      obtain ⟨q, f, pre, rfl, rfl, hfq, hqs, h10, hln, hok, hrow, hb⟩ := hrel
      have HROW := Lib.hid hrow
      have HB := Lib.hid hb
      have HLN := Lib.hid hln
      have HOK := Lib.hid hok
      have H10 := Lib.hid h10
      have HBs := Lib.hid (show B ≤ wr.heap.size by have h1 := hb.size; have h2 := HBW.out; omega)
      have hpl : pre.length ≤ 900 := by
        have h1 := lines_len s.size s
        have h2 : (linesB s).length = pre.length + (linesB (s.extract f s.size)).length := by rw [hln, List.length_append]
        unfold linesB at h2 h1
        omega
      have HPL := Lib.hid hpl
      clear hrow hb hln hok h10
      by_cases hq1 : q < s.size
      · have hqI : (q : Int) < (s.size : Int) := by omega
        obtain ⟨c, hc⟩ : ∃ c, s[q] = c := ⟨_, rfl⟩
        have HC := Lib.hid hc
        have hc8 : (c.toNat : Int) ≤ 255 := by have := c.toNat_lt; omega
        by_cases m1 : (c.toNat : Int) = 10
        · have m1' : ((c.toNat : Int) != 10) = false := by rw [m1]; rfl
          have hcut := two_cut s f q hfq (by omega)
          have hc10 : c = 10 := by have h1 : c.toNat = 10 := by omega
                                   exact UInt8.toNat_inj.1 h1
          obtain ⟨hnx, htr⟩ := line_next hfq hq1 H10.out (by rw [HC.out, hc10])
          obtain ⟨P, hP⟩ : ∃ P, s.extract f q = P := ⟨_, rfl⟩
          obtain ⟨x, hx⟩ : ∃ x, s.extract f (q + 1) = x := ⟨_, rfl⟩
          have hPz : P.size ≤ 1000000 := by rw [← hP, ByteArray.size_extract]; omega
          rw [hP] at hcut htr
          rw [hx] at hnx htr
          have HRP := Lib.hid (frparse_any P hPz wr)
          have hfv : fldV (parseF P) = .tuple #[.agg #[.int .i64 (fof x).1, .int .i64 (fof x).2.1, .string (fof x).2.2], .int .i64 (perr x)] := by rw [← htr]; exact parse_v x
          rw [hfv] at HRP
          obtain ⟨⟨d1, d2, d3⟩, hd⟩ : ∃ g, fof x = g := ⟨_, rfl⟩
          obtain ⟨de, hde⟩ : ∃ e, perr x = e := ⟨_, rfl⟩
          rw [hd, hde] at HRP
          simp only at HRP
          have HD := Lib.hid hd
          have HDE := Lib.hid hde
          have HNX := Lib.hid (show linesB s = (pre ++ [x]) ++ linesB (s.extract (q + 1) s.size) from by rw [HLN.out, hnx]; simp)
          clear m1 hc10 hnx htr hP hx hfv hd hde
          go_wp2_with fail
          refine HRP.out.mono ?_
          rintro _ w3 ⟨rfl, hb⟩
          obtain ⟨m9, hm9⟩ : ∃ n, w3.heap.size = n := ⟨_, rfl⟩
          have HW3 := Lib.hid (show Below B w w3 from HB.out.trans (hb.mono HBs.out))
          have HO3 := Lib.hid (fr3_keep HROW.out (fun j _ hj => hb.block j hj))
          obtain ⟨W4, hW4⟩ : ∃ W4, w3.alloc (.cells #[.int .i64 0, .int .i64 0, .string { data := #[] }] 37) = W4 := ⟨_, rfl⟩
          have HC4 := Lib.hid (show Below w3.heap.size w3 W4 from hW4 ▸ (Below.refl _ w3).alloc (Nat.le_refl _) _)
          have HY4 := Lib.hid (show Blk W4 m9 37 #[.int .i64 0, .int .i64 0, .string .empty] from hm9 ▸ hW4 ▸ Blk.new w3 37 _)
          have y0 := HY4.out.cell 0
          have y1 := HY4.out.cell 1
          have y2 := HY4.out.cell 2
          have g0 := HY4.out.frozen 0
          have g1 := HY4.out.frozen 1
          have g2 := HY4.out.frozen 2
          obtain ⟨w5, hw5⟩ : ∃ w5, ((W4.setCell ⟨m9, 0, none⟩ (.int .i64 d1)).setCell ⟨m9, 1, none⟩ (.int .i64 d2)).setCell ⟨m9, 2, none⟩ (.string d3) = w5 := ⟨_, rfl⟩
          have HB5 := Lib.hid (show Blk w5 m9 37 #[.int .i64 d1, .int .i64 d2, .string d3] from hw5 ▸ (((HY4.out.set_ 0 _).set_ 1 _).set_ 2 _))
          have HC5 := Lib.hid (show Below m9 w3 w5 from hw5 ▸ (((((HC4.out.mono (Nat.le_of_eq hm9.symm)).setCell (p := ⟨m9, 0, none⟩) (Nat.le_refl _) _).setCell (p := ⟨m9, 1, none⟩) (Nat.le_refl _) _).setCell (p := ⟨m9, 2, none⟩) (Nat.le_refl _) _)))
          have HS3 := Lib.hid (show B ≤ m9 from by have h1 := HW3.out.size; have h2 := HBW.out; omega)
          have HW5 := Lib.hid (show Below B w w5 from HW3.out.trans (HC5.out.mono HS3.out))
          have HO5 := Lib.hid (fr3_keep HO3.out (fun j _ hj => HC5.out.block j (by omega)))
          have z0 : w5.cell? ⟨m9, 0, none⟩ = some (.int .i64 d1) := HB5.out.cell 0
          have z1 : w5.cell? ⟨m9, 1, none⟩ = some (.int .i64 d2) := HB5.out.cell 1
          have z2 : w5.cell? ⟨m9, 2, none⟩ = some (.string d3) := HB5.out.cell 2
          clear hb hcut
          by_cases hde : de = 0
          · have hdb : (de != 0) = false := by simpa using hde
            have HS5 := Lib.hid (show B ≤ w5.heap.size from by have h1 := HW5.out.size; have h2 := HBW.out; omega)
            obtain ⟨w6, hw6⟩ : ∃ w6, w5.alloc (.cells #[.int .i64 d1, .int .i64 d2, .string d3] 37) = w6 := ⟨_, rfl⟩
            have HB6 := Lib.hid (show Blk w6 w5.heap.size 37 #[.int .i64 d1, .int .i64 d2, .string d3] from hw6 ▸ Blk.new w5 37 _)
            have HO6 := Lib.hid (show Fr3 w6 B _ pre.length (flds pre) from hw6 ▸ World.ownsRow.alloc HO5.out _)
            have HW6 := Lib.hid (show Below B w w6 from hw6 ▸ HW5.out.alloc HS5.out _)
            have HS6 := Lib.hid (show B ≤ w6.heap.size from by have h1 := HW6.out.size; have h2 := HBW.out; omega)
            have HOK2 := Lib.hid (show (pre ++ [x]).any (fun x => perr x != 0) = false from by rw [List.any_append, HOK.out, List.any_cons, HDE.out, hde]; rfl)
            have hpI : (pre.length : Int) ≤ 900 := by omega
            clear hde
            go_wp2_with (first
              | (at_builtin; (try rw [hw5]); (try rw [hw6]); refine fr3_push _ rfl (.tmp 34) (.tmp 36) 27 rfl Tryz.underlying27 info36 B _ pre.length (flds pre) rfl HO6.out w5.heap.size (d1, d2, d3) rfl HB6.out (by omega) HS6.out ?_
                 intro V' w7 hown hgr
                 have HO7 := Lib.hid hown
                 have HW7 := Lib.hid (HW6.out.grown hgr HS6.out (fun j e => (HO6.out.lt j e).1))
                 clear hown hgr hw6 hw5 y0 y1 y2 g0 g1 g2 hW4)
              | fail)
            go_wp2_with fail
            go_roundw
            case rel => exact ⟨q + 1, q + 1, pre ++ [x], by go_num, by go_num, Nat.le_refl _, by omega, by rw [ext_list, Nat.sub_self]; simp, HNX.out, HOK2.out, by rw [flds_snoc, HD.out, List.length_append]; exact HO7.out, HW7.out⟩
            case measure => simp [intOf]; omega
          · have hdb : (de != 0) = true := by simpa using hde
            have HR := Lib.hid (show (pv, pe) = (([], 1) : List F3 × Int) from by
              rw [← HP.out]
              refine parL_bad ?_
              rw [HNX.out, List.any_append, List.any_append, List.any_cons, HDE.out, hdb]
              simp)
            go_wp2_with fail
            try rw [hw5]
            clear hw5 y0 y1 y2 g0 g1 g2 hW4
            go_wp2
            go_ret2
            obtain ⟨rfl, rfl⟩ := Prod.mk.inj HR.out
            exact ⟨HW5.out, none, 0, 0, rfl, fv_nil _ _ _ _⟩
        · have m1' : ((c.toNat : Int) != 10) = true := by simpa using m1
          have HN10 := Lib.hid (show (10 : UInt8) ∉ (s.extract f (q + 1)).data.toList from by
            have hlen : s.data.toList.length = s.size := by rw [Array.length_toList]; rfl
            have h1 := H10.out
            rw [ext_list] at h1 ⊢
            rw [show q + 1 - f = (q - f) + 1 by omega, List.take_add_one, List.getElem?_drop, show f + (q - f) = q by omega, List.getElem?_eq_getElem (by omega)]
            intro hm
            rcases List.mem_append.1 hm with hm | hm
            · exact h1 hm
            · have h2 : (10 : UInt8) = s.data.toList[q]'(by omega) := by simpa using hm
              have h3 : s.data.toList[q]'(by omega) = s[q] := rfl
              rw [h3, HC.out] at h2
              exact m1 (by rw [← h2]; rfl))
          clear m1
          go_wp2_with fail
          go_roundw
          case rel => exact ⟨q + 1, f, pre, by go_num, rfl, by omega, by omega, HN10.out, HLN.out, HOK.out, HROW.out, HB.out⟩
          case measure => simp [intOf]; omega
      · have hqn : ¬ (q : Int) < (s.size : Int) := by omega
        have hqq : q = s.size := by omega
        have HE := Lib.hid (ref_end H9.out (by omega) HLN.out (hqq ▸ H10.out) HOK.out)
        obtain ⟨A, cap, g, rfl, hFv⟩ := fr3_fv HROW.out (show (flds pre).length = pre.length from by unfold flds; rw [List.length_map])
        obtain ⟨L, hL⟩ : ∃ L, flds pre = L := ⟨_, rfl⟩
        obtain ⟨n, hn⟩ : ∃ n, pre.length = n := ⟨_, rfl⟩
        have hLn : L.length = n := by rw [← hL, ← hn]; unfold flds; rw [List.length_map]
        have hvl : ∀ g ∈ L, g.2.2.size ≤ 1000000 := fun g hg => by
          rw [← hL] at hg
          obtain ⟨x, hx, rfl⟩ := List.mem_map.1 hg
          have h1 := fof_size x
          have h2 := lines_mem_size s.size s x (by have := HLN.out; unfold linesB at this; rw [this]; exact List.mem_append_left _ hx)
          omega
        rw [hL] at hFv HE
        rw [hn]
        have HT := Lib.hid (rtext_any hFv (by rw [hLn, ← hn]; have := HPL.out; omega) hvl)
        rw [hLn] at HT
        obtain ⟨tv, te, htv⟩ : ∃ tv te, txtL L = (tv, te) := ⟨_, _, rfl⟩
        rw [htv] at HT HE
        rw [HP.out] at HE
        have HFV := Lib.hid hFv
        have HLn := Lib.hid hLn
        clear hqq hL hn hLn hvl hFv htv
        by_cases hte : te = 0
        · have b1 : (te != 0) = false := by simpa using hte
          by_cases htv : tv = s
          · have b2 : (tv.toList == s.toList) = true := by rw [htv]; exact beq_self_eq_true _
            have HR := Lib.hid (show (pv, pe) = ((L, 0) : List F3 × Int) from by rw [HE.out, if_neg (by simp only [hte, htv]; simp)])
            clear hte htv
            go_wp2_with fail
            refine HT.out.mono ?_
            rintro _ w1 ⟨rfl, hb⟩
            have HB1 := Lib.hid (HB.out.trans (hb.mono HBs.out))
            have HF1 := Lib.hid (HFV.out.below hb)
            clear hb
            go_wp2_with fail
            go_ret2
            obtain ⟨rfl, rfl⟩ := Prod.mk.inj HR.out
            first | exact ⟨HB1.out, _, _, _, by rw [HLn.out]; rfl, HF1.out⟩ | exact ⟨HB1.out, _, _, by rw [HLn.out]; rfl, _, HF1.out⟩
          · have b2 : (tv.toList == s.toList) = false := Day.ne_str htv
            have HR := Lib.hid (show (pv, pe) = (([], 1) : List F3 × Int) from by rw [HE.out, if_pos (.inr htv)])
            clear hte htv
            go_wp2_with fail
            refine HT.out.mono ?_
            rintro _ w1 ⟨rfl, hb⟩
            have HB1 := Lib.hid (HB.out.trans (hb.mono HBs.out))
            clear hb
            go_wp2_with fail
            go_ret2
            obtain ⟨rfl, rfl⟩ := Prod.mk.inj HR.out
            first | exact ⟨HB1.out, none, 0, 0, rfl, fv_nil _ _ _ _⟩ | exact ⟨HB1.out, none, 0, rfl, 0, fv_nil _ _ _ _⟩
        · have b1 : (te != 0) = true := by simpa using hte
          have HR := Lib.hid (show (pv, pe) = (([], 1) : List F3 × Int) from by rw [HE.out, if_pos (.inl hte)])
          clear hte
          go_wp2_with fail
          refine HT.out.mono ?_
          rintro _ w1 ⟨rfl, hb⟩
          have HB1 := Lib.hid (HB.out.trans (hb.mono HBs.out))
          clear hb
          go_wp2_with fail
          go_ret2
          obtain ⟨rfl, rfl⟩ := Prod.mk.inj HR.out
          first | exact ⟨HB1.out, none, 0, 0, rfl, fv_nil _ _ _ _⟩ | exact ⟨HB1.out, none, 0, rfl, 0, fv_nil _ _ _ _⟩
end Go.Proofs.YtlcchkpjcekinaaGreatDoor
/- The document's own card: Is, Title. -/
namespace Go.Proofs.YtlcchkpjcekinaaGreatDoor
open Go.RowKit
open Go.Lib hiding intOf
open Go.Sort Go.Proofs
set_option linter.unusedVariables false
set_option linter.unusedSimpArgs false
set_option maxRecDepth 100000
theorem parL_card {s : ByteArray} (h : (parL s).2 = 0) : IsCard (parL s).1 ∧ txt (parL s).1 = s := by
  rcases parL_cases s with ⟨_, ht, _⟩ | ⟨h1, _⟩
  · have hc : (canL (parL s).1).2 = 0 := by
      unfold txtL at ht
      by_cases hh : (canL (parL s).1).2 = 0
      · exact hh
      · rw [if_neg hh] at ht; exact absurd (congrArg Prod.snd ht) hh
    have hs : txt (canL (parL s).1).1 = s := by
      unfold txtL at ht
      rw [if_pos hc] at ht
      exact congrArg Prod.fst ht
    have hcd := card_of hc
    have hb := card_back hcd
    rw [hs] at hb
    have e := congrArg Prod.fst hb
    simp only at e
    rw [← e] at hcd hs
    exact ⟨hcd, hs⟩
  · rw [h1] at h; exact absurd h (by decide)
theorem ris_any (s : ByteArray) (hs : s.size ≤ 1000000) (w : World) : Calls Tryz.prog 15 #[.string s] w fun e w' => e = .returned (.bool (isC s)) ∧ Below w.heap.size w w' := by
  have HP := Lib.hid (rparse_any s hs w)
  obtain ⟨pv, pe, hp⟩ : ∃ pv pe, parL s = (pv, pe) := ⟨_, _, rfl⟩
  obtain ⟨r, hr⟩ : ∃ r, isC s = r := ⟨_, rfl⟩
  have HR := Lib.hid (show (pe == 0) = r from by rw [← hr]; unfold isC; rw [hp])
  rw [hp] at HP
  rw [hr]
  simp only at HP
  clear hp hr
  go_enter Tryz.func15, Tryz.ntmps15
  go_wp2_with fail
  refine HP.out.mono ?_
  rintro e w1 ⟨hb, A, cap, g, rfl, _⟩
  have HB := Lib.hid hb
  clear hb
  cases hh : (pe == 0) with
  | true =>
    have HR2 := Lib.hid (show true = r from hh ▸ HR.out)
    go_wp2
    go_ret
    exact ⟨by rw [← HR2.out]; rfl, HB.out⟩
  | false =>
    have HR2 := Lib.hid (show false = r from hh ▸ HR.out)
    go_wp2
    go_ret
    exact ⟨by rw [← HR2.out]; rfl, HB.out⟩
end Go.Proofs.YtlcchkpjcekinaaGreatDoor
/- merge: several, only, one; is a field among these? -/
namespace Go.Proofs.YtlcchkpjcekinaaGreatDoor
open Go.RowKit
open Go.Lib hiding intOf
open Go.Sort Go.Proofs
set_option linter.unusedVariables false
set_option linter.unusedSimpArgs false
set_option maxRecDepth 100000
def sev (k : Int) : Bool := k == 3 || k == 4 || k == 6
theorem several_any (k : Int) (w : World) : Calls Tryz.prog 33 #[.int .i64 k] w fun e w' => e = .returned (.bool (sev k)) ∧ w' = w := by
  cases h1 : (k == 3) with
  | true =>
    have H0 := Lib.hid (show sev k = true from by unfold sev; rw [h1]; rfl)
    go_enter Tryz.func33, Tryz.ntmps33
    go_wp2
    go_ret
    exact ⟨by rw [H0.out]; rfl, rfl⟩
  | false =>
    cases h2 : (k == 4) with
    | true =>
      have H0 := Lib.hid (show sev k = true from by unfold sev; rw [h1, h2]; rfl)
      go_enter Tryz.func33, Tryz.ntmps33
      go_wp2
      go_ret
      exact ⟨by rw [H0.out]; rfl, rfl⟩
    | false =>
      cases h3 : (k == 6) with
      | true =>
        have H0 := Lib.hid (show sev k = true from by unfold sev; rw [h1, h2, h3]; rfl)
        go_enter Tryz.func33, Tryz.ntmps33
        go_wp2
        go_ret
        exact ⟨by rw [H0.out]; rfl, rfl⟩
      | false =>
        have H0 := Lib.hid (show sev k = false from by unfold sev; rw [h1, h2, h3]; rfl)
        go_enter Tryz.func33, Tryz.ntmps33
        go_wp2
        go_ret
        exact ⟨by rw [H0.out]; rfl, rfl⟩
def idxF (f : F3) (L : List F3) : Int := if hasF f L = true then ((L.findIdx fun g => decide (g = f) : Nat) : Int) else -1
set_option maxHeartbeats 4000000 in
theorem index_any {w : World} {A : Option Addr} {cap b off : Nat} {L : List F3} (h : Fv w A cap b off L) (n : Nat) (hn : L.length = n) (hs : n ≤ 100000) (f : F3) : Calls Tryz.prog 52 #[.slice A n cap, .agg #[.int .i64 f.1, .int .i64 f.2.1, .string f.2.2]] w fun e w' => (∃ z : Int, e = .returned (.int .i64 z) ∧ decide (z ≥ 0) = hasF f L) ∧ Below w.heap.size w w' := by
  obtain ⟨f1, f2, f3⟩ := f
  obtain ⟨B, hB⟩ : ∃ B, w.heap.size = B := ⟨_, rfl⟩
  obtain ⟨W1, hW1⟩ : ∃ W1, w.alloc (.cells #[.int .i64 f1, .int .i64 f2, .string f3] 37) = W1 := ⟨_, rfl⟩
  have HY := Lib.hid (show Blk W1 B 37 #[.int .i64 f1, .int .i64 f2, .string f3] from hB ▸ hW1 ▸ Blk.new w 37 _)
  have HB1 := Lib.hid (show Below B w W1 from hB ▸ hW1 ▸ (Below.refl _ w).alloc (Nat.le_refl _) _)
  have HBB := Lib.hid hB
  have H1 := Lib.hid (h.below (hB.symm ▸ HB1.out))
  have HN := Lib.hid hn
  obtain ⟨r, hr⟩ : ∃ r, hasF (f1, f2, f3) L = r := ⟨_, rfl⟩
  have HR := Lib.hid hr
  rw [hr, hB]
  clear h hn hr
  go_enter Tryz.func52, Tryz.ntmps52
  go_wp2_with fail
  try rw [hW1]
  try simp only [hB]
  go_loopw [8] (fun i wr => ∃ q : Nat, q ≤ n ∧ i = .int .i64 (q : Int) ∧ hasF (f1, f2, f3) (L.take q) = false ∧ Below W1.heap.size W1 wr) (fun i _ => n - (intOf i).toNat)
  case atStart => exact ⟨0, Nat.zero_le _, rfl, rfl, Below.refl _ _⟩
  case round =>
    obtain ⟨q, hq, rfl, ht, hb⟩ := hrel
    have HT := Lib.hid ht
    have HBr := Lib.hid hb
    clear ht hb hW1 hB
    by_cases hql : q < n
    · obtain ⟨g, hg⟩ : ∃ g, L[q]? = some g := ⟨L[q]'(by rw [HN.out]; exact hql), List.getElem?_eq_getElem _⟩
      obtain ⟨rfl, _, a0, a1, a2⟩ := (H1.out.below HBr.out).2 q g hg
      have HG := Lib.hid hg
      have hY := HY.out.below HBr.out HY.out.lt
      have b0 : wr.cell? ⟨B, 0, none⟩ = some (.int .i64 f1) := hY.cell 0
      have b1 : wr.cell? ⟨B, 1, none⟩ = some (.int .i64 f2) := hY.cell 1
      have b2 : wr.cell? ⟨B, 2, none⟩ = some (.string f3) := hY.cell 2
      obtain ⟨g1, g2, g3⟩ := g
      simp only at a0 a1 a2
      have hqI : (q : Int) < (n : Int) := by omega
      clear hg hY
      by_cases he : ((f1, f2, f3) : F3) = (g1, g2, g3)
      · have heq : ∀ wq, Sem.run Tryz.prog (binOp .eql 37 (.agg #[.int .i64 f1, .int .i64 f2, .string f3]) (.agg #[.int .i64 g1, .int .i64 g2, .string g3])) wq = .ok (.bool true) wq := fun wq => by have := eqF_run (f1, f2, f3) (g1, g2, g3) wq; rw [decide_eq_true he] at this; exact this
        have H0 := Lib.hid (show true = r from by rw [← HR.out]; exact ((hasF_iff _ _).2 (he ▸ List.mem_of_getElem? HG.out)).symm)
        go_wp2_with fail
        go_quiet (fail)
        go_wp2
        go_ret
        exact ⟨⟨_, rfl, by rw [← H0.out]; exact decide_eq_true (by omega)⟩, HB1.out.trans ((show Below W1.heap.size W1 (wr.drewN nq) from ⟨HBr.out.os, HBr.out.tape, HBr.out.output, HBr.out.size, HBr.out.block⟩).mono (by have := HB1.out.size; have := HBB.out; omega))⟩
      · have heq : ∀ wq, Sem.run Tryz.prog (binOp .eql 37 (.agg #[.int .i64 f1, .int .i64 f2, .string f3]) (.agg #[.int .i64 g1, .int .i64 g2, .string g3])) wq = .ok (.bool false) wq := fun wq => by have := eqF_run (f1, f2, f3) (g1, g2, g3) wq; rw [decide_eq_false he] at this; exact this
        have HT2 := Lib.hid (show hasF (f1, f2, f3) (L.take (q + 1)) = false from by
          unfold hasF
          rw [List.take_add_one, HG.out, List.any_append]
          have := HT.out
          unfold hasF at this
          rw [this]
          have he' : ¬ ((g1, g2, g3) : F3) = (f1, f2, f3) := fun e => he e.symm
          simp [he'])
        go_wp2_with fail
        go_quiet (fail)
        go_wp2
        go_roundw
        case rel => exact ⟨q + 1, by omega, by go_num, HT2.out, ⟨HBr.out.os, HBr.out.tape, HBr.out.output, HBr.out.size, HBr.out.block⟩⟩
        case measure => simp [intOf]; omega
    · obtain rfl : q = n := by omega
      have H0 := Lib.hid (show false = r from by rw [← HR.out]; have := HT.out; rw [← HN.out, List.take_length] at this; exact this.symm)
      clear hql
      go_wp2
      go_ret
      exact ⟨⟨_, rfl, by rw [← H0.out]; rfl⟩, HB1.out.trans (HBr.out.mono (by have := HB1.out.size; have := HBB.out; omega))⟩
theorem contains_any {w : World} {A : Option Addr} {cap b off : Nat} {L : List F3} (h : Fv w A cap b off L) (n : Nat) (hn : L.length = n) (hs : n ≤ 100000) (f : F3) : Calls Tryz.prog 34 #[.slice A n cap, .agg #[.int .i64 f.1, .int .i64 f.2.1, .string f.2.2]] w fun e w' => e = .returned (.bool (hasF f L)) ∧ Below w.heap.size w w' := by
  obtain ⟨W1, hW1⟩ : ∃ W1, w.alloc (.cells #[.int .i64 f.1, .int .i64 f.2.1, .string f.2.2] 37) = W1 := ⟨_, rfl⟩
  have hY : Blk W1 w.heap.size 37 #[.int .i64 f.1, .int .i64 f.2.1, .string f.2.2] := hW1 ▸ Blk.new w 37 _
  have HB1 := Lib.hid (show Below w.heap.size w W1 from hW1 ▸ (Below.refl _ w).alloc (Nat.le_refl _) _)
  have HI := Lib.hid (index_any (h.below HB1.out) n hn hs f)
  obtain ⟨f1, f2, f3⟩ := f
  obtain ⟨r, hr⟩ : ∃ r, hasF (f1, f2, f3) L = r := ⟨_, rfl⟩
  rw [hr] at HI ⊢
  simp only at HI hY hW1 ⊢
  have y0 := hY.cell 0
  have y1 := hY.cell 1
  have y2 := hY.cell 2
  simp only [List.getElem?_toArray, List.getElem?_cons_zero, List.getElem?_cons_succ] at y0 y1 y2
  clear h hn hr hY
  go_enter Tryz.func34, Tryz.ntmps34
  go_wp2_with fail
  try rw [hW1]
  refine HI.out.mono ?_
  rintro _ w2 ⟨⟨z, rfl, hz⟩, hb⟩
  have HB2 := Lib.hid (HB1.out.trans (hb.mono HB1.out.size))
  have HZ := Lib.hid hz
  clear hb hW1 y0 y1 y2
  clear hz
  go_wp2
  go_ret
  refine ⟨?_, HB2.out⟩
  rw [← HZ.out]
  first | rfl | (congr 1; congr 1; simp)
abbrev zF : F3 := (0, 0, ⟨#[]⟩)
/-- The one field of a kind; the zero field where there is none. -/
def onlyF (k : Int) : List F3 → F3
  | [] => zF
  | f :: L => if f.1 = k then f else onlyF k L
theorem onlyF_drop {k : Int} {L : List F3} {q : Nat} {f : F3} (h : L[q]? = some f) : onlyF k (L.drop q) = if f.1 = k then f else onlyF k (L.drop (q + 1)) := by
  have hl := (List.getElem?_eq_some_iff.1 h).1
  have he := (List.getElem?_eq_some_iff.1 h).2
  rw [List.drop_eq_getElem_cons hl, he]
  rfl
def oneF (base a b : F3) : F3 × Bool := if a = base then (b, false) else (a, !decide (b = base) && !decide (a = b))
end Go.Proofs.YtlcchkpjcekinaaGreatDoor
namespace Go.Proofs.YtlcchkpjcekinaaGreatDoor
open Go.RowKit
open Go.Lib hiding intOf
open Go.Sort Go.Proofs
set_option linter.unusedVariables false
set_option linter.unusedSimpArgs false
set_option maxRecDepth 100000
theorem only_out {cs : Array Value} (hc : cs.size = 3) {R : Ending → World → Prop} {a : Act} {w : World} {g : Nat} (h2 : a.tmps.getD 4 undef = .pointer (some ⟨g, 0, none⟩)) (hd : a.defers = []) (hg : Blk w g 37 cs)
    (hR : R (.returned (.agg cs)) w) : bodyPost Tryz.prog Tryz.f22 R .ret a w := by
  refine bodyPost_ret ?_ hd hR
  have hp' : a.tmps[4]?.getD undef = .pointer (some ⟨g, 0, none⟩) := by simpa using h2
  have hr : Tryz.f22.results = #[.cell 4 37] := rfl
  simp [results, hr, hp', asAddr, run_loadVar_row w g 37 37 cs (0, 0) _ hg Tryz.underlying37 rfl (by rw [hc]; rfl)]
set_option maxHeartbeats 4000000 in
theorem only_any {w : World} {A : Option Addr} {cap b off : Nat} {L : List F3} (h : Fv w A cap b off L) (n : Nat) (hn : L.length = n) (hs : n ≤ 100000) (k : Int) (r1 r2 : Int) (r3 : ByteArray) (hr : onlyF k L = (r1, r2, r3)) : Calls Tryz.prog 22 #[.slice A n cap, .int .i64 k] w fun e w' => e = .returned (.agg #[.int .i64 r1, .int .i64 r2, .string r3]) ∧ Below w.heap.size w w' := by
  obtain ⟨B, hB⟩ : ∃ B, w.heap.size = B := ⟨_, rfl⟩
  obtain ⟨W0, hW0⟩ : ∃ W0, w.alloc (.cells #[.int .i64 0, .int .i64 0, .string { data := #[] }] 37) = W0 := ⟨_, rfl⟩
  have HY0 := Lib.hid (show Blk W0 B 37 #[.int .i64 0, .int .i64 0, .string .empty] from hB ▸ hW0 ▸ Blk.new w 37 _)
  have HB0 := Lib.hid (show Below B w W0 from hB ▸ hW0 ▸ (Below.refl _ w).alloc (Nat.le_refl _) _)
  have HBB := Lib.hid hB
  have H := Lib.hid (h.below (hB.symm ▸ HB0.out))
  have HN := Lib.hid hn
  have HR := Lib.hid hr
  rw [hB]
  clear h hn hr
  go_enter Tryz.func22, Tryz.ntmps22
  go_wp2_with fail
  try rw [hW0]
  try simp only [hB]
  go_loopw [9] (fun i wr => ∃ q : Nat, q ≤ n ∧ i = .int .i64 (q : Int) ∧ onlyF k (L.drop q) = (r1, r2, r3) ∧ Below W0.heap.size W0 wr) (fun i _ => n - (intOf i).toNat)
  case atStart => exact ⟨0, Nat.zero_le _, rfl, HR.out, Below.refl _ _⟩
  case round =>
    obtain ⟨q, hq, rfl, ht, hb⟩ := hrel
    have HT := Lib.hid ht
    have HBr := Lib.hid hb
    have HYr := Lib.hid (HY0.out.below hb HY0.out.lt)
    have HS0 := Lib.hid (show B ≤ W0.heap.size from Nat.le_of_lt HY0.out.lt)
    clear ht hb hW0 hB
    by_cases hql : q < n
    · obtain ⟨f, hf⟩ : ∃ f, L[q]? = some f := ⟨L[q]'(by rw [HN.out]; exact hql), List.getElem?_eq_getElem _⟩
      obtain ⟨rfl, _, c0, c1, c2⟩ := (H.out.below HBr.out).2 q f hf
      have HST := Lib.hid (onlyF_drop (k := k) hf)
      rw [HT.out] at HST
      obtain ⟨f1, f2, f3⟩ := f
      simp only at c0 c1 c2 HST
      have hqI : (q : Int) < (n : Int) := by omega
      obtain ⟨n9, hn9⟩ : ∃ n, wr.heap.size = n := ⟨_, rfl⟩
      obtain ⟨W1, hW1⟩ : ∃ W1, wr.alloc (.cells #[.int .i64 0, .int .i64 0, .string { data := #[] }] 37) = W1 := ⟨_, rfl⟩
      have HC1 := Lib.hid (show Below wr.heap.size wr W1 from hW1 ▸ (Below.refl _ wr).alloc (Nat.le_refl _) _)
      have HY1 := Lib.hid (show Blk W1 n9 37 #[.int .i64 0, .int .i64 0, .string .empty] from hn9 ▸ hW1 ▸ Blk.new wr 37 _)
      have y0 := HY1.out.cell 0
      have y1 := HY1.out.cell 1
      have y2 := HY1.out.cell 2
      have g0 := HY1.out.frozen 0
      have g1 := HY1.out.frozen 1
      have g2 := HY1.out.frozen 2
      obtain ⟨w2, hw2⟩ : ∃ w2, ((W1.setCell ⟨n9, 0, none⟩ (.int .i64 f1)).setCell ⟨n9, 1, none⟩ (.int .i64 f2)).setCell ⟨n9, 2, none⟩ (.string f3) = w2 := ⟨_, rfl⟩
      have HB2 := Lib.hid (show Blk w2 n9 37 #[.int .i64 f1, .int .i64 f2, .string f3] from hw2 ▸ (((HY1.out.set_ 0 _).set_ 1 _).set_ 2 _))
      have HC2 := Lib.hid (show Below n9 wr w2 from hw2 ▸ (((((HC1.out.mono (Nat.le_of_eq hn9.symm)).setCell (p := ⟨n9, 0, none⟩) (Nat.le_refl _) _).setCell (p := ⟨n9, 1, none⟩) (Nat.le_refl _) _).setCell (p := ⟨n9, 2, none⟩) (Nat.le_refl _) _)))
      have HW2 := Lib.hid (HBr.out.trans (HC2.out.mono (by have := HBr.out.size; omega)))
      have HZ2 := Lib.hid (HYr.out.below HC2.out (by have := HYr.out.lt; omega))
      have z0 : w2.cell? ⟨n9, 0, none⟩ = some (.int .i64 f1) := HB2.out.cell 0
      have z1 : w2.cell? ⟨n9, 1, none⟩ = some (.int .i64 f2) := HB2.out.cell 1
      have z2 : w2.cell? ⟨n9, 2, none⟩ = some (.string f3) := HB2.out.cell 2
      have x0 : w2.cell? ⟨B, 0, none⟩ = some (.int .i64 0) := HZ2.out.cell 0
      have x1 : w2.cell? ⟨B, 1, none⟩ = some (.int .i64 0) := HZ2.out.cell 1
      have x2 : w2.cell? ⟨B, 2, none⟩ = some (.string .empty) := HZ2.out.cell 2
      have u0 := HZ2.out.frozen 0
      have u1 := HZ2.out.frozen 1
      have u2 := HZ2.out.frozen 2
      clear hf
      by_cases he : f1 = k
      · have heb : (f1 == k) = true := by simpa using he
        have HS := Lib.hid (show (r1, r2, r3) = ((f1, f2, f3) : F3) from by have := HST.out; rwa [if_pos he] at this)
        clear he
        go_wp2_with fail
        obtain ⟨rfl, h2⟩ := Prod.mk.inj HS.out
        obtain ⟨rfl, rfl⟩ := Prod.mk.inj h2
        refine only_out (cs := #[.int .i64 r1, .int .i64 r2, .string r3]) (g := B) rfl rfl rfl (by exact ((HZ2.out.set_ 0 _).set_ 1 _).set_ 2 _) ⟨rfl, ?_⟩
        exact ((((HB0.out.trans (HW2.out.mono HS0.out)).setCell (p := ⟨B, 0, none⟩) (Nat.le_refl _) _).setCell (p := ⟨B, 1, none⟩) (Nat.le_refl _) _).setCell (p := ⟨B, 2, none⟩) (Nat.le_refl _) _)
      · have heb : (f1 == k) = false := by simpa using he
        have HS := Lib.hid (show onlyF k (L.drop (q + 1)) = (r1, r2, r3) from by have := HST.out; rw [if_neg he] at this; exact this.symm)
        clear he
        go_wp2_with fail
        try rw [hw2]
        clear hw2 y0 y1 y2 g0 g1 g2 hW1 c0 c1 c2 x0 x1 x2 u0 u1 u2
        go_wp2_with fail
        go_roundw
        case rel => exact ⟨q + 1, by omega, by go_num, HS.out, HW2.out⟩
        case measure => simp [intOf]; omega
    · obtain rfl : q = n := by omega
      have hz : (r1, r2, r3) = (zF : F3) := by rw [← HT.out, ← HN.out, List.drop_length]; rfl
      have HZZ := Lib.hid hz
      have x0 : wr.cell? ⟨B, 0, none⟩ = some (.int .i64 0) := HYr.out.cell 0
      have x1 : wr.cell? ⟨B, 1, none⟩ = some (.int .i64 0) := HYr.out.cell 1
      have x2 : wr.cell? ⟨B, 2, none⟩ = some (.string .empty) := HYr.out.cell 2
      have u0 := HYr.out.frozen 0
      have u1 := HYr.out.frozen 1
      have u2 := HYr.out.frozen 2
      clear hql hz
      go_wp2_with fail
      obtain ⟨rfl, h2⟩ := Prod.mk.inj HZZ.out
      obtain ⟨rfl, rfl⟩ := Prod.mk.inj h2
      refine only_out (cs := #[.int .i64 0, .int .i64 0, .string ⟨#[]⟩]) (g := B) rfl rfl rfl (by exact ((HYr.out.set_ 0 _).set_ 1 _).set_ 2 _) ⟨rfl, ?_⟩
      exact ((((HB0.out.trans (HBr.out.mono HS0.out)).setCell (p := ⟨B, 0, none⟩) (Nat.le_refl _) _).setCell (p := ⟨B, 1, none⟩) (Nat.le_refl _) _).setCell (p := ⟨B, 2, none⟩) (Nat.le_refl _) _)
end Go.Proofs.YtlcchkpjcekinaaGreatDoor
