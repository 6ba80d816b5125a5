/- What the listed variables give the walks: utf8's two tables, the table of powers of ten; and that the program's own start meets the condition. -/
import Derived.Test.YtdfalfmeejgcoaaGreatDoorZax
import Derived.Test.YtdfalfmeejgcoaaGreatDoorZay
import Derived.Test.YtdfalfmeejgcoaaGreatDoorZaq
import Derived.Test.YtdfalfmeejgcoaaGreatDoorZaf
import Derived.Handed
import Derived.HandedShaped
import Derived.Shelf.Vars
import Derived.KernelRfl
import Derived.Test.YtdfalfmeejgcoaaGreatDoorRows
import Derived.Test.YtdfalfmeejgcoaaGreatDoorZai
import Derived.LaidMore
import Derived.PinnedBridge
import Derived.Lay
import Derived.Lib.LaidIn
import Derived.Lib.LaidTab
import Derived.Lib.LaidU8T
import Derived.MakeChecks
import Derived.Stop.Joined
import Derived.Stop.LaidErr
/- The document's own card: Text, Parse, Is, Title. -/
namespace Go.Proofs.YtdfalfmeejgcoaaGreatDoor
open Go.RowKit
open Go.Lib hiding intOf
open Go.Sort Go.Proofs
set_option linter.unusedVariables false
set_option linter.unusedSimpArgs false
set_option maxRecDepth 100000
set_option maxHeartbeats 2000000 in
theorem rtext_any {w : World} {A : Option Addr} {cap b off : Nat} {L : List F3} (h : Fv w A cap b off L) (hn : L.length ≤ 1000) (hv : ∀ f ∈ L, f.2.2.size ≤ 1000000) :
    Calls Tryz.prog 12 #[.slice A L.length cap] w fun e w' => e = .returned (.tuple #[.string (txtL L).1, .int .i64 (txtL L).2]) ∧ Below w.heap.size w w' := by
  have HC := Lib.hid (rfields_any h L.length rfl hn hv)
  have HSP := Lib.hid (canL_spec L)
  have HT : Hid (txtL L = if (canL L).2 = 0 then (txt (canL L).1, 0) else (⟨#[]⟩, (canL L).2)) := Lib.hid rfl
  have HV := Lib.hid (@cnA_size L)
  obtain ⟨n, hnn⟩ : ∃ n, L.length = n := ⟨_, rfl⟩
  obtain ⟨own, er, hres⟩ : ∃ own er, canL L = (own, er) := ⟨_, _, rfl⟩
  obtain ⟨tv, te, htv⟩ : ∃ tv te, txtL L = (tv, te) := ⟨_, _, rfl⟩
  rw [hres] at HC HSP HT
  rw [htv] at HT ⊢
  rw [hnn] at HC ⊢
  simp only at HC HSP HT ⊢
  clear h hn hv hres htv hnn
  go_enter Tryz.func12, Tryz.ntmps12
  go_wp2_with fail
  refine HC.out.mono ?_
  rintro e w1 ⟨hb, A1, c1, g1, rfl, hf⟩
  have HB1 := Lib.hid hb
  have HF1 := Lib.hid hf
  clear hb hf HC
  by_cases he : er = 0
  · subst he
    obtain ⟨rfl, rfl⟩ := Prod.mk.inj (HT.out.trans (if_pos rfl))
    have hsp : own = rise (cnA L) ∧ own.length ≤ 12 := by
      rcases HSP.out with ⟨_, _, h1, h2, _⟩ | ⟨h, _⟩
      · exact ⟨h1, h2⟩
      · exact absurd rfl h
    have HL := Lib.hid (rlines_any HF1.out own.length rfl (by have := hsp.2; omega) (fun f hf => by rw [hsp.1] at hf; have := HV.out f hf; omega))
    obtain ⟨m, hm⟩ : ∃ m, own.length = m := ⟨_, rfl⟩
    rw [hm] at HL ⊢
    obtain ⟨tx, htx⟩ : ∃ tx, txt own = tx := ⟨_, rfl⟩
    have HTX2 := Lib.hid htx
    rw [htx] at HL
    clear hsp hm htx
    go_wp2_with fail
    refine HL.out.mono ?_
    rintro _ w2 ⟨rfl, hb⟩
    have HB2 := Lib.hid (HB1.out.trans (hb.mono HB1.out.size))
    clear hb
    go_wp2
    go_ret2
    exact ⟨by rw [HTX2.out]; rfl, HB2.out⟩
  · obtain ⟨rfl, rfl⟩ := Prod.mk.inj (HT.out.trans (if_neg he))
    have hne : (te != 0) = true := by simpa using he
    clear he
    go_wp2_with fail
    go_ret2
    exact ⟨rfl, HB1.out⟩
theorem ext_list (s : ByteArray) (a b : Nat) : (s.extract a b).data.toList = (s.data.toList.drop a).take (b - a) := by
  simp only [ByteArray.data_extract, Array.toList_extract]
theorem line_next {s : ByteArray} {f i : Nat} (h1 : f ≤ i) (h2 : i < s.size) (h10 : (10 : UInt8) ∉ (s.extract f i).data.toList) (hc : s[i] = 10) :
    linesB (s.extract f s.size) = s.extract f (i + 1) :: linesB (s.extract (i + 1) s.size) ∧ trimN (s.extract f (i + 1)) = s.extract f i := by
  have hlen : s.data.toList.length = s.size := by rw [Array.length_toList]; rfl
  have hsp : s.data.toList.drop f = (s.data.toList.drop f).take (i - f) ++ (10 : UInt8) :: s.data.toList.drop (i + 1) := by
    have e1 := (List.take_append_drop (i - f) (s.data.toList.drop f)).symm
    rw [List.drop_drop, show f + (i - f) = i by omega] at e1
    have e2 : s.data.toList.drop i = (10 : UInt8) :: s.data.toList.drop (i + 1) := by
      rw [List.drop_eq_getElem_cons (by omega)]
      congr 1
    rw [e2] at e1
    exact e1
  rw [ext_list] at h10
  have hw : s.extract f s.size = ⟨((s.data.toList.drop f).take (i - f) ++ (10 : UInt8) :: s.data.toList.drop (i + 1)).toArray⟩ := by
    refine bs_ext ?_
    rw [ext_list]
    show _ = (s.data.toList.drop f).take (i - f) ++ (10 : UInt8) :: s.data.toList.drop (i + 1)
    rw [← hsp, List.take_of_length_le (by rw [List.length_drop, hlen]; omega)]
  have hx : s.extract f (i + 1) = ⟨((s.data.toList.drop f).take (i - f) ++ [(10 : UInt8)]).toArray⟩ := by
    refine bs_ext ?_
    rw [ext_list]
    show _ = (s.data.toList.drop f).take (i - f) ++ [(10 : UInt8)]
    have hl : ((s.data.toList.drop f).take (i - f)).length = i - f := by rw [List.length_take, List.length_drop, hlen]; omega
    conv => lhs; rw [hsp]
    rw [List.take_append, hl, List.take_of_length_le (by rw [hl]; omega), show i + 1 - f - (i - f) = 1 by omega]
    rfl
  have hr : s.extract (i + 1) s.size = ⟨(s.data.toList.drop (i + 1)).toArray⟩ := by
    refine bs_ext ?_
    rw [ext_list]
    show _ = s.data.toList.drop (i + 1)
    rw [List.take_of_length_le (by rw [List.length_drop, hlen]; omega)]
  have hi : s.extract f i = ⟨((s.data.toList.drop f).take (i - f)).toArray⟩ := by
    refine bs_ext ?_
    rw [ext_list]
  refine ⟨?_, by rw [hx, trim_line, hi]⟩
  rw [hw, linesB_cons (by rw [size_bs, List.length_append, List.length_cons]; omega), lineOf_cut _ _ h10]
  simp only
  rw [← hx, ← hr]
/-- A text without an end. -/
theorem lines_last {s : ByteArray} (h10 : (10 : UInt8) ∉ s.data.toList) (h0 : s.size ≠ 0) : linesB s = [s] := by
  rw [linesB_cons h0]
  have hi : indexByte s.data.toList 10 = -1 := by rw [← index_one]; exact index_not _ _ h10
  have e : lineOf s = (s, ⟨#[]⟩) := by unfold lineOf; rw [hi, if_neg (by decide)]
  rw [e]
  simp only
  rw [linesB_nil rfl]
/-- A card's text ends with a line's end. -/
theorem txt_ends {L : List F3} {s : ByteArray} (h : txtL L = (s, 0)) : s.data.toList.getLast? = some 10 := by
  have hc : (canL L).2 = 0 := by
    unfold txtL at h
    by_cases hh : (canL L).2 = 0
    · exact hh
    · rw [if_neg hh] at h; exact absurd (congrArg Prod.snd h) hh
  have hs : txt (canL L).1 = s := by
    unfold txtL at h
    rw [if_pos hc] at h
    exact congrArg Prod.fst h
  have hcd := card_of hc
  obtain ⟨v, rest, he, _, _⟩ := card_head hcd
  rw [← hs, txt_flat]
  show (((canL L).1.map lnB).flatten).getLast? = some 10
  have : ∀ (a : List F3) (f : F3), ((((f :: a).map lnB).flatten).getLast?) = some 10 := by
    intro a
    induction a with
    | nil => intro f; simp [lnB]
    | cons g a ih =>
      intro f
      rw [List.map_cons, List.flatten_cons, List.getLast?_append, ih g]
      rfl
  rw [he]
  exact this rest _
theorem ref_end {s : ByteArray} {f : Nat} {pre : List ByteArray} (h9 : s.size ≤ 900) (hf : f ≤ s.size) (hl : linesB s = pre ++ linesB (s.extract f s.size)) (h10 : (10 : UInt8) ∉ (s.extract f s.size).data.toList) (hok : pre.any (fun x => perr x != 0) = false) :
    parL s = if (txtL (flds pre)).2 ≠ 0 ∨ (txtL (flds pre)).1 ≠ s then ([], 1) else (flds pre, 0) := by
  by_cases h0 : (s.extract f s.size).size = 0
  · rw [linesB_nil h0, List.append_nil] at hl
    unfold parL
    rw [if_neg (by omega), hl, hok, if_neg (by decide)]
  · have hne : ∀ L, txtL L ≠ (s, 0) := fun L hL => by
      have h1 := txt_ends hL
      have hlen : s.data.toList.length = s.size := by rw [Array.length_toList]; rfl
      have hx : (s.extract f s.size).data.toList = s.data.toList.drop f := by rw [ext_list, List.take_of_length_le (by rw [List.length_drop, hlen]; omega)]
      rw [hx] at h10
      have hd : (s.data.toList.drop f) ≠ [] := fun e => h0 (by have : (s.extract f s.size).data.toList.length = 0 := by rw [hx, e]; rfl
                                                               rw [Array.length_toList] at this; exact this)
      rw [← List.take_append_drop f s.data.toList, List.getLast?_append, List.getLast?_eq_some_getLast hd] at h1
      have h2 : (s.data.toList.drop f).getLast hd = 10 := by simpa using h1
      exact h10 (h2 ▸ List.getLast_mem hd)
    have hbad : ∀ L, (txtL L).2 ≠ 0 ∨ (txtL L).1 ≠ s := fun L => by
      by_cases h1 : (txtL L).2 = 0
      · exact .inr fun h2 => hne L (Prod.ext h2 h1)
      · exact .inl h1
    rw [if_pos (hbad _)]
    unfold parL
    rw [if_neg (by omega)]
    split
    · rfl
    · rw [if_pos (hbad _)]
set_option maxHeartbeats 16000000 in
theorem rparse_any (s : ByteArray) (hs : s.size ≤ 1000000) (w : World) :
    Calls Tryz.prog 14 #[.string s] w fun e w' => Below w.heap.size w w' ∧ ∃ A' cap' g, e = .returned (.tuple #[.slice A' (parL s).1.length cap', .int .i64 (parL s).2]) ∧ Fv w' A' cap' g 0 (parL s).1 := by
  obtain ⟨B, hB⟩ : ∃ B, w.heap.size = B := ⟨_, rfl⟩
  have HBW := Lib.hid hB
  obtain ⟨pv, pe, hp⟩ : ∃ pv pe, parL s = (pv, pe) := ⟨_, _, rfl⟩
  have HP := Lib.hid hp
  rw [hp, hB]
  clear hp hB
  show Calls Tryz.prog 14 #[.string s] w fun e w' => Below B w w' ∧ ∃ A' cap' g, e = .returned (.tuple #[.slice A' pv.length cap', .int .i64 pe]) ∧ Fv w' A' cap' g 0 pv
  by_cases h9 : 900 < s.size
  · have h9I : (s.size : Int) > 900 := by omega
    have HR := Lib.hid (show (pv, pe) = (([], 1) : List F3 × Int) from by rw [← HP.out]; unfold parL; rw [if_pos h9])
    clear h9
    go_enter Tryz.func14, Tryz.ntmps14
    go_wp2_with fail
    go_ret2
    obtain ⟨rfl, rfl⟩ := Prod.mk.inj HR.out
    exact ⟨HBW.out ▸ Below.refl _ _, none, 0, 0, rfl, fv_nil _ _ _ _⟩
  · have h9I : ¬ (s.size : Int) > 900 := by omega
    have h9n : s.size ≤ 900 := by omega
    have H9 := Lib.hid h9n
    clear h9
    go_enter Tryz.func14, Tryz.ntmps14
    go_wp2_with fail
    go_loopw [4, 5, 6] (fun l fr i wr => ∃ (q f : Nat) (pre : List ByteArray), i = .int .i64 (q : Int) ∧ fr = .int .i64 (f : Int) ∧ f ≤ q ∧ q ≤ s.size ∧ (10 : UInt8) ∉ (s.extract f q).data.toList ∧ linesB s = pre ++ linesB (s.extract f s.size) ∧ pre.any (fun x => perr x != 0) = false ∧ Fr3 wr B l pre.length (flds pre) ∧ Below B w wr) (fun _ _ i _ => s.size - (intOf i).toNat)
    case atStart => exact ⟨0, 0, [], rfl, rfl, Nat.le_refl _, Nat.zero_le _, by rw [ext_list]; simp, by rw [List.nil_append]; congr 1; exact (bs_ext (by rw [ext_list, List.drop_zero, Nat.sub_zero]; exact List.take_of_length_le (by rw [Array.length_toList]; exact Nat.le_refl _))).symm, rfl, ⟨rfl, .inl ⟨rfl, rfl⟩⟩, HBW.out ▸ Below.refl _ _⟩
    case round =>
      obtain ⟨q, f, pre, rfl, rfl, hfq, hqs, h10, hln, hok, hrow, hb⟩ := hrel
      have HROW := Lib.hid hrow
      have HB := Lib.hid hb
      have HLN := Lib.hid hln
      have HOK := Lib.hid hok
      have H10 := Lib.hid h10
      have HBs := Lib.hid (show B ≤ wr.heap.size by have h1 := hb.size; have h2 := HBW.out; omega)
      have hpl : pre.length ≤ 900 := by
        have h1 := lines_len s.size s
        have h2 : (linesB s).length = pre.length + (linesB (s.extract f s.size)).length := by rw [hln, List.length_append]
        unfold linesB at h2 h1
        omega
      have HPL := Lib.hid hpl
      clear hrow hb hln hok h10
      by_cases hq1 : q < s.size
      · have hqI : (q : Int) < (s.size : Int) := by omega
        obtain ⟨c, hc⟩ : ∃ c, s[q] = c := ⟨_, rfl⟩
        have HC := Lib.hid hc
        have hc8 : (c.toNat : Int) ≤ 255 := by have := c.toNat_lt; omega
        by_cases m1 : (c.toNat : Int) = 10
        · have m1' : ((c.toNat : Int) != 10) = false := by rw [m1]; rfl
          have hcut := two_cut s f q hfq (by omega)
          have hc10 : c = 10 := by have h1 : c.toNat = 10 := by omega
                                   exact UInt8.toNat_inj.1 h1
          obtain ⟨hnx, htr⟩ := line_next hfq hq1 H10.out (by rw [HC.out, hc10])
          obtain ⟨P, hP⟩ : ∃ P, s.extract f q = P := ⟨_, rfl⟩
          obtain ⟨x, hx⟩ : ∃ x, s.extract f (q + 1) = x := ⟨_, rfl⟩
          have hPz : P.size ≤ 1000000 := by rw [← hP, ByteArray.size_extract]; omega
          rw [hP] at hcut htr
          rw [hx] at hnx htr
          have HRP := Lib.hid (frparse_any P hPz wr)
          have hfv : fldV (parseF P) = .tuple #[.agg #[.int .i64 (fof x).1, .int .i64 (fof x).2.1, .string (fof x).2.2], .int .i64 (perr x)] := by rw [← htr]; exact parse_v x
          rw [hfv] at HRP
          obtain ⟨⟨d1, d2, d3⟩, hd⟩ : ∃ g, fof x = g := ⟨_, rfl⟩
          obtain ⟨de, hde⟩ : ∃ e, perr x = e := ⟨_, rfl⟩
          rw [hd, hde] at HRP
          simp only at HRP
          have HD := Lib.hid hd
          have HDE := Lib.hid hde
          have HNX := Lib.hid (show linesB s = (pre ++ [x]) ++ linesB (s.extract (q + 1) s.size) from by rw [HLN.out, hnx]; simp)
          clear m1 hc10 hnx htr hP hx hfv hd hde
          go_wp2_with fail
          refine HRP.out.mono ?_
          rintro _ w3 ⟨rfl, hb⟩
          obtain ⟨m9, hm9⟩ : ∃ n, w3.heap.size = n := ⟨_, rfl⟩
          have HW3 := Lib.hid (show Below B w w3 from HB.out.trans (hb.mono HBs.out))
          have HO3 := Lib.hid (fr3_keep HROW.out (fun j _ hj => hb.block j hj))
          obtain ⟨W4, hW4⟩ : ∃ W4, w3.alloc (.cells #[.int .i64 0, .int .i64 0, .string { data := #[] }] 36) = W4 := ⟨_, rfl⟩
          have HC4 := Lib.hid (show Below w3.heap.size w3 W4 from hW4 ▸ (Below.refl _ w3).alloc (Nat.le_refl _) _)
          have HY4 := Lib.hid (show Blk W4 m9 36 #[.int .i64 0, .int .i64 0, .string .empty] from hm9 ▸ hW4 ▸ Blk.new w3 36 _)
          have y0 := HY4.out.cell 0
          have y1 := HY4.out.cell 1
          have y2 := HY4.out.cell 2
          have g0 := HY4.out.frozen 0
          have g1 := HY4.out.frozen 1
          have g2 := HY4.out.frozen 2
          obtain ⟨w5, hw5⟩ : ∃ w5, ((W4.setCell ⟨m9, 0, none⟩ (.int .i64 d1)).setCell ⟨m9, 1, none⟩ (.int .i64 d2)).setCell ⟨m9, 2, none⟩ (.string d3) = w5 := ⟨_, rfl⟩
          have HB5 := Lib.hid (show Blk w5 m9 36 #[.int .i64 d1, .int .i64 d2, .string d3] from hw5 ▸ (((HY4.out.set_ 0 _).set_ 1 _).set_ 2 _))
          have HC5 := Lib.hid (show Below m9 w3 w5 from hw5 ▸ (((((HC4.out.mono (Nat.le_of_eq hm9.symm)).setCell (p := ⟨m9, 0, none⟩) (Nat.le_refl _) _).setCell (p := ⟨m9, 1, none⟩) (Nat.le_refl _) _).setCell (p := ⟨m9, 2, none⟩) (Nat.le_refl _) _)))
          have HS3 := Lib.hid (show B ≤ m9 from by have h1 := HW3.out.size; have h2 := HBW.out; omega)
          have HW5 := Lib.hid (show Below B w w5 from HW3.out.trans (HC5.out.mono HS3.out))
          have HO5 := Lib.hid (fr3_keep HO3.out (fun j _ hj => HC5.out.block j (by omega)))
          have z0 : w5.cell? ⟨m9, 0, none⟩ = some (.int .i64 d1) := HB5.out.cell 0
          have z1 : w5.cell? ⟨m9, 1, none⟩ = some (.int .i64 d2) := HB5.out.cell 1
          have z2 : w5.cell? ⟨m9, 2, none⟩ = some (.string d3) := HB5.out.cell 2
          clear hb hcut
          by_cases hde : de = 0
          · have hdb : (de != 0) = false := by simpa using hde
            have HS5 := Lib.hid (show B ≤ w5.heap.size from by have h1 := HW5.out.size; have h2 := HBW.out; omega)
            obtain ⟨w6, hw6⟩ : ∃ w6, w5.alloc (.cells #[.int .i64 d1, .int .i64 d2, .string d3] 36) = w6 := ⟨_, rfl⟩
            have HB6 := Lib.hid (show Blk w6 w5.heap.size 36 #[.int .i64 d1, .int .i64 d2, .string d3] from hw6 ▸ Blk.new w5 36 _)
            have HO6 := Lib.hid (show Fr3 w6 B _ pre.length (flds pre) from hw6 ▸ World.ownsRow.alloc HO5.out _)
            have HW6 := Lib.hid (show Below B w w6 from hw6 ▸ HW5.out.alloc HS5.out _)
            have HS6 := Lib.hid (show B ≤ w6.heap.size from by have h1 := HW6.out.size; have h2 := HBW.out; omega)
            have HOK2 := Lib.hid (show (pre ++ [x]).any (fun x => perr x != 0) = false from by rw [List.any_append, HOK.out, List.any_cons, HDE.out, hde]; rfl)
            have hpI : (pre.length : Int) ≤ 900 := by omega
            clear hde
            go_wp2_with (first
              | (at_builtin; (try rw [hw5]); (try rw [hw6]); refine fr3_push _ rfl (.tmp 34) (.tmp 36) 22 rfl Tryz.underlying22 info36 B _ pre.length (flds pre) rfl HO6.out w5.heap.size (d1, d2, d3) rfl HB6.out (by omega) HS6.out ?_
                 intro V' w7 hown hgr
                 have HO7 := Lib.hid hown
                 have HW7 := Lib.hid (HW6.out.grown hgr HS6.out (fun j e => (HO6.out.lt j e).1))
                 clear hown hgr hw6 hw5 y0 y1 y2 g0 g1 g2 hW4)
              | fail)
            go_wp2_with fail
            go_roundw
            case rel => exact ⟨q + 1, q + 1, pre ++ [x], by go_num, by go_num, Nat.le_refl _, by omega, by rw [ext_list, Nat.sub_self]; simp, HNX.out, HOK2.out, by rw [flds_snoc, HD.out, List.length_append]; exact HO7.out, HW7.out⟩
            case measure => simp [intOf]; omega
          · have hdb : (de != 0) = true := by simpa using hde
            have HR := Lib.hid (show (pv, pe) = (([], 1) : List F3 × Int) from by
              rw [← HP.out]
              refine parL_bad ?_
              rw [HNX.out, List.any_append, List.any_append, List.any_cons, HDE.out, hdb]
              simp)
            go_wp2_with fail
            try rw [hw5]
            clear hw5 y0 y1 y2 g0 g1 g2 hW4
            go_wp2
            go_ret2
            obtain ⟨rfl, rfl⟩ := Prod.mk.inj HR.out
            exact ⟨HW5.out, none, 0, 0, rfl, fv_nil _ _ _ _⟩
        · have m1' : ((c.toNat : Int) != 10) = true := by simpa using m1
          have HN10 := Lib.hid (show (10 : UInt8) ∉ (s.extract f (q + 1)).data.toList from by
            have hlen : s.data.toList.length = s.size := by rw [Array.length_toList]; rfl
            have h1 := H10.out
            rw [ext_list] at h1 ⊢
            rw [show q + 1 - f = (q - f) + 1 by omega, List.take_add_one, List.getElem?_drop, show f + (q - f) = q by omega, List.getElem?_eq_getElem (by omega)]
            intro hm
            rcases List.mem_append.1 hm with hm | hm
            · exact h1 hm
            · have h2 : (10 : UInt8) = s.data.toList[q]'(by omega) := by simpa using hm
              have h3 : s.data.toList[q]'(by omega) = s[q] := rfl
              rw [h3, HC.out] at h2
              exact m1 (by rw [← h2]; rfl))
          clear m1
          go_wp2_with fail
          go_roundw
          case rel => exact ⟨q + 1, f, pre, by go_num, rfl, by omega, by omega, HN10.out, HLN.out, HOK.out, HROW.out, HB.out⟩
          case measure => simp [intOf]; omega
      · have hqn : ¬ (q : Int) < (s.size : Int) := by omega
        have hqq : q = s.size := by omega
        have HE := Lib.hid (ref_end H9.out (by omega) HLN.out (hqq ▸ H10.out) HOK.out)
        obtain ⟨A, cap, g, rfl, hFv⟩ := fr3_fv HROW.out (show (flds pre).length = pre.length from by unfold flds; rw [List.length_map])
        obtain ⟨L, hL⟩ : ∃ L, flds pre = L := ⟨_, rfl⟩
        obtain ⟨n, hn⟩ : ∃ n, pre.length = n := ⟨_, rfl⟩
        have hLn : L.length = n := by rw [← hL, ← hn]; unfold flds; rw [List.length_map]
        have hvl : ∀ g ∈ L, g.2.2.size ≤ 1000000 := fun g hg => by
          rw [← hL] at hg
          obtain ⟨x, hx, rfl⟩ := List.mem_map.1 hg
          have h1 := fof_size x
          have h2 := lines_mem_size s.size s x (by have := HLN.out; unfold linesB at this; rw [this]; exact List.mem_append_left _ hx)
          omega
        rw [hL] at hFv HE
        rw [hn]
        have HT := Lib.hid (rtext_any hFv (by rw [hLn, ← hn]; have := HPL.out; omega) hvl)
        rw [hLn] at HT
        obtain ⟨tv, te, htv⟩ : ∃ tv te, txtL L = (tv, te) := ⟨_, _, rfl⟩
        rw [htv] at HT HE
        rw [HP.out] at HE
        have HFV := Lib.hid hFv
        have HLn := Lib.hid hLn
        clear hqq hL hn hLn hvl hFv htv
        by_cases hte : te = 0
        · have b1 : (te != 0) = false := by simpa using hte
          by_cases htv : tv = s
          · have b2 : (tv.toList == s.toList) = true := by rw [htv]; exact beq_self_eq_true _
            have HR := Lib.hid (show (pv, pe) = ((L, 0) : List F3 × Int) from by rw [HE.out, if_neg (by simp only [hte, htv]; simp)])
            clear hte htv
            go_wp2_with fail
            refine HT.out.mono ?_
            rintro _ w1 ⟨rfl, hb⟩
            have HB1 := Lib.hid (HB.out.trans (hb.mono HBs.out))
            have HF1 := Lib.hid (HFV.out.below hb)
            clear hb
            go_wp2_with fail
            go_ret2
            obtain ⟨rfl, rfl⟩ := Prod.mk.inj HR.out
            first | exact ⟨HB1.out, _, _, _, by rw [HLn.out]; rfl, HF1.out⟩ | exact ⟨HB1.out, _, _, by rw [HLn.out]; rfl, _, HF1.out⟩
          · have b2 : (tv.toList == s.toList) = false := Day.ne_str htv
            have HR := Lib.hid (show (pv, pe) = (([], 1) : List F3 × Int) from by rw [HE.out, if_pos (.inr htv)])
            clear hte htv
            go_wp2_with fail
            refine HT.out.mono ?_
            rintro _ w1 ⟨rfl, hb⟩
            have HB1 := Lib.hid (HB.out.trans (hb.mono HBs.out))
            clear hb
            go_wp2_with fail
            go_ret2
            obtain ⟨rfl, rfl⟩ := Prod.mk.inj HR.out
            first | exact ⟨HB1.out, none, 0, 0, rfl, fv_nil _ _ _ _⟩ | exact ⟨HB1.out, none, 0, rfl, 0, fv_nil _ _ _ _⟩
        · have b1 : (te != 0) = true := by simpa using hte
          have HR := Lib.hid (show (pv, pe) = (([], 1) : List F3 × Int) from by rw [HE.out, if_pos (.inl hte)])
          clear hte
          go_wp2_with fail
          refine HT.out.mono ?_
          rintro _ w1 ⟨rfl, hb⟩
          have HB1 := Lib.hid (HB.out.trans (hb.mono HBs.out))
          clear hb
          go_wp2_with fail
          go_ret2
          obtain ⟨rfl, rfl⟩ := Prod.mk.inj HR.out
          first | exact ⟨HB1.out, none, 0, 0, rfl, fv_nil _ _ _ _⟩ | exact ⟨HB1.out, none, 0, rfl, 0, fv_nil _ _ _ _⟩
end Go.Proofs.YtdfalfmeejgcoaaGreatDoor
/- The document's own card: Is, Title. -/
namespace Go.Proofs.YtdfalfmeejgcoaaGreatDoor
open Go.RowKit
open Go.Lib hiding intOf
open Go.Sort Go.Proofs
set_option linter.unusedVariables false
set_option linter.unusedSimpArgs false
set_option maxRecDepth 100000
theorem parL_card {s : ByteArray} (h : (parL s).2 = 0) : IsCard (parL s).1 ∧ txt (parL s).1 = s := by
  rcases parL_cases s with ⟨_, ht, _⟩ | ⟨h1, _⟩
  · have hc : (canL (parL s).1).2 = 0 := by
      unfold txtL at ht
      by_cases hh : (canL (parL s).1).2 = 0
      · exact hh
      · rw [if_neg hh] at ht; exact absurd (congrArg Prod.snd ht) hh
    have hs : txt (canL (parL s).1).1 = s := by
      unfold txtL at ht
      rw [if_pos hc] at ht
      exact congrArg Prod.fst ht
    have hcd := card_of hc
    have hb := card_back hcd
    rw [hs] at hb
    have e := congrArg Prod.fst hb
    simp only at e
    rw [← e] at hcd hs
    exact ⟨hcd, hs⟩
  · rw [h1] at h; exact absurd h (by decide)
theorem ris_any (s : ByteArray) (hs : s.size ≤ 1000000) (w : World) : Calls Tryz.prog 17 #[.string s] w fun e w' => e = .returned (.bool (isC s)) ∧ Below w.heap.size w w' := by
  have HP := Lib.hid (rparse_any s hs w)
  obtain ⟨pv, pe, hp⟩ : ∃ pv pe, parL s = (pv, pe) := ⟨_, _, rfl⟩
  obtain ⟨r, hr⟩ : ∃ r, isC s = r := ⟨_, rfl⟩
  have HR := Lib.hid (show (pe == 0) = r from by rw [← hr]; unfold isC; rw [hp])
  rw [hp] at HP
  rw [hr]
  simp only at HP
  clear hp hr
  go_enter Tryz.func17, Tryz.ntmps17
  go_wp2_with fail
  refine HP.out.mono ?_
  rintro e w1 ⟨hb, A, cap, g, rfl, _⟩
  have HB := Lib.hid hb
  clear hb
  cases hh : (pe == 0) with
  | true =>
    have HR2 := Lib.hid (show true = r from hh ▸ HR.out)
    go_wp2
    go_ret
    exact ⟨by rw [← HR2.out]; rfl, HB.out⟩
  | false =>
    have HR2 := Lib.hid (show false = r from hh ▸ HR.out)
    go_wp2
    go_ret
    exact ⟨by rw [← HR2.out]; rfl, HB.out⟩
set_option maxHeartbeats 2000000 in
theorem rtitle_any (s : ByteArray) (hs : s.size ≤ 1000000) (w : World) : Calls Tryz.prog 19 #[.string s] w fun e w' => e = .returned (.string (titF (parL s).1)) ∧ Below w.heap.size w w' := by
  have HP := Lib.hid (rparse_any s hs w)
  have hc := @parL_card s
  have hcs := parL_cases s
  obtain ⟨L, pe, hp⟩ : ∃ pv pe, parL s = (pv, pe) := ⟨_, _, rfl⟩
  rw [hp] at HP hc hcs ⊢
  simp only at HP hc hcs ⊢
  clear hp
  by_cases h0 : pe = 0
  · subst h0
    obtain ⟨v, rest, rfl, _, _⟩ := card_head (hc rfl).1
    obtain ⟨m, hm⟩ : ∃ m, ((1, 0, v) :: rest : List F3).length = m := ⟨_, rfl⟩
    have hmp : (0 : Int) < (m : Int) := by rw [← hm, List.length_cons]; omega
    have htv : titF ((1, 0, v) :: rest) = v := by unfold titF; rw [if_pos rfl]
    rw [hm] at HP
    rw [htv]
    clear hc hcs htv
    go_enter Tryz.func19, Tryz.ntmps19
    go_wp2_with fail
    refine HP.out.mono ?_
    rintro e w1 ⟨hb, A, cap, g, rfl, hf⟩
    have HB := Lib.hid hb
    obtain ⟨rfl, _, a0, a1, a2⟩ := hf.2 0 (1, 0, v) rfl
    simp only [Nat.zero_mul, Nat.zero_add] at a0 a1 a2
    clear hb hf hm
    go_wp2
    go_ret
    exact ⟨rfl, HB.out⟩
  · have hL : L = [] := by
      rcases hcs with ⟨h, _⟩ | ⟨_, h, _⟩
      · exact absurd h h0
      · exact h
    subst hL
    have hne : (pe != 0) = true := by simpa using h0
    clear hc hcs h0
    go_enter Tryz.func19, Tryz.ntmps19
    go_wp2_with fail
    refine HP.out.mono ?_
    rintro e w1 ⟨hb, A, cap, g, rfl, hf⟩
    have HB := Lib.hid hb
    clear hb hf
    go_wp2
    go_ret
    exact ⟨rfl, HB.out⟩
end Go.Proofs.YtdfalfmeejgcoaaGreatDoor
/- CardTells: any fields, any text: made canonical, its text, parsed, its title, as the document says. -/
namespace Go.Proofs.YtdfalfmeejgcoaaGreatDoor
open Go.RowKit
open Go.Lib hiding intOf
open Go.Sort Go.Proofs
set_option linter.unusedVariables false
set_option linter.unusedSimpArgs false
set_option maxRecDepth 100000
theorem rcanon_on_f {v : World} {A : Option Addr} {cap b off : Nat} {L : List F3} (n : Nat) (hn : L.length = n) (rv : List F3) (re : Int) (hc : canL L = (rv, re)) (m : Nat) (hm : rv.length = m) (h : Fv v A cap b off L) (h1 : n ≤ 1000) (hv : ∀ f ∈ L, f.2.2.size ≤ 1000000) :
    Calls Tryz.prog 10 #[.slice A n cap] v fun e w' => ∃ A' cap' g, e = .returned (.tuple #[.slice A' m cap', .int .i64 re]) ∧ Fv w' A' cap' g 0 rv ∧ Below v.heap.size v w' := by
  have := rfields_any h n hn h1 hv
  rw [hc] at this
  simp only [hm] at this
  exact this.mono fun e w' ⟨hb, A', cap', g, he, hf⟩ => ⟨A', cap', g, he, hf, hb⟩
theorem rparse_on_f (s : ByteArray) (hs : s.size ≤ 1000000) (rv : List F3) (re : Int) (hp : parL s = (rv, re)) (m : Nat) (hm : rv.length = m) (v : World) :
    Calls Tryz.prog 14 #[.string s] v fun e w' => ∃ A' cap' g, e = .returned (.tuple #[.slice A' m cap', .int .i64 re]) ∧ Fv w' A' cap' g 0 rv ∧ Below v.heap.size v w' := by
  have := rparse_any s hs v
  rw [hp] at this
  simp only [hm] at this
  exact this.mono fun e w' ⟨hb, A', cap', g, he, hf⟩ => ⟨A', cap', g, he, hf, hb⟩
set_option maxHeartbeats 16000000 in
theorem cardTells_walk (w : World) (hTD : Tabs w ∧ Day.Tab w.heap.size w) (hM : Mx w) (A0 : Option Addr) (len0 cap0 : Nat) (S0 : Sh.ok w (Sh.slice 3 (Sh.agg 3 [(0, 1, (Sh.int .i64)), (1, 1, (Sh.int .i64)), (2, 1, Sh.str)])) [.slice A0 len0 cap0]) (a1 : ByteArray) (w1 : a1.size ≤ maxLen) :
    Calls Tryz.prog 3 #[.slice A0 len0 cap0, .string a1] w fun e w' => e = .returned (.bool true) ∧ Below w.heap.size w w' := by
  obtain ⟨b, off, L, hL, hF⟩ := fields_open S0
  have HE := Lib.hid (show Env w from ⟨hTD.1, hM, hTD.2⟩)
  have HF := Lib.hid hF
  have HL := Lib.hid hL
  have HF0 := Lib.hid (fun v (h : Env v) => first_any v h)
  have HLI := Lib.hid (fun v (h : Below w.heap.size w v) => light_any (hF.below h) len0 hL)
  clear hTD hM S0 w1 hF hL
  cases hli : lightF L with
  | false =>
    rw [hli] at HLI
    go_enter Tryz.func3, Tryz.ntmps3
    go_wp2_with fail
    refine (HF0.out _ HE.out).mono ?_
    rintro _ v1 ⟨rfl, hb⟩
    have HB1 := Lib.hid hb
    clear hb
    go_wp2_with (go_at_call 8; (with_reducible refine (HLI.out _ HB1.out).mono ?_); rintro _ v2 ⟨rfl, hb⟩; have HB2 := Lib.hid (HB1.out.trans (hb.mono HB1.out.size)); clear hb)
    refine (HF0.out _ (HE.out.on HB2.out)).mono ?_
    rintro _ v3 ⟨rfl, hb⟩
    have HB3 := Lib.hid (HB2.out.trans (hb.mono HB2.out.size))
    clear hb
    go_wp2
    go_ret
    exact ⟨rfl, HB3.out⟩
  | true =>
    obtain ⟨hl30, hl200⟩ := light_spec hli
    rw [hli] at HLI
    have HV := Lib.hid (show ∀ f ∈ L, f.2.2.size ≤ 1000000 from fun f hf => by have := hl200 f hf; omega)
    have HLE := Lib.hid (show L.length ≤ 1000 from by omega)
    have HLE2 := Lib.hid (show len0 ≤ 1000 from by have := HL.out; omega)
    clear hl30 hl200
    by_cases h15 : (a1.size : Int) > 1500
    · have h15' := h15
      go_enter Tryz.func3, Tryz.ntmps3
      go_wp2_with fail
      refine (HF0.out _ HE.out).mono ?_
      rintro _ v1 ⟨rfl, hb⟩
      have HB1 := Lib.hid hb
      clear hb
      go_wp2_with (go_at_call 8; (with_reducible refine (HLI.out _ HB1.out).mono ?_); rintro _ v2 ⟨rfl, hb⟩; have HB2 := Lib.hid (HB1.out.trans (hb.mono HB1.out.size)); clear hb)
      refine (HF0.out _ (HE.out.on HB2.out)).mono ?_
      rintro _ v3 ⟨rfl, hb⟩
      have HB3 := Lib.hid (HB2.out.trans (hb.mono HB2.out.size))
      clear hb
      go_wp2
      go_ret
      exact ⟨rfl, HB3.out⟩
    · have hs : a1.size ≤ 1000000 := by omega
      have hpl := parL_len a1
      have hcc := canL_spec L
      obtain ⟨x, pe, hp⟩ : ∃ x pe, parL a1 = (x, pe) := ⟨_, _, rfl⟩
      obtain ⟨a, ce, hc⟩ : ∃ a ce, canL L = (a, ce) := ⟨_, _, rfl⟩
      obtain ⟨tv, te, ht⟩ : ∃ tv te, txtL L = (tv, te) := ⟨_, _, rfl⟩
      rw [hp] at hpl
      rw [hc] at hcc
      simp only at hpl hcc
      obtain ⟨mx, hmx⟩ : ∃ m, x.length = m := ⟨_, rfl⟩
      obtain ⟨ma, hma⟩ : ∃ m, a.length = m := ⟨_, rfl⟩
      have hma1 : ma ≤ 1000 := by
        rcases hcc with ⟨_, _, _, h, _⟩ | ⟨_, h⟩
        · omega
        · rw [← hma, h]; exact Nat.zero_le _
      have hmx1 : mx ≤ 1000 := by omega
      have HMX := Lib.hid hmx
      have HMA := Lib.hid hma
      have HC := Lib.hid (fun v (h : Below w.heap.size w v) => ccanon_on len0 HL.out a ce hc ma hma (HF.out.below h) HLE.out HV.out (HE.out.on h))
      have HCr := Lib.hid (fun v (h : Below w.heap.size w v) => rcanon_on_f len0 HL.out a ce hc ma hma (HF.out.below h) HLE2.out HV.out)
      have HT := Lib.hid (fun v (h : Below w.heap.size w v) => text_on len0 HL.out tv te ht (HF.out.below h) HLE.out HV.out (HE.out.on h))
      have HTr := Lib.hid (fun v (h : Below w.heap.size w v) => (show Calls Tryz.prog 12 #[.slice A0 len0 cap0] v fun e w' => e = .returned (.tuple #[.string tv, .int .i64 te]) ∧ Below v.heap.size v w' from by have := rtext_any (HF.out.below h) HLE.out HV.out; rw [ht, HL.out] at this; exact this))
      have HP := Lib.hid (fun v (h : Below w.heap.size w v) => cparse_on a1 hs x pe hp mx hmx v (HE.out.on h))
      have HPr := Lib.hid (fun v => rparse_on_f a1 hs x pe hp mx hmx v)
      obtain ⟨bi, hbi⟩ : ∃ b, isC a1 = b := ⟨_, rfl⟩
      obtain ⟨ti, hti⟩ : ∃ t, titF (parL a1).1 = t := ⟨_, rfl⟩
      have HI := Lib.hid (fun v (h : Below w.heap.size w v) => is_on a1 hs bi hbi v (HE.out.on h))
      have HIr := Lib.hid (fun v => (show Calls Tryz.prog 17 #[.string a1] v fun e w' => e = .returned (.bool bi) ∧ Below v.heap.size v w' from hbi ▸ ris_any a1 hs v))
      have HTi := Lib.hid (fun v (h : Below w.heap.size w v) => title_on a1 hs ti hti v (HE.out.on h))
      have HTir := Lib.hid (fun v => (show Calls Tryz.prog 19 #[.string a1] v fun e w' => e = .returned (.string ti) ∧ Below v.heap.size v w' from hti ▸ rtitle_any a1 hs v))
      have e1 : (ce == ce) = true := beq_self_eq_true _
      have e2 : (te == te) = true := beq_self_eq_true _
      have e3 : (pe == pe) = true := beq_self_eq_true _
      have e4 : (tv.toList == tv.toList) = true := beq_self_eq_true _
      have e5 : (ti.toList == ti.toList) = true := beq_self_eq_true _
      have e6 : (bi == bi) = true := beq_self_eq_true _
      clear hp hc ht hcc hbi hti hmx hma
      go_enter Tryz.func3, Tryz.ntmps3
      go_wp2_with fail
      refine (HF0.out _ HE.out).mono ?_
      rintro _ v1 ⟨rfl, hb⟩
      have HB1 := Lib.hid hb
      clear hb
      go_wp2_with (go_at_call 8; (with_reducible refine (HLI.out _ HB1.out).mono ?_); rintro _ v2 ⟨rfl, hb⟩; have HB2 := Lib.hid (HB1.out.trans (hb.mono HB1.out.size)); clear hb)
      go_wp2_with fail
      refine (HC.out _ HB2.out).mono ?_
      rintro _ v3 ⟨P3, Q3, R3, rfl, hf, hb⟩
      have HB3 := Lib.hid (HB2.out.trans (hb.mono HB2.out.size))
      have Ka_3 := Lib.hid hf
      clear hb hf
      go_wp2_with fail
      refine (HCr.out _ HB3.out).mono ?_
      rintro _ v4 ⟨P4, Q4, R4, rfl, hf, hb⟩
      have HB4 := Lib.hid (HB3.out.trans (hb.mono HB3.out.size))
      have Ka_4 := Lib.hid (Ka_3.out.below hb)
      have Kb_4 := Lib.hid hf
      clear hb hf
      go_wp2_with fail
      refine (HT.out _ HB4.out).mono ?_
      rintro _ v5 ⟨rfl, hb⟩
      have HB5 := Lib.hid (HB4.out.trans (hb.mono HB4.out.size))
      have Ka_5 := Lib.hid (Ka_4.out.below hb)
      have Kb_5 := Lib.hid (Kb_4.out.below hb)
      clear hb
      go_wp2_with fail
      refine (HTr.out _ HB5.out).mono ?_
      rintro _ v6 ⟨rfl, hb⟩
      have HB6 := Lib.hid (HB5.out.trans (hb.mono HB5.out.size))
      have Ka_6 := Lib.hid (Ka_5.out.below hb)
      have Kb_6 := Lib.hid (Kb_5.out.below hb)
      clear hb
      go_wp2_with fail
      refine (HP.out _ HB6.out).mono ?_
      rintro _ v7 ⟨P7, Q7, R7, rfl, hf, hb⟩
      have HB7 := Lib.hid (HB6.out.trans (hb.mono HB6.out.size))
      have Ka_7 := Lib.hid (Ka_6.out.below hb)
      have Kb_7 := Lib.hid (Kb_6.out.below hb)
      have Kx_7 := Lib.hid hf
      clear hb hf
      go_wp2_with fail
      refine (HPr.out _).mono ?_
      rintro _ v8 ⟨P8, Q8, R8, rfl, hf, hb⟩
      have HB8 := Lib.hid (HB7.out.trans (hb.mono HB7.out.size))
      have Ka_8 := Lib.hid (Ka_7.out.below hb)
      have Kb_8 := Lib.hid (Kb_7.out.below hb)
      have Kx_8 := Lib.hid (Kx_7.out.below hb)
      have Ky_8 := Lib.hid hf
      clear hb hf
      go_wp2_with fail
      refine (fields_true Ka_8.out Kb_8.out ma HMA.out (by omega)).mono ?_
      rintro _ v9 ⟨rfl, hb⟩
      have HB9 := Lib.hid (HB8.out.trans (hb.mono HB8.out.size))
      have Ka_9 := Lib.hid (Ka_8.out.below hb)
      have Kb_9 := Lib.hid (Kb_8.out.below hb)
      have Kx_9 := Lib.hid (Kx_8.out.below hb)
      have Ky_9 := Lib.hid (Ky_8.out.below hb)
      clear hb
      go_wp2_with fail
      refine (fields_true Kx_9.out Ky_9.out mx HMX.out (by omega)).mono ?_
      rintro _ v10 ⟨rfl, hb⟩
      have HB10 := Lib.hid (HB9.out.trans (hb.mono HB9.out.size))
      have Kx_10 := Lib.hid (Kx_9.out.below hb)
      have Ky_10 := Lib.hid (Ky_9.out.below hb)
      clear hb
      go_wp2_with fail
      refine (HI.out _ HB10.out).mono ?_
      rintro _ v11 ⟨rfl, hb⟩
      have HB11 := Lib.hid (HB10.out.trans (hb.mono HB10.out.size))
      clear hb
      go_wp2_with fail
      refine (HIr.out _).mono ?_
      rintro _ v12 ⟨rfl, hb⟩
      have HB12 := Lib.hid (HB11.out.trans (hb.mono HB11.out.size))
      clear hb
      go_wp2_with fail
      refine (HTi.out _ HB12.out).mono ?_
      rintro _ v13 ⟨rfl, hb⟩
      have HB13 := Lib.hid (HB12.out.trans (hb.mono HB12.out.size))
      clear hb
      go_wp2_with fail
      refine (HTir.out _).mono ?_
      rintro _ v14 ⟨rfl, hb⟩
      have HB14 := Lib.hid (HB13.out.trans (hb.mono HB13.out.size))
      clear hb
      go_wp2
      go_ret
      exact ⟨rfl, HB14.out⟩
end Go.Proofs.YtdfalfmeejgcoaaGreatDoor
/- A law's row over listed variables that reads one of the library's besides: the world's shape is handed on. -/
namespace Go.Proofs.YtdfalfmeejgcoaaGreatDoor
open Go.ChangeShapes Go.WideShapes Go.RowKit
variable {H : Type} {enc : TypeId × Value → H}
theorem handed_and_shaped {a : Assume} {C : Checked} {os : Os} {f : FuncId} {fn : Func} {s : ChangeSpec} {conds : List PathCond} {apart fresh handsOn again : Bool} {X : World → Array Value → Prop}
    (hX : ∀ (w w' : World) (args : Array Value), w.heap = w'.heap → X w args → X w' args)
    (own : ownKnob C.prog.godebug = none) (started : os.Started) (noInit : C.prog.inits.idxOf? f = none) (hfn : C.prog.funcs[f]? = some fn)
    (witness : ∃ (w : World) (tape : Tape) (i : Input), w.os = os ∧ (w.forCall tape i).Shaped C.prog ∧ i.vars = [] ∧ Input.okWide C.prog (w.forCall tape i) .any w.heap.size f i ∧
      ((s.pre enc C.prog fn conds apart (w.forCall tape i).memory i.args ∧ X (w.forCall tape i).memory i.args) ∧ sizedMet enc C.prog fn (OpenSpec.ofChange s) apart (w.forCall tape i).memory i.args) ∧ a.holds C.prog (lone (Frame.enter C.prog f i.args .normal) [] (w.forCall tape i)))
    (contract : ∀ (W : World) (base : Nat) (args : Array Value) (ds gs : List (DataW H)) (before : List MemPlace),
      (∀ (j : Nat) t v, fn.params[j]? = some t → args[j]? = some v → Value.okWide C.prog W .any base t v) →
      DataW.Whole enc C.prog fn.params.toList s.vars apart W args.toList ds gs before →
      X W args → W.ShapedOpen C.prog →
      Calls C.prog f args W fun e W' => ∃ v, e = .returned v ∧ s.post enc C.prog fn apart fresh handsOn again W args v W') :
    ReturnsInHanded a C os f .any (fun w args => (s.pre enc C.prog fn conds apart w args ∧ X w args) ∧ sizedMet enc C.prog fn (OpenSpec.ofChange s) apart w args) (s.post enc C.prog fn apart fresh handsOn again) := by
  refine returnsInHanded_of_calls own started noInit witness ?_
  intro w tape i _ hsh _ hok hpre _
  obtain ⟨_, _, _, fn', hfn', _, _, _, _, hval⟩ := hok
  have e : fn' = fn := Option.some.inj (hfn'.symm.trans hfn)
  subst e
  obtain ⟨⟨⟨ds, gs, before, hw, _⟩, hx⟩, _⟩ := hpre
  have hw' := DataW.Whole.of_heap (w' := w.forCall tape i) (by rfl) hw
  refine (contract (w.forCall tape i) w.heap.size i.args ds gs before hval hw' (hX _ _ _ (by rfl) hx) hsh).mono fun e W' ⟨v, he, hp⟩ => ?_
  subst he
  exact ChangeSpec.post_blind hp
set_option maxRecDepth 100000 in
theorem mx_of {W : World} (h : W.ShapedOpen Tryz.prog) : Mx W :=
  cell_of_shapedOpen_int h (g := 0) (t := 3) (zero := #[.int .i64 0]) (of_decide_eq_true (by kernel_rfl)) (by kernel_rfl) rfl (by kernel_rfl) (by kernel_rfl) Tryz.underlying3
end Go.Proofs.YtdfalfmeejgcoaaGreatDoor
namespace Go.Proofs.YtdfalfmeejgcoaaGreatDoor
open Go.ChangeShapes Go.WideShapes Go.RowKit
abbrev laidL : List (String × DataW Unit) := [("math/bits.deBruijn32tab", Rows.laid_math_bits_deBruijn32tab), ("math/bits.deBruijn64tab", Rows.laid_math_bits_deBruijn64tab), ("internal/strconv.uint64pow10", Rows.laid_internal_strconv_uint64pow10), ("unicode/utf8.acceptRanges", Rows.laid_unicode_utf8_acceptRanges), ("unicode/utf8.first", Rows.laid_unicode_utf8_first)]
set_option maxRecDepth 100000 in
theorem door_met (os : Os) (args : Array Value) : laidMetH Tryz.prog laidL ((World.laidAll Tryz.prog os laidL).forCall (fun _ _ => 0) ⟨#[], args, []⟩).memory := by
  rw [MakeChecks.laidMetH_plain _ _ _ (by kernel_rfl)]; exact laidMet_laidAll _ (by kernel_rfl) (by kernel_rfl)
theorem acc_eq : (Rows.laid_unicode_utf8_acceptRanges : DataW Unit) = Lib.acceptData := by kernel_rfl
theorem fst_eq : Rows.laid_unicode_utf8_first = Lib.firstData := Pinned.utf8First_eq
theorem pow_eq : (Rows.laid_internal_strconv_uint64pow10 : DataW Unit) = Lib.tabData .u64 Lib.pow10Tab := by kernel_rfl
set_option maxRecDepth 100000 in
theorem facts {W : World} (h : laidMetH Tryz.prog laidL W) : Tabs W ∧ Day.Tab W.heap.size W := by
  rw [MakeChecks.laidMetH_plain _ _ _ (by kernel_rfl)] at h
  have h1 : laidMet Tryz.prog [("internal/strconv.uint64pow10", Lib.tabData .u64 Lib.pow10Tab), ("unicode/utf8.acceptRanges", Lib.acceptData), ("unicode/utf8.first", Lib.firstData)] W := by rw [← acc_eq, ← fst_eq, ← pow_eq]; exact h.tail.tail
  have h2 : laidMet Tryz.prog [("unicode/utf8.acceptRanges", Lib.acceptData), ("unicode/utf8.first", Lib.firstData)] W := h1.tail
  exact ⟨utf8Tabs_of_readsT (U8Types.of196 Tryz.lays196) ⟨by kernel_rfl, by kernel_rfl, by kernel_rfl, by kernel_rfl, by kernel_rfl, by kernel_rfl, by kernel_rfl⟩ (Lib.laidMet.reads h2 (.tail _ (.head _))) (Lib.laidMet.reads h2 (.head _)),
    Lib.tabBelow_of_tabIs (Lib.tabIs_of_head (g := 3) (t := 147) (e := 94) (n := 20) (by kernel_rfl) (by kernel_rfl) Tryz.underlying147 Tryz.underlying94 (by kernel_rfl) (by kernel_rfl) h1)⟩
end Go.Proofs.YtdfalfmeejgcoaaGreatDoor
