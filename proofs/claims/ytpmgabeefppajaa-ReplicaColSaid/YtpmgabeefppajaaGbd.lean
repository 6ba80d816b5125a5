/- The replica: the cards as items; the chapter's example. -/
import Derived.Test.YtpmgabeefppajaaGbc
import Derived.Deep.RegionWith
import Derived.RangeFuncNested
set_option linter.unnecessarySimpa false
/- The replica: Fold. -/
namespace Go.Proofs.Ytpmgabeefppajaa.Cp
open Go.RowKit
open Go.Lib
set_option linter.unusedVariables false
set_option linter.unusedSimpArgs false
set_option maxRecDepth 100000
theorem _root_.Go.Proofs.Ytpmgabeefppajaa.Its.keep {w w' : World} {A : Option Addr} {len cap b off : Nat} {xs : List It} (h : Its w A len cap b off xs) (hs : w.heap.size ≤ w'.heap.size) (hb : 0 < len → w'.heap[b]? = w.heap[b]?) : Its w' A len cap b off xs :=
  ⟨h.hlen, h.le, fun hl => ⟨(h.addr hl).1, Nat.lt_of_lt_of_le (h.addr hl).2 hs⟩, fun j t hj => by
    have hlt : j < xs.length := (List.getElem?_eq_some_iff.1 hj).1
    have e := hb (by have := h.hlen; omega)
    obtain ⟨h1, h2, h3, h4⟩ := h.cell j t hj
    have key : ∀ i, w'.cell? ⟨b, i, none⟩ = w.cell? ⟨b, i, none⟩ := fun i => World.cell?_of_block (w := w) e
    exact ⟨(key _).trans h1, (key _).trans h2, (key _).trans h3, (key _).trans h4⟩⟩
theorem Rp.set {w : World} {g m : Nat} {L : LK} {tk : Int} {mo : Bool} (h : Rp w g m L tk mo) (i : Nat) (u : Value) (m' : Nat) (L' : LK) (tk' : Int) (mo' : Bool) (hb : (#[.pointer (some ⟨m, 0, none⟩), .int .i64 tk, .bool mo] : Array Value).setIfInBounds i u = #[.pointer (some ⟨m', 0, none⟩), .int .i64 tk', .bool mo']) (hM : OK.Om w m' L') (hne : m' ≠ g) : Rp (w.setCell ⟨g, i, none⟩ u) g m' L' tk' mo' :=
  ⟨hb ▸ h.1.set_ i u, hM.keep (Below.heap_setCell w ⟨g, i, none⟩ u m' hne) (OK.KeepN.set h.1 (by decide) i u)⟩
/-- The replica behind some items. -/
structure Fs (w wr : World) (g m m1 : Nat) (L : LK) (tk : Int) (mo : Bool) : Prop where
  rp : Rp wr g m1 L tk mo
  kr : Kr w wr g m
  hm : m1 = m ∨ w.heap.size ≤ m1
theorem fs_end {w V : World} {g m m1 : Nat} {L : LK} {tk tok : Int} {mo more : Bool} (h : Fs w V g m m1 L tk mo) : Fs w ((V.setCell ⟨g, 1, none⟩ (.int .i64 tok)).setCell ⟨g, 2, none⟩ (.bool more)).drew g m m1 L tok more := by
  have hne : m1 ≠ g := fun e => h.rp.gm e.symm
  have k1 := h.rp.set 1 (.int .i64 tok) m1 L tok mo rfl h.rp.2 hne
  have k2 := k1.set 2 (.bool more) m1 L tok more rfl k1.2 hne
  exact ⟨k2.below ((Below.refl _ _).drew), ((h.kr.set 1 _).set 2 _).drew, h.hm⟩
theorem fs_step {w V w5 : World} {g m m1 X : Nat} {L L' : LK} {tk : Int} {mo : Bool} {cs : Array Value} (hm : m1 = m ∨ w.heap.size ≤ m1) (hr : Rp V g m1 L tk mo) (hk : Kr w V g m) (hx : Blk V X 35 cs) (hX : X = w.heap.size) (hXm : X ≠ m) (hXg : X ≠ g) {n : Nat} {ds : Array Value} (hy : Blk V n 41 ds) (ho : OK.Om w5 m1 L') (h5 : OK.Ko V.drew w5 m1) : Blk w5 n 41 ds ∧ Blk w5 X 35 cs ∧ Fs w w5 g m m1 L' tk mo := by
  have hk5 : Kr V w5 g m1 := ⟨h5.os, h5.tape, h5.output, h5.size, fun j hj _ h2 => h5.block j hj h2⟩
  have hx1 := hr.far hx (by decide) (by decide)
  have hy1 := hr.far hy (by decide) (by decide)
  exact ⟨(h5.block n hy.lt hy1.2).trans hy, (h5.block X hx.lt hx1.2).trans hx, ⟨(h5.block g hr.1.lt hr.gm).trans hr.1, ho⟩, hk.trans hk5 hm, hm⟩
set_option maxHeartbeats 8000000 in
theorem fold_any {w : World} {g m : Nat} {L : LK} {tk : Int} {mo : Bool} (h : Rp w g m L tk mo) {A : Option Addr} {len cap b off : Nat} {xs : List It} (hI : Its w A len cap b off xs) (hbg : 0 < len → b ≠ g ∧ b ≠ m) (hn : len ≤ 1000) (hL : L.length ≤ 30000) (hu : ∀ t ∈ xs, t.u.size ≤ 1000000) (asked k e tok ver : Int) (card : ByteArray) (idx : Int) (more : Bool) (F : Rs) (hF : foldR ⟨L, tk, mo⟩ asked k e tok more xs = F) (E : Int) (hE : foldE ⟨L, tk, mo⟩ asked k e tok xs = E) :
    Calls Try.prog 12 #[.pointer (some ⟨g, 0, none⟩), .int .i64 asked, .agg #[.int .i64 k, .int .i64 e, .int .i64 tok, .int .i64 ver, .string card, .int .i64 idx, .bool more, .slice A len cap]] w fun r w' => r = .returned (.int .i64 E) ∧ ∃ m1, Fs w w' g m m1 F.L F.tk F.mo := by
  have hlen := hI.hlen
  have hlc := hI.le
  have hgl := h.lt
  have hml := h.2.lt
  have hnI : (len : Int) ≤ 1000 := by omega
  obtain ⟨X, hX⟩ : ∃ X, w.heap.size = X := ⟨_, rfl⟩
  obtain ⟨W, hW⟩ : ∃ W, w.alloc (.cells #[.int .i64 k, .int .i64 e, .int .i64 tok, .int .i64 ver, .string card, .int .i64 idx, .bool more, .slice A len cap] 35) = W := ⟨_, rfl⟩
  have HBW := Lib.hid (show Below w.heap.size w W from hW ▸ (Below.refl _ w).alloc (Nat.le_refl _) _)
  have HX := Lib.hid (show Blk W X 35 #[.int .i64 k, .int .i64 e, .int .i64 tok, .int .i64 ver, .string card, .int .i64 idx, .bool more, .slice A len cap] from hX ▸ hW ▸ Blk.new w 35 _)
  have HSW := Lib.hid (show W.heap.size = X + 1 by rw [← hW, ← hX]; simp)
  have HRW := Lib.hid (h.below HBW.out)
  have HIW := Lib.hid (hI.below HBW.out (fun hl => (hI.addr hl).2))
  have HBG := Lib.hid hbg
  have HU := Lib.hid hu
  have HFo := Lib.hid (fol_any HIW.out (by omega) hu asked k e tok ver card idx more)
  have HF := Lib.hid hF.symm
  have HE := Lib.hid hE.symm
  have HXg := Lib.hid (show X ≠ g by omega)
  have HXm := Lib.hid (show X ≠ m by omega)
  have HBl := Lib.hid (fun hl => (hI.addr hl).2)
  have x0 := HX.out.cell 0
  have x1 := HX.out.cell 1
  have x2 := HX.out.cell 2
  have x3 := HX.out.cell 3
  have x4 := HX.out.cell 4
  have x5 := HX.out.cell 5
  have x6 := HX.out.cell 6
  have x7 := HX.out.cell 7
  have g0 := HRW.out.1.cell 0
  have g1 := HRW.out.1.cell 1
  have g2 := HRW.out.1.cell 2
  have HXL := Lib.hid (show X = w.heap.size from hX.symm)
  have HGL := Lib.hid hgl
  have HML := Lib.hid hml
  have HLL := Lib.hid hL
  clear h hI hbg hu hF hE hgl hml hL
  by_cases ht : k ≠ 8 ∨ asked ≠ tk
  · have H0 := Lib.hid (show F = ⟨L, tk, mo⟩ by rw [HF.out]; unfold foldR; rw [if_pos ht])
    have H1 := Lib.hid (show E = 10 by rw [HE.out]; unfold foldE; rw [if_pos ht])
    have hfin : ∃ m1, Fs w W g m m1 F.L F.tk F.mo := by rw [H0.out]; exact ⟨m, HRW.out, Kr.of HBW.out, .inl rfl⟩
    have HFI := Lib.hid hfin
    by_cases hk : k = 8
    · have hk2 : (k != 8) = false := by rw [hk]; rfl
      have ha2 : (asked != tk) = true := by
        rcases ht with h | h
        · exact absurd hk h
        · simpa using h
      clear hk ht hfin
      go_enter Try.func12, Try.ntmps12
      go_wp2
      go_ret
      exact ⟨by rw [H1.out]; rfl, HFI.out⟩
    · have hk2 : (k != 8) = true := by simpa using hk
      clear hk ht hfin
      go_enter Try.func12, Try.ntmps12
      go_wp2
      go_ret
      exact ⟨by rw [H1.out]; rfl, HFI.out⟩
  have hk2 : (k != 8) = false := by
    by_cases hk : k = 8
    · rw [hk]; rfl
    · exact absurd (.inl hk) ht
  have ha2 : (asked != tk) = false := by
    by_cases hk : asked = tk
    · rw [hk]; simp
    · exact absurd (.inr hk) ht
  have HF2 := Lib.hid (show F = if e = 8 then ⟨[], 0, false⟩ else if e ≠ 0 then ⟨L, tk, mo⟩ else if folB asked tok xs = true then ⟨takes (if asked = 0 then [] else L) xs, tok, more⟩ else ⟨L, tk, mo⟩ by rw [HF.out]; unfold foldR; rw [if_neg ht])
  have HE2 := Lib.hid (show E = if e = 8 then 0 else if e ≠ 0 then 10 else if folB asked tok xs = true then 0 else 1 by rw [HE.out]; unfold foldE; rw [if_neg ht])
  clear ht HF HE
  by_cases he8 : e = 8
  · have H0 := Lib.hid (show F = ⟨[], 0, false⟩ by rw [HF2.out, if_pos he8])
    have H1 := Lib.hid (show E = 0 by rw [HE2.out, if_pos he8])
    have he2 : (e == 8) = true := by rw [he8]; rfl
    clear he8 HF2 HE2
    go_enter Try.func12, Try.ntmps12
    go_wp2_with fail
    try rw [hW]
    refine (rp_new W).mono ?_
    rintro _ w1 ⟨gn, mn, rfl, hr, hb, hg1, hm1⟩
    have HR1 := Lib.hid hr
    have HB1 := Lib.hid hb
    have HGN := Lib.hid hg1
    have HMN := Lib.hid hm1
    have HG1 := Lib.hid (HRW.out.1.below hb HRW.out.1.lt)
    have n0 := hr.1.cell 0
    have n1 := hr.1.cell 1
    have n2 := hr.1.cell 2
    have d0 := HG1.out.cell 0
    have d1 := HG1.out.cell 1
    have d2 := HG1.out.cell 2
    have f0 := HG1.out.frozen 0
    have f1 := HG1.out.frozen 1
    have f2 := HG1.out.frozen 2
    clear hr hb hg1 hm1
    go_wp2
    go_ret
    refine ⟨by rw [H1.out]; rfl, mn, ?_, ?_, ?_⟩
    · rw [H0.out]
      have hne : mn ≠ g := by have := HMN.out; have := HGL.out; have := HBW.out.size; omega
      have r1 : Rp w1 g m L tk mo := HRW.out.below HB1.out
      have k1 := r1.set 0 (.pointer (some ⟨mn, 0, none⟩)) mn [] tk mo rfl HR1.out.2 hne
      have k2 := k1.set 1 (.int .i64 0) mn [] 0 mo rfl k1.2 hne
      exact k2.set 2 (.bool false) mn [] 0 false rfl k2.2 hne
    · exact (((Kr.of HBW.out).step HB1.out).set 0 _ |>.set 1 _ |>.set 2 _)
    · exact .inr (by have := HMN.out; have := HBW.out.size; omega)
  have he2 : (e == 8) = false := by simpa using he8
  by_cases he0 : e ≠ 0
  · have H0 := Lib.hid (show F = ⟨L, tk, mo⟩ by rw [HF2.out, if_neg he8, if_pos he0])
    have H1 := Lib.hid (show E = 10 by rw [HE2.out, if_neg he8, if_pos he0])
    have HFI := Lib.hid (show ∃ m1, Fs w W g m m1 F.L F.tk F.mo by rw [H0.out]; exact ⟨m, HRW.out, Kr.of HBW.out, .inl rfl⟩)
    have he3 : (e != 0) = true := by simpa using he0
    clear he8 he0 HF2 HE2
    go_enter Try.func12, Try.ntmps12
    go_wp2
    go_ret
    exact ⟨by rw [H1.out]; rfl, HFI.out⟩
  have he3 : (e != 0) = false := by simpa using he0
  have HF3 := Lib.hid (show F = if folB asked tok xs = true then ⟨takes (if asked = 0 then [] else L) xs, tok, more⟩ else ⟨L, tk, mo⟩ by rw [HF2.out, if_neg he8, if_neg he0])
  have HE3 := Lib.hid (show E = if folB asked tok xs = true then 0 else 1 by rw [HE2.out, if_neg he8, if_neg he0])
  clear he8 he0 HF2 HE2
  obtain ⟨B, hB⟩ : ∃ B, folB asked tok xs = B := ⟨_, rfl⟩
  rw [hB] at HFo HF3 HE3
  clear hB
  cases B with
  | false =>
    have H0 := Lib.hid (show F = ⟨L, tk, mo⟩ by rw [HF3.out]; rfl)
    have H1 := Lib.hid (show E = 1 by rw [HE3.out]; rfl)
    clear HF3 HE3
    go_enter Try.func12, Try.ntmps12
    go_wp2_with fail
    try rw [hW]
    refine HFo.out.mono ?_
    rintro _ w1 ⟨rfl, hb⟩
    have HFI := Lib.hid (show ∃ m1, Fs w w1 g m m1 F.L F.tk F.mo by rw [H0.out]; exact ⟨m, HRW.out.below hb, (Kr.of HBW.out).step hb, .inl rfl⟩)
    clear hb
    go_wp2
    go_ret
    exact ⟨by rw [H1.out]; rfl, HFI.out⟩
  | true =>
    have H1 := Lib.hid (show E = 0 by rw [HE3.out]; rfl)
    have H0 := Lib.hid (show F = ⟨takes (if asked = 0 then [] else L) xs, tok, more⟩ by rw [HF3.out]; rfl)
    clear HF3 HE3
    by_cases hz : asked = 0
    · have hz2 : (asked == 0) = true := by rw [hz]; rfl
      have H2 := Lib.hid (show F = ⟨takes [] xs, tok, more⟩ by rw [H0.out, if_pos hz])
      clear hz H0
      go_enter Try.func12, Try.ntmps12
      go_wp2_with fail
      try rw [hW]
      refine HFo.out.mono ?_
      rintro _ w1 ⟨rfl, hb⟩
      have HB1 := Lib.hid hb
      have HX1 := Lib.hid (HX.out.below hb HX.out.lt)
      have HG1 := Lib.hid (HRW.out.below hb)
      have x0 := HX1.out.cell 0
      have x7 := HX1.out.cell 7
      clear hb
      go_wp2_with fail
      refine (OK.om_new w1).mono ?_
      rintro _ w2 ⟨mn, rfl, ho, hb, hge⟩
      have HMN := Lib.hid hge
      have HB2 := Lib.hid hb
      have HOM := Lib.hid ho
      have HX2 := Lib.hid (HX1.out.below hb HX1.out.lt)
      have HG2 := Lib.hid (HG1.out.below hb)
      have d0 := HG2.out.1.cell 0
      have f0 := HG2.out.1.frozen 0
      obtain ⟨W3, hW3⟩ : ∃ W3, w2.setCell ⟨g, 0, none⟩ (.pointer (some ⟨mn, 0, none⟩)) = W3 := ⟨_, rfl⟩
      have HMG := Lib.hid (show mn ≠ g by have := HMN.out; have := HGL.out; have := HBW.out.size; have := HB1.out.size; omega)
      have HS0 := Lib.hid (show Fs w W3 g m mn [] tk mo from ⟨hW3 ▸ HG2.out.set 0 _ mn [] tk mo rfl HOM.out HMG.out, hW3 ▸ ((((Kr.of HBW.out).step HB1.out).step HB2.out).set 0 _), .inr (by have := HMN.out; have := HBW.out.size; have := HB1.out.size; omega)⟩)
      have HX3 := Lib.hid (show Blk W3 X 35 #[.int .i64 k, .int .i64 e, .int .i64 tok, .int .i64 ver, .string card, .int .i64 idx, .bool more, .slice A len cap] from hW3 ▸ HX2.out.far (p := ⟨g, 0, none⟩) HXg.out _)
      have HXW := Lib.hid (show X < W3.heap.size from HX3.out.lt)
      have x7 := HX3.out.cell 7
      have x2 := HX3.out.cell 2
      have x6 := HX3.out.cell 6
      clear hb ho hge
      go_wp2_with fail
      try rw [hW3]
      clear hW3 d0 f0
      go_loopw [48] (fun i wr => ∃ q : Nat, q ≤ len ∧ i = .int .i64 (q : Int) ∧ Blk wr X 35 #[.int .i64 k, .int .i64 e, .int .i64 tok, .int .i64 ver, .string card, .int .i64 idx, .bool more, .slice A len cap] ∧ Fs w wr g m mn (takes [] (xs.take q)) tk mo) (fun i _ => len - (intOf i).toNat)
      case atStart => exact ⟨0, Nat.zero_le _, rfl, HX3.out, HS0.out⟩
      case round =>
        obtain ⟨q, hq, rfl, hbx, hfs⟩ := hrel
        have HBX := Lib.hid hbx
        have HFS := Lib.hid hfs
        have x2 := hbx.cell 2
        have x6 := hbx.cell 6
        clear hbx hfs
        by_cases hql : q < len
        · obtain ⟨t, ht⟩ : ∃ t, xs[q]? = some t := ⟨xs[q]'(by rw [HIW.out.hlen]; exact hql), List.getElem?_eq_getElem _⟩
          obtain ⟨rfl, hbl⟩ := HIW.out.addr (by omega)
          have hbg := HBG.out (by omega)
          have HIr := Lib.hid (show Its wr (some ⟨b, off, none⟩) len cap b off xs from HIW.out.keep (by have := HFS.out.kr.size; have := HBX.out.lt; have := HSW.out; omega) (fun hl => (HFS.out.kr.block b (HBl.out hl) hbg.1 hbg.2).trans ((HBW.out.block b (HBl.out hl)).symm)))
          obtain ⟨c0, c1, c2, c3⟩ := HIr.out.cell q t ht
          have HTS := Lib.hid (takes_snoc [] xs q t ht)
          have HSR := Lib.hid (HFS.out.rp.2.srt)
          have HLE := Lib.hid (show (takes [] (xs.take q)).length ≤ 40000 by
            have h1 := takes_len (xs := xs.take q) (L := []) (List.Pairwise.nil)
            have h2 := HLL.out
            simp only [List.length_take, List.length_nil] at h1
            omega)
          have hqI : (q : Int) < (len : Int) := by omega
          obtain ⟨tu, tv, tx, tc⟩ := t
          simp only at c0 c1 c2 c3
          obtain ⟨Lq, hLq⟩ : ∃ Lq, takes [] (xs.take q) = Lq := ⟨_, rfl⟩
          rw [hLq] at HFS HTS HSR HLE
          clear ht hLq hbg hbl
          obtain ⟨n, hn2⟩ : ∃ n, wr.heap.size = n := ⟨_, rfl⟩
          obtain ⟨W1, hW1⟩ : ∃ W1, wr.alloc (.cells #[.string { data := #[] }, .int .i64 0, .bool false, .string { data := #[] }] 41) = W1 := ⟨_, rfl⟩
          have HC1 := Lib.hid (show Below wr.heap.size wr W1 from hW1 ▸ (Below.refl _ wr).alloc (Nat.le_refl _) _)
          have HY1 := Lib.hid (show Blk W1 n 41 #[.string .empty, .int .i64 0, .bool false, .string .empty] from hn2 ▸ hW1 ▸ Blk.new wr 41 _)
          have y0 := HY1.out.cell 0
          have y1 := HY1.out.cell 1
          have y2 := HY1.out.cell 2
          have y3 := HY1.out.cell 3
          have f0 := HY1.out.frozen 0
          have f1 := HY1.out.frozen 1
          have f2 := HY1.out.frozen 2
          have f3 := HY1.out.frozen 3
          obtain ⟨V2, hV2⟩ : ∃ V2, (((W1.setCell ⟨n, 0, none⟩ (.string tu)).setCell ⟨n, 1, none⟩ (.int .i64 tv)).setCell ⟨n, 2, none⟩ (.bool tx)).setCell ⟨n, 3, none⟩ (.string tc) = V2 := ⟨_, rfl⟩
          have HY2 := Lib.hid (show Blk V2 n 41 #[.string tu, .int .i64 tv, .bool tx, .string tc] from hV2 ▸ ((((HY1.out.set_ 0 _).set_ 1 _).set_ 2 _).set_ 3 _))
          have HC2 := Lib.hid (show Below n wr V2 from hV2 ▸ ((((((HC1.out.mono (Nat.le_of_eq hn2.symm)).setCell (p := ⟨n, 0, none⟩) (Nat.le_refl _) _).setCell (p := ⟨n, 1, none⟩) (Nat.le_refl _) _).setCell (p := ⟨n, 2, none⟩) (Nat.le_refl _) _).setCell (p := ⟨n, 3, none⟩) (Nat.le_refl _) _)))
          have HC3 := Lib.hid (show Below wr.heap.size wr V2 from hn2.symm ▸ HC2.out)
          have HR2 := Lib.hid (HFS.out.rp.below HC3.out)
          have HK2 := Lib.hid (HFS.out.kr.step HC3.out)
          have HX2r := Lib.hid (HBX.out.below HC3.out HBX.out.lt)
          have z0 := HY2.out.cell 0
          have z1 := HY2.out.cell 1
          have z2 := HY2.out.cell 2
          have z3 := HY2.out.cell 3
          have g0 := HR2.out.1.cell 0
          cases tx with
          | true =>
            have HTT := Lib.hid (show tk1 Lq ⟨tu, tv, true, tc⟩ = delL tu Lq from rfl)
            have HCA := Lib.hid (OK.om_del (HR2.out.2.below ((Below.refl V2.heap.size V2).drew)) HLE.out tu _ rfl)
            go_wp2_with fail
            clear hV2 y0 y1 y2 y3 f0 f1 f2 f3 HY1 HC1 hW1
            have e0 : V2.drew.cell? ⟨n, 0, none⟩ = some (.string tu) := z0
            have e1 : V2.drew.cell? ⟨g, 0, none⟩ = some (.pointer (some ⟨mn, 0, none⟩)) := g0
            go_region_with (
                     go_at_call 30
                     (with_reducible refine HCA.out.mono ?_)
                     clear HCA
                     rintro _ w5 ⟨rfl, ho5, hk5⟩
                     have HNX := Lib.hid (show Blk w5 n 41 #[.string tu, .int .i64 tv, .bool true, .string tc] ∧ Blk w5 X 35 #[.int .i64 k, .int .i64 e, .int .i64 tok, .int .i64 ver, .string card, .int .i64 idx, .bool more, .slice (some ⟨b, off, none⟩) len cap] ∧ Fs w w5 g m mn (delL tu Lq) tk mo from fs_step HFS.out.hm HR2.out HK2.out HX2r.out HXL.out HXm.out HXg.out HY2.out ho5 hk5)
                     clear ho5 hk5)
            all_goals (
              go_wp2
              go_roundw
              case rel => exact ⟨q + 1, by omega, by go_num, HNX.out.2.1, HTS.out ▸ HTT.out ▸ HNX.out.2.2⟩
              case measure => simp [intOf]; omega)
          | false =>
            have HTT := Lib.hid (show tk1 Lq ⟨tu, tv, false, tc⟩ = insL tu (tv, tc) Lq from rfl)
            have HCA := Lib.hid (OK.om_put (HR2.out.2.below ((Below.refl V2.heap.size V2).drew)) HLE.out tu (tv, tc) _ rfl)
            go_wp2_with fail
            clear hV2 y0 y1 y2 y3 f0 f1 f2 f3 HY1 HC1 hW1
            have e0 : V2.drew.cell? ⟨n, 0, none⟩ = some (.string tu) := z0
            have e2 : V2.drew.cell? ⟨n, 1, none⟩ = some (.int .i64 tv) := z1
            have e3 : V2.drew.cell? ⟨n, 3, none⟩ = some (.string tc) := z3
            have e1 : V2.drew.cell? ⟨g, 0, none⟩ = some (.pointer (some ⟨mn, 0, none⟩)) := g0
            go_region_held3 (fun w' => w'.cell? ⟨n, 0, none⟩ = some (.string tu) ∧ w'.cell? ⟨n, 1, none⟩ = some (.int .i64 tv) ∧ w'.cell? ⟨n, 3, none⟩ = some (.string tc) ∧ w'.cell? ⟨g, 0, none⟩ = some (.pointer (some ⟨mn, 0, none⟩))) (refine ⟨?_, ?_, ?_, ?_⟩ <;> assumption) (first
                   | (go_at_call 31
                      (with_reducible refine HCA.out.mono ?_)
                      clear HCA
                      rintro _ w5 ⟨rfl, ho5, hk5⟩
                      have HNX := Lib.hid (show Blk w5 n 41 #[.string tu, .int .i64 tv, .bool false, .string tc] ∧ Blk w5 X 35 #[.int .i64 k, .int .i64 e, .int .i64 tok, .int .i64 ver, .string card, .int .i64 idx, .bool more, .slice (some ⟨b, off, none⟩) len cap] ∧ Fs w w5 g m mn (insL tu (tv, tc) Lq) tk mo from fs_step HFS.out.hm HR2.out HK2.out HX2r.out HXL.out HXm.out HXg.out HY2.out ho5 hk5)
                      clear ho5 hk5
                      have q0 : w5.cell? ⟨n, 0, none⟩ = some (.string tu) := HNX.out.1.cell 0
                      have q1 : w5.cell? ⟨n, 1, none⟩ = some (.int .i64 tv) := HNX.out.1.cell 1
                      have q3 : w5.cell? ⟨n, 3, none⟩ = some (.string tc) := HNX.out.1.cell 3
                      have q4 : w5.cell? ⟨g, 0, none⟩ = some (.pointer (some ⟨mn, 0, none⟩)) := HNX.out.2.2.rp.1.cell 0)
                   | fail)
            all_goals (
              go_wp2
              go_roundw
              case rel => exact ⟨q + 1, by omega, by go_num, HNX.out.2.1, HTS.out ▸ HTT.out ▸ HNX.out.2.2⟩
              case measure => simp [intOf]; omega)
        · obtain rfl : q = len := by omega
          have HQ := Lib.hid (show takes [] (xs.take q) = takes [] xs by rw [List.take_of_length_le (by omega)])
          rw [HQ.out] at HFS
          obtain ⟨Lq, hLq⟩ : ∃ Lq, takes [] xs = Lq := ⟨_, rfl⟩
          rw [hLq] at HFS H2
          clear hLq HQ
          have g1 := HFS.out.rp.1.cell 1
          have g2 := HFS.out.rp.1.cell 2
          have f1 := HFS.out.rp.1.frozen 1
          have f2 := HFS.out.rp.1.frozen 2
          have hxg := HXg.out
          have x2 := HBX.out.cell 2
          have x6 := HBX.out.cell 6
          go_wp2_with fail
          go_region
          go_wp2
          go_ret
          exact ⟨by rw [H1.out]; rfl, mn, by rw [H2.out]; exact fs_end HFS.out⟩
    · have hz2 : (asked == 0) = false := by simpa using hz
      have H2 := Lib.hid (show F = ⟨takes L xs, tok, more⟩ by rw [H0.out, if_neg hz])
      clear hz H0
      go_enter Try.func12, Try.ntmps12
      go_wp2_with fail
      try rw [hW]
      refine HFo.out.mono ?_
      rintro _ w1 ⟨rfl, hb⟩
      have HB1 := Lib.hid hb
      have HX1 := Lib.hid (HX.out.below hb HX.out.lt)
      have HG1 := Lib.hid (HRW.out.below hb)
      have HS0 := Lib.hid (show Fs w w1 g m m L tk mo from ⟨HG1.out, (Kr.of HBW.out).step hb, .inl rfl⟩)
      have x0 := HX1.out.cell 0
      have x7 := HX1.out.cell 7
      clear hb
      go_wp2_with fail
      skip
      go_loopw [48] (fun i wr => ∃ q : Nat, q ≤ len ∧ i = .int .i64 (q : Int) ∧ Blk wr X 35 #[.int .i64 k, .int .i64 e, .int .i64 tok, .int .i64 ver, .string card, .int .i64 idx, .bool more, .slice A len cap] ∧ Fs w wr g m m (takes L (xs.take q)) tk mo) (fun i _ => len - (intOf i).toNat)
      case atStart => exact ⟨0, Nat.zero_le _, rfl, HX1.out, HS0.out⟩
      case round =>
        obtain ⟨q, hq, rfl, hbx, hfs⟩ := hrel
        have HBX := Lib.hid hbx
        have HFS := Lib.hid hfs
        have x2 := hbx.cell 2
        have x6 := hbx.cell 6
        clear hbx hfs
        by_cases hql : q < len
        · obtain ⟨t, ht⟩ : ∃ t, xs[q]? = some t := ⟨xs[q]'(by rw [HIW.out.hlen]; exact hql), List.getElem?_eq_getElem _⟩
          obtain ⟨rfl, hbl⟩ := HIW.out.addr (by omega)
          have hbg := HBG.out (by omega)
          have HIr := Lib.hid (show Its wr (some ⟨b, off, none⟩) len cap b off xs from HIW.out.keep (by have := HFS.out.kr.size; have := HBX.out.lt; have := HSW.out; omega) (fun hl => (HFS.out.kr.block b (HBl.out hl) hbg.1 hbg.2).trans ((HBW.out.block b (HBl.out hl)).symm)))
          obtain ⟨c0, c1, c2, c3⟩ := HIr.out.cell q t ht
          have HTS := Lib.hid (takes_snoc L xs q t ht)
          have HSR := Lib.hid (HFS.out.rp.2.srt)
          have HLE := Lib.hid (show (takes L (xs.take q)).length ≤ 40000 by
            have h1 := takes_len (xs := xs.take q) (L := L) (HRW.out.2.srt)
            have h2 := HLL.out
            simp only [List.length_take, List.length_nil] at h1
            omega)
          have hqI : (q : Int) < (len : Int) := by omega
          obtain ⟨tu, tv, tx, tc⟩ := t
          simp only at c0 c1 c2 c3
          obtain ⟨Lq, hLq⟩ : ∃ Lq, takes L (xs.take q) = Lq := ⟨_, rfl⟩
          rw [hLq] at HFS HTS HSR HLE
          clear ht hLq hbg hbl
          obtain ⟨n, hn2⟩ : ∃ n, wr.heap.size = n := ⟨_, rfl⟩
          obtain ⟨W1, hW1⟩ : ∃ W1, wr.alloc (.cells #[.string { data := #[] }, .int .i64 0, .bool false, .string { data := #[] }] 41) = W1 := ⟨_, rfl⟩
          have HC1 := Lib.hid (show Below wr.heap.size wr W1 from hW1 ▸ (Below.refl _ wr).alloc (Nat.le_refl _) _)
          have HY1 := Lib.hid (show Blk W1 n 41 #[.string .empty, .int .i64 0, .bool false, .string .empty] from hn2 ▸ hW1 ▸ Blk.new wr 41 _)
          have y0 := HY1.out.cell 0
          have y1 := HY1.out.cell 1
          have y2 := HY1.out.cell 2
          have y3 := HY1.out.cell 3
          have f0 := HY1.out.frozen 0
          have f1 := HY1.out.frozen 1
          have f2 := HY1.out.frozen 2
          have f3 := HY1.out.frozen 3
          obtain ⟨V2, hV2⟩ : ∃ V2, (((W1.setCell ⟨n, 0, none⟩ (.string tu)).setCell ⟨n, 1, none⟩ (.int .i64 tv)).setCell ⟨n, 2, none⟩ (.bool tx)).setCell ⟨n, 3, none⟩ (.string tc) = V2 := ⟨_, rfl⟩
          have HY2 := Lib.hid (show Blk V2 n 41 #[.string tu, .int .i64 tv, .bool tx, .string tc] from hV2 ▸ ((((HY1.out.set_ 0 _).set_ 1 _).set_ 2 _).set_ 3 _))
          have HC2 := Lib.hid (show Below n wr V2 from hV2 ▸ ((((((HC1.out.mono (Nat.le_of_eq hn2.symm)).setCell (p := ⟨n, 0, none⟩) (Nat.le_refl _) _).setCell (p := ⟨n, 1, none⟩) (Nat.le_refl _) _).setCell (p := ⟨n, 2, none⟩) (Nat.le_refl _) _).setCell (p := ⟨n, 3, none⟩) (Nat.le_refl _) _)))
          have HC3 := Lib.hid (show Below wr.heap.size wr V2 from hn2.symm ▸ HC2.out)
          have HR2 := Lib.hid (HFS.out.rp.below HC3.out)
          have HK2 := Lib.hid (HFS.out.kr.step HC3.out)
          have HX2r := Lib.hid (HBX.out.below HC3.out HBX.out.lt)
          have z0 := HY2.out.cell 0
          have z1 := HY2.out.cell 1
          have z2 := HY2.out.cell 2
          have z3 := HY2.out.cell 3
          have g0 := HR2.out.1.cell 0
          cases tx with
          | true =>
            have HTT := Lib.hid (show tk1 Lq ⟨tu, tv, true, tc⟩ = delL tu Lq from rfl)
            have HCA := Lib.hid (OK.om_del (HR2.out.2.below ((Below.refl V2.heap.size V2).drew)) HLE.out tu _ rfl)
            go_wp2_with fail
            clear hV2 y0 y1 y2 y3 f0 f1 f2 f3 HY1 HC1 hW1
            have e0 : V2.drew.cell? ⟨n, 0, none⟩ = some (.string tu) := z0
            have e1 : V2.drew.cell? ⟨g, 0, none⟩ = some (.pointer (some ⟨m, 0, none⟩)) := g0
            go_region_with (
                     go_at_call 30
                     (with_reducible refine HCA.out.mono ?_)
                     clear HCA
                     rintro _ w5 ⟨rfl, ho5, hk5⟩
                     have HNX := Lib.hid (show Blk w5 n 41 #[.string tu, .int .i64 tv, .bool true, .string tc] ∧ Blk w5 X 35 #[.int .i64 k, .int .i64 e, .int .i64 tok, .int .i64 ver, .string card, .int .i64 idx, .bool more, .slice (some ⟨b, off, none⟩) len cap] ∧ Fs w w5 g m m (delL tu Lq) tk mo from fs_step HFS.out.hm HR2.out HK2.out HX2r.out HXL.out HXm.out HXg.out HY2.out ho5 hk5)
                     clear ho5 hk5)
            all_goals (
              go_wp2
              go_roundw
              case rel => exact ⟨q + 1, by omega, by go_num, HNX.out.2.1, HTS.out ▸ HTT.out ▸ HNX.out.2.2⟩
              case measure => simp [intOf]; omega)
          | false =>
            have HTT := Lib.hid (show tk1 Lq ⟨tu, tv, false, tc⟩ = insL tu (tv, tc) Lq from rfl)
            have HCA := Lib.hid (OK.om_put (HR2.out.2.below ((Below.refl V2.heap.size V2).drew)) HLE.out tu (tv, tc) _ rfl)
            go_wp2_with fail
            clear hV2 y0 y1 y2 y3 f0 f1 f2 f3 HY1 HC1 hW1
            have e0 : V2.drew.cell? ⟨n, 0, none⟩ = some (.string tu) := z0
            have e2 : V2.drew.cell? ⟨n, 1, none⟩ = some (.int .i64 tv) := z1
            have e3 : V2.drew.cell? ⟨n, 3, none⟩ = some (.string tc) := z3
            have e1 : V2.drew.cell? ⟨g, 0, none⟩ = some (.pointer (some ⟨m, 0, none⟩)) := g0
            go_region_held3 (fun w' => w'.cell? ⟨n, 0, none⟩ = some (.string tu) ∧ w'.cell? ⟨n, 1, none⟩ = some (.int .i64 tv) ∧ w'.cell? ⟨n, 3, none⟩ = some (.string tc) ∧ w'.cell? ⟨g, 0, none⟩ = some (.pointer (some ⟨m, 0, none⟩))) (refine ⟨?_, ?_, ?_, ?_⟩ <;> assumption) (first
                   | (go_at_call 31
                      (with_reducible refine HCA.out.mono ?_)
                      clear HCA
                      rintro _ w5 ⟨rfl, ho5, hk5⟩
                      have HNX := Lib.hid (show Blk w5 n 41 #[.string tu, .int .i64 tv, .bool false, .string tc] ∧ Blk w5 X 35 #[.int .i64 k, .int .i64 e, .int .i64 tok, .int .i64 ver, .string card, .int .i64 idx, .bool more, .slice (some ⟨b, off, none⟩) len cap] ∧ Fs w w5 g m m (insL tu (tv, tc) Lq) tk mo from fs_step HFS.out.hm HR2.out HK2.out HX2r.out HXL.out HXm.out HXg.out HY2.out ho5 hk5)
                      clear ho5 hk5
                      have q0 : w5.cell? ⟨n, 0, none⟩ = some (.string tu) := HNX.out.1.cell 0
                      have q1 : w5.cell? ⟨n, 1, none⟩ = some (.int .i64 tv) := HNX.out.1.cell 1
                      have q3 : w5.cell? ⟨n, 3, none⟩ = some (.string tc) := HNX.out.1.cell 3
                      have q4 : w5.cell? ⟨g, 0, none⟩ = some (.pointer (some ⟨m, 0, none⟩)) := HNX.out.2.2.rp.1.cell 0)
                   | fail)
            all_goals (
              go_wp2
              go_roundw
              case rel => exact ⟨q + 1, by omega, by go_num, HNX.out.2.1, HTS.out ▸ HTT.out ▸ HNX.out.2.2⟩
              case measure => simp [intOf]; omega)
        · obtain rfl : q = len := by omega
          have HQ := Lib.hid (show takes L (xs.take q) = takes L xs by rw [List.take_of_length_le (by omega)])
          rw [HQ.out] at HFS
          obtain ⟨Lq, hLq⟩ : ∃ Lq, takes L xs = Lq := ⟨_, rfl⟩
          rw [hLq] at HFS H2
          clear hLq HQ
          have g1 := HFS.out.rp.1.cell 1
          have g2 := HFS.out.rp.1.cell 2
          have f1 := HFS.out.rp.1.frozen 1
          have f2 := HFS.out.rp.1.frozen 2
          have hxg := HXg.out
          have x2 := HBX.out.cell 2
          have x6 := HBX.out.cell 6
          go_wp2_with fail
          go_region
          go_wp2
          go_ret
          exact ⟨by rw [H1.out]; rfl, m, by rw [H2.out]; exact fs_end HFS.out⟩
end Go.Proofs.Ytpmgabeefppajaa.Cp
/- The replica: Cards. -/
namespace Go.Proofs.Ytpmgabeefppajaa.Cp
open Go.RowKit
open Go.Lib
set_option linter.unusedVariables false
set_option linter.unusedSimpArgs false
set_option maxRecDepth 100000
open Go.Shelf
attribute [local go_sem] Oper.semAt_some
theorem info41 : (Try.prog.info? 41).map (fun i => (i.zero, i.size, i.bytes)) = some (some (.agg #[.string .empty, .int .i64 0, .bool false, .string .empty]), 4, 48) := by kernel_rfl
theorem itsK_len (L : LK) : (itsK L).length = L.length := by unfold itsK; rw [List.length_map]
theorem cell_four_new (w : World) (a b c d : Value) (t : TypeId) : ∀ j u, [a, b, c, d][j]? = some u → (w.alloc (.cells #[a, b, c, d] t)).cell? ((⟨w.heap.size, 0, none⟩ : Addr).add j) = some u := by
  intro j u hj
  have e := (Blk.new w t #[a, b, c, d]).cell j
  rw [show (⟨w.heap.size, 0, none⟩ : Addr).add j = ⟨w.heap.size, j, none⟩ by unfold Addr.add; split <;> simp_all, e, ← hj]
  simp
theorem keepsFrom_below {B : Nat} {W W' : World} (h : Below W.heap.size W W') : KeepsFrom B W W' := ⟨h.size, fun k o _ hk _ => (h.block k (Array.getElem?_eq_some_iff.1 hk).1).trans hk⟩
theorem boxed_below {W W' : World} {b : Nat} {t : TypeId} {v : Value} (hv : Boxed W b t v) (h : Below W.heap.size W W') : Boxed W' b t v := (h.block b hv.lt).trans hv
theorem own_below {w1 w2 : World} {base : Nat} {e : TypeId} {k n : Nat} {v : Value} {xs : List Value} (h : w1.ownsRow base e k v n xs) (ht : Below w1.heap.size w1 w2) : w2.ownsRow base e k v n xs := by
  obtain ⟨h0, h3 | ⟨b, cap, cur, e1, e2, e3, e4⟩⟩ := h
  · exact ⟨h0, .inl h3⟩
  · exact ⟨h0, .inr ⟨b, cap, cur, e1, e2, (ht.block b (Blk.lt e3)).trans e3, e4⟩⟩
set_option maxHeartbeats 8000000 in
theorem cards_any {w : World} {g m : Nat} {L : LK} {tk : Int} {mo : Bool} (hR : Rp w g m L tk mo) (hn : L.length ≤ 40000) (hks : ∀ q ∈ L, q.1.size ≤ 1000000) : Calls Try.prog 18 #[.pointer (some ⟨g, 0, none⟩)] w fun e w' => ∃ U, e = .returned U ∧ w'.ownsRow w.heap.size 41 4 U L.length (itsC (itsK L)) ∧ Below w.heap.size w w' := by
  obtain ⟨i0, hi, hz0, hz1, hz2⟩ := info_parts info41
  have c0 := hR.1.cell 0
  have HLN := Lib.hid (OK.om_len hR.2)
  have HRB := Lib.hid hR.1
  obtain ⟨t, hM, rfl, hS⟩ := hR.2
  obtain ⟨w1, hmk, hrow1, hg1⟩ := run_make_own (P := Try.prog) w w.heap.size 28 41 i0 _ 4 Try.underlying28 hi hz0 hz1 .i64 .i64 t.ino.length (by rw [hz2]; omega) (by unfold maxLen; omega) (Nat.le_refl _)
  have hB1 : Below w.heap.size w w1 := ⟨hg1.os, hg1.tape, hg1.output, hg1.size, fun j hj => hg1.block j hj (by simp)⟩
  have HB1 := Lib.hid hB1
  have HM := Lib.hid hM
  have d0 := ((HRB.out.below hB1 HRB.out.lt).alloc (.cells #[.slice (some ⟨w.heap.size, 0, none⟩) 0 t.ino.length] 28)).cell 0
  have hd : Fence.wide.depth = none := rfl
  have hall : ∀ f, Fence.wide.fn f := fun _ => trivial
  have hro : Fence.wide.round = none := rfl
  have h1 : 1 ≤ 6 := by decide
  have hnI : (t.ino.length : Int) ≤ 40000 := by omega
  clear hM hB1 hR
  refine (callsIn_wide (n := 6)).1 ?_
  refine callsIn_of_wp_marks Try.func18 rfl (hall _) ?_ hro
  simp only [Try.ntmps18, List.size_toArray, List.length_cons, List.length_nil, Nat.reduceAdd, Nat.reduceSub, Array.replicate_succ, Array.replicate_zero, List.push_toArray, List.append_toArray, List.nil_append, List.cons_append]
  gi_wp2_with (first
    | (gi_at_call 34; refine (callsIn_wide.2 HLN.out).mono ?_; rintro _ wz ⟨rfl, hw0⟩; replace hw0 := hw0.symm; subst hw0)
    | (gi_at_call 35; refine (callsIn_wide.2 (OK.all_fn m _)).mono ?_; rintro _ wz ⟨rfl, hw0⟩; replace hw0 := hw0.symm; subst hw0)
    | fail)
  obtain ⟨W0, hW0⟩ : ∃ W0, ((w1.alloc (.cells #[.slice (some ⟨w.heap.size, 0, none⟩) 0 t.ino.length] 28)).alloc (.cells #[.pointer (some ⟨m, 0, none⟩)] 62)).alloc (.cells #[.string .empty] 9) = W0 := ⟨_, rfl⟩
  have hs1 : w.heap.size ≤ w1.heap.size := HB1.out.size
  have bO : Boxed W0 w1.heap.size 28 (.slice (some ⟨w.heap.size, 0, none⟩) 0 t.ino.length) := by
    rw [← hW0]; exact ((Boxed.new w1 28 _).alloc _).alloc _
  have bM : Boxed W0 (w1.heap.size + 1) 62 (.pointer (some ⟨m, 0, none⟩)) := by
    have := (Boxed.new (w1.alloc (.cells #[.slice (some ⟨w.heap.size, 0, none⟩) 0 t.ino.length] 28)) 62 (.pointer (some ⟨m, 0, none⟩))).alloc (.cells #[.string .empty] 9)
    rw [World.size_alloc] at this
    rw [← hW0]; exact this
  have bX : Boxed W0 (w1.heap.size + 1 + 1) 9 (.string .empty) := by
    have := Boxed.new ((w1.alloc (.cells #[.slice (some ⟨w.heap.size, 0, none⟩) 0 t.ino.length] 28)).alloc (.cells #[.pointer (some ⟨m, 0, none⟩)] 62)) 9 (.string .empty)
    rw [World.size_alloc, World.size_alloc] at this
    rw [← hW0]; exact this
  have hB0 : Below w1.heap.size w1 W0 := by
    rw [← hW0]; exact (((Below.refl _ w1).alloc (Nat.le_refl _) _).alloc (by simp) _).alloc (by simp; omega) _
  have hBw : Below w.heap.size w W0 := HB1.out.trans (hB0.mono hs1)
  have hrow0 : W0.ownsRow w.heap.size 41 4 (.slice (some ⟨w.heap.size, 0, none⟩) 0 t.ino.length) 0 [] := by
    rw [← hW0]; exact ((hrow1.alloc _).alloc _).alloc _
  have hM0 : OK.Mt W0 m t := HM.out.below hBw
  have hs0 : W0.heap.size = w1.heap.size + 1 + 1 + 1 := by rw [← hW0]; simp
  have hU : Tr.und .empty t = t.ino := Tr.und_empty t
  rw [hW0]
  have hst := OK.und_stops 5 (w1.heap.size + 1) (w1.heap.size + 1 + 1) m t .empty (by decide) W0 bM.lt bX.lt bM.cell bX.cell hM0 hks
  rw [hU] at hst
  clear d0 c0
  refine wpIn_rangeFunc_ownH (F := Fence.wide) (n := 6) hro h1 (gf := 63) (lb := #[.pointer (some ⟨w1.heap.size + 1, 0, none⟩), .pointer (some ⟨w1.heap.size + 1 + 1, 0, none⟩)]) rfl (hall _) (enters_of Try.func63 (by kernel_rfl) rfl)
    hst (fun h k => h.trans k) (fun W l o o' hl h1 h2 h3 => OK.KeepN.put (w := W0) W l o o' hl h1 h2 h3) (Below.refl _ _) (fun _ => rfl)
    (fun pre W => (∃ v, Boxed W w1.heap.size 28 v ∧ W.ownsRow w.heap.size 41 4 v pre.length (itsC (itsK pre)) ∧ True) ∧ Below w.heap.size w W)
    (fun _ _ _ => False)
    (OwnFrom.and (Own.from (holdsRow_own w.heap.size w1.heap.size 28 41 4 (fun pre => pre.length) (fun pre => itsC (itsK pre)) (fun _ _ => True)) _) (ownFrom_below (Nat.le_refl _) hBw.size))
    (fun _ _ _ _ _ hs _ _ => hs)
    ⟨⟨_, bO, hrow0, trivial⟩, hBw⟩
    (fun x a W => ∃ B, Blk W B 65 #[.int .i64 x.2.1, .string x.2.2] ∧ a = { tmps := #[.pointer (some ⟨g, 0, none⟩), undef, .slice none 0 0, .pointer (some ⟨w1.heap.size, 0, none⟩), .string x.1, .pointer (some ⟨B, 0, none⟩), .pointer (some ⟨g, 0, none⟩), .pointer (some ⟨g, 0, none⟩), .pointer (some ⟨g, 0, none⟩), .pointer (some ⟨m, 0, none⟩), .int .i64 (t.ino.length : Int), .slice (some ⟨w.heap.size, 0, none⟩) 0 t.ino.length, .pointer (some ⟨g, 0, none⟩), .pointer (some ⟨g, 0, none⟩), .pointer (some ⟨g, 0, none⟩), .pointer (some ⟨m, 0, none⟩), .func (.func 63) #[] #[.pointer (some ⟨w1.heap.size + 1, 0, none⟩), .pointer (some ⟨w1.heap.size + 1 + 1, 0, none⟩)], .string x.1, .agg #[.int .i64 x.2.1, .string x.2.2], undef, undef, undef, undef, undef, undef, undef, undef, undef, undef], defers := [] })
    (fun x a' => fun _ X Y row hs hg hr => by
      obtain ⟨B, h1, h2⟩ := hs
      exact ⟨B, h1.grown hg (fun e => by
        obtain ⟨_, o, ho, hc⟩ := hr B e.symm
        unfold Blk at h1
        rw [h1] at ho
        cases ho
        cases hc), h2⟩) ?assign ?body ?done ?stop
  case assign =>
    rintro l pre x W K ⟨⟨v, hv, hrow, _⟩, hB⟩ hK
    have HV := Lib.hid hv
    have HROW := Lib.hid hrow
    have HBB := Lib.hid hB
    clear hv hrow hB
    obtain ⟨n, hn2⟩ : ∃ n, W.heap.size = n := ⟨_, rfl⟩
    obtain ⟨W1, hW1⟩ : ∃ W1, W.alloc (.cells #[.int .i64 0, .string { data := #[] }] 65) = W1 := ⟨_, rfl⟩
    have HC1 := Lib.hid (show Below W.heap.size W W1 from hW1 ▸ (Below.refl _ W).alloc (Nat.le_refl _) _)
    have HY1 := Lib.hid (show Blk W1 n 65 #[.int .i64 0, .string .empty] from hn2 ▸ hW1 ▸ Blk.new W 65 _)
    have y0 := HY1.out.cell 0
    have y1 := HY1.out.cell 1
    have f0 := HY1.out.frozen 0
    have f1 := HY1.out.frozen 1
    have HY2 := Lib.hid ((HY1.out.set_ 0 (.int .i64 x.2.1)).set_ 1 (.string x.2.2))
    have HC2 := Lib.hid (((HC1.out.mono (Nat.le_of_eq hn2.symm)).setCell (p := ⟨n, 0, none⟩) (Nat.le_refl _) (.int .i64 x.2.1)).setCell (p := ⟨n, 1, none⟩) (Nat.le_refl _) (.string x.2.2))
    have HK := Lib.hid hK
    clear hK
    simp only [OK.enI]
    gi_wp2
    have hC' := HC2.out.mono (Nat.le_of_eq hn2)
    exact HK.out _ _ (keepsFrom_below hC') (OK.KeepN.of hC') ⟨⟨v, boxed_below HV.out hC', own_below HROW.out hC', trivial⟩, HBB.out.trans (hC'.mono HBB.out.size)⟩ ⟨n, HY2.out, rfl⟩
  case body =>
    rintro l pre x a' W _ _ ⟨⟨v, hv, hrow, _⟩, hB⟩ ⟨B, hbx, rfl⟩ hlt
    have hc := hv.cell
    have b0 := hbx.cell 0
    have b1 := hbx.cell 1
    have hBs := hB.size
    have hplt : pre.length < 40000 := by omega
    clear hbx
    gi_wp2_with (first
      | (gi_at_builtin; refine wpListIn_append_own _ rfl _ _ 28 rfl w.heap.size 41 i0 _ 4 48 Try.underlying28 hi hz0 hz1 hz2 rfl (by decide) _ _ _ rfl (hrow.alloc _) ⟨W.heap.size, 0, none⟩ 1 1 [.string x.1, .int .i64 x.2.1, .bool false, .string x.2.2] rfl rfl (cell_four_new _ _ _ _ _ _) (by simp [Value.oneCell']) (by unfold maxLen; omega) (by omega) (by simp; omega) ?_; intro v' w2 hown' hgrow _; obtain ⟨g', cap', rfl⟩ := ownsRow_succ hown'; obtain ⟨hv1, hv2, hr2, hk2, hb2⟩ := hv.appended (by decide) hrow hBs hs1 hown' hgrow; have hc1 := hv1.cell; have hf1 := hv1.frozen; have hkn := ((OK.KeepN.of ((Below.refl _ W).alloc (Nat.le_refl _) (.cells #[.string x.1, .int .i64 x.2.1, .bool false, .string x.2.2] 41))).trans (OK.KeepN.grown (hrow.alloc _) (by decide) hgrow)).trans (OK.KeepN.set (g := w1.heap.size) (t := 28) hv1 (by decide) 0 (.slice (some ⟨g', 0, none⟩) (pre.length + 1) cap')))
      | fail)
    have e : itsC (itsK (pre ++ [x])) = itsC (itsK pre) ++ [.string x.1, .int .i64 x.2.1, .bool false, .string x.2.2] := by unfold itsK; rw [List.map_append, List.map_singleton, itsC_snoc]; rfl
    exact ⟨hk2.from _, hkn, ⟨_, hv2, by rw [e, List.length_append]; exact hr2, trivial⟩, hB.trans hb2⟩
  case done =>
    rintro D ys W hD rfl ⟨⟨v, hv, hrow, _⟩, hB⟩ hK
    have hc := hv.cell
    gi_wp2
    refine ⟨by simp, .inl ⟨_, _, rfl, run_takeDeferred hK, ?_⟩⟩
    have hrow' := ownsRow_putObj hrow (.deferred none) hK rfl
    exact ⟨_, results_tmp rfl _ _ _, v, rfl, hrow', hB.trans (belowK_b (w := w) (Nat.le_refl _) W D _ _ (by omega) hK rfl rfl)⟩
  case stop =>
    rintro D c pre W _ _ h _
    exact h.elim
end Go.Proofs.Ytpmgabeefppajaa.Cp
namespace Go.Proofs.Ytpmgabeefppajaa.Cp
open Go.RowKit
open Go.Lib
set_option linter.unusedVariables false
set_option linter.unusedSimpArgs false
set_option maxRecDepth 100000
theorem cards_its {w : World} {g m : Nat} {L : LK} {tk : Int} {mo : Bool} (hR : Rp w g m L tk mo) (hn : L.length ≤ 40000) (hks : ∀ q ∈ L, q.1.size ≤ 1000000) : Calls Try.prog 18 #[.pointer (some ⟨g, 0, none⟩)] w fun e w' => ∃ A cap b, e = .returned (.slice A L.length cap) ∧ Its w' A L.length cap b 0 (itsK L) ∧ Below w.heap.size w w' ∧ (0 < L.length → w.heap.size ≤ b) := by
  refine (cards_any hR hn hks).mono ?_
  rintro _ w1 ⟨U, rfl, h1, h2⟩
  rw [← itsK_len L] at h1
  obtain ⟨A, cap, b, rfl, h3, h4⟩ := own_its2 h1
  rw [itsK_len] at h3 h4 ⊢
  exact ⟨A, cap, b, rfl, h3, h2, h4⟩
def exI : It := ⟨⟨#[97]⟩, 6, false, ⟨#[110, 97, 109, 101, 58, 65, 110, 110, 10]⟩⟩
theorem ex_new (w : World) : Its (w.alloc (.cells #[.string { data := #[97] }, .int .i64 6, .bool false, .string { data := #[110, 97, 109, 101, 58, 65, 110, 110, 10] }] 41)) (some ⟨w.heap.size, 0, none⟩) 1 1 w.heap.size 0 [exI] :=
  ⟨rfl, Nat.le_refl _, fun _ => ⟨rfl, by simp⟩, fun j t hj => by
    match j, hj with
    | 0, hj =>
      simp at hj
      subst hj
      have hb := Blk.new w 41 #[.string { data := #[97] }, .int .i64 6, .bool false, .string { data := #[110, 97, 109, 101, 58, 65, 110, 110, 10] }]
      exact ⟨hb.cell 0, hb.cell 1, hb.cell 2, hb.cell 3⟩⟩
theorem ex_fold : foldR ⟨[], 0, false⟩ 0 8 0 6 false [exI] = ⟨[(exI.u, (6, exI.c))], 6, false⟩ := by rfl
theorem ex_foldE : foldE ⟨[], 0, false⟩ 0 8 0 6 [exI] = 0 := by rfl
set_option maxHeartbeats 4000000 in
theorem first_any (w : World) : Calls Try.prog 8 #[] w fun e w' => e = .returned (.bool true) ∧ Below w.heap.size w w' := by
  go_enter Try.func8, Try.ntmps8
  go_wp2_with fail
  refine (rp_new w).mono ?_
  rintro _ w1 ⟨g, m, rfl, hr, hb, hg, hm⟩
  have HR := Lib.hid hr
  have HB := Lib.hid hb
  have HG := Lib.hid hg
  have HM := Lib.hid hm
  clear hr hb hg hm
  obtain ⟨W, hW⟩ : ∃ W, w1.alloc (.cells #[.string { data := #[97] }, .int .i64 6, .bool false, .string { data := #[110, 97, 109, 101, 58, 65, 110, 110, 10] }] 41) = W := ⟨_, rfl⟩
  have hbW : Below w1.heap.size w1 W := hW ▸ (Below.refl _ w1).alloc (Nat.le_refl _) _
  have HRW := Lib.hid (HR.out.below hbW)
  have HBW := Lib.hid (HB.out.trans (hbW.mono HB.out.size))
  have HI := Lib.hid (show Its W (some ⟨w1.heap.size, 0, none⟩) 1 1 w1.heap.size 0 [exI] from hW ▸ ex_new w1)
  have hgl := HR.out.lt
  have hml := HR.out.2.lt
  have HF := Lib.hid (fold_any HRW.out HI.out (fun _ => ⟨by omega, by omega⟩) (by omega) (by simp) (fun t ht => by simp at ht; subst ht; decide) 0 8 0 6 0 { data := #[] } 0 false _ ex_fold 0 ex_foldE)
  clear hbW hgl hml
  go_wp2_with fail
  try rw [hW]
  refine HF.out.mono ?_
  rintro _ w2 ⟨rfl, m1, h1, h2, h3⟩
  have HR2 := Lib.hid h1
  have HB2 := Lib.hid (show Below w.heap.size w w2 from HBW.out.trans (h2.below HBW.out.size HG.out HM.out))
  clear h1 h2 h3 HF
  have HGT := Lib.hid (rp_get HR2.out ⟨#[97]⟩ (some (6, exI.c)) rfl)
  go_wp2_with fail
  refine HGT.out.mono ?_
  rintro _ w3 ⟨rfl, hb3⟩
  have HR3 := Lib.hid (HR2.out.below hb3)
  have HB3 := Lib.hid (HB2.out.trans (hb3.mono HB2.out.size))
  clear hb3 HGT
  have HT := Lib.hid (rp_token HR3.out)
  have HC := Lib.hid (cards_its HR3.out (by simp) (fun q hq => by simp at hq; subst hq; decide))
  go_wp2_with fail
  refine HT.out.mono ?_
  rintro _ wz ⟨rfl, hw0⟩
  replace hw0 := hw0.symm
  subst hw0
  go_wp2_with fail
  refine HC.out.mono ?_
  rintro _ w4 ⟨A, cap, b, rfl, _, hb4, _⟩
  have HR4 := Lib.hid (HR3.out.below hb4)
  have HB4 := Lib.hid (HB3.out.trans (hb4.mono HB3.out.size))
  clear hb4 HC HT
  have HM4 := Lib.hid (rp_more HR4.out)
  have he : (exI.c.toList == [110, 97, 109, 101, 58, 65, 110, 110, 10]) = true := by kernel_rfl
  go_wp2_with fail
  refine HM4.out.mono ?_
  rintro _ wz ⟨rfl, hw0⟩
  replace hw0 := hw0.symm
  subst hw0
  go_wp2
  go_ret
  exact ⟨rfl, HB4.out⟩
end Go.Proofs.Ytpmgabeefppajaa.Cp
