/- ColChecks. -/
import Derived.Test.YthcjbljkokflgaaCa
import Derived.Test.YthcjbljkokflgaaZbe
import Derived.Test.YthcjbljkokflgaaZbf
set_option linter.unnecessarySimpa false
/- Check, the program's. -/
namespace Go.Proofs.Ythcjbljkokflgaa
open Go.RowKit Go.Maps
open Go.Lib
set_option linter.unusedVariables false
set_option linter.unusedSimpArgs false
set_option maxRecDepth 100000
/-- What was seen ahead. -/
structure Seen (D : VD) (us : List ByteArray) : Prop where
  at_ : ∀ x, vl D x = if (us.any fun u => decide (u = x)) = true then some (.agg #[]) else none
  size : Maps.size D ≤ us.length
theorem Seen.empty : Seen (.map []) [] := ⟨fun x => rfl, Nat.le_refl _⟩
theorem Seen.put {D : VD} {us : List ByteArray} (h : Seen D us) (hd : Vd D) (x : ByteArray) : Seen (D.put (ks x) (.held (.agg #[]))) (us ++ [x]) :=
  ⟨fun s => by
    by_cases e : s = x
    · subst e
      rw [vl_put hd.tidy.isMap]
      simp
    · rw [vl_put_ne e, h.at_, List.any_append]
      have e2 : decide (x = s) = false := decide_eq_false (fun h => e h.symm)
      simp only [List.any_cons, List.any_nil, e2, Bool.or_false], by
    have := h.size
    rw [hd.size_put]
    simp only [List.length_append, List.length_singleton]
    split <;> omega⟩
/-- What Check answers, from place q on, d of them left, n cards and g bytes more. -/
def ckGo (c : Cs) (room : Int) (l : List Ow) : Nat → Nat → Int → Int → Int × (Int × Int)
  | 0, _, _, g => (0, (g, 0))
  | d + 1, q, n, g => match l[q]? with
    | none => (0, (g, 0))
    | some o =>
      if (((l.take q).map Ow.uid).any fun u => decide (u = o.uid)) = true then ((q : Int), (0, 11))
      else if (wghB o (getL o.uid c.L)).2.2 ≠ 0 then ((q : Int), (0, (wghB o (getL o.uid c.L)).2.2))
      else if n + (wghB o (getL o.uid c.L)).1 > c.most ∨ g + (wghB o (getL o.uid c.L)).2.1 > room then ((q : Int), (0, 7))
      else ckGo c room l d (q + 1) (n + (wghB o (getL o.uid c.L)).1) (g + (wghB o (getL o.uid c.L)).2.1)
def ckR (c : Cs) (room : Int) (l : List Ow) : Int × (Int × Int) := ckGo c room l l.length 0 (c.L.length : Int) 0
structure Ckb (q : Nat) (n g : Int) : Prop where
  n0 : -(q : Int) ≤ n
  n1 : n ≤ 1000 + (q : Int)
  g0 : -(q : Int) * 20000 ≤ g
  g1 : g ≤ (q : Int) * 20000
theorem wgh_b {o : Ow} {x : Option (Int × ByteArray)} (hc : o.card.size ≤ 10000) (hs : (x.getD (0, .empty)).2.size ≤ 10000) : -1 ≤ (wghB o x).1 ∧ (wghB o x).1 ≤ 1 ∧ -10000 ≤ (wghB o x).2.1 ∧ (wghB o x).2.1 ≤ 10000 := by
  unfold wghB
  split
  · refine ⟨?_, ?_, ?_, ?_⟩ <;> dsimp only <;> omega
  split
  · refine ⟨?_, ?_, ?_, ?_⟩ <;> dsimp only <;> omega
  split
  · refine ⟨?_, ?_, ?_, ?_⟩ <;> dsimp only <;> omega
  split
  · refine ⟨?_, ?_, ?_, ?_⟩ <;> dsimp only <;> omega
  · refine ⟨?_, ?_, ?_, ?_⟩ <;> dsimp only <;> omega
theorem zero93 (w : World) : (zeroValue 93).run Try.prog w = .ok (.agg #[]) w := by kernel_rfl
theorem run_mm92 (n : Int) (w : World) : (Instr.makeMap 92 (some (.int .i64 n))).run Try.prog w = .ok (.map (some w.heap.size)) (w.alloc (.map #[] 0)) := by
  simp [Instr.makeMap, run_underlying Try.underlying92, asInt, asIntOf, Result.andThen]
set_option maxHeartbeats 16000000 in
theorem ccheck_any {w : World} {B g k : Nat} {c : Cs} (h : Cl w B g c) (hB : B ≤ w.heap.size) (hi : Inv k c) (hk : k ≤ 500) {A : Option Addr} {len cap b off : Nat} {l : List Ow} (hl : Ows w A len cap b off l) (hf : fewL l = true) (room : Int) : Calls Try.prog 26 #[.pointer (some ⟨g, 0, none⟩), .slice A len cap, .int .i64 room] w fun e w' => e = .returned (.tuple #[.int .i64 (ckR c room l).1, .int .i64 (ckR c room l).2.1, .int .i64 (ckR c room l).2.2]) ∧ Below w.heap.size w w' := by
  have HH := Lib.hid (fun (W : World) (hb : Below w.heap.size w W) => h.on hb)
  have HLI := Lib.hid (fewL_iff hf)
  have HA := Lib.hid hl
  have hlen := hl.hlen
  have hlc := hl.le
  have hnI : (len : Int) ≤ 20 := by have := HLI.out.1; omega
  have HGS := Lib.hid (fun u => show ((getL u c.L).getD (0, .empty)).2.size ≤ 10000 by
    cases hg : getL u c.L with
    | none => decide
    | some y => have := (hi.kl _ (getL_mem hg)).2; simpa using this)
  obtain ⟨res, hres⟩ : ∃ x, ckR c room l = x := ⟨_, rfl⟩
  have HRE := Lib.hid (show ckGo c room l (len - 0) 0 (c.L.length : Int) 0 = res by rw [← hres]; unfold ckR; rw [hlen]; rfl)
  rw [hres]
  obtain ⟨nL, hnL⟩ : ∃ n, c.L.length = n := ⟨_, rfl⟩
  have hn500 : nL ≤ 500 := by have := hi.n; omega
  have HLN := Lib.hid (fun (W : World) (hb : Below w.heap.size w W) => cl_len (HH.out W hb))
  rw [hnL] at HRE HLN
  have HBX := Lib.hid (fun (W : World) (hb : Below w.heap.size w W) => show W.cell? ⟨g, 2, none⟩ = some (.int .i64 c.most) from by
    obtain ⟨m, R, e1, -⟩ := HH.out W hb
    exact e1.cell 2)
  clear hl hf hi hres hnL
  go_enter Try.func26, Try.ntmps26
  have hmm := run_mm92 (len : Int)
  go_wp2_with fail
  obtain ⟨W0, hW0⟩ : ∃ W, w.alloc (.map #[] 0) = W := ⟨_, rfl⟩
  have HB0 := Lib.hid (show Below w.heap.size w W0 from hW0 ▸ (Below.refl _ w).alloc (Nat.le_refl _) _)
  have HV0 := Lib.hid (show Vm W0 w.heap.size (.map []) from hW0 ▸ Vm.made w)
  try rw [hW0]
  refine (HLN.out W0 HB0.out).mono ?_
  rintro _ wx ⟨rfl, hw⟩
  replace hw := hw.symm
  subst hw
  clear hmm hW0 HLN
  have hn5I : (nL : Int) ≤ 500 := by omega
  go_wp2
  go_loopw [10, 7, 25] (fun cn gr i wr => ∃ (q : Nat) (D : VD) (nv gv : Int), q ≤ len ∧ i = .int .i64 (q : Int) ∧ cn = .int .i64 nv ∧ gr = .int .i64 gv ∧ Ckb q nv gv ∧ ckGo c room l (len - q) q nv gv = res ∧ Seen D ((l.take q).map Ow.uid) ∧ Vm wr w.heap.size D ∧ Below w.heap.size w wr) (fun _ _ i _ => len - (intOf i).toNat)
  case atStart => exact ⟨0, _, _, _, Nat.zero_le _, rfl, rfl, rfl, ⟨by omega, by omega, by omega, by omega⟩, HRE.out, Seen.empty, HV0.out, HB0.out⟩
  case round =>
    obtain ⟨q, D, nv, gv, hq, rfl, rfl, rfl, hcb, hgo, hse, hvm, hB2⟩ := hrel
    have HGO := Lib.hid hgo
    have HSE := Lib.hid hse
    have HVM := Lib.hid hvm
    have HB := Lib.hid hB2
    obtain ⟨n0, n1, g0, g1⟩ := hcb
    clear hgo hse hvm hB2
    by_cases hql : q < len
    · obtain ⟨o, ho⟩ : ∃ o, l[q]? = some o := ⟨l[q]'(by rw [HA.out.hlen]; exact hql), List.getElem?_eq_getElem _⟩
      have HLO := Lib.hid (litO_iff (HLI.out.2 o (List.mem_of_getElem? ho)))
      obtain ⟨rfl, hbl⟩ := HA.out.addr' ho
      obtain ⟨c0, c1, c2, c3, c4⟩ := HA.out.at_ HB.out ho
      have HTK := Lib.hid (show (l.take (q + 1)).map Ow.uid = (l.take q).map Ow.uid ++ [o.uid] by rw [List.take_add_one, ho]; simp)
      obtain ⟨dd, hdd⟩ : ∃ d, len - q = d + 1 := ⟨len - q - 1, by omega⟩
      have HST := HGO.out
      rw [hdd] at HST
      unfold ckGo at HST
      rw [ho] at HST
      simp only at HST
      have HSD := Lib.hid HST
      clear HST
      have hqI : (q : Int) < (len : Int) := by omega
      have hqc : q < cap := by omega
      obtain ⟨d, u, cd, k', v⟩ := o
      simp only at c0 c1 c2 c3 c4 HSD HLO HTK
      have HUW := Lib.hid (show wf u from by have := HLO.out.1; unfold wf maxLen; omega)
      clear ho
      obtain ⟨n, hn2⟩ : ∃ n, wr.heap.size = n := ⟨_, rfl⟩
      obtain ⟨W2, hW2⟩ : ∃ W2, wr.alloc (.cells #[.bool d, .string u, .string cd, .int .i64 k', .int .i64 v] 33) = W2 := ⟨_, rfl⟩
      have HX2 := Lib.hid (show Blk W2 n 33 #[.bool d, .string u, .string cd, .int .i64 k', .int .i64 v] from hn2 ▸ hW2 ▸ Blk.new wr _ _)
      have HB2 := Lib.hid (show Below wr.heap.size wr W2 from hW2 ▸ (Below.refl _ wr).alloc (Nat.le_refl _) _)
      have HM2 := Lib.hid (HVM.out.off (HB2.out.block _ HVM.out.lt))
      have HBa := Lib.hid (show Below w.heap.size w (W2.alloc (.cells #[] 93)) from (HB.out.trans (HB2.out.mono HB.out.size)).alloc (by have := HB2.out.size; have := HB.out.size; omega) _)
      have HXa := Lib.hid (HX2.out.alloc (.cells #[] 93))
      have z1 := HXa.out.cell 1
      have x1 := HX2.out.cell 1
      simp only [List.getElem?_toArray, List.getElem?_cons_zero, List.getElem?_cons_succ] at z1 x1
      obtain ⟨W4, hrun, hv4, hg4, _⟩ := (HM2.out.off (w' := W2.alloc (.cells #[] 93)) (Below.heap_alloc _ _ _ HM2.out.lt)).upd (by have := HSE.out.size; simp only [List.length_map, List.length_take] at this; omega) Try.underlying92 (x := u) HUW.out (.agg #[])
      have HV4 := Lib.hid hv4
      have HB4 := Lib.hid (show Below w.heap.size (W2.alloc (.cells #[] 93)) W4 from (Below.refl _ _).grown hg4 HBa.out.size (fun j e => by cases e; exact Nat.le_refl _))
      have HX4 := Lib.hid (show Blk W4 n 33 #[.bool d, .string u, .string cd, .int .i64 k', .int .i64 v] from (hg4.block n HXa.out.lt (fun e => by have := HVM.out.lt; cases e; omega)).trans HXa.out)
      have HBw := Lib.hid (HBa.out.trans HB4.out)
      have y0 := HX4.out.cell 0
      have y1 := HX4.out.cell 1
      have y2 := HX4.out.cell 2
      have y3 := HX4.out.cell 3
      have y4 := HX4.out.cell 4
      simp only [List.getElem?_toArray, List.getElem?_cons_zero, List.getElem?_cons_succ] at y0 y1 y2 y3 y4
      clear hv4 hg4
      have hlk := (HM2.out.look Try.underlying92 (zero93 W2) (x := u) HUW.out).1
      rw [HSE.out.at_] at hlk
      by_cases hs : (((l.take q).map Ow.uid).any fun x => decide (x = u)) = true
      · rw [if_pos hs] at hlk
        simp only [Option.getD_some, Option.isSome_some] at hlk
        have HR := Lib.hid (show res = ((q : Int), (0, 11)) by have := HSD.out; rw [if_pos hs] at this; exact this.symm)
        clear hs
        go_wp2
        go_ret3
        exact ⟨by rw [HR.out] <;> rfl, HBa.out⟩
      · rw [if_neg hs] at hlk
        simp only [Option.getD_none, Option.isSome_none] at hlk
        have HSD2 := HSD.out
        rw [if_neg hs] at HSD2
        obtain ⟨wt, hwt⟩ : ∃ x, wghB ⟨d, u, cd, k', v⟩ (getL u c.L) = x := ⟨_, rfl⟩
        have hbd := wgh_b (o := ⟨d, u, cd, k', v⟩) (x := getL u c.L) (by have := HLO.out.2; show cd.size ≤ 10000; omega) (HGS.out u)
        have HWT := Lib.hid (weigh_any (HH.out W4 HBw.out) (Nat.le_trans hB HBw.out.size) d u cd k' v (by have := HLO.out.2; omega) (getL u c.L) rfl (HGS.out u))
        rw [hwt] at HSD2 hbd HWT
        obtain ⟨wa, wb, we⟩ := wt
        simp only at HSD2 hbd HWT
        obtain ⟨w1, w2, w3, w4⟩ := hbd
        have HSE2 := Lib.hid (HSE.out.put HM2.out.vd u)
        have HS3 := Lib.hid HSD2
        clear hs HSD2 hwt HSD
        go_wp2_with fail
        refine HWT.out.mono ?_
        rintro _ w5 ⟨rfl, hb5⟩
        have HB5 := Lib.hid (HBw.out.trans (hb5.mono HBw.out.size))
        have HV5 := Lib.hid (HV4.out.off (hb5.block _ HV4.out.lt))
        have m2 := HBX.out w5 HB5.out
        clear hb5 HWT y0 y1 y2 y3 y4 z1 hlk hrun
        by_cases hwe : we = 0
        · subst hwe
          have HS4 := HS3.out
          rw [if_neg (show ¬ ((0 : Int) ≠ 0) from fun e => e rfl)] at HS4
          by_cases h1 : nv + wa > c.most
          · have HR := Lib.hid (show res = ((q : Int), (0, 7)) by rw [if_pos (.inl h1)] at HS4; exact HS4.symm)
            have h1b : c.most < nv + wa := h1
            clear HS4
            go_wp2
            go_ret3
            exact ⟨by rw [HR.out] <;> rfl, HB5.out⟩
          · by_cases h2 : gv + wb > room
            · have HR := Lib.hid (show res = ((q : Int), (0, 7)) by rw [if_pos (.inr h2)] at HS4; exact HS4.symm)
              have h2b : room < gv + wb := h2
              clear HS4
              go_wp2
              go_ret3
              exact ⟨by rw [HR.out] <;> rfl, HB5.out⟩
            · have HG2 := Lib.hid (show ckGo c room l (len - (q + 1)) (q + 1) (nv + wa) (gv + wb) = res by
                rw [if_neg (fun e => e.elim h1 h2)] at HS4
                rw [show len - (q + 1) = dd by omega]; exact HS4)
              have h1b : ¬ c.most < nv + wa := h1
              have h2b : ¬ room < gv + wb := h2
              clear HS4
              go_wp2
              go_roundw
              case rel => exact ⟨q + 1, _, nv + wa, gv + wb, by omega, by go_num, by first | rfl | go_num, by first | rfl | go_num, ⟨by omega, by omega, by omega, by omega⟩, HG2.out, by rw [HTK.out]; exact HSE2.out, HV5.out, HB5.out⟩
              case measure => (simp [intOf] <;> omega)
        · have hwe2 : (we == 0) = false := by simpa using hwe
          have HR := Lib.hid (show res = ((q : Int), (0, we)) by have := HS3.out; rw [if_pos hwe] at this; exact this.symm)
          go_wp2
          go_ret3
          exact ⟨by rw [HR.out] <;> rfl, HB5.out⟩
    · obtain ⟨q, rfl⟩ : ∃ j, q = j := ⟨_, rfl⟩
      have hqn : ¬ (q : Int) < (len : Int) := by omega
      have HR := Lib.hid (show res = (0, (gv, 0)) by have := HGO.out; rw [show len - q = 0 by omega] at this; exact this.symm)
      go_wp2
      go_ret3
      exact ⟨by rw [HR.out] <;> rfl, HB.out⟩
end Go.Proofs.Ythcjbljkokflgaa
/- Check, the document's. -/
namespace Go.Proofs.Ythcjbljkokflgaa
open Go.RowKit
open Go.Lib
set_option linter.unusedVariables false
set_option linter.unusedSimpArgs false
set_option maxRecDepth 100000
theorem any_at {l : List Ow} {j q : Nat} {u : ByteArray} {o : Ow} (hj : l[j]? = some o) (hq : j < q) (e : o.uid = u) : (((l.take q).map Ow.uid).any fun x => decide (x = u)) = true := by
  rw [List.any_eq_true]
  refine ⟨o.uid, List.mem_map.2 ⟨o, List.mem_of_getElem? (i := j) ?_, rfl⟩, decide_eq_true e⟩
  rw [List.getElem?_take, if_pos hq]; exact hj
theorem any_step {l : List Ow} {j : Nat} {u : ByteArray} {o : Ow} (hj : l[j]? = some o) (h : (((l.take j).map Ow.uid).any fun x => decide (x = u)) = false) (e : o.uid ≠ u) : (((l.take (j + 1)).map Ow.uid).any fun x => decide (x = u)) = false := by
  rw [List.take_add_one, hj, List.map_append, List.any_append, h]
  simp [e]
set_option maxHeartbeats 16000000 in
theorem rcheck_any {w : World} {B g k : Nat} {c : Cs} {R : Rs} (h : Rc w B g R) (hs : Sim c R) (hi : Inv k c) (hk : k ≤ 500) {A : Option Addr} {len cap b off : Nat} {l : List Ow} (hl : Ows w A len cap b off l) (hf : fewL l = true) (room : Int) : Calls Try.prog 27 #[.pointer (some ⟨g, 0, none⟩), .slice A len cap, .int .i64 room] w fun e w' => e = .returned (.tuple #[.int .i64 (ckR c room l).1, .int .i64 (ckR c room l).2.1, .int .i64 (ckR c room l).2.2]) ∧ Below w.heap.size w w' := by
  have HLI := Lib.hid (fewL_iff hf)
  have HA := Lib.hid hl
  have hlen := hl.hlen
  have hlc := hl.le
  have hnI : (len : Int) ≤ 20 := by have := HLI.out.1; omega
  have HGS := Lib.hid (fun u => show ((getL u c.L).getD (0, .empty)).2.size ≤ 10000 by
    cases hg : getL u c.L with
    | none => decide
    | some y => have := (hi.kl _ (getL_mem hg)).2; simpa using this)
  have HRG := Lib.hid (fun (W : World) (hb : Below w.heap.size w W) (u : ByteArray) (o : Option (Int × ByteArray)) (ho : getL u c.L = o) => rget_any (h.on hb) (by rw [hs.L]; exact hi.srt) (by rw [hs.L]; have := hi.n; omega) u o (by rw [hs.L]; exact ho))
  obtain ⟨res, hres⟩ : ∃ x, ckR c room l = x := ⟨_, rfl⟩
  have HRE := Lib.hid (show ckGo c room l (len - 0) 0 (c.L.length : Int) 0 = res by rw [← hres]; unfold ckR; rw [hlen]; rfl)
  rw [hres]
  obtain ⟨nL, hnL⟩ : ∃ n, c.L.length = n := ⟨_, rfl⟩
  have hn5I : (nL : Int) ≤ 500 := by have := hi.n; omega
  obtain ⟨VL, VG, hbx, hrow, -, -⟩ := h
  obtain ⟨A1, cap1, g1, rfl, -, -⟩ := sk_row hrow
  have c2 := hbx.cell 2
  simp only [List.getElem?_toArray, List.getElem?_cons_zero, List.getElem?_cons_succ] at c2
  rw [hs.L, hnL] at c2
  rw [hnL] at HRE
  have HBX := Lib.hid (fun (W : World) (hb : Below w.heap.size w W) => show W.cell? ⟨g, 0, none⟩ = some (.int .i64 c.most) from by
    have := (hbx.below hb hbx.lt).cell 0
    rw [← hs.cards]; exact this)
  clear hl hf hi hres hnL hbx hrow hs
  go_enter Try.func27, Try.ntmps27
  go_wp2
  go_loopw [9, 10, 11] (fun cn gr i wr => ∃ (q : Nat) (nv gv : Int), q ≤ len ∧ i = .int .i64 (q : Int) ∧ cn = .int .i64 nv ∧ gr = .int .i64 gv ∧ Ckb q nv gv ∧ ckGo c room l (len - q) q nv gv = res ∧ Below w.heap.size w wr) (fun _ _ i _ => len - (intOf i).toNat)
  case atStart => exact ⟨0, _, _, Nat.zero_le _, rfl, rfl, rfl, ⟨by omega, by omega, by omega, by omega⟩, HRE.out, Below.refl _ _⟩
  case round =>
    obtain ⟨q, nv, gv, hq, rfl, rfl, rfl, hcb, hgo, hB2⟩ := hrel
    have HGO := Lib.hid hgo
    have HB := Lib.hid hB2
    obtain ⟨n0, n1, g0, g1⟩ := hcb
    clear hgo hB2
    by_cases hql : q < len
    · obtain ⟨o, ho⟩ : ∃ o, l[q]? = some o := ⟨l[q]'(by rw [HA.out.hlen]; exact hql), List.getElem?_eq_getElem _⟩
      have HLO := Lib.hid (litO_iff (HLI.out.2 o (List.mem_of_getElem? ho)))
      obtain ⟨rfl, hbl⟩ := HA.out.addr' ho
      have HAT := Lib.hid (fun (W : World) (hb : Below w.heap.size w W) => HA.out.at_ hb ho)
      obtain ⟨dd, hdd⟩ : ∃ d, len - q = d + 1 := ⟨len - q - 1, by omega⟩
      have HST := HGO.out
      rw [hdd] at HST
      unfold ckGo at HST
      rw [ho] at HST
      simp only at HST
      have HSD := Lib.hid HST
      clear HST
      have hqI : (q : Int) < (len : Int) := by omega
      have hqc : q < cap := by omega
      have hdq : decide ((q : Int) < (len : Int)) = true := decide_eq_true hqI
      obtain ⟨d, u, cd, k', v⟩ := o
      simp only at HAT HSD HLO
      clear ho
      go_wp2
      try simp only [hdq]
      go_loopw [12] (fun kk wr2 => ∃ j : Nat, j ≤ q ∧ kk = .int .i64 (j : Int) ∧ (((l.take j).map Ow.uid).any fun x => decide (x = u)) = false ∧ Below w.heap.size w wr2) (fun kk _ => q - (intOf kk).toNat)
      case atStart => exact ⟨0, Nat.zero_le _, rfl, rfl, HB.out⟩
      case round =>
        obtain ⟨j, hj, rfl, hany, hb2⟩ := hrel
        have HAY := Lib.hid hany
        have HBJ := Lib.hid hb2
        clear hany hb2
        obtain ⟨-, q1, -⟩ := HAT.out wr HBJ.out
        by_cases hjq : j < q
        · obtain ⟨p, hp⟩ : ∃ p, l[j]? = some p := ⟨l[j]'(by rw [HA.out.hlen]; omega), List.getElem?_eq_getElem _⟩
          obtain ⟨-, p1, -⟩ := HA.out.at_ HBJ.out hp
          have HP := Lib.hid hp
          have hjI : (j : Int) < (q : Int) := by omega
          have hjl : (j : Int) < (len : Int) := by omega
          have hjc : j < cap := by omega
          obtain ⟨pd, pu, pc, pk, pv⟩ := p
          simp only at p1
          clear hp
          by_cases he : pu = u
          · have he2 : (pu.toList == u.toList) = true := by rw [he]; simp
            have HR := Lib.hid (show res = ((q : Int), (0, 11)) by have := HSD.out; rw [if_pos (any_at HP.out hjq he)] at this; exact this.symm)
            go_wp2_with fail
            go_quiet (fail)
            go_wp2
            go_ret3
            exact ⟨by rw [HR.out] <;> rfl, below_drewN HBJ.out _⟩
          · have he2 : (pu.toList == u.toList) = false := by rw [keq]; exact decide_eq_false he
            have HN := Lib.hid (any_step HP.out HAY.out he)
            go_wp2_with fail
            go_quiet (fail)
            go_wp2
            go_roundw
            case rel => exact ⟨j + 1, by omega, by go_num, HN.out, below_drewN HBJ.out _⟩
            case measure => (simp [intOf] <;> omega)
        · have HNS := Lib.hid (show (((l.take q).map Ow.uid).any fun x => decide (x = u)) = false by have := HAY.out; rwa [show j = q by omega] at this)
          have hjn : ¬ (j : Int) < (q : Int) := by omega
          have HSD2 := HSD.out
          rw [if_neg (by rw [HNS.out]; decide)] at HSD2
          obtain ⟨x, hx⟩ : ∃ x, getL u c.L = x := ⟨_, rfl⟩
          have HGT := Lib.hid (HRG.out wr HBJ.out u x hx)
          have hxs := HGS.out u
          rw [hx] at hxs HSD2
          obtain ⟨yv, hyv⟩ : ∃ y, (x.getD (0, .empty)).1 = y := ⟨_, rfl⟩
          obtain ⟨yt, hyt⟩ : ∃ y, (x.getD (0, .empty)).2 = y := ⟨_, rfl⟩
          obtain ⟨th, hth⟩ : ∃ y, x.isSome = y := ⟨_, rfl⟩
          have HWG := Lib.hid (show wghB ⟨d, u, cd, k', v⟩ x = if holdsB k' v th yv = false then (0, (0, 6)) else if (d && !th) = true then (0, (0, 4)) else if d = true then (-1, (-(yt.size : Int), 0)) else if th = true then (0, ((cd.size : Int) - (yt.size : Int), 0)) else (1, ((cd.size : Int), 0)) by unfold wghB; simp only; rw [hyv, hyt, hth])
          rw [hyv, hyt, hth] at HGT
          rw [hyt] at hxs
          rw [HWG.out] at HSD2
          obtain ⟨hh, hhh⟩ : ∃ y, holdsB k' v th yv = y := ⟨_, rfl⟩
          have HHO := Lib.hid (fun W => rholds_any k' v th yv W)
          rw [hhh] at HHO HSD2
          have hsI : (yt.size : Int) ≤ 10000 := by omega
          have hcI : (cd.size : Int) ≤ 10000 := by have := HLO.out.2; omega
          have HS3 := Lib.hid HSD2
          clear hx hyv hyt hth hhh HSD2 HWG HSD
          go_wp2_with fail
          refine HGT.out.mono ?_
          rintro _ w5 ⟨rfl, nq, rfl⟩
          have HBG := Lib.hid (below_drewN HBJ.out nq)
          obtain ⟨p0, p1, p2, p3, p4⟩ := HAT.out _ HBG.out
          clear q1
          go_wp2_with fail
          refine (HHO.out _).mono ?_
          rintro _ w7 ⟨rfl, hb7⟩
          have HB7 := Lib.hid (HBG.out.trans (hb7.mono HBG.out.size))
          obtain ⟨z0, z1, z2, z3, z4⟩ := HAT.out _ HB7.out
          have m0 := HBX.out w7 HB7.out
          clear hb7 HHO p0 p1 p2 p3 p4 HGT
          cases hh with
          | false =>
            have HR := Lib.hid (show res = ((q : Int), (0, 6)) by have := HS3.out; rw [if_pos rfl, if_pos (show (6 : Int) ≠ 0 by decide)] at this; exact this.symm)
            go_wp2
            go_ret3
            exact ⟨by rw [HR.out] <;> rfl, HB7.out⟩
          | true =>
            have HS4 := HS3.out
            rw [if_neg (show ¬ (true = false) by decide)] at HS4
            cases d with
            | true =>
              cases th with
              | false =>
                have HR := Lib.hid (show res = ((q : Int), (0, 4)) by rw [if_pos (show (true && !false) = true by rfl), if_pos (show (4 : Int) ≠ 0 by decide)] at HS4; exact HS4.symm)
                clear HS4
                go_wp2
                go_ret3
                exact ⟨by rw [HR.out] <;> rfl, HB7.out⟩
              | true =>
                rw [if_neg (show ¬ ((true && !true) = true) by decide), if_pos rfl, if_neg (show ¬ ((0 : Int) ≠ 0) from fun e => e rfl)] at HS4
                by_cases h1 : nv + -1 > c.most
                · have HR := Lib.hid (show res = ((q : Int), (0, 7)) by rw [if_pos (.inl h1)] at HS4; exact HS4.symm)
                  have h1b : c.most < nv - 1 := by omega
                  clear HS4 h1
                  go_wp2
                  go_ret3
                  exact ⟨by rw [HR.out] <;> rfl, HB7.out⟩
                · by_cases h2 : gv + -(yt.size : Int) > room
                  · have HR := Lib.hid (show res = ((q : Int), (0, 7)) by rw [if_pos (.inr h2)] at HS4; exact HS4.symm)
                    have h1b : ¬ c.most < nv - 1 := by omega
                    have h2b : room < gv - (yt.size : Int) := by omega
                    clear HS4 h1 h2
                    go_wp2
                    go_ret3
                    exact ⟨by rw [HR.out] <;> rfl, HB7.out⟩
                  · have HG2 := Lib.hid (show ckGo c room l (len - (q + 1)) (q + 1) (nv + -1) (gv + -(yt.size : Int)) = res by
                      rw [if_neg (fun e => e.elim h1 h2)] at HS4
                      rw [show len - (q + 1) = dd by omega]; exact HS4)
                    have h1b : ¬ c.most < nv - 1 := by omega
                    have h2b : ¬ room < gv - (yt.size : Int) := by omega
                    clear HS4 h1 h2
                    go_wp2
                    go_roundw
                    case rel => exact ⟨q + 1, nv + -1, gv + -(yt.size : Int), by omega, by go_num, by first | rfl | go_num | (congr 1; omega), by first | rfl | go_num | (congr 1; omega), ⟨by omega, by omega, by omega, by omega⟩, HG2.out, HB7.out⟩
                    case measure => (simp [intOf] <;> omega)
            | false =>
              cases th with
              | true =>
                rw [if_neg (show ¬ ((false && !true) = true) by decide), if_neg (show ¬ (false = true) by decide), if_pos rfl, if_neg (show ¬ ((0 : Int) ≠ 0) from fun e => e rfl)] at HS4
                by_cases h1 : nv + 0 > c.most
                · have HR := Lib.hid (show res = ((q : Int), (0, 7)) by rw [if_pos (.inl h1)] at HS4; exact HS4.symm)
                  have h1b : c.most < nv - 1 + 1 := by omega
                  clear HS4 h1
                  go_wp2
                  go_ret3
                  exact ⟨by rw [HR.out] <;> rfl, HB7.out⟩
                · by_cases h2 : gv + ((cd.size : Int) - (yt.size : Int)) > room
                  · have HR := Lib.hid (show res = ((q : Int), (0, 7)) by rw [if_pos (.inr h2)] at HS4; exact HS4.symm)
                    have h1b : ¬ c.most < nv - 1 + 1 := by omega
                    have h2b : room < gv - (yt.size : Int) + (cd.size : Int) := by omega
                    clear HS4 h1 h2
                    go_wp2
                    go_ret3
                    exact ⟨by rw [HR.out] <;> rfl, HB7.out⟩
                  · have HG2 := Lib.hid (show ckGo c room l (len - (q + 1)) (q + 1) (nv + 0) (gv + ((cd.size : Int) - (yt.size : Int))) = res by
                      rw [if_neg (fun e => e.elim h1 h2)] at HS4
                      rw [show len - (q + 1) = dd by omega]; exact HS4)
                    have h1b : ¬ c.most < nv - 1 + 1 := by omega
                    have h2b : ¬ room < gv - (yt.size : Int) + (cd.size : Int) := by omega
                    clear HS4 h1 h2
                    go_wp2
                    go_roundw
                    case rel => exact ⟨q + 1, nv + 0, gv + ((cd.size : Int) - (yt.size : Int)), by omega, by go_num, by first | rfl | go_num | (congr 1; omega), by first | rfl | go_num | (congr 1; omega), ⟨by omega, by omega, by omega, by omega⟩, HG2.out, HB7.out⟩
                    case measure => (simp [intOf] <;> omega)
              | false =>
                rw [if_neg (show ¬ ((false && !false) = true) by decide), if_neg (show ¬ (false = true) by decide), if_neg (show ¬ (false = true) by decide), if_neg (show ¬ ((0 : Int) ≠ 0) from fun e => e rfl)] at HS4
                by_cases h1 : nv + 1 > c.most
                · have HR := Lib.hid (show res = ((q : Int), (0, 7)) by rw [if_pos (.inl h1)] at HS4; exact HS4.symm)
                  have h1b : c.most < nv + 1 := by omega
                  clear HS4 h1
                  go_wp2
                  go_ret3
                  exact ⟨by rw [HR.out] <;> rfl, HB7.out⟩
                · by_cases h2 : gv + (cd.size : Int) > room
                  · have HR := Lib.hid (show res = ((q : Int), (0, 7)) by rw [if_pos (.inr h2)] at HS4; exact HS4.symm)
                    have h1b : ¬ c.most < nv + 1 := by omega
                    have h2b : room < gv + (cd.size : Int) := by omega
                    clear HS4 h1 h2
                    go_wp2
                    go_ret3
                    exact ⟨by rw [HR.out] <;> rfl, HB7.out⟩
                  · have HG2 := Lib.hid (show ckGo c room l (len - (q + 1)) (q + 1) (nv + 1) (gv + (cd.size : Int)) = res by
                      rw [if_neg (fun e => e.elim h1 h2)] at HS4
                      rw [show len - (q + 1) = dd by omega]; exact HS4)
                    have h1b : ¬ c.most < nv + 1 := by omega
                    have h2b : ¬ room < gv + (cd.size : Int) := by omega
                    clear HS4 h1 h2
                    go_wp2
                    go_roundw
                    case rel => exact ⟨q + 1, nv + 1, gv + (cd.size : Int), by omega, by go_num, by first | rfl | go_num | (congr 1; omega), by first | rfl | go_num | (congr 1; omega), ⟨by omega, by omega, by omega, by omega⟩, HG2.out, HB7.out⟩
                    case measure => (simp [intOf] <;> omega)
    · obtain ⟨q, rfl⟩ : ∃ j, q = j := ⟨_, rfl⟩
      have hqn : ¬ (q : Int) < (len : Int) := by omega
      have HR := Lib.hid (show res = (0, (gv, 0)) by have := HGO.out; rw [show len - q = 0 by omega] at this; exact this.symm)
      go_wp2
      go_ret3
      exact ⟨by rw [HR.out] <;> rfl, HB.out⟩
end Go.Proofs.Ythcjbljkokflgaa
namespace Go.Proofs.Ythcjbljkokflgaa
open Go.RowKit
open Go.Lib
open Go.Shelf
set_option linter.unusedVariables false
set_option linter.unusedSimpArgs false
set_option maxRecDepth 100000
set_option maxHeartbeats 16000000 in
theorem colChecks_walk (w : World) (a0 : Int) (w0 : (Lit.int .i64 a0).wf = true) (a1 : Int) (w1 : (Lit.int .i64 a1).wf = true) (a2 : Int) (w2 : (Lit.int .i64 a2).wf = true) (A3 : Option Addr) (len3 cap3 : Nat) (S3 : Sh.ok w (Sh.slice 6 (Sh.agg 6 [(0, 5, (Sh.agg 5 [(0, 1, Sh.bool), (1, 1, Sh.str), (2, 1, Sh.str), (3, 2, (Sh.agg 2 [(0, 1, (Sh.int .i64)), (1, 1, (Sh.int .i64))]))])), (5, 1, (Sh.int .i64))])) [.slice A3 len3 cap3]) (A4 : Option Addr) (len4 cap4 : Nat) (S4 : Sh.ok w (Sh.slice 5 (Sh.agg 5 [(0, 1, Sh.bool), (1, 1, Sh.str), (2, 1, Sh.str), (3, 2, (Sh.agg 2 [(0, 1, (Sh.int .i64)), (1, 1, (Sh.int .i64))]))])) [.slice A4 len4 cap4]) (a5 : Int) (w5 : (Lit.int .i64 a5).wf = true) :
    Calls Try.prog 4 #[.int .i64 a0, .int .i64 a1, .int .i64 a2, .slice A3 len3 cap3, .slice A4 len4 cap4, .int .i64 a5] w fun e w' => e = .returned (.bool true) ∧ Below w.heap.size w w' := by
  obtain ⟨b3, off3, l, hA⟩ := Aks_open S3
  have HA := Lib.hid hA
  obtain ⟨b4, off4, ops, hO⟩ := Ows_open S4
  have HO := Lib.hid hO
  clear S3 hA S4 hO w0 w1 w2
  go_enter Try.func4, Try.ntmps4
  go_wp2_with fail
  refine (first_any w).mono ?_
  rintro _ w1 ⟨rfl, hb⟩
  have HB1 := Lib.hid hb
  have HA1 := Lib.hid (HA.out.on hb)
  have HL := Lib.hid (acts_any HA1.out)
  clear hb
  obtain ⟨y, hy⟩ : ∃ y, actsL l = y := ⟨_, rfl⟩
  have HY := Lib.hid hy
  rw [hy] at HL
  clear hy
  go_wp2_with fail
  refine HL.out.mono ?_
  rintro _ w2 ⟨rfl, hb⟩
  have HB2 := Lib.hid (HB1.out.trans (hb.mono HB1.out.size))
  have HA2 := Lib.hid (HA1.out.on hb)
  clear hb HL
  cases y with
  | false =>
    go_wp2_with fail
    refine (first_any w2).mono ?_
    rintro _ w3 ⟨rfl, hb⟩
    have HB3 := Lib.hid (HB2.out.trans (hb.mono HB2.out.size))
    clear hb
    go_wp2
    go_ret
    exact ⟨rfl, HB3.out⟩
  | true =>
    have HA1' := Lib.hid (HO.out.on HB2.out)
    have HFW := Lib.hid (few_any HA1'.out)
    obtain ⟨y2, hy2⟩ : ∃ y, fewL ops = y := ⟨_, rfl⟩
    have HY2 := Lib.hid hy2
    rw [hy2] at HFW
    clear hy2
    go_wp2_with fail
    refine HFW.out.mono ?_
    rintro _ w2' ⟨rfl, hb⟩
    have HB2' := Lib.hid (HB2.out.trans (hb.mono HB2.out.size))
    have HA3 := Lib.hid (HA2.out.on hb)
    have HO3 := Lib.hid (HA1'.out.on hb)
    clear hb HFW
    cases y2 with
    | false =>
      go_wp2_with fail
      refine (first_any w2').mono ?_
      rintro _ w3 ⟨rfl, hb⟩
      have HB3 := Lib.hid (HB2'.out.trans (hb.mono HB2'.out.size))
      clear hb
      go_wp2
      go_ret
      exact ⟨rfl, HB3.out⟩
    | true =>
      have HLI := Lib.hid (actsL_iff HY.out)
      have HM := Lib.hid (made_any HA3.out HY.out a0 a1 a2)
      obtain ⟨kl, hkl⟩ : ∃ k, l.length = k := ⟨_, rfl⟩
      have hk80 : kl ≤ 80 := by rw [← hkl]; exact HLI.out.1
      rw [hkl] at HM
      obtain ⟨c, hc⟩ : ∃ c, l.foldl apC (newC a0 a1 a2) = c := ⟨_, rfl⟩
      obtain ⟨R, hR⟩ : ∃ c, l.foldl apR (rnewC a0 a1 a2) = c := ⟨_, rfl⟩
      rw [hc, hR] at HM
      have HCE := Lib.hid hc
      clear HY hkl hc hR
      go_wp2_with fail
      refine HM.out.mono ?_
      rintro _ w3 ⟨g, r, rfl, h1⟩
      have HD := Lib.hid h1
      clear h1 HM
      have HOD := Lib.hid (HO3.out.on HD.out.bel)
      have HCK := Lib.hid (ccheck_any HD.out.cl HD.out.bel.size HD.out.inv (by omega) HOD.out HY2.out a5)
      obtain ⟨res, hres⟩ : ∃ x, ckR c a5 ops = x := ⟨_, rfl⟩
      have HRS := Lib.hid hres
      rw [hres] at HCK
      obtain ⟨x1, x2, x3⟩ := res
      simp only at HCK
      clear hres
      go_wp2_with fail
      refine HCK.out.mono ?_
      rintro _ w5' ⟨rfl, hb⟩
      have HDa := Lib.hid (HD.out.on hb)
      have HRK := Lib.hid (rcheck_any HDa.out.rc HDa.out.sim HDa.out.inv (by omega) (HOD.out.on hb) HY2.out a5)
      rw [HRS.out] at HRK
      simp only at HRK
      clear hb HCK
      go_wp2_with fail
      refine HRK.out.mono ?_
      rintro _ w6 ⟨rfl, hb⟩
      have HDb := Lib.hid (HDa.out.on hb)
      have HSA := Lib.hid (same_any HDb.out (by omega))
      clear hb HRK
      go_wp2_with fail
      refine HSA.out.mono ?_
      rintro _ w8 ⟨rfl, hs8⟩
      have HS8 := Lib.hid (HDb.out.on hs8)
      clear hs8 HSA
      have HLV := Lib.hid (live_any HS8.out.cl (HS8.out.inv.fit (by omega)).hl (HS8.out.inv.fit (by omega)).kl)
      go_wp2_with fail
      refine HLV.out.mono ?_
      rintro _ wx ⟨U, rfl, hu1, hu2⟩
      have HU := Lib.hid hu1
      have HUB := Lib.hid hu2
      have HRV := Lib.hid (rlive_any (HS8.out.on hu2).rc (by rw [HS8.out.sim.L]; have := HS8.out.inv.n; omega))
      rw [HS8.out.sim.L] at HRV
      clear hu1 hu2 HLV
      go_wp2_with fail
      refine HRV.out.mono ?_
      rintro _ wy ⟨U2, rfl, hu1, hu2⟩
      obtain ⟨A1, cap1, b1, rfl, hi1, -⟩ := own_its2 (xs := itsK c.L) (by rw [itsK_len]; exact own_below HU.out hu2)
      obtain ⟨A2, cap2, b2, rfl, hi2, -⟩ := own_its2 (xs := itsK c.L) (by rw [itsK_len]; exact hu1)
      have HAL := Lib.hid (alike_any hi1 hi2 (by rw [itsK_len]; have := HS8.out.inv.n; omega))
      have HUC := Lib.hid (HUB.out.trans (hu2.mono HUB.out.size))
      clear hu1 hu2 HRV hi1 hi2
      go_wp2_with fail
      refine HAL.out.mono ?_
      rintro _ wz ⟨rfl, hz⟩
      have HBI := Lib.hid (HUC.out.trans (hz.mono HUC.out.size))
      clear hz HAL
      go_wp2
      go_ret
      exact ⟨rfl, HB2'.out.trans ((HS8.out.bel.trans (HBI.out.mono HS8.out.bel.size)).mono HB2'.out.size)⟩
end Go.Proofs.Ythcjbljkokflgaa
