/- ColRight. -/
import Derived.Test.YthcjbljkokflgaaRa
import Derived.Test.YthcjbljkokflgaaZbf
set_option linter.unnecessarySimpa false
/- Check, the program's. -/
namespace Go.Proofs.Ythcjbljkokflgaa
open Go.RowKit Go.Maps
open Go.Lib
set_option linter.unusedVariables false
set_option linter.unusedSimpArgs false
set_option maxRecDepth 100000
/-- What was seen ahead. -/
structure Seen (D : VD) (us : List ByteArray) : Prop where
  at_ : ∀ x, vl D x = if (us.any fun u => decide (u = x)) = true then some (.agg #[]) else none
  size : Maps.size D ≤ us.length
theorem Seen.empty : Seen (.map []) [] := ⟨fun x => rfl, Nat.le_refl _⟩
theorem Seen.put {D : VD} {us : List ByteArray} (h : Seen D us) (hd : Vd D) (x : ByteArray) : Seen (D.put (ks x) (.held (.agg #[]))) (us ++ [x]) :=
  ⟨fun s => by
    by_cases e : s = x
    · subst e
      rw [vl_put hd.tidy.isMap]
      simp
    · rw [vl_put_ne e, h.at_, List.any_append]
      have e2 : decide (x = s) = false := decide_eq_false (fun h => e h.symm)
      simp only [List.any_cons, List.any_nil, e2, Bool.or_false], by
    have := h.size
    rw [hd.size_put]
    simp only [List.length_append, List.length_singleton]
    split <;> omega⟩
/-- What Check answers, from place q on, d of them left, n cards and g bytes more. -/
def ckGo (c : Cs) (room : Int) (l : List Ow) : Nat → Nat → Int → Int → Int × (Int × Int)
  | 0, _, _, g => (0, (g, 0))
  | d + 1, q, n, g => match l[q]? with
    | none => (0, (g, 0))
    | some o =>
      if (((l.take q).map Ow.uid).any fun u => decide (u = o.uid)) = true then ((q : Int), (0, 11))
      else if (wghB o (getL o.uid c.L)).2.2 ≠ 0 then ((q : Int), (0, (wghB o (getL o.uid c.L)).2.2))
      else if n + (wghB o (getL o.uid c.L)).1 > c.most ∨ g + (wghB o (getL o.uid c.L)).2.1 > room then ((q : Int), (0, 7))
      else ckGo c room l d (q + 1) (n + (wghB o (getL o.uid c.L)).1) (g + (wghB o (getL o.uid c.L)).2.1)
def ckR (c : Cs) (room : Int) (l : List Ow) : Int × (Int × Int) := ckGo c room l l.length 0 (c.L.length : Int) 0
structure Ckb (q : Nat) (n g : Int) : Prop where
  n0 : -(q : Int) ≤ n
  n1 : n ≤ 1000 + (q : Int)
  g0 : -(q : Int) * 20000 ≤ g
  g1 : g ≤ (q : Int) * 20000
theorem wgh_b {o : Ow} {x : Option (Int × ByteArray)} (hc : o.card.size ≤ 10000) (hs : (x.getD (0, .empty)).2.size ≤ 10000) : -1 ≤ (wghB o x).1 ∧ (wghB o x).1 ≤ 1 ∧ -10000 ≤ (wghB o x).2.1 ∧ (wghB o x).2.1 ≤ 10000 := by
  unfold wghB
  split
  · refine ⟨?_, ?_, ?_, ?_⟩ <;> dsimp only <;> omega
  split
  · refine ⟨?_, ?_, ?_, ?_⟩ <;> dsimp only <;> omega
  split
  · refine ⟨?_, ?_, ?_, ?_⟩ <;> dsimp only <;> omega
  split
  · refine ⟨?_, ?_, ?_, ?_⟩ <;> dsimp only <;> omega
  · refine ⟨?_, ?_, ?_, ?_⟩ <;> dsimp only <;> omega
theorem zero93 (w : World) : (zeroValue 93).run Try.prog w = .ok (.agg #[]) w := by kernel_rfl
theorem run_mm92 (n : Int) (w : World) : (Instr.makeMap 92 (some (.int .i64 n))).run Try.prog w = .ok (.map (some w.heap.size)) (w.alloc (.map #[] 0)) := by
  simp [Instr.makeMap, run_underlying Try.underlying92, asInt, asIntOf, Result.andThen]
set_option maxHeartbeats 16000000 in
theorem ccheck_any {w : World} {B g k : Nat} {c : Cs} (h : Cl w B g c) (hB : B ≤ w.heap.size) (hi : Inv k c) (hk : k ≤ 500) {A : Option Addr} {len cap b off : Nat} {l : List Ow} (hl : Ows w A len cap b off l) (hf : fewL l = true) (room : Int) : Calls Try.prog 26 #[.pointer (some ⟨g, 0, none⟩), .slice A len cap, .int .i64 room] w fun e w' => e = .returned (.tuple #[.int .i64 (ckR c room l).1, .int .i64 (ckR c room l).2.1, .int .i64 (ckR c room l).2.2]) ∧ Below w.heap.size w w' := by
  have HH := Lib.hid (fun (W : World) (hb : Below w.heap.size w W) => h.on hb)
  have HLI := Lib.hid (fewL_iff hf)
  have HA := Lib.hid hl
  have hlen := hl.hlen
  have hlc := hl.le
  have hnI : (len : Int) ≤ 20 := by have := HLI.out.1; omega
  have HGS := Lib.hid (fun u => show ((getL u c.L).getD (0, .empty)).2.size ≤ 10000 by
    cases hg : getL u c.L with
    | none => decide
    | some y => have := (hi.kl _ (getL_mem hg)).2; simpa using this)
  obtain ⟨res, hres⟩ : ∃ x, ckR c room l = x := ⟨_, rfl⟩
  have HRE := Lib.hid (show ckGo c room l (len - 0) 0 (c.L.length : Int) 0 = res by rw [← hres]; unfold ckR; rw [hlen]; rfl)
  rw [hres]
  obtain ⟨nL, hnL⟩ : ∃ n, c.L.length = n := ⟨_, rfl⟩
  have hn500 : nL ≤ 500 := by have := hi.n; omega
  have HLN := Lib.hid (fun (W : World) (hb : Below w.heap.size w W) => cl_len (HH.out W hb))
  rw [hnL] at HRE HLN
  have HBX := Lib.hid (fun (W : World) (hb : Below w.heap.size w W) => show W.cell? ⟨g, 2, none⟩ = some (.int .i64 c.most) from by
    obtain ⟨m, R, e1, -⟩ := HH.out W hb
    exact e1.cell 2)
  clear hl hf hi hres hnL
  go_enter Try.func26, Try.ntmps26
  have hmm := run_mm92 (len : Int)
  go_wp2_with fail
  obtain ⟨W0, hW0⟩ : ∃ W, w.alloc (.map #[] 0) = W := ⟨_, rfl⟩
  have HB0 := Lib.hid (show Below w.heap.size w W0 from hW0 ▸ (Below.refl _ w).alloc (Nat.le_refl _) _)
  have HV0 := Lib.hid (show Vm W0 w.heap.size (.map []) from hW0 ▸ Vm.made w)
  try rw [hW0]
  refine (HLN.out W0 HB0.out).mono ?_
  rintro _ wx ⟨rfl, hw⟩
  replace hw := hw.symm
  subst hw
  clear hmm hW0 HLN
  have hn5I : (nL : Int) ≤ 500 := by omega
  go_wp2
  go_loopw [10, 7, 25] (fun cn gr i wr => ∃ (q : Nat) (D : VD) (nv gv : Int), q ≤ len ∧ i = .int .i64 (q : Int) ∧ cn = .int .i64 nv ∧ gr = .int .i64 gv ∧ Ckb q nv gv ∧ ckGo c room l (len - q) q nv gv = res ∧ Seen D ((l.take q).map Ow.uid) ∧ Vm wr w.heap.size D ∧ Below w.heap.size w wr) (fun _ _ i _ => len - (intOf i).toNat)
  case atStart => exact ⟨0, _, _, _, Nat.zero_le _, rfl, rfl, rfl, ⟨by omega, by omega, by omega, by omega⟩, HRE.out, Seen.empty, HV0.out, HB0.out⟩
  case round =>
    obtain ⟨q, D, nv, gv, hq, rfl, rfl, rfl, hcb, hgo, hse, hvm, hB2⟩ := hrel
    have HGO := Lib.hid hgo
    have HSE := Lib.hid hse
    have HVM := Lib.hid hvm
    have HB := Lib.hid hB2
    obtain ⟨n0, n1, g0, g1⟩ := hcb
    clear hgo hse hvm hB2
    by_cases hql : q < len
    · obtain ⟨o, ho⟩ : ∃ o, l[q]? = some o := ⟨l[q]'(by rw [HA.out.hlen]; exact hql), List.getElem?_eq_getElem _⟩
      have HLO := Lib.hid (litO_iff (HLI.out.2 o (List.mem_of_getElem? ho)))
      obtain ⟨rfl, hbl⟩ := HA.out.addr' ho
      obtain ⟨c0, c1, c2, c3, c4⟩ := HA.out.at_ HB.out ho
      have HTK := Lib.hid (show (l.take (q + 1)).map Ow.uid = (l.take q).map Ow.uid ++ [o.uid] by rw [List.take_add_one, ho]; simp)
      obtain ⟨dd, hdd⟩ : ∃ d, len - q = d + 1 := ⟨len - q - 1, by omega⟩
      have HST := HGO.out
      rw [hdd] at HST
      unfold ckGo at HST
      rw [ho] at HST
      simp only at HST
      have HSD := Lib.hid HST
      clear HST
      have hqI : (q : Int) < (len : Int) := by omega
      have hqc : q < cap := by omega
      obtain ⟨d, u, cd, k', v⟩ := o
      simp only at c0 c1 c2 c3 c4 HSD HLO HTK
      have HUW := Lib.hid (show wf u from by have := HLO.out.1; unfold wf maxLen; omega)
      clear ho
      obtain ⟨n, hn2⟩ : ∃ n, wr.heap.size = n := ⟨_, rfl⟩
      obtain ⟨W2, hW2⟩ : ∃ W2, wr.alloc (.cells #[.bool d, .string u, .string cd, .int .i64 k', .int .i64 v] 33) = W2 := ⟨_, rfl⟩
      have HX2 := Lib.hid (show Blk W2 n 33 #[.bool d, .string u, .string cd, .int .i64 k', .int .i64 v] from hn2 ▸ hW2 ▸ Blk.new wr _ _)
      have HB2 := Lib.hid (show Below wr.heap.size wr W2 from hW2 ▸ (Below.refl _ wr).alloc (Nat.le_refl _) _)
      have HM2 := Lib.hid (HVM.out.off (HB2.out.block _ HVM.out.lt))
      have HBa := Lib.hid (show Below w.heap.size w (W2.alloc (.cells #[] 93)) from (HB.out.trans (HB2.out.mono HB.out.size)).alloc (by have := HB2.out.size; have := HB.out.size; omega) _)
      have HXa := Lib.hid (HX2.out.alloc (.cells #[] 93))
      have z1 := HXa.out.cell 1
      have x1 := HX2.out.cell 1
      simp only [List.getElem?_toArray, List.getElem?_cons_zero, List.getElem?_cons_succ] at z1 x1
      obtain ⟨W4, hrun, hv4, hg4, _⟩ := (HM2.out.off (w' := W2.alloc (.cells #[] 93)) (Below.heap_alloc _ _ _ HM2.out.lt)).upd (by have := HSE.out.size; simp only [List.length_map, List.length_take] at this; omega) Try.underlying92 (x := u) HUW.out (.agg #[])
      have HV4 := Lib.hid hv4
      have HB4 := Lib.hid (show Below w.heap.size (W2.alloc (.cells #[] 93)) W4 from (Below.refl _ _).grown hg4 HBa.out.size (fun j e => by cases e; exact Nat.le_refl _))
      have HX4 := Lib.hid (show Blk W4 n 33 #[.bool d, .string u, .string cd, .int .i64 k', .int .i64 v] from (hg4.block n HXa.out.lt (fun e => by have := HVM.out.lt; cases e; omega)).trans HXa.out)
      have HBw := Lib.hid (HBa.out.trans HB4.out)
      have y0 := HX4.out.cell 0
      have y1 := HX4.out.cell 1
      have y2 := HX4.out.cell 2
      have y3 := HX4.out.cell 3
      have y4 := HX4.out.cell 4
      simp only [List.getElem?_toArray, List.getElem?_cons_zero, List.getElem?_cons_succ] at y0 y1 y2 y3 y4
      clear hv4 hg4
      have hlk := (HM2.out.look Try.underlying92 (zero93 W2) (x := u) HUW.out).1
      rw [HSE.out.at_] at hlk
      by_cases hs : (((l.take q).map Ow.uid).any fun x => decide (x = u)) = true
      · rw [if_pos hs] at hlk
        simp only [Option.getD_some, Option.isSome_some] at hlk
        have HR := Lib.hid (show res = ((q : Int), (0, 11)) by have := HSD.out; rw [if_pos hs] at this; exact this.symm)
        clear hs
        go_wp2
        go_ret3
        exact ⟨by rw [HR.out] <;> rfl, HBa.out⟩
      · rw [if_neg hs] at hlk
        simp only [Option.getD_none, Option.isSome_none] at hlk
        have HSD2 := HSD.out
        rw [if_neg hs] at HSD2
        obtain ⟨wt, hwt⟩ : ∃ x, wghB ⟨d, u, cd, k', v⟩ (getL u c.L) = x := ⟨_, rfl⟩
        have hbd := wgh_b (o := ⟨d, u, cd, k', v⟩) (x := getL u c.L) (by have := HLO.out.2; show cd.size ≤ 10000; omega) (HGS.out u)
        have HWT := Lib.hid (weigh_any (HH.out W4 HBw.out) (Nat.le_trans hB HBw.out.size) d u cd k' v (by have := HLO.out.2; omega) (getL u c.L) rfl (HGS.out u))
        rw [hwt] at HSD2 hbd HWT
        obtain ⟨wa, wb, we⟩ := wt
        simp only at HSD2 hbd HWT
        obtain ⟨w1, w2, w3, w4⟩ := hbd
        have HSE2 := Lib.hid (HSE.out.put HM2.out.vd u)
        have HS3 := Lib.hid HSD2
        clear hs HSD2 hwt HSD
        go_wp2_with fail
        refine HWT.out.mono ?_
        rintro _ w5 ⟨rfl, hb5⟩
        have HB5 := Lib.hid (HBw.out.trans (hb5.mono HBw.out.size))
        have HV5 := Lib.hid (HV4.out.off (hb5.block _ HV4.out.lt))
        have m2 := HBX.out w5 HB5.out
        clear hb5 HWT y0 y1 y2 y3 y4 z1 hlk hrun
        by_cases hwe : we = 0
        · subst hwe
          have HS4 := HS3.out
          rw [if_neg (show ¬ ((0 : Int) ≠ 0) from fun e => e rfl)] at HS4
          by_cases h1 : nv + wa > c.most
          · have HR := Lib.hid (show res = ((q : Int), (0, 7)) by rw [if_pos (.inl h1)] at HS4; exact HS4.symm)
            have h1b : c.most < nv + wa := h1
            clear HS4
            go_wp2
            go_ret3
            exact ⟨by rw [HR.out] <;> rfl, HB5.out⟩
          · by_cases h2 : gv + wb > room
            · have HR := Lib.hid (show res = ((q : Int), (0, 7)) by rw [if_pos (.inr h2)] at HS4; exact HS4.symm)
              have h2b : room < gv + wb := h2
              clear HS4
              go_wp2
              go_ret3
              exact ⟨by rw [HR.out] <;> rfl, HB5.out⟩
            · have HG2 := Lib.hid (show ckGo c room l (len - (q + 1)) (q + 1) (nv + wa) (gv + wb) = res by
                rw [if_neg (fun e => e.elim h1 h2)] at HS4
                rw [show len - (q + 1) = dd by omega]; exact HS4)
              have h1b : ¬ c.most < nv + wa := h1
              have h2b : ¬ room < gv + wb := h2
              clear HS4
              go_wp2
              go_roundw
              case rel => exact ⟨q + 1, _, nv + wa, gv + wb, by omega, by go_num, by first | rfl | go_num, by first | rfl | go_num, ⟨by omega, by omega, by omega, by omega⟩, HG2.out, by rw [HTK.out]; exact HSE2.out, HV5.out, HB5.out⟩
              case measure => (simp [intOf] <;> omega)
        · have hwe2 : (we == 0) = false := by simpa using hwe
          have HR := Lib.hid (show res = ((q : Int), (0, we)) by have := HS3.out; rw [if_pos hwe] at this; exact this.symm)
          go_wp2
          go_ret3
          exact ⟨by rw [HR.out] <;> rfl, HB5.out⟩
    · obtain ⟨q, rfl⟩ : ∃ j, q = j := ⟨_, rfl⟩
      have hqn : ¬ (q : Int) < (len : Int) := by omega
      have HR := Lib.hid (show res = (0, (gv, 0)) by have := HGO.out; rw [show len - q = 0 by omega] at this; exact this.symm)
      go_wp2
      go_ret3
      exact ⟨by rw [HR.out] <;> rfl, HB.out⟩
end Go.Proofs.Ythcjbljkokflgaa
/- Writes that Check takes are all taken (maths). -/
namespace Go.Proofs.Ythcjbljkokflgaa
open Go.RowKit
open Go.Lib
set_option linter.unusedVariables false
set_option linter.unusedSimpArgs false
set_option maxRecDepth 100000
def wi (x : Int) : Prop := (Lit.int .i64 x).wf = true
theorem ak_open3 {w : World} {cs : List Value} (h : Sh.ok w shAk cs) : ∃ a : Ak, cs = akC a ∧ wi a.tok := by
  unfold shAk at h
  rw [Sh.ok, Sh.okAll, Sh.okAll] at h
  obtain ⟨hl, h0, h1, _⟩ := h
  obtain ⟨o, ho⟩ := op_open h0
  simp only [Sh.ok] at h1
  obtain ⟨tok, e0, hv⟩ := h1
  refine ⟨⟨o, tok⟩, ?_, hv⟩
  match cs, hl with
  | [c0, c1, c2, c3, c4, c5], _ =>
    simp at e0
    subst e0
    simp at ho
    unfold akC
    rw [← ho]; rfl
theorem Aks_open3 {w : World} {A : Option Addr} {len cap : Nat} (S : Sh.ok w (Sh.slice 6 shAk) [.slice A len cap]) : ∃ b off l, Aks w A len cap b off l ∧ ∀ a ∈ l, wi a.tok := by
  obtain ⟨b, off, hle, hmax, ha, hc⟩ := slice_at S (by omega)
  have H : ∀ i, i < len → ∃ a : Ak, wi a.tok ∧ ∀ j, j < 6 → w.cell? ⟨b, off + i * 6 + j, none⟩ = (akC a)[j]? := by
    intro i hi
    obtain ⟨cs, hl, hok, hcell⟩ := hc i hi
    obtain ⟨a, rfl, hv⟩ := ak_open3 hok
    exact ⟨a, hv, hcell⟩
  refine ⟨b, off, List.ofFn (fun i : Fin len => Classical.choose (H i.1 i.2)), ⟨by simp, hle, ha, fun j a hj => ?_⟩, fun a hm => ?_⟩
  · have hjl : j < len := by have := (List.getElem?_eq_some_iff.1 hj).1; simpa using this
    rw [List.getElem?_eq_getElem (by simpa using hjl)] at hj
    simp only [List.getElem_ofFn, Option.some.injEq] at hj
    have h2 := (Classical.choose_spec (H j hjl)).2
    rw [hj] at h2
    exact h2
  · obtain ⟨i, rfl⟩ := (List.mem_ofFn).1 hm
    exact (Classical.choose_spec (H i.1 i.2)).1
theorem rpush_L (c : Cs) (x : Chg) : (rpush c x).L = c.L ∧ (rpush c x).most = c.most ∧ (rpush c x).bytes = c.bytes := by
  unfold rpush
  split <;> exact ⟨rfl, rfl, rfl⟩
/-- What a write leaves of cards, most and token. -/
theorem ap_most (c : Cs) (del : Bool) (uid card : ByteArray) (tok : Int) : (applyC c del uid card tok).2.most = c.most := by
  unfold applyC
  split
  · rfl
  · unfold yesC; exact (rpush_L _ _).2.1
theorem ap_latest {c : Cs} (del : Bool) (uid card : ByteArray) (tok : Int) : (applyC c del uid card tok).2.latest = c.latest ∨ (applyC c del uid card tok).2.latest = tok := by
  unfold applyC
  split
  · exact .inl rfl
  · exact .inr rfl
theorem ap_len {k : Nat} {c : Cs} (hi : Inv k c) (h : (c.L.length : Int) ≤ c.most) (del : Bool) (uid card : ByteArray) (tok : Int) : ((applyC c del uid card tok).2.L.length : Int) ≤ c.most := by
  unfold applyC
  by_cases hn : noC c del uid tok = true
  · rw [if_pos hn]; exact h
  · rw [if_neg hn]
    show ((yesC c del uid card tok).L.length : Int) ≤ c.most
    unfold yesC
    show ((rpush _ _).L.length : Int) ≤ c.most
    rw [(rpush_L _ _).1]
    show (((if del = true then delL uid c.L else insL uid (tok, card) c.L).length : Nat) : Int) ≤ c.most
    unfold noC at hn
    cases del with
    | true => rw [if_pos rfl]; have := delL_len (k := uid) hi.srt; omega
    | false =>
      rw [if_neg (by decide), insL_len hi.srt]
      cases hth : (getL uid c.L).isSome with
      | true => rw [if_pos rfl]; omega
      | false =>
        rw [if_neg (by decide)]
        rw [hth] at hn
        have : ¬ c.most ≤ (c.L.length : Int) := fun e => hn (by rw [decide_eq_true e]; simp)
        omega
theorem made_lm : ∀ (l : List Ak), (∀ a ∈ l, litA a = true) → (∀ a ∈ l, wi a.tok) → ∀ (k : Nat) (c : Cs) (R : Rs), Sim c R → Inv k c → (c.L.length : Int) ≤ c.most → wi c.latest → ((l.foldl apC c).L.length : Int) ≤ (l.foldl apC c).most ∧ wi (l.foldl apC c).latest ∧ (l.foldl apC c).most = c.most
  | [], _, _, k, c, R, _, _, h, hw => ⟨h, hw, rfl⟩
  | a :: l, hl, hw, k, c, R, hs, hi, h, hwl => by
    have ha := litO_iff (hl a List.mem_cons_self)
    obtain ⟨_, s2, s3⟩ := sim_apply hs hi a.o.del a.o.uid a.o.card a.tok (by omega) (by omega)
    have hm := ap_most c a.o.del a.o.uid a.o.card a.tok
    obtain ⟨r1, r2, r3⟩ := made_lm l (fun b hb => hl b (List.mem_cons_of_mem _ hb)) (fun b hb => hw b (List.mem_cons_of_mem _ hb)) (k + 1) _ _ s2 s3 (by rw [hm]; exact ap_len hi h _ _ _ _) (by
      rcases ap_latest (c := c) a.o.del a.o.uid a.o.card a.tok with e | e
      · rw [e]; exact hwl
      · rw [e]; exact hw a List.mem_cons_self)
    exact ⟨r1, r2, r3.trans hm⟩
/-- A collection behind the first writes that Check took. -/
structure Rgt (c0 c : Cs) (room t : Int) (l : List Ow) (q : Nat) (n g G : Int) : Prop where
  go : ckGo c0 room l (l.length - q) q n g = (0, (G, 0))
  hn : (c.L.length : Int) = n
  hb : c.bytes = c0.bytes + g
  un : ∀ u, (((l.take q).map Ow.uid).any fun x => decide (x = u)) = false → getL u c.L = getL u c0.L
  la : c.latest = t ∨ c.latest = t + 1
  la2 : 0 < q → c.latest = t + 1 ∧ g ≤ room
  mo : c.most = c0.most
  le : n ≤ c0.most
theorem ckGo_end {c : Cs} {room : Int} {l : List Ow} {q : Nat} {n g : Int} (hq : l.length ≤ q) : ckGo c room l (l.length - q) q n g = (0, (g, 0)) := by
  rw [show l.length - q = 0 by omega]; rfl
theorem putL_get2 {L : LK} (hs : Srt L) (del : Bool) (uid card : ByteArray) (tok : Int) (u : ByteArray) : getL u (putL L del uid card tok) = if u = uid then (if del = true then none else some (tok, card)) else getL u L := by
  unfold putL
  cases del with
  | true => rw [if_pos rfl, getL_del]; rfl
  | false => rw [if_neg (by decide), getL_ins hs]; rfl
theorem rgt_step {k : Nat} {c0 c : Cs} {room t : Int} {l : List Ow} {q : Nat} {n g G : Int} (h : Rgt c0 c room t l q n g G) (hi : Inv k c) {o : Ow} (ho : l[q]? = some o) : (applyC c o.del o.uid o.card (t + 1)).1 = true ∧ ∃ n' g', Rgt c0 (applyC c o.del o.uid o.card (t + 1)).2 room t l (q + 1) n' g' G := by
  have hq := (List.getElem?_eq_some_iff.1 ho).1
  have hg := h.go
  obtain ⟨dd, hdd⟩ : ∃ d, l.length - q = d + 1 := ⟨l.length - q - 1, by omega⟩
  rw [hdd] at hg
  unfold ckGo at hg
  rw [ho] at hg
  simp only at hg
  by_cases hs : (((l.take q).map Ow.uid).any fun x => decide (x = o.uid)) = true
  · rw [if_pos hs] at hg
    have := congrArg (fun p => p.2.2) hg
    simp at this
  rw [if_neg hs] at hg
  by_cases he : (wghB o (getL o.uid c0.L)).2.2 ≠ 0
  · rw [if_pos he] at hg
    exact absurd (congrArg (fun p => p.2.2) hg) he
  rw [if_neg he] at hg
  by_cases hov : n + (wghB o (getL o.uid c0.L)).1 > c0.most ∨ g + (wghB o (getL o.uid c0.L)).2.1 > room
  · rw [if_pos hov] at hg
    have := congrArg (fun p => p.2.2) hg
    simp at this
  rw [if_neg hov] at hg
  have hun := h.un o.uid (Bool.eq_false_iff.2 hs)
  obtain ⟨x, hx⟩ : ∃ x, getL o.uid c0.L = x := ⟨_, rfl⟩
  rw [hx] at hg he hov hun
  have he' : (wghB o x).2.2 = 0 := by
    by_cases e : (wghB o x).2.2 = 0
    · exact e
    · exact absurd e he
  have hov1 : n + (wghB o x).1 ≤ c0.most := Int.not_lt.1 fun e => hov (.inl e)
  have hov2 : g + (wghB o x).2.1 ≤ room := Int.not_lt.1 fun e => hov (.inr e)
  -- what it weighs
  have hw : (o.del = true ∧ x.isSome = true ∧ (wghB o x).1 = -1 ∧ (wghB o x).2.1 = -oldS x) ∨ (o.del = false ∧ x.isSome = true ∧ (wghB o x).1 = 0 ∧ (wghB o x).2.1 = (o.card.size : Int) - oldS x) ∨ (o.del = false ∧ x.isSome = false ∧ (wghB o x).1 = 1 ∧ (wghB o x).2.1 = (o.card.size : Int)) := by
    unfold wghB at he' ⊢
    unfold oldS
    split at he'
    · cases he'
    · rename_i h1
      rw [if_neg h1]
      cases hd : o.del <;> cases hth : x.isSome <;> rw [hd, hth] at he'
      · exact .inr (.inr ⟨rfl, rfl, by simp, by simp⟩)
      · exact .inr (.inl ⟨rfl, rfl, by simp, by simp⟩)
      · simp at he'
      · exact .inl ⟨rfl, rfl, by simp, by simp⟩
  have hno : noC c o.del o.uid (t + 1) = false := by
    unfold noC
    rw [hun, decide_eq_false (show ¬ t + 1 < c.latest by rcases h.la with e | e <;> omega)]
    rcases hw with ⟨e1, e2, _, _⟩ | ⟨e1, e2, _, _⟩ | ⟨e1, e2, e3, _⟩
    · rw [e1, e2]; rfl
    · rw [e1, e2]; rfl
    · rw [e1, e2, decide_eq_false (show ¬ c.most ≤ (c.L.length : Int) by rw [h.mo, h.hn]; omega)]; rfl
  have hap : applyC c o.del o.uid o.card (t + 1) = (true, yesC c o.del o.uid o.card (t + 1)) := by
    unfold applyC
    rw [if_neg (by rw [hno]; decide)]
  rw [hap]
  have hL : (yesC c o.del o.uid o.card (t + 1)).L = putL c.L o.del o.uid o.card (t + 1) := by
    show (rpush _ _).L = _
    rw [(rpush_L _ _).1]; rfl
  have hBy : (yesC c o.del o.uid o.card (t + 1)).bytes = if o.del = true then c.bytes - oldS (getL o.uid c.L) else c.bytes - oldS (getL o.uid c.L) + (o.card.size : Int) := by
    show (rpush _ _).bytes = _
    rw [(rpush_L _ _).2.2]
  have hMo : (yesC c o.del o.uid o.card (t + 1)).most = c.most := by
    show (rpush _ _).most = _
    rw [(rpush_L _ _).2.1]
  refine ⟨rfl, n + (wghB o x).1, g + (wghB o x).2.1, ?_, ?_, ?_, ?_, .inr rfl, fun _ => ⟨rfl, hov2⟩, hMo.trans h.mo, hov1⟩
  · rw [show l.length - (q + 1) = dd by omega]; exact hg
  · rw [hL]
    unfold putL
    have hd := delL_len (k := o.uid) hi.srt
    have hin := insL_len (k := o.uid) (v := (t + 1, o.card)) hi.srt
    rw [hun] at hd hin
    have hn := h.hn
    rcases hw with ⟨e1, e2, e3, _⟩ | ⟨e1, e2, e3, _⟩ | ⟨e1, e2, e3, _⟩
    · rw [e1, if_pos rfl]; rw [e2, if_pos rfl] at hd; omega
    · rw [e1, if_neg (by decide)]; rw [e2, if_pos rfl] at hin; omega
    · rw [e1, if_neg (by decide)]; rw [e2, if_neg (by decide)] at hin; omega
  · rw [hBy, hun, h.hb]
    rcases hw with ⟨e1, e2, _, e4⟩ | ⟨e1, e2, _, e4⟩ | ⟨e1, e2, _, e4⟩
    · rw [e1, if_pos rfl, e4]; omega
    · rw [e1, if_neg (by decide), e4]; omega
    · rw [e1, if_neg (by decide), e4]
      have : x = none := by cases x <;> simp_all
      rw [this]
      show _ - (0 : Int) + _ = _
      omega
  · intro u hu
    rw [hL, putL_get2 hi.srt]
    rw [List.take_add_one, ho, List.map_append, List.any_append] at hu
    simp only [Option.toList_some, List.map_cons, List.map_nil, List.any_cons, List.any_nil, Bool.or_false, Bool.or_eq_false_iff, decide_eq_false_iff_not] at hu
    rw [if_neg (fun e => hu.2 e.symm)]
    exact h.un u hu.1
end Go.Proofs.Ythcjbljkokflgaa
namespace Go.Proofs.Ythcjbljkokflgaa
open Go.RowKit
open Go.Lib
open Go.Shelf
set_option linter.unusedVariables false
set_option linter.unusedSimpArgs false
set_option maxRecDepth 100000
theorem ckGo_zero {c : Cs} {room : Int} {l : List Ow} : ∀ (d q : Nat) (n g : Int) {x1 x2 : Int}, ckGo c room l d q n g = (x1, (x2, 0)) → x1 = 0
  | 0, q, n, g, x1, x2, h => by cases h; rfl
  | d + 1, q, n, g, x1, x2, h => by
    unfold ckGo at h
    cases ho : l[q]? with
    | none => rw [ho] at h; cases h; rfl
    | some o =>
      rw [ho] at h
      simp only at h
      split at h
      · cases h
      split at h
      · rename_i h1; exact absurd (congrArg (fun p => p.2.2) h) h1
      split at h
      · cases h
      · exact ckGo_zero d (q + 1) _ _ h
theorem wi_b {x : Int} (h : wi x) : -9223372036854775808 ≤ x ∧ x ≤ 9223372036854775807 := by
  unfold wi at h
  simpa [Lit.wf, IntKind.min, IntKind.max, IntKind.signed, IntKind.bits] using h
theorem ck_zero {c : Cs} {room : Int} {l : List Ow} {x1 x2 : Int} (h : ckR c room l = (x1, (x2, 0))) : x1 = 0 := by
  unfold ckR at h
  exact ckGo_zero _ _ _ _ h
theorem inv_ap {k : Nat} {c : Cs} (hi : Inv k c) (del : Bool) (uid card : ByteArray) (tok : Int) (hu : uid.size ≤ 1000) (hc : card.size ≤ 10000) : Inv (k + 1) (applyC c del uid card tok).2 := by
  unfold applyC
  split
  · exact hi.up (by omega)
  · exact inv_yes hi del uid card tok hu hc
set_option maxHeartbeats 16000000 in
theorem colRight_walk (w : World) (a0 : Int) (w0 : (Lit.int .i64 a0).wf = true) (a1 : Int) (w1 : (Lit.int .i64 a1).wf = true) (a2 : Int) (w2 : (Lit.int .i64 a2).wf = true) (A3 : Option Addr) (len3 cap3 : Nat) (S3 : Sh.ok w (Sh.slice 6 (Sh.agg 6 [(0, 5, (Sh.agg 5 [(0, 1, Sh.bool), (1, 1, Sh.str), (2, 1, Sh.str), (3, 2, (Sh.agg 2 [(0, 1, (Sh.int .i64)), (1, 1, (Sh.int .i64))]))])), (5, 1, (Sh.int .i64))])) [.slice A3 len3 cap3]) (A4 : Option Addr) (len4 cap4 : Nat) (S4 : Sh.ok w (Sh.slice 5 (Sh.agg 5 [(0, 1, Sh.bool), (1, 1, Sh.str), (2, 1, Sh.str), (3, 2, (Sh.agg 2 [(0, 1, (Sh.int .i64)), (1, 1, (Sh.int .i64))]))])) [.slice A4 len4 cap4]) (a5 : Int) (w5 : (Lit.int .i64 a5).wf = true) :
    Calls Try.prog 8 #[.int .i64 a0, .int .i64 a1, .int .i64 a2, .slice A3 len3 cap3, .slice A4 len4 cap4, .int .i64 a5] w fun e w' => e = .returned (.bool true) ∧ Below w.heap.size w w' := by
  obtain ⟨b3, off3, l, hA, hwt⟩ := Aks_open3 S3
  have HWT := Lib.hid hwt
  have HW0 := Lib.hid w0
  have HA := Lib.hid hA
  obtain ⟨b4, off4, ops, hO⟩ := Ows_open S4
  have HO := Lib.hid hO
  clear S3 hA S4 hO hwt w0 w1 w2
  go_enter Try.func8, Try.ntmps8
  go_wp2_with fail
  refine (first_any w).mono ?_
  rintro _ w1 ⟨rfl, hb⟩
  have HB1 := Lib.hid hb
  have HA1 := Lib.hid (HA.out.on hb)
  have HL := Lib.hid (acts_any HA1.out)
  clear hb
  obtain ⟨y, hy⟩ : ∃ y, actsL l = y := ⟨_, rfl⟩
  have HY := Lib.hid hy
  rw [hy] at HL
  clear hy
  go_wp2_with fail
  refine HL.out.mono ?_
  rintro _ w2 ⟨rfl, hb⟩
  have HB2 := Lib.hid (HB1.out.trans (hb.mono HB1.out.size))
  have HA2 := Lib.hid (HA1.out.on hb)
  clear hb HL
  cases y with
  | false =>
    go_wp2_with fail
    refine (first_any w2).mono ?_
    rintro _ w3 ⟨rfl, hb⟩
    have HB3 := Lib.hid (HB2.out.trans (hb.mono HB2.out.size))
    clear hb
    go_wp2
    go_ret
    exact ⟨rfl, HB3.out⟩
  | true =>
    have HA1' := Lib.hid (HO.out.on HB2.out)
    have HFW := Lib.hid (few_any HA1'.out)
    obtain ⟨y2, hy2⟩ : ∃ y, fewL ops = y := ⟨_, rfl⟩
    have HY2 := Lib.hid hy2
    rw [hy2] at HFW
    clear hy2
    go_wp2_with fail
    refine HFW.out.mono ?_
    rintro _ w2' ⟨rfl, hb⟩
    have HB2' := Lib.hid (HB2.out.trans (hb.mono HB2.out.size))
    have HA3 := Lib.hid (HA2.out.on hb)
    have HO3 := Lib.hid (HA1'.out.on hb)
    clear hb HFW
    cases y2 with
    | false =>
      go_wp2_with fail
      refine (first_any w2').mono ?_
      rintro _ w3 ⟨rfl, hb⟩
      have HB3 := Lib.hid (HB2'.out.trans (hb.mono HB2'.out.size))
      clear hb
      go_wp2
      go_ret
      exact ⟨rfl, HB3.out⟩
    | true =>
      have HLI := Lib.hid (actsL_iff HY.out)
      have HM := Lib.hid (made_any HA3.out HY.out a0 a1 a2)
      obtain ⟨kl, hkl⟩ : ∃ k, l.length = k := ⟨_, rfl⟩
      have hk80 : kl ≤ 80 := by rw [← hkl]; exact HLI.out.1
      rw [hkl] at HM
      obtain ⟨c, hc⟩ : ∃ c, l.foldl apC (newC a0 a1 a2) = c := ⟨_, rfl⟩
      obtain ⟨R, hR⟩ : ∃ c, l.foldl apR (rnewC a0 a1 a2) = c := ⟨_, rfl⟩
      rw [hc, hR] at HM
      have HCE := Lib.hid hc
      have HLM := Lib.hid (show (c.L.length : Int) ≤ c.most ∧ wi c.latest ∧ c.most = max a1 1 from hc ▸ made_lm l HLI.out.2 HWT.out 0 _ _ (sim_new a0 a1 a2) (inv_new a0 a1 a2) (show ((0 : Nat) : Int) ≤ max a1 1 by omega) HW0.out)
      clear HY hkl hc hR
      go_wp2_with fail
      refine HM.out.mono ?_
      rintro _ w3 ⟨g, r, rfl, h1⟩
      have HD := Lib.hid h1
      clear h1 HM
      obtain ⟨was, hwas⟩ : ∃ x, c.bytes = x := ⟨_, rfl⟩
      obtain ⟨t, ht⟩ : ∃ x, c.latest = x := ⟨_, rfl⟩
      have HWA := Lib.hid hwas
      have HT := Lib.hid ht
      have HCB := Lib.hid (cl_bytes HD.out.cl)
      have HCL := Lib.hid (cl_latest HD.out.cl)
      rw [hwas] at HCB
      rw [ht] at HCL
      have hwb : (0 : Int) ≤ was ∧ was ≤ 100000000 := by
        rw [← hwas, HD.out.inv.by_]
        have h1 := bytesL_le2 c.L (fun p hp => (HD.out.inv.kl p hp).2)
        have h2 := HD.out.inv.n
        omega
      obtain ⟨hw1, hw2⟩ := hwb
      clear hwas ht
      go_wp2_with fail
      refine HCB.out.mono ?_
      rintro _ wx ⟨rfl, hw⟩
      replace hw := hw.symm
      subst hw
      go_wp2_with fail
      refine HCL.out.mono ?_
      rintro _ wx ⟨rfl, hw⟩
      replace hw := hw.symm
      subst hw
      clear HCB HCL
      have HOD := Lib.hid (HO3.out.on HD.out.bel)
      have HCK := Lib.hid (ccheck_any HD.out.cl HD.out.bel.size HD.out.inv (by omega) HOD.out HY2.out a5)
      obtain ⟨res, hres⟩ : ∃ x, ckR c a5 ops = x := ⟨_, rfl⟩
      have HRS := Lib.hid hres
      rw [hres] at HCK
      obtain ⟨x1, x2, x3⟩ := res
      simp only at HCK
      clear hres
      go_wp2_with fail
      refine HCK.out.mono ?_
      rintro _ w5' ⟨rfl, hb⟩
      have HDa := Lib.hid (HD.out.on hb)
      have HBCK := Lib.hid hb
      clear hb HCK
      by_cases he : x3 = 0
      · subst he
        by_cases hm : t = 9223372036854775807
        · subst hm
          have HFS := Lib.hid (first_any w5')
          go_wp2_with fail
          refine HFS.out.mono ?_
          rintro _ w6 ⟨rfl, hz⟩
          have HBZ := Lib.hid hz
          clear hz HFS
          go_wp2
          go_ret
          exact ⟨rfl, HB2'.out.trans ((HDa.out.bel.trans (HBZ.out.mono HDa.out.bel.size)).mono HB2'.out.size)⟩
        · have hmb : (t == 9223372036854775807) = false := by simpa using hm
          have htb : -9223372036854775808 ≤ t ∧ t ≤ 9223372036854775807 := by
            have := HLM.out.2.1
            rw [HT.out] at this
            exact wi_b this
          have ht1 : t < 9223372036854775807 := by omega
          have ht0 : -9223372036854775808 ≤ t := htb.1
          have hlen4 := HO.out.hlen
          have hlc4 := HO.out.le
          have hn20 : (len4 : Int) ≤ 20 := by have := (fewL_iff HY2.out).1; omega
          have HX1 := Lib.hid (ck_zero (c := c) (room := a5) (l := ops) HRS.out)
          have HR0 := Lib.hid (show Rgt c c a5 t ops 0 (c.L.length : Int) 0 x2 from ⟨by have := HRS.out; rw [HX1.out] at this; exact this, rfl, by omega, fun u _ => rfl, .inl HT.out, fun h => absurd h (by omega), rfl, HLM.out.1⟩)
          have HON := Lib.hid (fun (W : World) (hb : Below w5'.heap.size w5' W) => (HOD.out.on HBCK.out).on hb)
          have HDX := Lib.hid (show Cl w5' w2'.heap.size g c ∧ Inv kl c from ⟨HDa.out.cl, HDa.out.inv⟩)
          clear hm htb
          go_wp2
          go_loopw [20] (fun i wr => ∃ (q : Nat) (cq : Cs) (nq gq : Int), q ≤ len4 ∧ i = .int .i64 (q : Int) ∧ Rgt c cq a5 t ops q nq gq x2 ∧ Inv (kl + q) cq ∧ Cl wr w2'.heap.size g cq ∧ Below w2'.heap.size w2' wr) (fun i _ => len4 - (intOf i).toNat)
          case atStart => exact ⟨0, c, _, 0, Nat.zero_le _, rfl, HR0.out, HDX.out.2, HDX.out.1, HDa.out.bel⟩
          case round =>
            obtain ⟨q, cq, nq, gq, hq, rfl, hr, hiv, hcl, hbl⟩ := hrel
            have HR := Lib.hid hr
            have HIV := Lib.hid hiv
            have HCL := Lib.hid hcl
            have HBL := Lib.hid hbl
            clear hr hiv hcl hbl
            by_cases hql : q < len4
            · obtain ⟨o, ho⟩ : ∃ o, ops[q]? = some o := ⟨ops[q]'(by rw [HO.out.hlen]; exact hql), List.getElem?_eq_getElem _⟩
              have HLO := Lib.hid (litO_iff ((fewL_iff HY2.out).2 o (List.mem_of_getElem? ho)))
              obtain ⟨rfl, hbl⟩ := HO3.out.addr' ho
              obtain ⟨c0, c1, c2, c3, c4⟩ := HO3.out.at_ HBL.out ho
              obtain ⟨s1, n', g', s2⟩ := rgt_step HR.out HIV.out ho
              have HS := Lib.hid s2
              have HI2 := Lib.hid (inv_ap HIV.out o.del o.uid o.card (t + 1) (by have := HLO.out.1; omega) (by have := HLO.out.2; omega))
              have hap := apply_any HCL.out HBL.out.size (HIV.out.cz (by omega)) o.del o.uid o.card o.k o.v (t + 1) (by have := HLO.out.2; omega)
              unfold ApP at hap
              rw [s1] at hap
              have HAP := Lib.hid hap
              have hqI : (q : Int) < (len4 : Int) := by omega
              have hqc : q < cap4 := by omega
              obtain ⟨d, u, cd, k', v⟩ := o
              simp only at c0 c1 c2 c3 c4 HAP HS HI2
              clear ho hap s1 s2 hbl
              go_wp2_with fail
              refine HAP.out.mono ?_
              rintro _ w7 ⟨rfl, h1, h2⟩
              have HC7 := Lib.hid h1
              have HB7 := Lib.hid (HBL.out.trans h2.below)
              clear h1 h2 HAP c0 c1 c2 c3 c4
              go_wp2
              go_roundw
              case rel => exact ⟨q + 1, _, n', g', by omega, by go_num, HS.out, HI2.out, HC7.out, HB7.out⟩
              case measure => (simp [intOf] <;> omega)
            · obtain ⟨q, rfl⟩ : ∃ j, q = j := ⟨_, rfl⟩
              have hqn : ¬ (q : Int) < (len4 : Int) := by omega
              have hqe : q = len4 := by omega
              have HGX := Lib.hid (show gq = x2 by
                have := HR.out.go
                rw [ckGo_end (by rw [HO.out.hlen]; omega)] at this
                exact congrArg (fun p => p.2.1) this)
              have HBY := Lib.hid (cl_bytes HCL.out)
              have HLT := Lib.hid (cl_latest HCL.out)
              have HLE := Lib.hid (cl_len HCL.out)
              have HM1 := Lib.hid (show (cq.L.length : Int) ≤ max a1 1 by rw [HR.out.hn, ← HLM.out.2.2]; exact HR.out.le)
              have hxb : -200000000 ≤ x2 ∧ x2 ≤ 200000000 := by
                have e1 := HR.out.hb
                have e2 := HIV.out.by_
                have e3 := bytesL_le2 cq.L (fun p hp => (HIV.out.kl p hp).2)
                have e4 := HIV.out.n
                rw [HWA.out, HGX.out] at e1
                omega
              obtain ⟨hx0, hx1⟩ := hxb
              rw [show cq.bytes = was + x2 by rw [HR.out.hb, HWA.out, HGX.out]] at HBY
              obtain ⟨nL, hnL⟩ : ∃ n, cq.L.length = n := ⟨_, rfl⟩
              rw [hnL] at HLE HM1
              obtain ⟨mx, hmx⟩ : ∃ x, max a1 1 = x := ⟨_, rfl⟩
              rw [hmx] at HM1
              have HMX := Lib.hid hmx
              have hmi : (nL : Int) ≤ mx := HM1.out
              clear hnL hmx
              by_cases h0 : len4 = 0
              · have hz0 : ((len4 : Int) == 0) = true := by simp [h0]
                go_wp2_with fail
                refine HBY.out.mono ?_
                rintro _ wz ⟨rfl, hw⟩
                replace hw := hw.symm
                subst hw
                go_wp2_with fail
                refine HLE.out.mono ?_
                rintro _ wz ⟨rfl, hw⟩
                replace hw := hw.symm
                subst hw
                have hmaxs : max a1 1 = mx := HMX.out
                have hmaxi : (if a1 < 1 then 1 else a1) = mx := by have := HMX.out; split <;> omega
                go_wp2
                all_goals go_ret
                all_goals exact ⟨by first | rfl | (simp; omega) | trace_state, HB2'.out.trans (HBL.out.mono HB2'.out.size)⟩
              · have hz0 : ((len4 : Int) == 0) = false := beq_false_of_ne (by omega)
                obtain ⟨l1, l2⟩ := HR.out.la2 (by omega)
                rw [l1] at HLT
                have hgr : x2 ≤ a5 := by rw [← HGX.out]; exact l2
                clear l1 l2
                go_wp2_with fail
                refine HBY.out.mono ?_
                rintro _ wz ⟨rfl, hw⟩
                replace hw := hw.symm
                subst hw
                go_wp2_with fail
                refine HLT.out.mono ?_
                rintro _ wz ⟨rfl, hw⟩
                replace hw := hw.symm
                subst hw
                go_wp2_with fail
                refine HLE.out.mono ?_
                rintro _ wz ⟨rfl, hw⟩
                replace hw := hw.symm
                subst hw
                have hmaxs : max a1 1 = mx := HMX.out
                have hmaxi : (if a1 < 1 then 1 else a1) = mx := by have := HMX.out; split <;> omega
                go_wp2
                all_goals go_ret
                all_goals exact ⟨by first | rfl | (simp; omega) | trace_state, HB2'.out.trans (HBL.out.mono HB2'.out.size)⟩
      · have heb : (x3 == 0) = false := by simpa using he
        have HFS := Lib.hid (first_any w5')
        clear he
        go_wp2_with fail
        refine HFS.out.mono ?_
        rintro _ w6 ⟨rfl, hz⟩
        have HBZ := Lib.hid hz
        clear hz HFS
        go_wp2
        go_ret
        exact ⟨rfl, HB2'.out.trans ((HDa.out.bel.trans (HBZ.out.mono HDa.out.bel.size)).mono HB2'.out.size)⟩
end Go.Proofs.Ythcjbljkokflgaa
