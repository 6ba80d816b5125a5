/- A copy that goes page by page: what it agrees with (maths). -/
import Derived.Test.YthcjbljkokflgaaFaa
import Derived.Test.YthcjbljkokflgaaProg
import Derived.Maps.Own
import Derived.Maps.OwnOps
import Derived.Maps.Views
import Derived.BigQuiet
import Derived.RegionTactic
import Derived.Deep.QuietTactic
import Derived.Test.YthcjbljkokflgaaFax
import Derived.Lib.SliceRun
import Derived.Deep.RegionHeld3
import Derived.Deep.DrawnRows
set_option linter.unnecessarySimpa false
/- Maps with int64 keys that hold whatever values: what stands where, how many. -/
namespace Go.Proofs.Ythcjbljkokflgaa
open Go.RowKit Go.Maps
open Go.WideElems (rg Fit)
open Go.ChangeMaps Go.MapKept
set_option linter.unusedVariables false
set_option maxRecDepth 20000
abbrev VD := DataW Value
/-- A value reads as itself. -/
def RV (v : Value) : Option (VD × List MemPlace) := some (.held v, [])
theorem K3 : Keyed Try.prog 2 := int_keyed Try.underlying2
def wf (x : Int) : Prop := (Lit.int .i64 x).wf = true
theorem key3 {x : Int} (h : wf x) : keyOf Try.prog 2 (.int .i64 x) = some (.int .i64 x) := keyOf_int_mk Try.underlying2 h
/-- What lies at x. -/
def vl (D : VD) (x : Int) : Option Value :=
  match D.atKey (.int .i64 x) .nil with
  | .held v => some v
  | _ => none
theorem key_lit (x : Int) : WideAt.IsKeyLit (.int .i64 x) := by simp [WideAt.IsKeyLit]
theorem vl_put {D : VD} (h : IsMap D) (x : Int) (v : Value) : vl (D.put (.int .i64 x) (.held v)) x = some v := by unfold vl; rw [atKey_put_same h (key_lit x)]
theorem vl_put_ne {D : VD} {x y : Int} (hne : y ≠ x) (d : VD) : vl (D.put (.int .i64 x) d) y = vl D y := by unfold vl; rw [atKey_put_other (by simpa using hne)]
/-- A map's datum: no key twice; what is there is held. -/
structure Vd (D : VD) : Prop where
  tidy : Tidy D
  has : ∀ x : Int, Maps.has D (.int .i64 x) = (vl D x).isSome
theorem Vd.empty : Vd (.map []) := ⟨tidy_empty, fun x => rfl⟩
theorem Vd.put {D : VD} (h : Vd D) (x : Int) (v : Value) : Vd (D.put (.int .i64 x) (.held v)) :=
  ⟨h.tidy.put (key_lit x) _, fun y => by
    by_cases e : y = x
    · subst e
      rw [has_put_same h.tidy.isMap (key_lit y), vl_put h.tidy.isMap]; rfl
    · rw [has_put_other (by simpa using e), vl_put_ne e, h.has]⟩
theorem Vd.size_put {D : VD} (h : Vd D) (x : Int) (v : Value) : Maps.size (D.put (.int .i64 x) (.held v)) = if (vl D x).isSome then Maps.size D else Maps.size D + 1 := by
  rw [Maps.size_put h.tidy, h.has]
def Vm (w : World) (b : Nat) (D : VD) : Prop := ∃ es clock, w.heap[b]? = some (.map es clock) ∧ Fit Try.prog 2 RV es clock ∧ D = .map ((es.toList.map (rg Try.prog 2 RV)).foldr DataW.insert []) ∧ Vd D
theorem Vm.lt {w : World} {b : Nat} {D : VD} (h : Vm w b D) : b < w.heap.size := by
  obtain ⟨es, clock, hb, _⟩ := h
  exact (Array.getElem?_eq_some_iff.1 hb).1
theorem Vm.vd {w : World} {b : Nat} {D : VD} (h : Vm w b D) : Vd D := by
  obtain ⟨es, clock, hb, _, _, h⟩ := h
  exact h
theorem Vm.off {w w' : World} {b : Nat} {D : VD} (h : Vm w b D) (hb : w'.heap[b]? = w.heap[b]?) : Vm w' b D := by
  obtain ⟨es, clock, h1, h2, h3, h4⟩ := h
  exact ⟨es, clock, hb.trans h1, h2, h3, h4⟩
theorem Vm.made (w : World) : Vm (w.alloc (.map #[] 0)) w.heap.size (.map []) :=
  ⟨#[], 0, (MapKept.heap_alloc w _).1, ⟨by simp, stamped_empty 0, by simp⟩, rfl, Vd.empty⟩
theorem Vm.size_eq {D : VD} {es : Array MapEntry} (h : D = .map ((es.toList.map (rg Try.prog 2 RV)).foldr DataW.insert [])) : Maps.size D = es.size := by
  subst h
  show List.length _ = _
  rw [length_sorted]
  simp
theorem Vm.look {w : World} {b : Nat} {D : VD} {t e : TypeId} (h : Vm w b D) (ht : Try.prog.underlying t = some (.map 2 e)) {z : Value} (hz : (zeroValue e).run Try.prog w = .ok z w) {x : Int} (hx : wf x) :
    (Instr.lookup t (.map (some b)) (.int .i64 x) true).run Try.prog w = .ok (.tuple #[(vl D x).getD z, .bool (vl D x).isSome]) w ∧ (Instr.lookup t (.map (some b)) (.int .i64 x) false).run Try.prog w = .ok ((vl D x).getD z) w := by
  obtain ⟨es, clock, hb, F, rfl, _⟩ := h
  rcases fit_look true K3 ht hz hb F (key3 hx) with ⟨h1, h0, h2⟩ | ⟨e0, y, m1, m2, h1, h2, h3, _⟩
  · have ha : vl (DataW.map ((es.toList.map (rg Try.prog 2 RV)).foldr DataW.insert [])) x = none := by unfold vl; rw [h2]
    rw [ha]
    refine ⟨h1, ?_⟩
    rcases fit_look false K3 ht hz hb F (key3 hx) with ⟨g1, _, _⟩ | ⟨e1, y1, n1, n2, _⟩
    · exact g1
    · exact absurd n2 (h0 e1 n1)
  · cases h2
    have ha : vl (DataW.map ((es.toList.map (rg Try.prog 2 RV)).foldr DataW.insert [])) x = some e0.val := by unfold vl; rw [h3]
    rw [ha]
    refine ⟨h1, ?_⟩
    rcases fit_look false K3 ht hz hb F (key3 hx) with ⟨g1, g2, _⟩ | ⟨e1, y1, n1, n2, g1, g2, g3, _⟩
    · exact absurd m2 (g2 e0 m1)
    · cases g2
      have e : (DataW.held e1.val : VD) = .held e0.val := (g3 .nil).symm.trans (h3 .nil)
      injection e with e
      rw [← e]
      exact g1
theorem grown_set {w : World} {b : Nat} {es : Array MapEntry} {clock : Nat} {o2 : Obj} (hb : w.heap[b]? = some (.map es clock)) : w.grownBy (setBlock w b o2) (some b) :=
  ⟨rfl, rfl, rfl, by simp [setBlock], fun j hj hne => heap_setBlock_other hb _ (fun e => hne (by rw [e]))⟩
theorem Vm.upd {w : World} {b : Nat} {D : VD} {t e : TypeId} (h : Vm w b D) (hs : Maps.size D ≤ 1000000) (ht : Try.prog.underlying t = some (.map 2 e)) {x : Int} (hx : wf x) (v : Value) :
    ∃ w2, (Instr.mapUpdate t (.map (some b)) (.int .i64 x) v).run Try.prog w = .ok () w2 ∧ Vm w2 b (D.put (.int .i64 x) (.held v)) ∧ w.grownBy w2 (some b) ∧ w2.heap.size = w.heap.size := by
  obtain ⟨es, clock, hb, F, hD, hT⟩ := h
  have hsz := Vm.size_eq hD
  obtain ⟨es', clock', hrun, F', hput, _⟩ := fit_store (R' := RV) K3 ht hb F (by unfold maxLen; omega) (fun _ _ _ _ h => h) (key3 hx) (rfl : RV v = some (.held v, []))
  refine ⟨_, hrun, ⟨es', clock', heap_setBlock_same hb _, F', ?_, hT.put x v⟩, grown_set hb, by simp [setBlock]⟩
  rw [hD]
  show DataW.map _ = DataW.map _
  exact congrArg DataW.map hput.symm
end Go.Proofs.Ythcjbljkokflgaa
/- Split, the program's. -/
namespace Go.Proofs.Ythcjbljkokflgaa
open Go.RowKit Go.Maps
open Go.Lib
open Go.Proofs.Sp
set_option linter.unusedVariables false
set_option linter.unusedSimpArgs false
set_option maxRecDepth 100000
theorem zeroI (w : World) : (zeroValue 3).run Try.prog w = .ok (.int .i64 0) w := by kernel_rfl
theorem run_mm (n : Int) (w : World) : (Instr.makeMap 102 (some (.int .i64 n))).run Try.prog w = .ok (.map (some w.heap.size)) (w.alloc (.map #[] 0)) := by
  simp [Instr.makeMap, run_underlying Try.underlying102, asInt, asIntOf, Result.andThen]
/-- What the map holds behind q items. -/
structure Lst (D : VD) (vs : List Int) (q : Nat) : Prop where
  at_ : ∀ v, vl D v = (lastUp vs q v).map (fun j => Value.int .i64 (j : Int))
  size : Maps.size D ≤ q
theorem Lst.empty (vs : List Int) : Lst (.map []) vs 0 := ⟨fun v => rfl, Nat.le_refl _⟩
theorem Lst.put {D : VD} {vs : List Int} {q : Nat} (h : Lst D vs q) (hd : Vd D) {x : Int} (hx : vs[q]? = some x) : Lst (D.put (.int .i64 x) (.held (.int .i64 (q : Int)))) vs (q + 1) :=
  ⟨fun v => by
    by_cases e : v = x
    · subst e
      rw [vl_put hd.tidy.isMap]
      unfold lastUp
      rw [if_pos hx]
      rfl
    · rw [vl_put_ne e, h.at_]
      conv => rhs; unfold lastUp
      rw [if_neg (by rw [hx]; exact fun h => e (Option.some.inj h).symm)], by
    have := h.size
    rw [hd.size_put]
    split <;> omega⟩
theorem lastUp_some {vs : List Int} {v : Int} {n : Nat} (h : vs[n]? = some v) : ∀ {m : Nat}, n < m → ∃ j, lastUp vs m v = some j
  | 0, hn => by omega
  | m + 1, hn => by
    unfold lastUp
    by_cases hm : vs[m]? = some v
    · exact ⟨m, by rw [if_pos hm]⟩
    · rw [if_neg hm]
      refine lastUp_some h ?_
      by_cases e : n = m
      · subst e; exact absurd h hm
      · omega
theorem tst_last {vs : List Int} {n : Nat} {v : Int} (h : vs[n]? = some v) : tst vs (n + 1) = decide (lastUp vs vs.length v = some n) := by
  have hn := (List.getElem?_eq_some_iff.1 h).1
  unfold tst
  rw [Nat.add_sub_cancel, List.getD_eq_getElem?_getD, h]
  have := split_at hn h
  show (!behind vs (n + 1) v (vs.length - (n + 1))) = _
  cases hb : behind vs (n + 1) v (vs.length - (n + 1)) with
  | true => rw [hb] at this; rw [decide_eq_false (fun e => by have := this.1 e; cases this)]; rfl
  | false => rw [decide_eq_true (this.2 hb)]; rfl
set_option maxHeartbeats 8000000 in
theorem split_any {w : World} {A : Option Addr} {len cap b off : Nat} {xs : List It} (h : Its w A len cap b off xs) (hn : len ≤ 100000) (hw : ∀ t ∈ xs, wf t.v) (most : Int) : Calls Try.prog 32 #[.slice A len cap, .int .i64 most] w fun e w' => e = .returned (.int .i64 (spl (xs.map It.v) most : Int)) ∧ Below w.heap.size w w' := by
  have HI := Lib.hid h
  have HW := Lib.hid hw
  have hlen := h.hlen
  have hlc := h.le
  have hnI : (len : Int) ≤ 100000 := by omega
  obtain ⟨vs, hvs⟩ : ∃ vs, xs.map It.v = vs := ⟨_, rfl⟩
  have HV := Lib.hid (show ∀ (j : Nat) (t : It), xs[j]? = some t → vs[j]? = some t.v from fun j t ht => by rw [← hvs, List.getElem?_map, ht]; rfl)
  have HVL := Lib.hid (show vs.length = len by rw [← hvs, List.length_map, hlen])
  rw [hvs]
  obtain ⟨r, hr⟩ : ∃ r, spl vs most = r := ⟨_, rfl⟩
  have HR := Lib.hid hr
  rw [hr]
  clear hr h hvs hw
  obtain ⟨z0, hz0⟩ : ∃ z, max most 1 = z := ⟨_, rfl⟩
  have hz1 : 1 ≤ z0 := by omega
  have HR0 := Lib.hid (show cutAt (tst vs) len (len - z0.toNat) z0.toNat = r by have := HR.out; unfold spl at this; rw [HVL.out, hz0] at this; exact this)
  have HZ := Lib.hid (show z0 = if most < 1 then 1 else most by split <;> omega)
  clear hz0
  go_enter Try.func32, Try.ntmps32
  have hmm := run_mm (len : Int)
  go_wp2
  clear hmm
  have HWge := Lib.hid (Nat.le_refl w.heap.size)
  go_loopw [14] (fun i wr => ∃ (q : Nat) (D : VD), q ≤ len ∧ i = .int .i64 (q : Int) ∧ Lst D vs q ∧ Vm wr w.heap.size D ∧ Below w.heap.size w wr) (fun i _ => len - (intOf i).toNat)
  case atStart => exact ⟨0, _, Nat.zero_le _, rfl, Lst.empty _, Vm.made w, (Below.refl _ _).alloc (Nat.le_refl _) _⟩
  case round =>
    obtain ⟨q, D, hq, rfl, hse, hvm, hB⟩ := hrel
    have HSE := Lib.hid hse
    have HVM := Lib.hid hvm
    have HB := Lib.hid hB
    clear hse hvm hB
    by_cases hql : q < len
    · obtain ⟨t, ht⟩ : ∃ t, xs[q]? = some t := ⟨xs[q]'(by rw [HI.out.hlen]; exact hql), List.getElem?_eq_getElem _⟩
      obtain ⟨rfl, hbl⟩ := HI.out.addr (by omega)
      obtain ⟨c0, c1, c2, c3⟩ := (HI.out.below HB.out (fun _ => hbl)).cell q t ht
      have HTV := Lib.hid (HV.out q t ht)
      have HTW := Lib.hid (HW.out t (List.mem_of_getElem? ht))
      have hqI : (q : Int) < (len : Int) := by omega
      obtain ⟨tu, tv, tx, tc⟩ := t
      simp only at c0 c1 c2 c3
      clear ht
      obtain ⟨n, hn2⟩ : ∃ n, wr.heap.size = n := ⟨_, rfl⟩
      obtain ⟨W1, hW1⟩ : ∃ W1, wr.alloc (.cells #[.string { data := #[] }, .int .i64 0, .bool false, .string { data := #[] }] 62) = W1 := ⟨_, rfl⟩
      have HB1 := Lib.hid (show Below wr.heap.size wr W1 from hW1 ▸ (Below.refl _ wr).alloc (Nat.le_refl _) _)
      have HX1 := Lib.hid (show Blk W1 n 62 #[.string .empty, .int .i64 0, .bool false, .string .empty] from hn2 ▸ hW1 ▸ Blk.new wr 62 _)
      have y0 := HX1.out.cell 0
      have y1 := HX1.out.cell 1
      have y2 := HX1.out.cell 2
      have y3 := HX1.out.cell 3
      have f0 := HX1.out.frozen 0
      have f1 := HX1.out.frozen 1
      have f2 := HX1.out.frozen 2
      have f3 := HX1.out.frozen 3
      obtain ⟨W2, hW2⟩ : ∃ W2, (((W1.setCell ⟨n, 0, none⟩ (.string tu)).setCell ⟨n, 1, none⟩ (.int .i64 tv)).setCell ⟨n, 2, none⟩ (.bool tx)).setCell ⟨n, 3, none⟩ (.string tc) = W2 := ⟨_, rfl⟩
      have HX2 := Lib.hid (show Blk W2 n 62 #[.string tu, .int .i64 tv, .bool tx, .string tc] from hW2 ▸ ((((HX1.out.set_ 0 _).set_ 1 _).set_ 2 _).set_ 3 _))
      have HB2 := Lib.hid (show Below n wr W2 from hW2 ▸ ((((((HB1.out.mono (Nat.le_of_eq hn2.symm)).setCell (p := ⟨n, 0, none⟩) (Nat.le_refl _) _).setCell (p := ⟨n, 1, none⟩) (Nat.le_refl _) _).setCell (p := ⟨n, 2, none⟩) (Nat.le_refl _) _).setCell (p := ⟨n, 3, none⟩) (Nat.le_refl _) _)))
      have HM2 := Lib.hid (HVM.out.off (HB2.out.block _ (by have := HVM.out.lt; omega)))
      obtain ⟨W4, hrun, hv4, hg4, _⟩ := HM2.out.upd (by have := HSE.out.size; omega) Try.underlying102 (x := tv) HTW.out (.int .i64 (q : Int))
      have HV4 := Lib.hid hv4
      have HBa := Lib.hid (HB.out.trans (HB2.out.mono (by rw [← hn2]; exact HB.out.size)))
      have HB4 := Lib.hid (HBa.out.grown hg4 HBa.out.size (fun j e => by cases e; exact Nat.le_refl _))
      have z1 := HX2.out.cell 1
      clear hv4 hg4
      go_wp2
      go_roundw
      case rel => exact ⟨q + 1, _, by omega, by go_num, HSE.out.put HM2.out.vd HTV.out, HV4.out, HB4.out⟩
      case measure => simp [intOf]; omega
    · obtain rfl : q = len := by omega
      have HS0 := Lib.hid (show Lst D vs vs.length from HVL.out ▸ HSE.out)
      by_cases hm : most < 1
      · obtain rfl : z0 = 1 := by rw [HZ.out, if_pos hm]
        go_wp2
        go_loopw [8] (fun kk wr => ∃ z : Int, 1 ≤ z ∧ kk = .int .i64 z ∧ cutAt (tst vs) q (q - z.toNat) z.toNat = r ∧ Vm wr w.heap.size D ∧ Below w.heap.size w wr) (fun kk _ => ((q : Int) - intOf kk).toNat)
        case atStart => exact ⟨_, hz1, (by first | rfl | (congr 1 <;> omega)), HR0.out, HVM.out, HB.out⟩
        case round =>
          obtain ⟨z, hz, rfl, hc, hv, hB⟩ := hrel
          have HC := Lib.hid hc
          have HV2 := Lib.hid hv
          have HB2 := Lib.hid hB
          clear hc hv hB
          by_cases hzl : z < (q : Int)
          · obtain ⟨n, rfl⟩ : ∃ n : Nat, z = (n : Int) + 1 := ⟨(z - 1).toNat, by omega⟩
            have hnl : n + 1 < q := by omega
            obtain ⟨t0, ht0⟩ : ∃ t, xs[n]? = some t := ⟨xs[n]'(by rw [HI.out.hlen]; omega), List.getElem?_eq_getElem _⟩
            obtain ⟨rfl, hbl⟩ := HI.out.addr (by omega)
            obtain ⟨_, c1, _, _⟩ := (HI.out.below HB2.out (fun _ => hbl)).cell n t0 ht0
            have HST := Lib.hid (show cutAt (tst vs) q (q - (n + 1)) (n + 1) = r by have := HC.out; rw [show ((n : Int) + 1).toNat = n + 1 by omega] at this; exact this)
            obtain ⟨j, hj⟩ := lastUp_some (HV.out n t0 ht0) (m := vs.length) (by rw [HVL.out]; omega)
            have hlk := (HV2.out.look Try.underlying102 (zeroI _) (HW.out t0 (List.mem_of_getElem? ht0))).2
            rw [HS0.out.at_, hj] at hlk
            try simp only [Option.map_some, Option.getD_some] at hlk
            have HTS := Lib.hid (tst_last (HV.out n t0 ht0))
            rw [hj] at HTS
            obtain ⟨uv, hu⟩ : ∃ u, t0.v = u := ⟨_, rfl⟩
            rw [hu] at c1 hlk
            clear ht0 hu hz hj
            by_cases he : j = n
            · have he2 : ((j : Int) == (n : Int)) = true := by rw [he]; simp
              have HN := Lib.hid (show r = n + 1 by
                have h1 := HST.out
                rw [show q - (n + 1) = (q - (n + 1 + 1)) + 1 by omega] at h1
                unfold cutAt at h1
                rw [HTS.out, he] at h1
                simpa using h1.symm)
              clear he
              go_wp2
              go_ret
              exact ⟨by rw [HN.out]; first | rfl | simp, HB2.out⟩
            · have he2 : ((j : Int) == (n : Int)) = false := beq_eq_false_iff_ne.2 (by omega)
              have HN := Lib.hid (show cutAt (tst vs) q (q - (n + 1 + 1)) (n + 1 + 1) = r by
                have h1 := HST.out
                rw [show q - (n + 1) = (q - (n + 1 + 1)) + 1 by omega] at h1
                unfold cutAt at h1
                rw [HTS.out, if_neg (by simpa using he)] at h1
                exact h1)
              clear he
              go_wp2
              go_roundw
              case rel => exact ⟨(n : Int) + 1 + 1, by omega, by go_num, by rw [show ((n : Int) + 1 + 1).toNat = n + 1 + 1 by omega]; exact HN.out, HV2.out, HB2.out⟩
              case measure => simp [intOf]; omega
          · have HN := Lib.hid (show r = q by have h1 := HC.out; rw [show q - z.toNat = 0 by omega] at h1; exact h1.symm)
            go_wp2
            go_ret
            exact ⟨by rw [HN.out]; rfl, HB2.out⟩
      · obtain rfl : z0 = most := by rw [HZ.out, if_neg hm]
        go_wp2
        go_loopw [8] (fun kk wr => ∃ z : Int, 1 ≤ z ∧ kk = .int .i64 z ∧ cutAt (tst vs) q (q - z.toNat) z.toNat = r ∧ Vm wr w.heap.size D ∧ Below w.heap.size w wr) (fun kk _ => ((q : Int) - intOf kk).toNat)
        case atStart => exact ⟨_, hz1, (by first | rfl | (congr 1 <;> omega)), HR0.out, HVM.out, HB.out⟩
        case round =>
          obtain ⟨z, hz, rfl, hc, hv, hB⟩ := hrel
          have HC := Lib.hid hc
          have HV2 := Lib.hid hv
          have HB2 := Lib.hid hB
          clear hc hv hB
          by_cases hzl : z < (q : Int)
          · obtain ⟨n, rfl⟩ : ∃ n : Nat, z = (n : Int) + 1 := ⟨(z - 1).toNat, by omega⟩
            have hnl : n + 1 < q := by omega
            obtain ⟨t0, ht0⟩ : ∃ t, xs[n]? = some t := ⟨xs[n]'(by rw [HI.out.hlen]; omega), List.getElem?_eq_getElem _⟩
            obtain ⟨rfl, hbl⟩ := HI.out.addr (by omega)
            obtain ⟨_, c1, _, _⟩ := (HI.out.below HB2.out (fun _ => hbl)).cell n t0 ht0
            have HST := Lib.hid (show cutAt (tst vs) q (q - (n + 1)) (n + 1) = r by have := HC.out; rw [show ((n : Int) + 1).toNat = n + 1 by omega] at this; exact this)
            obtain ⟨j, hj⟩ := lastUp_some (HV.out n t0 ht0) (m := vs.length) (by rw [HVL.out]; omega)
            have hlk := (HV2.out.look Try.underlying102 (zeroI _) (HW.out t0 (List.mem_of_getElem? ht0))).2
            rw [HS0.out.at_, hj] at hlk
            try simp only [Option.map_some, Option.getD_some] at hlk
            have HTS := Lib.hid (tst_last (HV.out n t0 ht0))
            rw [hj] at HTS
            obtain ⟨uv, hu⟩ : ∃ u, t0.v = u := ⟨_, rfl⟩
            rw [hu] at c1 hlk
            clear ht0 hu hz hj
            by_cases he : j = n
            · have he2 : ((j : Int) == (n : Int)) = true := by rw [he]; simp
              have HN := Lib.hid (show r = n + 1 by
                have h1 := HST.out
                rw [show q - (n + 1) = (q - (n + 1 + 1)) + 1 by omega] at h1
                unfold cutAt at h1
                rw [HTS.out, he] at h1
                simpa using h1.symm)
              clear he
              go_wp2
              go_ret
              exact ⟨by rw [HN.out]; first | rfl | simp, HB2.out⟩
            · have he2 : ((j : Int) == (n : Int)) = false := beq_eq_false_iff_ne.2 (by omega)
              have HN := Lib.hid (show cutAt (tst vs) q (q - (n + 1 + 1)) (n + 1 + 1) = r by
                have h1 := HST.out
                rw [show q - (n + 1) = (q - (n + 1 + 1)) + 1 by omega] at h1
                unfold cutAt at h1
                rw [HTS.out, if_neg (by simpa using he)] at h1
                exact h1)
              clear he
              go_wp2
              go_roundw
              case rel => exact ⟨(n : Int) + 1 + 1, by omega, by go_num, by rw [show ((n : Int) + 1 + 1).toNat = n + 1 + 1 by omega]; exact HN.out, HV2.out, HB2.out⟩
              case measure => simp [intOf]; omega
          · have HN := Lib.hid (show r = q by have h1 := HC.out; rw [show q - z.toNat = 0 by omega] at h1; exact h1.symm)
            go_wp2
            go_ret
            exact ⟨by rw [HN.out]; rfl, HB2.out⟩
end Go.Proofs.Ythcjbljkokflgaa
/- Pages: numbers that fit, where a list is cut, Clone (maths, and a small walk). -/
namespace Go.Proofs.Ythcjbljkokflgaa
open Go.RowKit
open Go.Lib
open Go.Proofs.Sp
set_option linter.unusedVariables false
set_option linter.unusedSimpArgs false
set_option maxRecDepth 100000
/-- Its tokens fit. -/
structure Wfc (c : Cs) : Prop where
  l : ∀ p ∈ c.L, wf p.2.1
  r : ∀ q ∈ c.ring, wf q.1
theorem wfc_new (birth cards log : Int) : Wfc (newC birth cards log) := ⟨(fun p h => by cases h), (fun q h => by cases h)⟩
theorem wfc_ap {c : Cs} (h : Wfc c) (del : Bool) (uid card : ByteArray) (tok : Int) (ht : wf tok) : Wfc (applyC c del uid card tok).2 := by
  unfold applyC
  by_cases hn : noC c del uid tok = true
  · rw [if_pos hn]; exact h
  · rw [if_neg hn]
    obtain ⟨L, F, rg, mo, lm, la, ho, by_⟩ := c
    obtain ⟨hl, hr⟩ := h
    simp only at hl hr
    have e1 : ∀ p ∈ (if del = true then delL uid L else insL uid (tok, card) L), wf p.2.1 := by
      intro p hp
      split at hp
      · exact hl p (delL_sub.subset hp)
      · rcases insL_mem hp with rfl | hp
        · exact ht
        · exact hl p hp
    unfold yesC rpush
    simp only
    by_cases hf : (rg.length : Int) < lm
    · rw [if_pos hf]
      refine ⟨e1, fun q hq => ?_⟩
      rcases List.mem_append.1 hq with hq | hq
      · exact hr q hq
      · rw [List.mem_singleton.1 hq]; exact ht
    · rw [if_neg hf]
      refine ⟨e1, fun q hq => ?_⟩
      rcases List.mem_or_eq_of_mem_set hq with hq | hq
      · exact hr q hq
      · rw [hq]; exact ht
theorem told_wf {c : Cs} (h : Wfc c) {T : Int} {ys : List It} (hs : Sin c T ys) : ∀ t ∈ ys, wf t.v := by
  intro t ht
  have hm := hs.1.mem_iff.1 ht
  unfold sin0 at hm
  by_cases h0 : T = 0
  · rw [if_pos h0] at hm
    unfold itsK at hm
    obtain ⟨p, hp, rfl⟩ := List.mem_map.1 hm
    exact h.l p hp
  · rw [if_neg h0] at hm
    unfold chgL at hm
    obtain ⟨p, hp, rfl⟩ := List.mem_map.1 hm
    have hr : wf p.2 := by
      have hq := List.mem_reverse.1 (lastL_mem hp)
      unfold ord at hq
      rcases List.mem_append.1 hq with hq | hq
      · exact h.r _ (List.mem_of_mem_drop hq)
      · exact h.r _ (List.mem_of_mem_take hq)
    unfold chgI
    cases hy : getL p.1 c.L with
    | none => exact hr
    | some y => exact h.l _ (getL_mem hy)
theorem cutAt_in {t : Nat → Bool} {len : Nat} : ∀ {d n : Nat}, cutAt t len d n = len ∨ (n ≤ cutAt t len d n ∧ cutAt t len d n < n + d)
  | 0, _ => .inl rfl
  | d + 1, n => by
    unfold cutAt
    split
    · exact .inr ⟨Nat.le_refl _, by omega⟩
    · rcases cutAt_in (t := t) (len := len) (d := d) (n := n + 1) with h | h
      · exact .inl h
      · exact .inr ⟨by omega, by omega⟩
theorem spl_in (vs : List Int) (most : Int) : spl vs most = vs.length ∨ (0 < spl vs most ∧ spl vs most < vs.length) := by
  unfold spl
  rcases cutAt_in (t := tst vs) (len := vs.length) (d := vs.length - (max most 1).toNat) (n := (max most 1).toNat) with h | h
  · exact .inl h
  · exact .inr ⟨by omega, by omega⟩
open Classical in
/-- A page. -/
noncomputable def pgO (c : Cs) (T most : Int) (ys : List It) : List It × (Int × Bool) :=
  if BadT c T then ([], (0, false))
  else if T = 0 ∨ spl (ys.map It.v) most = ys.length then (ys, (c.latest, false))
  else (ys.take (spl (ys.map It.v) most), ((ys.map It.v).getD (spl (ys.map It.v) most - 1) 0, true))
theorem results_tmp4 {fn : Func} {t u v x : Tmp} (h : fn.results = #[.tmp t, .tmp u, .tmp v, .tmp x]) (tmps : Array Value) (P : Program) (w : World) :
    (results fn tmps).run P w = .ok (.tuple #[tmps.getD t undef, tmps.getD u undef, tmps.getD v undef, tmps.getD x undef]) w := by
  simp [results, h]
set_option maxHeartbeats 4000000 in
theorem clone_any {w : World} {B len n cap : Nat} {A : Option Addr} {ys : List It} (h : w.ownsRow B 62 4 (.slice A len cap) len (itsC ys)) (hn : n ≤ len) (h0 : 0 < n) (hb : len ≤ 100000) : Calls Try.prog 56 #[.slice A n cap] w fun e w' => ∃ U, e = .returned U ∧ w'.ownsRow w.heap.size 62 4 U n (itsC (ys.take n)) ∧ Below w.heap.size w w' := by
  obtain ⟨i0, hi, hz0, hz1, hz2⟩ := info_parts infoIt
  obtain ⟨hcap, gl, hsk⟩ := sk_of h
  have hyl : (itsC ys).length = len * 4 := h.1
  obtain ⟨w1, hw1⟩ : ∃ w1, w.alloc (.cells #[] 62) = w1 := ⟨_, rfl⟩
  have HB1 := Lib.hid (show Below w.heap.size w w1 from hw1 ▸ (Below.refl _ w).alloc (Nat.le_refl _) _)
  have HO1 := Lib.hid (show w1.ownsRow w.heap.size 62 4 (.slice (some ⟨w.heap.size, 0, none⟩) 0 0) 0 [] from hw1 ▸ World.ownsRow_lit w #[] 0 (Nat.le_refl _) (by decide) rfl)
  have HTO := Lib.hid ((hsk.on HB1.out).to 4 (by decide) n (by rw [hyl]; omega))
  have HIT := Lib.hid (itsC_take ys n)
  obtain ⟨rfl, -⟩ := hsk 0 _ (List.getElem?_eq_getElem (by rw [hyl]; omega))
  have HM := Lib.hid (show 0 + n ≤ maxLen ∧ (0 + n) * 48 ≤ 140737488355328 from ⟨by unfold maxLen; omega, by omega⟩)
  have HLE := Lib.hid (show ((itsC ys).take (n * 4)).length = n * 4 by rw [List.length_take, hyl]; omega)
  have q40 : ∀ (w : World) (a : Option Addr) (n c n' c' : Nat), Sem.run Try.prog (binOp .eql 40 (.slice a n c) (.slice none n' c')) w = .ok (.bool a.isNone) w := fun w a n c n' c' => Lib.run_eql_slice_nil w 40 62 a n c n' c' Try.underlying40
  clear h hsk hyl
  go_enter Try.func56, Try.ntmps56
  go_wp2_with (first
    | (at_builtin
       refine wpList_apps _ rfl _ _ 40 62 rfl i0 _ 4 48 Try.underlying40 hi hz0 hz1 hz2 rfl (by decide) w.heap.size _ 0 [] rfl HO1.out _ n cap ((itsC ys).take (n * 4)) rfl HLE.out HTO.out (fun u hu => itsC_one _ u (List.mem_of_mem_take hu)) HM.out.1 HM.out.2 HB1.out.size ?_
       intro v' w2 hown hgr
       have HO2 := Lib.hid hown
       have HB2 := Lib.hid (HB1.out.grown hgr HB1.out.size (fun k e => (HO1.out.lt k e).1))
       clear hown hgr)
    | fail)
  go_ret
  exact ⟨v', rfl, by have := HO2.out; rw [Nat.zero_add, List.nil_append, ← HIT.out] at this; exact this, HB2.out⟩
end Go.Proofs.Ythcjbljkokflgaa
/- Page of both. -/
namespace Go.Proofs.Ythcjbljkokflgaa
open Go.RowKit
open Go.Lib
open Go.Proofs.Sp
set_option linter.unusedVariables false
set_option linter.unusedSimpArgs false
set_option maxRecDepth 100000
theorem pg_bad {c : Cs} {T : Int} (h : BadT c T) (most : Int) : errC c T = 8 ∧ TellC c T [] ∧ pgO c T most [] = ([], (0, false)) := ⟨if_pos h, (by unfold TellC; rw [if_pos h]), if_pos h⟩
theorem pg_err {c : Cs} {T : Int} (h : ¬ BadT c T) : errC c T = 0 := if_neg h
theorem pg_tell {c : Cs} {T : Int} (h : ¬ BadT c T) {ys : List It} (hs : Sin c T ys) : TellC c T ys := by unfold TellC; rw [if_neg h]; exact hs
theorem pg_full {c : Cs} {T most : Int} (h : ¬ BadT c T) {ys : List It} (h2 : T = 0 ∨ spl (ys.map It.v) most = ys.length) : pgO c T most ys = (ys, (c.latest, false)) := by
  unfold pgO
  rw [if_neg h, if_pos h2]
theorem pg_cut {c : Cs} {T most : Int} (h : ¬ BadT c T) {ys : List It} (h1 : T ≠ 0) {n p : Nat} (h2 : spl (ys.map It.v) most = n) (h3 : n ≠ ys.length) (hp : n = p + 1) {t : It} (ht : ys[p]? = some t) : pgO c T most ys = (ys.take n, (t.v, true)) := by
  unfold pgO
  rw [if_neg h, if_neg (fun e => by
    rcases e with e | e
    · exact h1 e
    · exact h3 (h2 ▸ e)), h2, List.getD_eq_getElem?_getD, List.getElem?_map, hp, Nat.add_sub_cancel, ht]
  rfl
theorem Cl_lt {w : World} {B g : Nat} {c : Cs} (h : Cl w B g c) : g < w.heap.size := by
  obtain ⟨_, _, e, _⟩ := h
  exact e.lt
section
variable {w wr w' : World} {g r k : Nat} {c : Cs} {R : Rs}
end
end Go.Proofs.Ythcjbljkokflgaa
/- What Since tells of each card (maths). -/
namespace Go.Proofs.Ythcjbljkokflgaa
open Go.RowKit
open Go.Lib
set_option linter.unusedVariables false
set_option linter.unusedSimpArgs false
set_option maxRecDepth 100000
/-- A card that was written while the log remembers has its last change's token. -/
def KV (log : List Chg) (L : LK) : Prop := ∀ u x y, log.reverse.find? (fun c => decide (c.2 = u)) = some x → getL u L = some y → y.1 = x.1
theorem find_prefix {p : Chg → Bool} {A B : List Chg} {x : Chg} (h : A.find? p = some x) : (A ++ B).find? p = some x := by rw [List.find?_append, h]; rfl
theorem KV.drop {log : List Chg} {L : LK} (h : KV log L) : KV (log.drop 1) L := fun u x y h1 h2 => by
  cases log with
  | nil => exact h u x y h1 h2
  | cons c log =>
    refine h u x y ?_ h2
    rw [List.reverse_cons]
    exact find_prefix h1
theorem putL_get {L : LK} (hs : Srt L) (del : Bool) (uid card : ByteArray) (tok : Int) (u : ByteArray) : getL u (putL L del uid card tok) = if u = uid then (if del = true then none else some (tok, card)) else getL u L := by
  unfold putL
  cases del with
  | true => rw [if_pos rfl, getL_del]; rfl
  | false => rw [if_neg (by decide), getL_ins hs]; rfl
theorem KV.add {log : List Chg} {L : LK} (h : KV log L) (hs : Srt L) (del : Bool) (uid card : ByteArray) (tok : Int) : KV (log ++ [(tok, uid)]) (putL L del uid card tok) := fun u x y h1 h2 => by
  rw [List.reverse_append, List.reverse_singleton, List.singleton_append] at h1
  rw [putL_get hs] at h2
  by_cases e : u = uid
  · rw [List.find?_cons_of_pos (by simp [e])] at h1
    cases h1
    rw [if_pos e] at h2
    cases del with
    | true => cases h2
    | false => cases h2; rfl
  · rw [List.find?_cons_of_neg (by simpa using fun e2 => e e2.symm)] at h1
    rw [if_neg e] at h2
    exact h u x y h1 h2
theorem kv_ap {k : Nat} {c : Cs} {R : Rs} (h : Sim c R) (hi : Inv k c) (hk : KV R.log R.L) (del : Bool) (uid card : ByteArray) (tok : Int) : KV (rAp R del uid card tok).2.log (rAp R del uid card tok).2.L := by
  unfold rAp
  by_cases hn : rNo R del uid tok = true
  · rw [if_pos hn]; exact hk
  · rw [if_neg hn]
    have hs : Srt R.L := by rw [h.L]; exact hi.srt
    have hr := rRow_eq hs del uid card tok (fun e => by
      cases hth : (getL uid R.L).isSome with
      | true => rfl
      | false => exact absurd (by unfold rNo; rw [e, hth]; simp) hn)
    have ha := hk.add hs del uid card tok
    rw [← hr] at ha
    show KV (rLog { R with L := rRow R.L del uid card tok } (tok, uid)).log (rLog { R with L := rRow R.L del uid card tok } (tok, uid)).L
    unfold rLog
    split
    · exact ha.drop
    · exact ha
theorem kv_new (birth cards log : Int) : KV (rnewC birth cards log).log (rnewC birth cards log).L := fun u x y h => by cases h
theorem acc_find : ∀ (l : List Chg) (M : List (ByteArray × Int)), Srt M → ∀ p, p ∈ l.foldl accS M → p ∈ M ∨ (getL p.1 M = none ∧ l.find? (fun c => decide (c.2 = p.1)) = some (p.2, p.1))
  | [], M, _, p, h => .inl h
  | c :: l, M, hs, p, h => by
    rw [List.foldl_cons] at h
    by_cases e : (getL c.2 M).isSome = true
    · have em : accS M c = M := by unfold accS; rw [if_pos e]
      rw [em] at h
      rcases acc_find l M hs p h with h | ⟨h1, h2⟩
      · exact .inl h
      · refine .inr ⟨h1, ?_⟩
        rw [List.find?_cons_of_neg (by
          simp only [decide_eq_true_eq]
          intro e2
          rw [e2, h1] at e; cases e)]
        exact h2
    · have em : accS M c = insL c.2 c.1 M := by unfold accS; rw [if_neg e]
      rw [em] at h
      rcases acc_find l _ hs.ins p h with h | ⟨h1, h2⟩
      · rcases insL_mem h with rfl | h
        · refine .inr ⟨by simpa using e, ?_⟩
          rw [List.find?_cons_of_pos (by simp)]
        · exact .inl h
      · rw [getL_ins hs] at h1
        by_cases e2 : p.1 = c.2
        · rw [if_pos e2] at h1; cases h1
        · rw [if_neg e2] at h1
          refine .inr ⟨h1, ?_⟩
          rw [List.find?_cons_of_neg (by simpa using fun e3 => e2 e3.symm)]
          exact h2
theorem last_find {T : Int} {l : List Chg} {p : ByteArray × Int} (h : p ∈ lastL T l) : l.find? (fun c => decide (c.2 = p.1)) = some (p.2, p.1) ∧ T < p.2 := by
  unfold lastL accL at h
  rcases acc_find _ [] List.Pairwise.nil p h with h | ⟨_, h⟩
  · cases h
  · refine ⟨?_, ?_⟩
    · have := find_prefix (B := l.dropWhile fun c => decide (T < c.1)) h
      rwa [List.takeWhile_append_dropWhile] at this
    · have hm := List.mem_of_find?_eq_some h
      have h2 : ∀ (l : List Chg) (c : Chg), c ∈ l.takeWhile (fun c => decide (T < c.1)) → T < c.1 := by
        intro l
        induction l with
        | nil => intro c hc; cases hc
        | cons d l ih =>
          intro c hc
          by_cases e : T < d.1
          · rw [List.takeWhile_cons_of_pos (p := fun c : Chg => decide (T < c.1)) (decide_eq_true e)] at hc
            rcases List.mem_cons.1 hc with rfl | hc
            · exact e
            · exact ih c hc
          · rw [List.takeWhile_cons_of_neg (p := fun c : Chg => decide (T < c.1)) (by simpa using e)] at hc; cases hc
      exact h2 l _ hm
/-- What is told of one card. -/
structure ToldY (c : Cs) (T : Int) (t : It) (y : Int × ByteArray) : Prop where
  x : t.x = false
  v : t.v = y.1
  c : t.c = y.2
structure ToldN (c : Cs) (T : Int) (t : It) : Prop where
  x : t.x = true
  c : t.c = .empty
theorem srt_get : ∀ {L : LK}, Srt L → ∀ p, p ∈ L → getL p.1 L = some p.2
  | [], _, p, h => by cases h
  | q :: L, hs, p, h => by
    obtain ⟨h1, h2⟩ := List.pairwise_cons.1 hs
    rw [getL_cons]
    rcases List.mem_cons.1 h with rfl | h
    · rw [if_pos rfl]
    · rw [if_neg (fun e => by have := h1 p h; rw [e, klt_irr] at this; cases this)]
      exact srt_get h2 p h
theorem told {k : Nat} {c : Cs} {R : Rs} (hs : Sim c R) (hi : Inv k c) (hk : KV R.log R.L) {T : Int} {ys : List It} (h : Sin c T ys) {t : It} (ht : t ∈ ys) :
    (∀ y, getL t.u c.L = some y → ToldY c T t y) ∧ (getL t.u c.L = none → ToldN c T t) ∧ (T ≠ 0 → T < t.v) := by
  have hm := h.1.mem_iff.1 ht
  unfold sin0 at hm
  rw [hs.log, hs.L] at hk
  by_cases h0 : T = 0
  · rw [if_pos h0] at hm
    unfold itsK at hm
    obtain ⟨p, hp, rfl⟩ := List.mem_map.1 hm
    have hg := srt_get hi.srt p hp
    refine ⟨fun y hy => ?_, fun hn => ?_, fun h => absurd h0 h⟩
    · have hy' : getL p.1 c.L = some y := hy
      rw [hg] at hy'
      cases hy'
      exact ⟨rfl, rfl, rfl⟩
    · have hn' : getL p.1 c.L = none := hn
      rw [hg] at hn'; cases hn'
  · rw [if_neg h0] at hm
    unfold chgL at hm
    obtain ⟨p, hp, rfl⟩ := List.mem_map.1 hm
    obtain ⟨hf, hT⟩ := last_find hp
    rw [chgI_u]
    refine ⟨fun y hy => ?_, fun hn => ?_, fun _ => ?_⟩
    · unfold chgI; rw [hy]; exact ⟨rfl, rfl, rfl⟩
    · unfold chgI; rw [hn]; exact ⟨rfl, rfl⟩
    · unfold chgI
      cases hy : getL p.1 c.L with
      | none => exact hT
      | some y =>
        have := hk p.1 _ y hf hy
        show T < y.1
        rw [this]; exact hT
end Go.Proofs.Ythcjbljkokflgaa
namespace Go.Proofs.Ythcjbljkokflgaa
open Go.RowKit
open Go.Lib
open Go.Proofs.Sp
set_option linter.unusedVariables false
set_option linter.unusedSimpArgs false
set_option maxRecDepth 100000
abbrev HF := ByteArray → Option (Int × ByteArray)
/-- The token of the last change of a card that the log has. -/
def lastT (log : List Chg) (u : ByteArray) : Option Int := (log.reverse.find? fun c => decide (c.2 = u)).map (·.1)
theorem lastT_snoc (log : List Chg) (x : Chg) (u : ByteArray) : lastT (log ++ [x]) u = if x.2 = u then some x.1 else lastT log u := by
  unfold lastT
  rw [List.reverse_append, List.reverse_singleton, List.singleton_append]
  by_cases e : x.2 = u
  · rw [List.find?_cons_of_pos (by simp [e]), if_pos e]; rfl
  · rw [List.find?_cons_of_neg (by simpa using e), if_neg e]
theorem lastT_cons (log : List Chg) (x : Chg) (u : ByteArray) : lastT (x :: log) u = (lastT log u).or (if x.2 = u then some x.1 else none) := by
  unfold lastT
  rw [List.reverse_cons, List.find?_append]
  cases log.reverse.find? fun c => decide (c.2 = u) with
  | some y => rfl
  | none =>
    by_cases e : x.2 = u
    · rw [List.find?_cons_of_pos (by simp [e]), if_pos e]; rfl
    · rw [List.find?_cons_of_neg (by simpa using e), if_neg e]; rfl
/-- What a copy at token N has of all that was not changed since. -/
def Agr (log : List Chg) (hor : Int) (L : LK) (N : Int) (H : HF) : Prop := hor ≤ N → ∀ u, (∀ t, lastT log u = some t → t ≤ N) → H u = getL u L
theorem agr_add {log : List Chg} {hor N : Int} {L : LK} {H : HF} (h : Agr log hor L N H) (hs : Srt L) (del : Bool) (uid card : ByteArray) {tok : Int} (ht : N < tok) : Agr (log ++ [(tok, uid)]) hor (putL L del uid card tok) N H := fun hh u hu => by
  rw [lastT_snoc] at hu
  by_cases e : uid = u
  · have := hu tok (by rw [if_pos e]); omega
  · rw [h hh u (fun t ht => hu t (by rw [if_neg e]; exact ht)), putL_get hs, if_neg (fun e2 => e e2.symm)]
theorem agr_drop {x : Chg} {log : List Chg} {hor N : Int} {L : LK} {H : HF} (h : Agr (x :: log) hor L N H) : Agr log (max hor x.1) L N H := fun hh u hu => by
  refine h (by omega) u (fun t ht => ?_)
  rw [lastT_cons] at ht
  cases hl : lastT log u with
  | some s => rw [hl] at ht; cases ht; exact hu _ hl
  | none =>
    rw [hl] at ht
    by_cases e : x.2 = u
    · rw [if_pos e] at ht; cases ht; omega
    · rw [if_neg e] at ht; cases ht
/-- A write leaves the agreement. -/
theorem agr_ap {k : Nat} {c : Cs} {R : Rs} (hs : Sim c R) (hi : Inv k c) {N : Int} {H : HF} (h : Agr R.log R.horizon R.L N H) (del : Bool) (uid card : ByteArray) (tok : Int) (ht : N < tok) : Agr (rAp R del uid card tok).2.log (rAp R del uid card tok).2.horizon (rAp R del uid card tok).2.L N H := by
  unfold rAp
  by_cases hn : rNo R del uid tok = true
  · rw [if_pos hn]; exact h
  · rw [if_neg hn]
    have hsr : Srt R.L := by rw [hs.L]; exact hi.srt
    have hr := rRow_eq hsr del uid card tok (fun e => by
      cases hth : (getL uid R.L).isSome with
      | true => rfl
      | false => exact absurd (by unfold rNo; rw [e, hth]; simp) hn)
    have ha := agr_add h hsr del uid card ht
    rw [← hr] at ha
    show Agr (rLog { R with L := rRow R.L del uid card tok } (tok, uid)).log (rLog { R with L := rRow R.L del uid card tok } (tok, uid)).horizon (rLog { R with L := rRow R.L del uid card tok } (tok, uid)).L N H
    unfold rLog
    split
    · show Agr ((R.log ++ [(tok, uid)]).drop 1) (max R.horizon ((R.log ++ [(tok, uid)]).headD (0, .empty)).1) (rRow R.L del uid card tok) N H
      cases hl : R.log with
      | nil =>
        rw [hl] at ha
        exact agr_drop ha
      | cons x log =>
        rw [hl] at ha
        exact agr_drop ha
    · exact ha
/-- One item folded into what a copy has. -/
def foldH (H : HF) (t : It) : HF := fun u => if u = t.u then (if t.x = true then none else some (t.v, t.c)) else H u
theorem foldH_on {L : LK} (u : ByteArray) : ∀ (zs : List It) (H : HF), (∀ t ∈ zs, (if t.x = true then none else some (t.v, t.c)) = getL t.u L) → (zs.foldl foldH H) u = if (zs.any fun t => decide (t.u = u)) = true then getL u L else H u
  | [], H, _ => rfl
  | z :: zs, H, h => by
    rw [List.foldl_cons, foldH_on u zs _ (fun t ht => h t (List.mem_cons_of_mem _ ht)), List.any_cons]
    by_cases e : (zs.any fun t => decide (t.u = u)) = true
    · rw [if_pos e, e, Bool.or_true, if_pos rfl]
    · rw [if_neg e, Bool.eq_false_iff.2 e, Bool.or_false]
      unfold foldH
      by_cases e2 : z.u = u
      · rw [if_pos e2.symm, if_pos (decide_eq_true e2), ← e2]
        exact h z List.mem_cons_self
      · rw [if_neg (fun e3 => e2 e3.symm), if_neg (by simpa using e2)]
theorem acc_has : ∀ (l : List Chg) (M : List (ByteArray × Int)), Srt M → ∀ u, (getL u M).isSome = true ∨ (∃ c ∈ l, c.2 = u) → (getL u (l.foldl accS M)).isSome = true
  | [], M, _, u, h => by
    rcases h with h | ⟨c, hc, _⟩
    · exact h
    · cases hc
  | c :: l, M, hs, u, h => by
    have hs2 : Srt (accS M c) := by unfold accS; split; exact hs; exact hs.ins
    refine acc_has l _ hs2 u ?_
    rcases h with h | ⟨d, hd, hu⟩
    · left
      unfold accS
      split
      · exact h
      · rw [getL_ins hs]; split; rfl; exact h
    · rcases List.mem_cons.1 hd with rfl | hd
      · left
        unfold accS
        split
        · rw [← hu]; assumption
        · rw [getL_ins hs, if_pos hu.symm]; rfl
      · exact .inr ⟨d, hd, hu⟩
theorem take_find {T : Int} : ∀ {l : List Chg} {p : Chg → Bool} {x : Chg}, (l.Pairwise fun a b => b.1 ≤ a.1) → l.find? p = some x → T < x.1 → x ∈ l.takeWhile fun c => decide (T < c.1)
  | [], p, x, _, h, _ => by cases h
  | c :: l, p, x, hd, h, hT => by
    obtain ⟨h1, h2⟩ := List.pairwise_cons.1 hd
    by_cases e : p c = true
    · rw [List.find?_cons_of_pos e] at h
      cases h
      rw [List.takeWhile_cons_of_pos (p := fun c : Chg => decide (T < c.1)) (decide_eq_true hT)]
      exact List.mem_cons_self
    · rw [List.find?_cons_of_neg e] at h
      have hm := List.mem_of_find?_eq_some h
      have := h1 x hm
      rw [List.takeWhile_cons_of_pos (p := fun c : Chg => decide (T < c.1)) (decide_eq_true (show T < c.1 by omega))]
      exact List.mem_cons_of_mem _ (take_find h2 h hT)
/-- What Since tells of the changes: each has its last token, and whoever was changed is told. -/
theorem sin_last {k : Nat} {c : Cs} {R : Rs} (hs : Sim c R) (hi : Inv k c) (hk : KV R.log R.L) {N : Int} (h0 : N ≠ 0) {ys : List It} (h : Sin c N ys) : (∀ t ∈ ys, lastT R.log t.u = some t.v ∧ N < t.v ∧ (if t.x = true then none else some (t.v, t.c)) = getL t.u c.L) ∧ ∀ u t, lastT R.log u = some t → N < t → (ys.any fun i => decide (i.u = u)) = true := by
  refine ⟨fun t ht => ?_, fun u t hl hN => ?_⟩
  · have ht2 := told hs hi hk h ht
    have hm := h.1.mem_iff.1 ht
    unfold sin0 at hm
    rw [if_neg h0] at hm
    unfold chgL at hm
    obtain ⟨p, hp, rfl⟩ := List.mem_map.1 hm
    obtain ⟨hf, hT⟩ := last_find hp
    rw [chgI_u] at ht2 ⊢
    have hl : lastT R.log p.1 = some p.2 := by
      unfold lastT
      rw [hs.log, hf]; rfl
    cases hy : getL p.1 c.L with
    | none =>
      have hx := ht2.2.1 hy
      have hv : (chgI c.L p).v = p.2 := by unfold chgI; rw [hy]
      rw [hv, hx.x, if_pos rfl]
      exact ⟨hl, hT, rfl⟩
    | some y =>
      have hx := ht2.1 y hy
      have hv : y.1 = p.2 := hk p.1 _ y (by rw [hs.log]; exact hf) (by rw [hs.L]; exact hy)
      rw [hx.x, hx.v, hx.c, hv, if_neg (by decide)]
      exact ⟨hl, hT, by rw [← hv]⟩
  · rw [h.1.any_eq]
    unfold sin0
    rw [if_neg h0, chg_any]
    unfold lastT at hl
    cases hf : R.log.reverse.find? fun c => decide (c.2 = u) with
    | none => rw [hf] at hl; cases hl
    | some x =>
      rw [hf] at hl
      cases hl
      have hd : R.log.reverse.Pairwise fun a b => b.1 ≤ a.1 := List.pairwise_reverse.2 hs.so
      have hm := take_find hd hf hN
      have hu : x.2 = u := by have := List.find?_some hf; simpa using this
      unfold lastL accL
      rw [← hs.log]
      exact acc_has _ [] List.Pairwise.nil u (.inr ⟨x, hm, hu⟩)
theorem cutAt_tst {t : Nat → Bool} {len : Nat} : ∀ {d n : Nat}, cutAt t len d n = len ∨ t (cutAt t len d n) = true
  | 0, _ => .inl rfl
  | d + 1, n => by
    unfold cutAt
    split
    · rename_i h; exact .inr h
    · exact cutAt_tst
/-- Behind the cut no item has the version ahead of it. -/
theorem spl_ne {vs : List Int} {most : Int} {n : Nat} (h : spl vs most = n) (h1 : n < vs.length) {k : Nat} (hk : n ≤ k) {v : Int} (hv : vs[k]? = some v) : v ≠ vs.getD (n - 1) 0 := by
  unfold spl at h
  rcases cutAt_tst (t := tst vs) (len := vs.length) (d := vs.length - (max most 1).toNat) (n := (max most 1).toNat) with e | e
  · rw [e] at h; omega
  · rw [h] at e
    unfold tst at e
    have hb : behind vs n (vs.getD (n - 1) 0) (vs.length - n) = false := by simpa using e
    have hkl := (List.getElem?_eq_some_iff.1 hv).1
    intro e2
    exact behind_iff.1 hb k hk (by omega) (by rw [hv, e2])
end Go.Proofs.Ythcjbljkokflgaa
