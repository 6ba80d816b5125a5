/- The law ColSplits. -/
import Derived.Test.YthcjbljkokflgaaZx
import Derived.Test.YthcjbljkokflgaaZk
set_option linter.unnecessarySimpa false
/- Split, the program's. -/
namespace Go.Proofs.Ythcjbljkokflgaa
open Go.RowKit Go.Maps
open Go.Lib
open Go.Proofs.Sp
set_option linter.unusedVariables false
set_option linter.unusedSimpArgs false
set_option maxRecDepth 100000
theorem zeroI (w : World) : (zeroValue 3).run Try.prog w = .ok (.int .i64 0) w := by kernel_rfl
theorem run_mm (n : Int) (w : World) : (Instr.makeMap 102 (some (.int .i64 n))).run Try.prog w = .ok (.map (some w.heap.size)) (w.alloc (.map #[] 0)) := by
  simp [Instr.makeMap, run_underlying Try.underlying102, asInt, asIntOf, Result.andThen]
/-- What the map holds behind q items. -/
structure Lst (D : VD) (vs : List Int) (q : Nat) : Prop where
  at_ : ∀ v, vl D v = (lastUp vs q v).map (fun j => Value.int .i64 (j : Int))
  size : Maps.size D ≤ q
theorem Lst.empty (vs : List Int) : Lst (.map []) vs 0 := ⟨fun v => rfl, Nat.le_refl _⟩
theorem Lst.put {D : VD} {vs : List Int} {q : Nat} (h : Lst D vs q) (hd : Vd D) {x : Int} (hx : vs[q]? = some x) : Lst (D.put (.int .i64 x) (.held (.int .i64 (q : Int)))) vs (q + 1) :=
  ⟨fun v => by
    by_cases e : v = x
    · subst e
      rw [vl_put hd.tidy.isMap]
      unfold lastUp
      rw [if_pos hx]
      rfl
    · rw [vl_put_ne e, h.at_]
      conv => rhs; unfold lastUp
      rw [if_neg (by rw [hx]; exact fun h => e (Option.some.inj h).symm)], by
    have := h.size
    rw [hd.size_put]
    split <;> omega⟩
theorem lastUp_some {vs : List Int} {v : Int} {n : Nat} (h : vs[n]? = some v) : ∀ {m : Nat}, n < m → ∃ j, lastUp vs m v = some j
  | 0, hn => by omega
  | m + 1, hn => by
    unfold lastUp
    by_cases hm : vs[m]? = some v
    · exact ⟨m, by rw [if_pos hm]⟩
    · rw [if_neg hm]
      refine lastUp_some h ?_
      by_cases e : n = m
      · subst e; exact absurd h hm
      · omega
theorem tst_last {vs : List Int} {n : Nat} {v : Int} (h : vs[n]? = some v) : tst vs (n + 1) = decide (lastUp vs vs.length v = some n) := by
  have hn := (List.getElem?_eq_some_iff.1 h).1
  unfold tst
  rw [Nat.add_sub_cancel, List.getD_eq_getElem?_getD, h]
  have := split_at hn h
  show (!behind vs (n + 1) v (vs.length - (n + 1))) = _
  cases hb : behind vs (n + 1) v (vs.length - (n + 1)) with
  | true => rw [hb] at this; rw [decide_eq_false (fun e => by have := this.1 e; cases this)]; rfl
  | false => rw [decide_eq_true (this.2 hb)]; rfl
set_option maxHeartbeats 8000000 in
theorem split_any {w : World} {A : Option Addr} {len cap b off : Nat} {xs : List It} (h : Its w A len cap b off xs) (hn : len ≤ 100000) (hw : ∀ t ∈ xs, wf t.v) (most : Int) : Calls Try.prog 32 #[.slice A len cap, .int .i64 most] w fun e w' => e = .returned (.int .i64 (spl (xs.map It.v) most : Int)) ∧ Below w.heap.size w w' := by
  have HI := Lib.hid h
  have HW := Lib.hid hw
  have hlen := h.hlen
  have hlc := h.le
  have hnI : (len : Int) ≤ 100000 := by omega
  obtain ⟨vs, hvs⟩ : ∃ vs, xs.map It.v = vs := ⟨_, rfl⟩
  have HV := Lib.hid (show ∀ (j : Nat) (t : It), xs[j]? = some t → vs[j]? = some t.v from fun j t ht => by rw [← hvs, List.getElem?_map, ht]; rfl)
  have HVL := Lib.hid (show vs.length = len by rw [← hvs, List.length_map, hlen])
  rw [hvs]
  obtain ⟨r, hr⟩ : ∃ r, spl vs most = r := ⟨_, rfl⟩
  have HR := Lib.hid hr
  rw [hr]
  clear hr h hvs hw
  obtain ⟨z0, hz0⟩ : ∃ z, max most 1 = z := ⟨_, rfl⟩
  have hz1 : 1 ≤ z0 := by omega
  have HR0 := Lib.hid (show cutAt (tst vs) len (len - z0.toNat) z0.toNat = r by have := HR.out; unfold spl at this; rw [HVL.out, hz0] at this; exact this)
  have HZ := Lib.hid (show z0 = if most < 1 then 1 else most by split <;> omega)
  clear hz0
  go_enter Try.func32, Try.ntmps32
  have hmm := run_mm (len : Int)
  go_wp2
  clear hmm
  have HWge := Lib.hid (Nat.le_refl w.heap.size)
  go_loopw [14] (fun i wr => ∃ (q : Nat) (D : VD), q ≤ len ∧ i = .int .i64 (q : Int) ∧ Lst D vs q ∧ Vm wr w.heap.size D ∧ Below w.heap.size w wr) (fun i _ => len - (intOf i).toNat)
  case atStart => exact ⟨0, _, Nat.zero_le _, rfl, Lst.empty _, Vm.made w, (Below.refl _ _).alloc (Nat.le_refl _) _⟩
  case round =>
    obtain ⟨q, D, hq, rfl, hse, hvm, hB⟩ := hrel
    have HSE := Lib.hid hse
    have HVM := Lib.hid hvm
    have HB := Lib.hid hB
    clear hse hvm hB
    by_cases hql : q < len
    · obtain ⟨t, ht⟩ : ∃ t, xs[q]? = some t := ⟨xs[q]'(by rw [HI.out.hlen]; exact hql), List.getElem?_eq_getElem _⟩
      obtain ⟨rfl, hbl⟩ := HI.out.addr (by omega)
      obtain ⟨c0, c1, c2, c3⟩ := (HI.out.below HB.out (fun _ => hbl)).cell q t ht
      have HTV := Lib.hid (HV.out q t ht)
      have HTW := Lib.hid (HW.out t (List.mem_of_getElem? ht))
      have hqI : (q : Int) < (len : Int) := by omega
      obtain ⟨tu, tv, tx, tc⟩ := t
      simp only at c0 c1 c2 c3
      clear ht
      obtain ⟨n, hn2⟩ : ∃ n, wr.heap.size = n := ⟨_, rfl⟩
      obtain ⟨W1, hW1⟩ : ∃ W1, wr.alloc (.cells #[.string { data := #[] }, .int .i64 0, .bool false, .string { data := #[] }] 62) = W1 := ⟨_, rfl⟩
      have HB1 := Lib.hid (show Below wr.heap.size wr W1 from hW1 ▸ (Below.refl _ wr).alloc (Nat.le_refl _) _)
      have HX1 := Lib.hid (show Blk W1 n 62 #[.string .empty, .int .i64 0, .bool false, .string .empty] from hn2 ▸ hW1 ▸ Blk.new wr 62 _)
      have y0 := HX1.out.cell 0
      have y1 := HX1.out.cell 1
      have y2 := HX1.out.cell 2
      have y3 := HX1.out.cell 3
      have f0 := HX1.out.frozen 0
      have f1 := HX1.out.frozen 1
      have f2 := HX1.out.frozen 2
      have f3 := HX1.out.frozen 3
      obtain ⟨W2, hW2⟩ : ∃ W2, (((W1.setCell ⟨n, 0, none⟩ (.string tu)).setCell ⟨n, 1, none⟩ (.int .i64 tv)).setCell ⟨n, 2, none⟩ (.bool tx)).setCell ⟨n, 3, none⟩ (.string tc) = W2 := ⟨_, rfl⟩
      have HX2 := Lib.hid (show Blk W2 n 62 #[.string tu, .int .i64 tv, .bool tx, .string tc] from hW2 ▸ ((((HX1.out.set_ 0 _).set_ 1 _).set_ 2 _).set_ 3 _))
      have HB2 := Lib.hid (show Below n wr W2 from hW2 ▸ ((((((HB1.out.mono (Nat.le_of_eq hn2.symm)).setCell (p := ⟨n, 0, none⟩) (Nat.le_refl _) _).setCell (p := ⟨n, 1, none⟩) (Nat.le_refl _) _).setCell (p := ⟨n, 2, none⟩) (Nat.le_refl _) _).setCell (p := ⟨n, 3, none⟩) (Nat.le_refl _) _)))
      have HM2 := Lib.hid (HVM.out.off (HB2.out.block _ (by have := HVM.out.lt; omega)))
      obtain ⟨W4, hrun, hv4, hg4, _⟩ := HM2.out.upd (by have := HSE.out.size; omega) Try.underlying102 (x := tv) HTW.out (.int .i64 (q : Int))
      have HV4 := Lib.hid hv4
      have HBa := Lib.hid (HB.out.trans (HB2.out.mono (by rw [← hn2]; exact HB.out.size)))
      have HB4 := Lib.hid (HBa.out.grown hg4 HBa.out.size (fun j e => by cases e; exact Nat.le_refl _))
      have z1 := HX2.out.cell 1
      clear hv4 hg4
      go_wp2
      go_roundw
      case rel => exact ⟨q + 1, _, by omega, by go_num, HSE.out.put HM2.out.vd HTV.out, HV4.out, HB4.out⟩
      case measure => simp [intOf]; omega
    · obtain rfl : q = len := by omega
      have HS0 := Lib.hid (show Lst D vs vs.length from HVL.out ▸ HSE.out)
      by_cases hm : most < 1
      · obtain rfl : z0 = 1 := by rw [HZ.out, if_pos hm]
        go_wp2
        go_loopw [8] (fun kk wr => ∃ z : Int, 1 ≤ z ∧ kk = .int .i64 z ∧ cutAt (tst vs) q (q - z.toNat) z.toNat = r ∧ Vm wr w.heap.size D ∧ Below w.heap.size w wr) (fun kk _ => ((q : Int) - intOf kk).toNat)
        case atStart => exact ⟨_, hz1, (by first | rfl | (congr 1 <;> omega)), HR0.out, HVM.out, HB.out⟩
        case round =>
          obtain ⟨z, hz, rfl, hc, hv, hB⟩ := hrel
          have HC := Lib.hid hc
          have HV2 := Lib.hid hv
          have HB2 := Lib.hid hB
          clear hc hv hB
          by_cases hzl : z < (q : Int)
          · obtain ⟨n, rfl⟩ : ∃ n : Nat, z = (n : Int) + 1 := ⟨(z - 1).toNat, by omega⟩
            have hnl : n + 1 < q := by omega
            obtain ⟨t0, ht0⟩ : ∃ t, xs[n]? = some t := ⟨xs[n]'(by rw [HI.out.hlen]; omega), List.getElem?_eq_getElem _⟩
            obtain ⟨rfl, hbl⟩ := HI.out.addr (by omega)
            obtain ⟨_, c1, _, _⟩ := (HI.out.below HB2.out (fun _ => hbl)).cell n t0 ht0
            have HST := Lib.hid (show cutAt (tst vs) q (q - (n + 1)) (n + 1) = r by have := HC.out; rw [show ((n : Int) + 1).toNat = n + 1 by omega] at this; exact this)
            obtain ⟨j, hj⟩ := lastUp_some (HV.out n t0 ht0) (m := vs.length) (by rw [HVL.out]; omega)
            have hlk := (HV2.out.look Try.underlying102 (zeroI _) (HW.out t0 (List.mem_of_getElem? ht0))).2
            rw [HS0.out.at_, hj] at hlk
            try simp only [Option.map_some, Option.getD_some] at hlk
            have HTS := Lib.hid (tst_last (HV.out n t0 ht0))
            rw [hj] at HTS
            obtain ⟨uv, hu⟩ : ∃ u, t0.v = u := ⟨_, rfl⟩
            rw [hu] at c1 hlk
            clear ht0 hu hz hj
            by_cases he : j = n
            · have he2 : ((j : Int) == (n : Int)) = true := by rw [he]; simp
              have HN := Lib.hid (show r = n + 1 by
                have h1 := HST.out
                rw [show q - (n + 1) = (q - (n + 1 + 1)) + 1 by omega] at h1
                unfold cutAt at h1
                rw [HTS.out, he] at h1
                simpa using h1.symm)
              clear he
              go_wp2
              go_ret
              exact ⟨by rw [HN.out]; first | rfl | simp, HB2.out⟩
            · have he2 : ((j : Int) == (n : Int)) = false := beq_eq_false_iff_ne.2 (by omega)
              have HN := Lib.hid (show cutAt (tst vs) q (q - (n + 1 + 1)) (n + 1 + 1) = r by
                have h1 := HST.out
                rw [show q - (n + 1) = (q - (n + 1 + 1)) + 1 by omega] at h1
                unfold cutAt at h1
                rw [HTS.out, if_neg (by simpa using he)] at h1
                exact h1)
              clear he
              go_wp2
              go_roundw
              case rel => exact ⟨(n : Int) + 1 + 1, by omega, by go_num, by rw [show ((n : Int) + 1 + 1).toNat = n + 1 + 1 by omega]; exact HN.out, HV2.out, HB2.out⟩
              case measure => simp [intOf]; omega
          · have HN := Lib.hid (show r = q by have h1 := HC.out; rw [show q - z.toNat = 0 by omega] at h1; exact h1.symm)
            go_wp2
            go_ret
            exact ⟨by rw [HN.out]; rfl, HB2.out⟩
      · obtain rfl : z0 = most := by rw [HZ.out, if_neg hm]
        go_wp2
        go_loopw [8] (fun kk wr => ∃ z : Int, 1 ≤ z ∧ kk = .int .i64 z ∧ cutAt (tst vs) q (q - z.toNat) z.toNat = r ∧ Vm wr w.heap.size D ∧ Below w.heap.size w wr) (fun kk _ => ((q : Int) - intOf kk).toNat)
        case atStart => exact ⟨_, hz1, (by first | rfl | (congr 1 <;> omega)), HR0.out, HVM.out, HB.out⟩
        case round =>
          obtain ⟨z, hz, rfl, hc, hv, hB⟩ := hrel
          have HC := Lib.hid hc
          have HV2 := Lib.hid hv
          have HB2 := Lib.hid hB
          clear hc hv hB
          by_cases hzl : z < (q : Int)
          · obtain ⟨n, rfl⟩ : ∃ n : Nat, z = (n : Int) + 1 := ⟨(z - 1).toNat, by omega⟩
            have hnl : n + 1 < q := by omega
            obtain ⟨t0, ht0⟩ : ∃ t, xs[n]? = some t := ⟨xs[n]'(by rw [HI.out.hlen]; omega), List.getElem?_eq_getElem _⟩
            obtain ⟨rfl, hbl⟩ := HI.out.addr (by omega)
            obtain ⟨_, c1, _, _⟩ := (HI.out.below HB2.out (fun _ => hbl)).cell n t0 ht0
            have HST := Lib.hid (show cutAt (tst vs) q (q - (n + 1)) (n + 1) = r by have := HC.out; rw [show ((n : Int) + 1).toNat = n + 1 by omega] at this; exact this)
            obtain ⟨j, hj⟩ := lastUp_some (HV.out n t0 ht0) (m := vs.length) (by rw [HVL.out]; omega)
            have hlk := (HV2.out.look Try.underlying102 (zeroI _) (HW.out t0 (List.mem_of_getElem? ht0))).2
            rw [HS0.out.at_, hj] at hlk
            try simp only [Option.map_some, Option.getD_some] at hlk
            have HTS := Lib.hid (tst_last (HV.out n t0 ht0))
            rw [hj] at HTS
            obtain ⟨uv, hu⟩ : ∃ u, t0.v = u := ⟨_, rfl⟩
            rw [hu] at c1 hlk
            clear ht0 hu hz hj
            by_cases he : j = n
            · have he2 : ((j : Int) == (n : Int)) = true := by rw [he]; simp
              have HN := Lib.hid (show r = n + 1 by
                have h1 := HST.out
                rw [show q - (n + 1) = (q - (n + 1 + 1)) + 1 by omega] at h1
                unfold cutAt at h1
                rw [HTS.out, he] at h1
                simpa using h1.symm)
              clear he
              go_wp2
              go_ret
              exact ⟨by rw [HN.out]; first | rfl | simp, HB2.out⟩
            · have he2 : ((j : Int) == (n : Int)) = false := beq_eq_false_iff_ne.2 (by omega)
              have HN := Lib.hid (show cutAt (tst vs) q (q - (n + 1 + 1)) (n + 1 + 1) = r by
                have h1 := HST.out
                rw [show q - (n + 1) = (q - (n + 1 + 1)) + 1 by omega] at h1
                unfold cutAt at h1
                rw [HTS.out, if_neg (by simpa using he)] at h1
                exact h1)
              clear he
              go_wp2
              go_roundw
              case rel => exact ⟨(n : Int) + 1 + 1, by omega, by go_num, by rw [show ((n : Int) + 1 + 1).toNat = n + 1 + 1 by omega]; exact HN.out, HV2.out, HB2.out⟩
              case measure => simp [intOf]; omega
          · have HN := Lib.hid (show r = q by have h1 := HC.out; rw [show q - z.toNat = 0 by omega] at h1; exact h1.symm)
            go_wp2
            go_ret
            exact ⟨by rw [HN.out]; rfl, HB2.out⟩
end Go.Proofs.Ythcjbljkokflgaa
/- Items of an argument: their versions are numbers that fit. -/
namespace Go.Proofs.Ythcjbljkokflgaa
open Go.RowKit
open Go.Lib
set_option linter.unusedVariables false
set_option maxRecDepth 20000
theorem it_open2 {w : World} {cs : List Value} (h : Sh.ok w shIt cs) : ∃ t : It, cs = itC t ∧ wf t.v := by
  simp only [Sh.ok, Sh.okAll] at h
  obtain ⟨hl, ⟨u, e0, hu⟩, ⟨v, e1, hv⟩, ⟨x, e2⟩, ⟨c, e3, hc⟩, _⟩ := h
  match cs, hl with
  | [c0, c1, c2, c3], _ =>
    simp at e0 e1 e2 e3
    subst e0 e1 e2 e3
    exact ⟨⟨u, v, x, c⟩, rfl, hv⟩
theorem its_open2 {w : World} {A : Option Addr} {len cap : Nat} (S : Sh.ok w (Sh.slice 4 shIt) [.slice A len cap]) : ∃ b off xs, Its w A len cap b off xs ∧ (∀ t ∈ xs, wf t.v) := by
  obtain ⟨b, off, hle, hmax, ha, hc⟩ := slice_at S (by omega)
  have H : ∀ i, i < len → ∃ t : It, wf t.v ∧ ∀ j, j < 4 → w.cell? ⟨b, off + i * 4 + j, none⟩ = (itC t)[j]? := by
    intro i hi
    obtain ⟨cs, hl, hok, hcell⟩ := hc i hi
    obtain ⟨t, rfl, h1⟩ := it_open2 hok
    exact ⟨t, h1, hcell⟩
  refine ⟨b, off, List.ofFn (fun i : Fin len => Classical.choose (H i.1 i.2)), ⟨by simp, hle, ha, fun j t hj => ?_⟩, fun t ht => ?_⟩
  · have hjl : j < len := by have := (List.getElem?_eq_some_iff.1 hj).1; simpa using this
    rw [List.getElem?_eq_getElem (by simpa using hjl)] at hj
    simp only [List.getElem_ofFn, Option.some.injEq] at hj
    have h2 := (Classical.choose_spec (H j hjl)).2
    rw [hj] at h2
    exact ⟨by simpa [itC] using h2 0 (by omega), by simpa [itC] using h2 1 (by omega), by simpa [itC] using h2 2 (by omega), by simpa [itC] using h2 3 (by omega)⟩
  · obtain ⟨i, rfl⟩ := (List.mem_ofFn).1 ht
    exact (Classical.choose_spec (H i.1 i.2)).1
end Go.Proofs.Ythcjbljkokflgaa
namespace Go.Proofs.Ythcjbljkokflgaa
open Go.RowKit Go.Maps
open Go.Lib
open Go.Proofs.Sp
set_option linter.unusedVariables false
set_option linter.unusedSimpArgs false
set_option maxRecDepth 100000
theorem spl_le (vs : List Int) (most : Int) : spl vs most ≤ vs.length := by
  unfold spl
  by_cases h : (max most 1).toNat ≤ vs.length
  · exact cutAt_le (by omega)
  · rw [show vs.length - (max most 1).toNat = 0 by omega]
    exact Nat.le_refl _
theorem splits_big (w : World) (A : Option Addr) (len cap : Nat) (a : Int) (h : 80 < len) : Calls Try.prog 7 #[.slice A len cap, .int .i64 a] w fun e w' => e = .returned (.bool true) ∧ Below w.heap.size w w' := by
  have hl2 : (len : Int) > 80 := by omega
  go_enter Try.func7, Try.ntmps7
  go_wp2_with fail
  refine (first_any _).mono ?_
  rintro _ w1 ⟨rfl, hb⟩
  have HB1 := Lib.hid hb
  clear hb
  go_wp2_with fail
  refine (first_any _).mono ?_
  rintro _ w2 ⟨rfl, hb⟩
  have HB2 := Lib.hid hb
  clear hb
  go_wp2
  go_ret
  exact ⟨rfl, HB1.out.trans (HB2.out.mono HB1.out.size)⟩
theorem splits_in (w : World) (A : Option Addr) (len cap b off : Nat) (xs : List It) (a : Int) (hI : Its w A len cap b off xs) (hw : ∀ t ∈ xs, wf t.v) (h : ¬ 80 < len) : Calls Try.prog 7 #[.slice A len cap, .int .i64 a] w fun e w' => e = .returned (.bool true) ∧ Below w.heap.size w w' := by
  have hl2 : ¬ (len : Int) > 80 := by omega
  have HI := Lib.hid (fun (W : World) (hb : Below w.heap.size w W) => hI.below hb (fun hl => (hI.addr hl).2))
  have HS := Lib.hid (fun (W : World) (hb : Below w.heap.size w W) => split_any (hI.below hb (fun hl => (hI.addr hl).2)) (by omega) hw a)
  have HR := Lib.hid (fun (W : World) (hb : Below w.heap.size w W) => rsplit_any (hI.below hb (fun hl => (hI.addr hl).2)) (by omega) a)
  have HLE := spl_le (xs.map It.v) a
  rw [List.length_map, hI.hlen] at HLE
  obtain ⟨q, hq⟩ : ∃ q, spl (xs.map It.v) a = q := ⟨_, rfl⟩
  rw [hq] at HS HR HLE
  have hz : (q : Int) ≤ (len : Int) := by omega
  clear hI hw hq
  go_enter Try.func7, Try.ntmps7
  go_wp2_with fail
  refine (first_any _).mono ?_
  rintro _ w1 ⟨rfl, hb⟩
  have HB1 := Lib.hid hb
  clear hb
  go_wp2_with fail
  refine (HS.out _ HB1.out).mono ?_
  rintro _ w2 ⟨rfl, hb⟩
  have HB2 := Lib.hid (HB1.out.trans (hb.mono HB1.out.size))
  clear hb
  go_wp2_with fail
  refine (HR.out _ HB2.out).mono ?_
  rintro _ w3 ⟨rfl, hb⟩
  have HB3 := Lib.hid (HB2.out.trans (hb.mono HB2.out.size))
  clear hb
  go_wp2
  go_ret
  exact ⟨rfl, HB3.out⟩
theorem colSplits_walk (w : World) (A0 : Option Addr) (len0 cap0 : Nat) (S0 : Sh.ok w (Sh.slice 4 (Sh.agg 4 [(0, 1, Sh.str), (1, 1, (Sh.int .i64)), (2, 1, Sh.bool), (3, 1, Sh.str)])) [.slice A0 len0 cap0]) (a1 : Int) (w1 : (Lit.int .i64 a1).wf = true) :
    Calls Try.prog 7 #[.slice A0 len0 cap0, .int .i64 a1] w fun e w' => e = .returned (.bool true) ∧ Below w.heap.size w w' := by
  by_cases h : 80 < len0
  · exact splits_big w A0 len0 cap0 a1 h
  · obtain ⟨b, off, xs, hI, hw⟩ := its_open2 S0
    exact splits_in w A0 len0 cap0 b off xs a1 hI hw h
end Go.Proofs.Ythcjbljkokflgaa
