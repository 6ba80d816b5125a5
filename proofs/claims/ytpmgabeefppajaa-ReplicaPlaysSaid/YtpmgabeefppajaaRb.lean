/- The replica: may an answer follow? -/
import Derived.Test.YtpmgabeefppajaaRm
import Derived.Test.YtpmgabeefppajaaVs9
namespace Go.Proofs.Ytpmgabeefppajaa
open Go.RowKit Go.Maps
open Go.Lib
set_option linter.unusedVariables false
set_option linter.unusedSimpArgs false
set_option maxRecDepth 100000
theorem zero105 (w : World) : (zeroValue 105).run Try.prog w = .ok (.agg #[]) w := by kernel_rfl
theorem run_mm (n : Int) (w : World) : (Instr.makeMap 104 (some (.int .i64 n))).run Try.prog w = .ok (.map (some w.heap.size)) (w.alloc (.map #[] 0)) := by
  simp [Instr.makeMap, run_underlying Try.underlying104, asInt, asIntOf, Result.andThen]
/-- The texts that have come. -/
structure Seen (D : VD) (us : List ByteArray) : Prop where
  at_ : ∀ s, vl D s = if us.any (fun u => decide (u = s)) = true then some (.agg #[]) else none
  size : Maps.size D ≤ us.length
theorem Seen.empty : Seen (.map []) [] := ⟨fun s => rfl, Nat.le_refl _⟩
theorem Seen.put {D : VD} {us : List ByteArray} (h : Seen D us) (hd : Vd D) (x : ByteArray) : Seen (D.put (ks x) (.held (.agg #[]))) (us ++ [x]) :=
  ⟨fun s => by
    by_cases e : s = x
    · subst e
      rw [vl_put hd.tidy.isMap]
      simp
    · rw [vl_put_ne e, h.at_, List.any_append]
      have e2 : decide (x = s) = false := decide_eq_false (fun h => e h.symm)
      simp only [List.any_cons, List.any_nil, e2, Bool.or_false], by
    have := h.size
    rw [hd.size_put]
    simp only [List.length_append, List.length_singleton]
    split <;> omega⟩
set_option maxHeartbeats 8000000 in
theorem fol_any {w : World} {A : Option Addr} {len cap b off : Nat} {xs : List It} (h : Its w A len cap b off xs) (hn : len ≤ 100000) (hu : ∀ t ∈ xs, t.u.size ≤ 1000000) (asked k e tok ver : Int) (card : ByteArray) (idx : Int) (more : Bool) : Calls Try.prog 29 #[.int .i64 asked, .agg #[.int .i64 k, .int .i64 e, .int .i64 tok, .int .i64 ver, .string card, .int .i64 idx, .bool more, .slice A len cap]] w fun r w' => r = .returned (.bool (folB asked tok xs)) ∧ Below w.heap.size w w' := by
  have HX0 := Lib.hid ((Bxs.start w).new 35 #[.int .i64 k, .int .i64 e, .int .i64 tok, .int .i64 ver, .string card, .int .i64 idx, .bool more, .slice A len cap])
  have HI := Lib.hid h
  have hlen := h.hlen
  have HU := Lib.hid hu
  have hlc := h.le
  have hnI : (len : Int) ≤ 100000 := by omega
  obtain ⟨r, hr⟩ : ∃ r, folB asked tok xs = r := ⟨_, rfl⟩
  have HR := Lib.hid hr.symm
  rw [hr]
  clear hr h hu
  by_cases n0 : tok < asked
  · have H0 := Lib.hid (show r = false by rw [HR.out]; unfold folB; rw [decide_eq_false (by omega)]; rfl)
    go_enter Try.func29, Try.ntmps29
    go_wp2
    go_ret
    exact ⟨by rw [H0.out]; rfl, HX0.out.bel⟩
  have HR2 := Lib.hid (show r = okTo asked xs xs.length by rw [HR.out]; unfold folB; rw [decide_eq_true (show asked ≤ tok by omega)]; rfl)
  obtain ⟨X, hX⟩ : ∃ X, w.heap.size = X := ⟨_, rfl⟩
  obtain ⟨W, hW⟩ : ∃ W, w.alloc (.cells #[.int .i64 k, .int .i64 e, .int .i64 tok, .int .i64 ver, .string card, .int .i64 idx, .bool more, .slice A len cap] 35) = W := ⟨_, rfl⟩
  rw [hW, hX] at HX0
  have x2 := (HX0.out.get 0 rfl).cell 2
  have x7 := (HX0.out.get 0 rfl).cell 7
  go_enter Try.func29, Try.ntmps29
  have hmm := run_mm (len : Int)
  have x7b := ((HX0.out.get 0 rfl).alloc (.map #[] 0)).cell 7
  go_wp2
  clear hmm x7b x7 x2 hX
  have HWge := Lib.hid HX0.out.bel.size
  go_loopw [21] (fun i wr => ∃ (q : Nat) (D : VD), q ≤ len ∧ i = .int .i64 (q : Int) ∧ okTo asked xs q = true ∧ Seen D ((xs.take q).map It.u) ∧ Vm wr W.heap.size D ∧ Below w.heap.size w wr) (fun i _ => len - (intOf i).toNat)
  case atStart => exact ⟨0, _, Nat.zero_le _, rfl, okTo_zero _ _, Seen.empty, Vm.made W, HX0.out.bel.alloc HX0.out.bel.size _⟩
  case round =>
    obtain ⟨q, D, hq, rfl, hok, hse, hvm, hB⟩ := hrel
    have HOK := Lib.hid hok
    have HSE := Lib.hid hse
    have HVM := Lib.hid hvm
    have HB := Lib.hid hB
    clear hok hse hvm hB
    by_cases hql : q < len
    · obtain ⟨t, ht⟩ : ∃ t, xs[q]? = some t := ⟨xs[q]'(by rw [HI.out.hlen]; exact hql), List.getElem?_eq_getElem _⟩
      obtain ⟨rfl, hbl⟩ := HI.out.addr (by omega)
      obtain ⟨c0, c1, c2, c3⟩ := (HI.out.below HB.out (fun _ => hbl)).cell q t ht
      have HAT := Lib.hid (okAt_some (a := asked) ht)
      have HTU := Lib.hid (HU.out t (List.mem_of_getElem? ht))
      have HTK := Lib.hid (show (xs.take (q + 1)).map It.u = (xs.take q).map It.u ++ [t.u] by rw [List.take_add_one, ht]; simp)
      have hqI : (q : Int) < (len : Int) := by omega
      obtain ⟨tu, tv, tx, tc⟩ := t
      simp only at c0 c1 c2 c3
      clear ht
      obtain ⟨n, hn2⟩ : ∃ n, wr.heap.size = n := ⟨_, rfl⟩
      obtain ⟨W1, hW1⟩ : ∃ W1, wr.alloc (.cells #[.string { data := #[] }, .int .i64 0, .bool false, .string { data := #[] }] 41) = W1 := ⟨_, rfl⟩
      have HB1 := Lib.hid (show Below wr.heap.size wr W1 from hW1 ▸ (Below.refl _ wr).alloc (Nat.le_refl _) _)
      have HX1 := Lib.hid (show Blk W1 n 41 #[.string .empty, .int .i64 0, .bool false, .string .empty] from hn2 ▸ hW1 ▸ Blk.new wr 41 _)
      have y0 := HX1.out.cell 0
      have y1 := HX1.out.cell 1
      have y2 := HX1.out.cell 2
      have y3 := HX1.out.cell 3
      have f0 := HX1.out.frozen 0
      have f1 := HX1.out.frozen 1
      have f2 := HX1.out.frozen 2
      have f3 := HX1.out.frozen 3
      go_wp2_with fail
      obtain ⟨W2, hW2⟩ : ∃ W2, (((W1.setCell ⟨n, 0, none⟩ (.string tu)).setCell ⟨n, 1, none⟩ (.int .i64 tv)).setCell ⟨n, 2, none⟩ (.bool tx)).setCell ⟨n, 3, none⟩ (.string tc) = W2 := ⟨_, rfl⟩
      have HX2 := Lib.hid (show Blk W2 n 41 #[.string tu, .int .i64 tv, .bool tx, .string tc] from hW2 ▸ ((((HX1.out.set_ 0 _).set_ 1 _).set_ 2 _).set_ 3 _))
      have HB2 := Lib.hid (show Below n wr W2 from hW2 ▸ ((((((HB1.out.mono (Nat.le_of_eq hn2.symm)).setCell (p := ⟨n, 0, none⟩) (Nat.le_refl _) _).setCell (p := ⟨n, 1, none⟩) (Nat.le_refl _) _).setCell (p := ⟨n, 2, none⟩) (Nat.le_refl _) _).setCell (p := ⟨n, 3, none⟩) (Nat.le_refl _) _)))
      have HM2 := Lib.hid (HVM.out.off (HB2.out.block _ (by have := HVM.out.lt; omega)))
      rw [hW2]
      clear hW2 y0 y1 y2 y3 f0 f1 f2 f3 HX1 HB1 hW1
      have z0 := (HX2.out.alloc (.cells #[] 105)).cell 0
      have z1 := (HX2.out.alloc (.cells #[] 105)).cell 1
      have HBa := Lib.hid (show Below w.heap.size w (W2.alloc (.cells #[] 105)) from (HB.out.trans (HB2.out.mono (by rw [← hn2]; exact HB.out.size))).alloc (by have := HB2.out.size; have := HB.out.size; omega) _)
      obtain ⟨W4, hrun, hv4, hg4, _⟩ := (HM2.out.off (w' := W2.alloc (.cells #[] 105)) (Below.heap_alloc _ _ _ HM2.out.lt)).upd (by have := HSE.out.size; simp only [List.length_map, List.length_take] at this; omega) Try.underlying104 (x := tu) (by have := HTU.out; unfold wf maxLen; omega) (.agg #[])
      have HV4 := Lib.hid hv4
      have HB4 := Lib.hid (show Below w.heap.size (W2.alloc (.cells #[] 105)) W4 from (Below.refl _ _).grown hg4 (by have := HBa.out.size; exact this) (fun j e => by cases e; exact HWge.out))
      clear hv4 hg4
      have hlk := (HM2.out.look Try.underlying104 (zero105 W2) (x := tu) (by have := HTU.out; unfold wf maxLen; omega)).1
      rw [HSE.out.at_] at hlk
      by_cases hs : (((xs.take q).map It.u).any fun u => decide (u = tu)) = true
      · rw [if_pos hs] at hlk
        simp only [Option.getD_some, Option.isSome_some] at hlk
        have H0 := Lib.hid (show r = false by rw [HR2.out]; refine okTo_miss (by rw [hlen]; exact hql) ?_; rw [HAT.out]; unfold okI; rw [hs]; rfl)
        clear hs
        rw [hlk]
        simp only [Result.andThen]
        rw [Oper.upon_value]
        go_wp2
        go_ret
        exact ⟨by rw [H0.out]; rfl, HBa.out⟩
      · rw [if_neg hs] at hlk
        simp only [Option.getD_none, Option.isSome_none] at hlk
        have HS0 := Lib.hid (Bool.eq_false_iff.2 hs)
        clear hs
        by_cases hv1 : tv < 1
        · have H0 := Lib.hid (show r = false by rw [HR2.out]; refine okTo_miss (by rw [hlen]; exact hql) ?_; rw [HAT.out]; unfold okI; rw [decide_eq_false (show ¬ 1 ≤ tv by omega)]; simp)
          rw [hlk]
          simp only [Result.andThen]
          rw [Oper.upon_value]
          go_wp2
          go_ret
          exact ⟨by rw [H0.out]; rfl, HBa.out⟩
        by_cases ha : asked = 0
        · have ha2 : (asked != 0) = false := by rw [ha]; rfl
          have HN := Lib.hid (show okTo asked xs (q + 1) = true by rw [okTo_snoc, HOK.out, HAT.out]; unfold okI; rw [HS0.out, decide_eq_true (show 1 ≤ tv by omega), decide_eq_true ha]; rfl)
          clear ha
          rw [hlk]
          simp only [Result.andThen]
          rw [Oper.upon_value]
          go_wp2
          go_roundw
          case rel => exact ⟨q + 1, _, by omega, by go_num, HN.out, HTK.out ▸ HSE.out.put HM2.out.vd tu, HV4.out, HBa.out.trans HB4.out⟩
          case measure => simp [intOf]; omega
        · have ha2 : (asked != 0) = true := by simpa using ha
          by_cases hv2 : tv ≤ asked
          · have H0 := Lib.hid (show r = false by rw [HR2.out]; refine okTo_miss (by rw [hlen]; exact hql) ?_; rw [HAT.out]; unfold okI; rw [decide_eq_false ha, decide_eq_false (show ¬ asked < tv by omega)]; simp)
            clear ha
            rw [hlk]
            simp only [Result.andThen]
            rw [Oper.upon_value]
            go_wp2
            go_ret
            exact ⟨by rw [H0.out]; rfl, HBa.out⟩
          · have HN := Lib.hid (show okTo asked xs (q + 1) = true by rw [okTo_snoc, HOK.out, HAT.out]; unfold okI; rw [HS0.out, decide_eq_true (show 1 ≤ tv by omega), decide_eq_true (show asked < tv by omega)]; simp)
            clear ha
            rw [hlk]
            simp only [Result.andThen]
            rw [Oper.upon_value]
            go_wp2
            go_roundw
            case rel => exact ⟨q + 1, _, by omega, by go_num, HN.out, HTK.out ▸ HSE.out.put HM2.out.vd tu, HV4.out, HBa.out.trans HB4.out⟩
            case measure => simp [intOf]; omega
    · obtain rfl : q = len := by omega
      have H0 := Lib.hid (show r = true by rw [HR2.out, hlen, HOK.out])
      go_wp2
      go_ret
      exact ⟨by rw [H0.out]; rfl, HB.out⟩
end Go.Proofs.Ytpmgabeefppajaa
