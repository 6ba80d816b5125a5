/- What the listed variables give the walks: utf8's two tables, the table of powers of ten; and that the program's own start meets the condition. -/
import Derived.Test.YtlcchkpjcekinaaGreatDoorZbf
import Derived.Test.YtlcchkpjcekinaaGreatDoorZaf
import Derived.Handed
import Derived.HandedShaped
import Derived.Shelf.Vars
import Derived.KernelRfl
import Derived.Test.YtlcchkpjcekinaaGreatDoorRows
import Derived.Test.YtlcchkpjcekinaaGreatDoorZai
import Derived.LaidMore
import Derived.PinnedBridge
import Derived.Lay
import Derived.Lib.LaidIn
import Derived.Lib.LaidTab
import Derived.Lib.LaidU8T
import Derived.MakeChecks
import Derived.Stop.Joined
import Derived.Stop.LaidErr
/- merge's laws: MergeTells. -/
namespace Go.Proofs.YtlcchkpjcekinaaGreatDoor
open Go.RowKit
open Go.Lib hiding intOf
open Go.Sort Go.Proofs
set_option linter.unusedVariables false
set_option linter.unusedSimpArgs false
set_option maxRecDepth 100000
set_option maxHeartbeats 16000000 in
theorem mergeTells_walk (w : World) (hTD : Tabs w ∧ Day.Tab w.heap.size w) (hM : Mx w) (a0 : ByteArray) (w0 : a0.size ≤ maxLen) (a1 : ByteArray) (w1 : a1.size ≤ maxLen) (a2 : ByteArray) (w2 : a2.size ≤ maxLen) :
    Calls Tryz.prog 3 #[.string a0, .string a1, .string a2] w fun e w' => e = .returned (.bool true) ∧ Below w.heap.size w w' := by
  have HE := Lib.hid (show Env w from ⟨hTD.1, hM, hTD.2⟩)
  have HF := Lib.hid (fun v (h : Env v) => first_any v h)
  by_cases hbig : 1000 < a0.size ∨ 1000 < a1.size ∨ 1000 < a2.size
  · have HL := Lib.hid (fun v => light_no a0 a1 a2 hbig v)
    clear hbig hTD hM w0 w1 w2
    go_enter Tryz.func3, Tryz.ntmps3
    go_wp2_with (first
      | (go_at_call 8; (with_reducible refine (HF.out _ HE.out).mono ?_); rintro _ v1 ⟨rfl, hb⟩; have HB1 := Lib.hid hb; clear hb)
      | (go_at_call 9; (with_reducible refine (HL.out _).mono ?_); rintro _ vz ⟨rfl, hw0⟩; replace hw0 := hw0.symm; subst hw0)
      | (go_at_call 15; (with_reducible refine (HI0.out _).mono ?_); rintro _ v2 ⟨rfl, hb⟩; have HB2 := Lib.hid (HB1.out.trans (hb.mono HB1.out.size)); clear hb)
      | (go_at_call 15; (with_reducible refine (HI1.out _).mono ?_); rintro _ v3 ⟨rfl, hb⟩; have HB3 := Lib.hid (HB2.out.trans (hb.mono HB2.out.size)); clear hb)
      | fail)
    refine (HF.out _ (HE.out.on HB1.out)).mono ?_
    rintro _ vl ⟨rfl, hb⟩
    have HBL := Lib.hid (HB1.out.trans (hb.mono HB1.out.size))
    clear hb
    go_wp2
    go_ret
    exact ⟨rfl, HBL.out⟩
  · have HL := Lib.hid (fun v => light_yes a0 a1 a2 (by omega) (by omega) (by omega) v)
    obtain ⟨s, n, e, h1⟩ : ∃ s n e, threeS a0 a1 a2 = (s, n, e) := ⟨_, _, _, rfl⟩
    obtain ⟨G, C, e2, h2⟩ : ∃ G C e, chgS a1 a2 = (G, C, e) := ⟨_, _, _, rfl⟩
    obtain ⟨mG, hmG⟩ : ∃ m, G.length = m := ⟨_, rfl⟩
    obtain ⟨mC, hmC⟩ : ∃ m, C.length = m := ⟨_, rfl⟩
    have hlen : mG ≤ 1000 ∧ mC ≤ 1000 := by
      unfold chgS at h2
      split at h2
      · obtain ⟨rfl, h3⟩ := Prod.mk.inj h2
        obtain ⟨rfl, _⟩ := Prod.mk.inj h3
        have l1 := List.length_filter_le (kpF (parL a2).1) (parL a1).1
        have l2 := List.length_filter_le (kpF (parL a1).1) (parL a2).1
        have l3 := parL_len a1
        have l4 := parL_len a2
        omega
      · obtain ⟨rfl, h3⟩ := Prod.mk.inj h2
        obtain ⟨rfl, _⟩ := Prod.mk.inj h3
        simp at hmG hmC
        omega
    have HMG := Lib.hid hmG
    have HMC := Lib.hid hmC
    obtain ⟨hlG, hlC⟩ := hlen
    have H1 := Lib.hid (fun v (h : Env v) => three_on a0 a1 a2 (by omega) (by omega) (by omega) s n e h1 v h)
    have H2 := Lib.hid (fun v => rthree_any a0 a1 a2 (by omega) (by omega) (by omega) s n e h1 v)
    have H3 := Lib.hid (fun v (h : Env v) => changes_any a1 a2 (by omega) (by omega) G C e2 h2 mG mC hmG hmC v h)
    have H4 := Lib.hid (fun v => rchanges_any a1 a2 (by omega) (by omega) G C e2 h2 mG mC hmG hmC v)
    clear hbig hTD hM w0 w1 w2 h1 h2 hmG hmC
    go_enter Tryz.func3, Tryz.ntmps3
    go_wp2_with (first
      | (go_at_call 8; (with_reducible refine (HF.out _ HE.out).mono ?_); rintro _ v1 ⟨rfl, hb⟩; have HB1 := Lib.hid hb; clear hb)
      | (go_at_call 9; (with_reducible refine (HL.out _).mono ?_); rintro _ vz ⟨rfl, hw0⟩; replace hw0 := hw0.symm; subst hw0)
      | (go_at_call 15; (with_reducible refine (HI0.out _).mono ?_); rintro _ v2 ⟨rfl, hb⟩; have HB2 := Lib.hid (HB1.out.trans (hb.mono HB1.out.size)); clear hb)
      | (go_at_call 15; (with_reducible refine (HI1.out _).mono ?_); rintro _ v3 ⟨rfl, hb⟩; have HB3 := Lib.hid (HB2.out.trans (hb.mono HB2.out.size)); clear hb)
      | fail)
    refine (H1.out _ (HE.out.on HB1.out)).mono ?_
    rintro _ v2 ⟨rfl, hb⟩
    have HB2 := Lib.hid (HB1.out.trans (hb.mono HB1.out.size))
    clear hb
    go_wp2_with fail
    refine (H2.out _).mono ?_
    rintro _ v3 ⟨rfl, hb⟩
    have HB3 := Lib.hid (HB2.out.trans (hb.mono HB2.out.size))
    clear hb
    go_wp2_with fail
    refine (H3.out _ (HE.out.on HB3.out)).mono ?_
    rintro _ v4 ⟨AG, cG, gG, AC, cC, gC, rfl, hf, hf2, _, _, hb⟩
    have HB4 := Lib.hid (HB3.out.trans (hb.mono HB3.out.size))
    have G4 := Lib.hid hf
    have C4 := Lib.hid hf2
    clear hb hf hf2
    go_wp2_with fail
    refine (H4.out _).mono ?_
    rintro _ v5 ⟨AG2, cG2, gG2, AC2, cC2, gC2, rfl, hf, hf2, hb⟩
    have HB5 := Lib.hid (HB4.out.trans (hb.mono HB4.out.size))
    have G5 := Lib.hid (G4.out.below hb)
    have C5 := Lib.hid (C4.out.below hb)
    have D5 := Lib.hid hf
    have E5 := Lib.hid hf2
    clear hb hf hf2
    go_wp2_with (first
      | (go_at_call 14; (with_reducible refine (fields_true G5.out D5.out mG HMG.out (by omega)).mono ?_); rintro _ v6 ⟨rfl, hb⟩; have HB6 := Lib.hid (HB5.out.trans (hb.mono HB5.out.size)); have C6 := Lib.hid (C5.out.below hb); have E6 := Lib.hid (E5.out.below hb); clear hb)
      | (go_at_call 14; (with_reducible refine (fields_true C6.out E6.out mC HMC.out (by omega)).mono ?_); rintro _ v7 ⟨rfl, hb⟩; have HB7 := Lib.hid (HB6.out.trans (hb.mono HB6.out.size)); clear hb)
      | fail)
    go_ret
    exact ⟨rfl, HB7.out⟩
end Go.Proofs.YtlcchkpjcekinaaGreatDoor
/- A law's row over listed variables that reads one of the library's besides: the world's shape is handed on. -/
namespace Go.Proofs.YtlcchkpjcekinaaGreatDoor
open Go.ChangeShapes Go.WideShapes Go.RowKit
variable {H : Type} {enc : TypeId × Value → H}
theorem handed_and_shaped {a : Assume} {C : Checked} {os : Os} {f : FuncId} {fn : Func} {s : ChangeSpec} {conds : List PathCond} {apart fresh handsOn again : Bool} {X : World → Array Value → Prop}
    (hX : ∀ (w w' : World) (args : Array Value), w.heap = w'.heap → X w args → X w' args)
    (own : ownKnob C.prog.godebug = none) (started : os.Started) (noInit : C.prog.inits.idxOf? f = none) (hfn : C.prog.funcs[f]? = some fn)
    (witness : ∃ (w : World) (tape : Tape) (i : Input), w.os = os ∧ (w.forCall tape i).Shaped C.prog ∧ i.vars = [] ∧ Input.okWide C.prog (w.forCall tape i) .any w.heap.size f i ∧
      ((s.pre enc C.prog fn conds apart (w.forCall tape i).memory i.args ∧ X (w.forCall tape i).memory i.args) ∧ sizedMet enc C.prog fn (OpenSpec.ofChange s) apart (w.forCall tape i).memory i.args) ∧ a.holds C.prog (lone (Frame.enter C.prog f i.args .normal) [] (w.forCall tape i)))
    (contract : ∀ (W : World) (base : Nat) (args : Array Value) (ds gs : List (DataW H)) (before : List MemPlace),
      (∀ (j : Nat) t v, fn.params[j]? = some t → args[j]? = some v → Value.okWide C.prog W .any base t v) →
      DataW.Whole enc C.prog fn.params.toList s.vars apart W args.toList ds gs before →
      X W args → W.ShapedOpen C.prog →
      Calls C.prog f args W fun e W' => ∃ v, e = .returned v ∧ s.post enc C.prog fn apart fresh handsOn again W args v W') :
    ReturnsInHanded a C os f .any (fun w args => (s.pre enc C.prog fn conds apart w args ∧ X w args) ∧ sizedMet enc C.prog fn (OpenSpec.ofChange s) apart w args) (s.post enc C.prog fn apart fresh handsOn again) := by
  refine returnsInHanded_of_calls own started noInit witness ?_
  intro w tape i _ hsh _ hok hpre _
  obtain ⟨_, _, _, fn', hfn', _, _, _, _, hval⟩ := hok
  have e : fn' = fn := Option.some.inj (hfn'.symm.trans hfn)
  subst e
  obtain ⟨⟨⟨ds, gs, before, hw, _⟩, hx⟩, _⟩ := hpre
  have hw' := DataW.Whole.of_heap (w' := w.forCall tape i) (by rfl) hw
  refine (contract (w.forCall tape i) w.heap.size i.args ds gs before hval hw' (hX _ _ _ (by rfl) hx) hsh).mono fun e W' ⟨v, he, hp⟩ => ?_
  subst he
  exact ChangeSpec.post_blind hp
set_option maxRecDepth 100000 in
theorem mx_of {W : World} (h : W.ShapedOpen Tryz.prog) : Mx W :=
  cell_of_shapedOpen_int h (g := 0) (t := 3) (zero := #[.int .i64 0]) (of_decide_eq_true (by kernel_rfl)) (by kernel_rfl) rfl (by kernel_rfl) (by kernel_rfl) Tryz.underlying3
end Go.Proofs.YtlcchkpjcekinaaGreatDoor
namespace Go.Proofs.YtlcchkpjcekinaaGreatDoor
open Go.ChangeShapes Go.WideShapes Go.RowKit
abbrev laidL : List (String × DataW Unit) := [("math/bits.deBruijn32tab", Rows.laid_math_bits_deBruijn32tab), ("math/bits.deBruijn64tab", Rows.laid_math_bits_deBruijn64tab), ("internal/strconv.uint64pow10", Rows.laid_internal_strconv_uint64pow10), ("unicode/utf8.acceptRanges", Rows.laid_unicode_utf8_acceptRanges), ("unicode/utf8.first", Rows.laid_unicode_utf8_first)]
set_option maxRecDepth 100000 in
theorem door_met (os : Os) (args : Array Value) : laidMetH Tryz.prog laidL ((World.laidAll Tryz.prog os laidL).forCall (fun _ _ => 0) ⟨#[], args, []⟩).memory := by
  rw [MakeChecks.laidMetH_plain _ _ _ (by kernel_rfl)]; exact laidMet_laidAll _ (by kernel_rfl) (by kernel_rfl)
theorem acc_eq : (Rows.laid_unicode_utf8_acceptRanges : DataW Unit) = Lib.acceptData := by kernel_rfl
theorem fst_eq : Rows.laid_unicode_utf8_first = Lib.firstData := Pinned.utf8First_eq
theorem pow_eq : (Rows.laid_internal_strconv_uint64pow10 : DataW Unit) = Lib.tabData .u64 Lib.pow10Tab := by kernel_rfl
set_option maxRecDepth 100000 in
theorem facts {W : World} (h : laidMetH Tryz.prog laidL W) : Tabs W ∧ Day.Tab W.heap.size W := by
  rw [MakeChecks.laidMetH_plain _ _ _ (by kernel_rfl)] at h
  have h1 : laidMet Tryz.prog [("internal/strconv.uint64pow10", Lib.tabData .u64 Lib.pow10Tab), ("unicode/utf8.acceptRanges", Lib.acceptData), ("unicode/utf8.first", Lib.firstData)] W := by rw [← acc_eq, ← fst_eq, ← pow_eq]; exact h.tail.tail
  have h2 : laidMet Tryz.prog [("unicode/utf8.acceptRanges", Lib.acceptData), ("unicode/utf8.first", Lib.firstData)] W := h1.tail
  exact ⟨utf8Tabs_of_readsT (U8Types.of196 Tryz.lays196) ⟨by kernel_rfl, by kernel_rfl, by kernel_rfl, by kernel_rfl, by kernel_rfl, by kernel_rfl, by kernel_rfl⟩ (Lib.laidMet.reads h2 (.tail _ (.head _))) (Lib.laidMet.reads h2 (.head _)),
    Lib.tabBelow_of_tabIs (Lib.tabIs_of_head (g := 3) (t := 158) (e := 111) (n := 20) (by kernel_rfl) (by kernel_rfl) Tryz.underlying158 Tryz.underlying111 (by kernel_rfl) (by kernel_rfl) h1)⟩
end Go.Proofs.YtlcchkpjcekinaaGreatDoor
