/- FieldOrders of henhouse: for every input the law returns true and its arguments read afterwards as before. No conditions. -/
import Derived.Test.YthknkglhppngoaaDoorRows
import Derived.Test.YthknkglhppngoaaDoorLaw
import Derived.Test.YthknkglhppngoaaDoorOpen
import Derived.Test.YthknkglhppngoaaDoorFg
import Derived.Test.YthknkglhppngoaaDoorSh
import Derived.Test.YthknkglhppngoaaDoorFt
import Derived.Test.YthknkglhppngoaaDoorTie
import Derived.Test.YthknkglhppngoaaDoorCards
import Derived.SevenTiedAt
import Derived.LaidMore
import Derived.Stop.Joined
import Derived.WalkKit
import Derived.ProofKit
import Derived.OpenShut
namespace Go.Proofs.YthknkglhppngoaaDoor.fieldOrders
open Go.ChangeShapes Go.WideShapes Go.ChangeAt Go.RowKit
open Go.ChangeMaps (open_string shut_string)
set_option linter.unusedVariables false

theorem own : ownKnob Tryd.prog.godebug = none := by kernel_rfl
theorem laidOut : laidOutB Tryd.prog = true := by kernel_rfl

theorem list3 {l : List Value} (h : l.length = 3) : ∃ c0 c1 c2, l = [c0, c1, c2] := by
  match l, h with
  | [c0, c1, c2], _ => exact ⟨c0, c1, c2, rfl⟩

set_option maxRecDepth 100000 in
theorem lifted (os : Os) (started : os.Started) (H : Type) (enc : TypeId × Value → H) :
    ReturnsInHanded {} Tryd.checked os 4 .any (fun w args => (Rows.fieldOrdersSpec.pre enc Tryd.prog Tryd.f4 [] false w args ∧ laidMetH Tryd.prog laidL w) ∧ sizedMet enc Tryd.prog Tryd.f4 (OpenSpec.ofChange Rows.fieldOrdersSpec) false w args) (Rows.fieldOrdersSpec.post enc Tryd.prog Tryd.f4 false true false false) := by
  refine handed_and_shaped (C := Tryd.checked) (X := fun w _ => laidMetH Tryd.prog laidL w) (fun _ _ _ hh h => h.of_heap hh) own started (by kernel_rfl) Tryd.func4
    (ChangeSpec.witness_shaped (enc := enc) (C := Tryd.checked) (os := os) (X := fun w _ => laidMetH Tryd.prog laidL w) false (World.laidAll Tryd.prog os laidL) #[.agg #[.int .i64 0, .int .i64 0, .string .empty], .agg #[.int .i64 0, .int .i64 0, .string .empty], .agg #[.int .i64 0, .int .i64 0, .string .empty]] 8 (World.laidAll_os _ _ _) (World.shaped_of_ZipB (by kernel_rfl) (by kernel_rfl)) (by kernel_rfl) (by kernel_rfl) (by kernel_rfl) (door_met os _)) ?_
  intro W base args ds gs before hval0 hW hL hsh
  have hval : ∀ (j : Nat) t v, Tryd.f4.params[j]? = some t → args[j]? = some v → Value.okWide Tryd.prog W .any base t v := hval0
  have hW' := hW
  obtain ⟨p, q, hA0, hV, rfl, hfz, hnd⟩ := hW
  have hA : DataW.TrodAll enc Tryd.prog W 0 (fun _ => true) true Tryd.f4.params.toList args.toList ds p := hA0
  rw [Tryd.params4] at hA hval
  obtain ⟨v0, vs0, d0, ds0, p0, q0, hargs, rfl, rfl, h0, r0⟩ := trodAll_cons hA
  obtain ⟨v1, vs1, d1, ds1, p1, q1, rfl, rfl, rfl, h1, r1⟩ := trodAll_cons r0
  obtain ⟨v2, vs2, d2, ds2, p2, q2, rfl, rfl, rfl, h2, r2⟩ := trodAll_cons r1
  obtain ⟨rfl, rfl, rfl⟩ := trodAll_nil r2
  obtain rfl : args = #[v0, v1, v2] := by cases args; simp_all
  obtain ⟨rfl, rfl⟩ := trodVars_none hV
  have hfn : Rows.fieldOrdersSpec.fn H [d0, d1, d2] = { results := [.lit (.bool true)], args := [d0, d1, d2] } := rfl
  clear hA0 hval0
  simp only [List.append_nil] at hW'
  have fin : ∀ W', Below W.heap.size W W' → Rows.fieldOrdersSpec.post enc Tryd.prog Tryd.f4 false true false false W #[v0, v1, v2] (.bool true) W' := fun W' hg => law_post laidOut (by kernel_rfl) (by kernel_rfl) Tryd.underlying4 rfl hW' hfn hg
  clear hW' hfn
  obtain ⟨⟨l0⟩, rfl, hsz0⟩ := okWide_struct Tryd.underlying23 (hval 0 23 v0 rfl rfl)
  have hS0 : Sh.ok W (Sh.agg 3 [(0, 1, (Sh.int .i64)), (1, 1, (Sh.int .i64)), (2, 1, Sh.str)]) l0 := arg_ok 3 (by kernel_rfl) h0
  have hl0 : l0.length = 3 := by simp only [Sh.ok] at hS0; exact hS0.1
  obtain ⟨c0_0, c0_1, c0_2, rfl⟩ := list3 hl0
  simp only [Sh.ok, Sh.okAll] at hS0
  obtain ⟨_, ⟨a0, e0, w0⟩, ⟨a1, e1, w1⟩, ⟨a2, e2, w2⟩, _⟩ := hS0
  obtain rfl : c0_0 = .int .i64 a0 := by simpa using e0
  obtain rfl : c0_1 = .int .i64 a1 := by simpa using e1
  obtain rfl : c0_2 = .string a2 := by simpa using e2
  obtain ⟨⟨l1⟩, rfl, hsz1⟩ := okWide_struct Tryd.underlying23 (hval 1 23 v1 rfl rfl)
  have hS1 : Sh.ok W (Sh.agg 3 [(0, 1, (Sh.int .i64)), (1, 1, (Sh.int .i64)), (2, 1, Sh.str)]) l1 := arg_ok 3 (by kernel_rfl) h1
  have hl1 : l1.length = 3 := by simp only [Sh.ok] at hS1; exact hS1.1
  obtain ⟨c1_0, c1_1, c1_2, rfl⟩ := list3 hl1
  simp only [Sh.ok, Sh.okAll] at hS1
  obtain ⟨_, ⟨a3, e3, w3⟩, ⟨a4, e4, w4⟩, ⟨a5, e5, w5⟩, _⟩ := hS1
  obtain rfl : c1_0 = .int .i64 a3 := by simpa using e3
  obtain rfl : c1_1 = .int .i64 a4 := by simpa using e4
  obtain rfl : c1_2 = .string a5 := by simpa using e5
  obtain ⟨⟨l2⟩, rfl, hsz2⟩ := okWide_struct Tryd.underlying23 (hval 2 23 v2 rfl rfl)
  have hS2 : Sh.ok W (Sh.agg 3 [(0, 1, (Sh.int .i64)), (1, 1, (Sh.int .i64)), (2, 1, Sh.str)]) l2 := arg_ok 3 (by kernel_rfl) h2
  have hl2 : l2.length = 3 := by simp only [Sh.ok] at hS2; exact hS2.1
  obtain ⟨c2_0, c2_1, c2_2, rfl⟩ := list3 hl2
  simp only [Sh.ok, Sh.okAll] at hS2
  obtain ⟨_, ⟨a6, e6, w6⟩, ⟨a7, e7, w7⟩, ⟨a8, e8, w8⟩, _⟩ := hS2
  obtain rfl : c2_0 = .int .i64 a6 := by simpa using e6
  obtain rfl : c2_1 = .int .i64 a7 := by simpa using e7
  obtain rfl : c2_2 = .string a8 := by simpa using e8
  refine (fieldOrders_walk W (facts hL) (mx_of hsh) a0 w0 a1 w1 a2 w2 a3 w3 a4 w4 a5 w5 a6 w6 a7 w7 a8 w8).mono fun e W' ⟨he, hg⟩ => ?_
  subst he
  exact ⟨_, rfl, fin W' hg⟩

theorem row : Rows.FieldOrdersSaid :=
  OpenClaim.holds_of_wide 4 Tryd.f4 rfl rfl rfl rfl rfl rfl rfl ⟨rfl, rfl, rfl, rfl, rfl⟩ rfl rfl rfl rfl rfl (by kernel_rfl) Tryd.func4 (by kernel_rfl)
    (of_decide_eq_true (by kernel_rfl)) (by unfold Func.isWrapper; first | (rw [if_pos (by decide +kernel)]; kernel_rfl) | (rw [if_neg (by decide +kernel)]; exact ⟨rfl, rfl⟩))
    (fun os started H enc _ => lifted os started H enc)

theorem proved : Rows.FieldOrdersCardSaid :=
  Claim7.holds_tied_plain_at .later [] [.data, .data, .data, .data, .pinned] true (true, "5e29d1cc5bb43e0b8cd0b38480e5ae72acf80641b7be222e24e6694b3a078baf") false
    row (fun _ h => by cases h) (by kernel_rfl) (fun _ h => by cases h) fieldOrders_row_tie rfl ⟨rfl, rfl⟩ (by kernel_rfl) rfl
    (fun f fn hf hfn => by
      obtain rfl : f = 4 := Option.some.inj ((show Tryd.prog.funcNamed "henhouse/henlaw6.FieldOrders" = some 4 by kernel_rfl).symm.trans hf) |>.symm
      obtain rfl : fn = Tryd.f4 := (Option.some.inj (Tryd.func4.symm.trans hfn)).symm
      refine ⟨by kernel_rfl, fun j t ht => ?_⟩
      rw [Tryd.params4] at ht
      have hall : (Tryd.f4.params.toList.all fun t => !Tryd.prog.wantsStandIn t) = true := by kernel_rfl
      have hm : t ∈ Tryd.f4.params.toList := by rw [Tryd.params4]; exact List.mem_of_getElem? (by simpa using ht)
      have h8 := List.all_eq_true.1 hall t hm
      have h9 : Tryd.prog.wantsStandIn t = false := by simpa using h8
      exact h9)
    (by kernel_rfl)

end Go.Proofs.YthknkglhppngoaaDoor.fieldOrders
