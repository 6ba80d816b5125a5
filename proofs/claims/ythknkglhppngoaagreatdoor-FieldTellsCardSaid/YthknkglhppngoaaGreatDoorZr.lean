/- FieldTells of henhouse: for every input the law returns true and its arguments read afterwards as before. No conditions. -/
import Derived.Test.YthknkglhppngoaaGreatDoorRows
import Derived.Test.YthknkglhppngoaaGreatDoorZa
import Derived.Test.YthknkglhppngoaaGreatDoorZq
import Derived.Test.YthknkglhppngoaaGreatDoorTie
import Derived.Test.YthknkglhppngoaaGreatDoorCards
import Derived.SevenTiedAt
import Derived.LaidMore
import Derived.Stop.Joined
import Derived.WalkKit
import Derived.ProofKit
import Derived.OpenShut
namespace Go.Proofs.YthknkglhppngoaaGreatDoor.fieldTells
open Go.ChangeShapes Go.WideShapes Go.ChangeAt Go.RowKit
open Go.ChangeMaps (open_string shut_string)
set_option linter.unusedVariables false

theorem own : ownKnob Tryz.prog.godebug = none := by kernel_rfl
theorem laidOut : laidOutB Tryz.prog = true := by kernel_rfl

theorem list3 {l : List Value} (h : l.length = 3) : ∃ c0 c1 c2, l = [c0, c1, c2] := by
  match l, h with
  | [c0, c1, c2], _ => exact ⟨c0, c1, c2, rfl⟩

set_option maxRecDepth 100000 in
theorem lifted (os : Os) (started : os.Started) (H : Type) (enc : TypeId × Value → H) :
    ReturnsInHanded {} Tryz.checked os 3 .any (fun w args => (Rows.fieldTellsSpec.pre enc Tryz.prog Tryz.f3 [] false w args ∧ laidMetH Tryz.prog laidL w) ∧ sizedMet enc Tryz.prog Tryz.f3 (OpenSpec.ofChange Rows.fieldTellsSpec) false w args) (Rows.fieldTellsSpec.post enc Tryz.prog Tryz.f3 false true false false) := by
  refine handed_and_shaped (C := Tryz.checked) (X := fun w _ => laidMetH Tryz.prog laidL w) (fun _ _ _ hh h => h.of_heap hh) own started (by kernel_rfl) Tryz.func3
    (ChangeSpec.witness_shaped (enc := enc) (C := Tryz.checked) (os := os) (X := fun w _ => laidMetH Tryz.prog laidL w) false (World.laidAll Tryz.prog os laidL) #[.agg #[.int .i64 0, .int .i64 0, .string .empty], .agg #[.int .i64 0, .int .i64 0, .string .empty], .string .empty] 8 (World.laidAll_os _ _ _) (World.shaped_of_ZipB (by kernel_rfl) (by kernel_rfl)) (by kernel_rfl) (by kernel_rfl) (by kernel_rfl) (door_met os _)) ?_
  intro W base args ds gs before hval0 hW hL hsh
  have hval : ∀ (j : Nat) t v, Tryz.f3.params[j]? = some t → args[j]? = some v → Value.okWide Tryz.prog W .any base t v := hval0
  have hW' := hW
  obtain ⟨p, q, hA0, hV, rfl, hfz, hnd⟩ := hW
  have hA : DataW.TrodAll enc Tryz.prog W 0 (fun _ => true) true Tryz.f3.params.toList args.toList ds p := hA0
  rw [Tryz.params3] at hA hval
  obtain ⟨v0, vs0, d0, ds0, p0, q0, hargs, rfl, rfl, h0, r0⟩ := trodAll_cons hA
  obtain ⟨v1, vs1, d1, ds1, p1, q1, rfl, rfl, rfl, h1, r1⟩ := trodAll_cons r0
  obtain ⟨v2, vs2, d2, ds2, p2, q2, rfl, rfl, rfl, h2, r2⟩ := trodAll_cons r1
  obtain ⟨rfl, rfl, rfl⟩ := trodAll_nil r2
  obtain rfl : args = #[v0, v1, v2] := by cases args; simp_all
  obtain ⟨rfl, rfl⟩ := trodVars_none hV
  have hfn : Rows.fieldTellsSpec.fn H [d0, d1, d2] = { results := [.lit (.bool true)], args := [d0, d1, d2] } := rfl
  clear hA0 hval0
  simp only [List.append_nil] at hW'
  have fin : ∀ W', Below W.heap.size W W' → Rows.fieldTellsSpec.post enc Tryz.prog Tryz.f3 false true false false W #[v0, v1, v2] (.bool true) W' := fun W' hg => law_post laidOut (by kernel_rfl) (by kernel_rfl) Tryz.underlying4 rfl hW' hfn hg
  clear hW' hfn
  obtain ⟨⟨l0⟩, rfl, hsz0⟩ := okWide_struct Tryz.underlying23 (hval 0 23 v0 rfl rfl)
  have hS0 : Sh.ok W (Sh.agg 3 [(0, 1, (Sh.int .i64)), (1, 1, (Sh.int .i64)), (2, 1, Sh.str)]) l0 := arg_ok 3 (by kernel_rfl) h0
  have hl0 : l0.length = 3 := by simp only [Sh.ok] at hS0; exact hS0.1
  obtain ⟨c0_0, c0_1, c0_2, rfl⟩ := list3 hl0
  simp only [Sh.ok, Sh.okAll] at hS0
  obtain ⟨_, ⟨a0, e0, w0⟩, ⟨a1, e1, w1⟩, ⟨a2, e2, w2⟩, _⟩ := hS0
  obtain rfl : c0_0 = .int .i64 a0 := by simpa using e0
  obtain rfl : c0_1 = .int .i64 a1 := by simpa using e1
  obtain rfl : c0_2 = .string a2 := by simpa using e2
  obtain ⟨⟨l1⟩, rfl, hsz1⟩ := okWide_struct Tryz.underlying23 (hval 1 23 v1 rfl rfl)
  have hS1 : Sh.ok W (Sh.agg 3 [(0, 1, (Sh.int .i64)), (1, 1, (Sh.int .i64)), (2, 1, Sh.str)]) l1 := arg_ok 3 (by kernel_rfl) h1
  have hl1 : l1.length = 3 := by simp only [Sh.ok] at hS1; exact hS1.1
  obtain ⟨c1_0, c1_1, c1_2, rfl⟩ := list3 hl1
  simp only [Sh.ok, Sh.okAll] at hS1
  obtain ⟨_, ⟨a3, e3, w3⟩, ⟨a4, e4, w4⟩, ⟨a5, e5, w5⟩, _⟩ := hS1
  obtain rfl : c1_0 = .int .i64 a3 := by simpa using e3
  obtain rfl : c1_1 = .int .i64 a4 := by simpa using e4
  obtain rfl : c1_2 = .string a5 := by simpa using e5
  obtain ⟨a6, rfl, rfl, rfl, w6⟩ := open_string Tryz.underlying9 (hval 2 9 v2 rfl rfl) h2
  refine (fieldTells_walk W (facts hL) (mx_of hsh) a0 w0 a1 w1 a2 w2 a3 w3 a4 w4 a5 w5 a6 w6).mono fun e W' ⟨he, hg⟩ => ?_
  subst he
  exact ⟨_, rfl, fin W' hg⟩

theorem row : Rows.FieldTellsSaid :=
  OpenClaim.holds_of_wide 3 Tryz.f3 rfl rfl rfl rfl rfl rfl rfl ⟨rfl, rfl, rfl, rfl, rfl⟩ rfl rfl rfl rfl rfl (by kernel_rfl) Tryz.func3 (by kernel_rfl)
    (of_decide_eq_true (by kernel_rfl)) (by unfold Func.isWrapper; first | (rw [if_pos (by decide +kernel)]; kernel_rfl) | (rw [if_neg (by decide +kernel)]; exact ⟨rfl, rfl⟩))
    (fun os started H enc _ => lifted os started H enc)

theorem proved : Rows.FieldTellsCardSaid :=
  Claim7.holds_tied_plain_at .later [] [.data, .data, .data, .data, .pinned] true (true, "a8bc46ad5bb7799378ca08c1a8e07fd49b1f9af7b5717c3793eaec4c5614f27f") false
    row (fun _ h => by cases h) (by kernel_rfl) (fun _ h => by cases h) fieldTells_row_tie rfl ⟨rfl, rfl⟩ (by kernel_rfl) rfl
    (fun f fn hf hfn => by
      obtain rfl : f = 3 := Option.some.inj ((show Tryz.prog.funcNamed "henhouse/henlaw6.FieldTells" = some 3 by kernel_rfl).symm.trans hf) |>.symm
      obtain rfl : fn = Tryz.f3 := (Option.some.inj (Tryz.func3.symm.trans hfn)).symm
      refine ⟨by kernel_rfl, fun j t ht => ?_⟩
      rw [Tryz.params3] at ht
      have hall : (Tryz.f3.params.toList.all fun t => !Tryz.prog.wantsStandIn t) = true := by kernel_rfl
      have hm : t ∈ Tryz.f3.params.toList := by rw [Tryz.params3]; exact List.mem_of_getElem? (by simpa using ht)
      have h8 := List.all_eq_true.1 hall t hm
      have h9 : Tryz.prog.wantsStandIn t = false := by simpa using h8
      exact h9)
    (by kernel_rfl)

end Go.Proofs.YthknkglhppngoaaGreatDoor.fieldTells
