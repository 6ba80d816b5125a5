/- EtagConds of henhouse: for every input the law returns true and its arguments read afterwards as before. No conditions. -/
import Derived.Test.YtdjibpjdgfhcoaaRows
import Derived.Test.YtdjibpjdgfhcoaaLaw
import Derived.Test.YtdjibpjdgfhcoaaOpen
import Derived.Test.YtdjibpjdgfhcoaaCds
import Derived.WalkKit
import Derived.ProofKit
import Derived.OpenShut
namespace Go.Proofs.Ytdjibpjdgfhcoaa.etagConds
open Go.ChangeShapes Go.WideShapes Go.ChangeAt Go.RowKit
open Go.ChangeMaps (open_string shut_string)
set_option linter.unusedVariables false

theorem own : ownKnob Try.prog.godebug = none := by kernel_rfl
theorem laidOut : laidOutB Try.prog = true := by kernel_rfl

theorem list2 {l : List Value} (h : l.length = 2) : ∃ c0 c1, l = [c0, c1] := by
  match l, h with
  | [c0, c1], _ => exact ⟨c0, c1, rfl⟩

set_option maxRecDepth 100000 in
theorem lifted (os : Os) (started : os.Started) (H : Type) (enc : TypeId × Value → H) :
    ReturnsInHanded {} Try.checked os 5 .any (Rows.etagCondsSpec.pre6 enc Try.prog Try.f5 Rows.etagCondsRow.domain false) (Rows.etagCondsSpec.post enc Try.prog Try.f5 false true false false) := by
  refine returnsInHanded_of_change (C := Try.checked) own started (by kernel_rfl) Try.func5
    (ChangeSpec.witness6 (enc := enc) (C := Try.checked) false ⟨#[], #[.agg #[.int .i64 0, .int .i64 0], .bool false, .int .i64 0], []⟩ 8 (by kernel_rfl) (by kernel_rfl) (by kernel_rfl) (by kernel_rfl)) ?_
  intro W base args ds gs before hval0 hW hcnd _
  have hval : ∀ (j : Nat) t v, Try.f5.params[j]? = some t → args[j]? = some v → Value.okWide Try.prog W .any base t v := hval0
  have hW' := hW
  obtain ⟨p, q, hA0, hV, rfl, hfz, hnd⟩ := hW
  have hA : DataW.TrodAll enc Try.prog W 0 (fun _ => true) true Try.f5.params.toList args.toList ds p := hA0
  rw [Try.params5] at hA hval
  obtain ⟨v0, vs0, d0, ds0, p0, q0, hargs, rfl, rfl, h0, r0⟩ := trodAll_cons hA
  obtain ⟨v1, vs1, d1, ds1, p1, q1, rfl, rfl, rfl, h1, r1⟩ := trodAll_cons r0
  obtain ⟨v2, vs2, d2, ds2, p2, q2, rfl, rfl, rfl, h2, r2⟩ := trodAll_cons r1
  obtain ⟨rfl, rfl, rfl⟩ := trodAll_nil r2
  obtain rfl : args = #[v0, v1, v2] := by cases args; simp_all
  obtain ⟨rfl, rfl⟩ := trodVars_none hV
  have hfn : Rows.etagCondsSpec.fn H [d0, d1, d2] = { results := [.lit (.bool true)], args := [d0, d1, d2] } := rfl
  clear hA0 hval0
  simp only [List.append_nil] at hW'
  have fin : ∀ W', Below W.heap.size W W' → Rows.etagCondsSpec.post enc Try.prog Try.f5 false true false false W #[v0, v1, v2] (.bool true) W' := fun W' hg => law_post laidOut (by kernel_rfl) (by kernel_rfl) Try.underlying4 rfl hW' hfn hg
  clear hW' hfn
  obtain ⟨⟨l0⟩, rfl, hsz0⟩ := okWide_struct Try.underlying23 (hval 0 23 v0 rfl rfl)
  have hS0 : Sh.ok W (Sh.agg 2 [(0, 1, (Sh.int .i64)), (1, 1, (Sh.int .i64))]) l0 := arg_ok 3 (by kernel_rfl) h0
  have hl0 : l0.length = 2 := by simp only [Sh.ok] at hS0; exact hS0.1
  obtain ⟨c0_0, c0_1, rfl⟩ := list2 hl0
  simp only [Sh.ok, Sh.okAll] at hS0
  obtain ⟨_, ⟨a0, e0, w0⟩, ⟨a1, e1, w1⟩, _⟩ := hS0
  obtain rfl : c0_0 = .int .i64 a0 := by simpa using e0
  obtain rfl : c0_1 = .int .i64 a1 := by simpa using e1
  obtain ⟨a2, rfl, rfl, rfl⟩ := open_bool Try.underlying4 (hval 1 4 v1 rfl rfl) h1
  obtain ⟨a3, rfl, rfl, rfl, w3⟩ := open_int Try.underlying2 (hval 2 2 v2 rfl rfl) h2
  refine (etagConds_walk W a0 w0 a1 w1 a2 a3 w3).mono fun e W' ⟨he, hg⟩ => ?_
  subst he
  exact ⟨_, rfl, fin W' hg⟩

theorem proved : Rows.EtagCondsSaid :=
  OpenClaim.holds_of_wide 5 Try.f5 rfl rfl rfl rfl rfl rfl rfl ⟨rfl, rfl, rfl, rfl, rfl⟩ rfl rfl rfl rfl rfl (by kernel_rfl) Try.func5 (by kernel_rfl)
    (of_decide_eq_true (by kernel_rfl)) (by unfold Func.isWrapper; first | (rw [if_pos (by decide +kernel)]; kernel_rfl) | (rw [if_neg (by decide +kernel)]; exact ⟨rfl, rfl⟩))
    (fun os started H enc _ => lifted os started H enc)

end Go.Proofs.Ytdjibpjdgfhcoaa.etagConds
