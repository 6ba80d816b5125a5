/- ReplicaCut of henhouse: for every input the law returns true and its arguments read afterwards as before. No conditions. -/
import Derived.Test.YtpmgabeefppajaaRows
import Derived.Test.YtpmgabeefppajaaLaw
import Derived.Test.YtpmgabeefppajaaOpen
import Derived.Test.YtpmgabeefppajaaRj
import Derived.WalkKit
import Derived.ProofKit
import Derived.OpenShut
namespace Go.Proofs.Ytpmgabeefppajaa.replicaCut
open Go.ChangeShapes Go.WideShapes Go.ChangeAt Go.RowKit
open Go.ChangeMaps (open_string shut_string)
set_option linter.unusedVariables false

theorem own : ownKnob Try.prog.godebug = none := by kernel_rfl
theorem laidOut : laidOutB Try.prog = true := by kernel_rfl

theorem list8 {l : List Value} (h : l.length = 8) : ∃ c0 c1 c2 c3 c4 c5 c6 c7, l = [c0, c1, c2, c3, c4, c5, c6, c7] := by
  match l, h with
  | [c0, c1, c2, c3, c4, c5, c6, c7], _ => exact ⟨c0, c1, c2, c3, c4, c5, c6, c7, rfl⟩

theorem slice_leaf {w : World} {n : Nat} {e : Sh} {c : Value} (h : Sh.ok w (.slice n e) [c]) : ∃ A len cap, c = .slice A len cap := by
  simp only [Sh.ok] at h
  rcases h with h | ⟨a, l, c', h, _⟩
  · exact ⟨none, 0, 0, by simpa using h⟩
  · exact ⟨some a, l, c', by simpa using h⟩

set_option maxRecDepth 100000 in
theorem lifted (os : Os) (started : os.Started) (H : Type) (enc : TypeId × Value → H) :
    ReturnsInHanded {} Try.checked os 6 .any (Rows.replicaCutSpec.pre6 enc Try.prog Try.f6 Rows.replicaCutRow.domain false) (Rows.replicaCutSpec.post enc Try.prog Try.f6 false true false false) := by
  refine returnsInHanded_of_change (C := Try.checked) own started (by kernel_rfl) Try.func6
    (ChangeSpec.witness6 (enc := enc) (C := Try.checked) false ⟨#[], #[.agg #[.int .i64 0, .int .i64 0, .int .i64 0, .int .i64 0, .string .empty, .int .i64 0, .bool false, .slice none 0 0], .int .i64 0, .int .i64 0], []⟩ 8 (by kernel_rfl) (by kernel_rfl) (by kernel_rfl) (by kernel_rfl)) ?_
  intro W base args ds gs before hval0 hW hcnd _
  have hval : ∀ (j : Nat) t v, Try.f6.params[j]? = some t → args[j]? = some v → Value.okWide Try.prog W .any base t v := hval0
  have hW' := hW
  obtain ⟨p, q, hA0, hV, rfl, hfz, hnd⟩ := hW
  have hA : DataW.TrodAll enc Try.prog W 0 (fun _ => true) true Try.f6.params.toList args.toList ds p := hA0
  rw [Try.params6] at hA hval
  obtain ⟨v0, vs0, d0, ds0, p0, q0, hargs, rfl, rfl, h0, r0⟩ := trodAll_cons hA
  obtain ⟨v1, vs1, d1, ds1, p1, q1, rfl, rfl, rfl, h1, r1⟩ := trodAll_cons r0
  obtain ⟨v2, vs2, d2, ds2, p2, q2, rfl, rfl, rfl, h2, r2⟩ := trodAll_cons r1
  obtain ⟨rfl, rfl, rfl⟩ := trodAll_nil r2
  obtain rfl : args = #[v0, v1, v2] := by cases args; simp_all
  obtain ⟨rfl, rfl⟩ := trodVars_none hV
  have hfn : Rows.replicaCutSpec.fn H [d0, d1, d2] = { results := [.lit (.bool true)], args := [d0, d1, d2] } := rfl
  clear hA0 hval0
  simp only [List.append_nil] at hW'
  have fin : ∀ W', Below W.heap.size W W' → Rows.replicaCutSpec.post enc Try.prog Try.f6 false true false false W #[v0, v1, v2] (.bool true) W' := fun W' hg => law_post laidOut (by kernel_rfl) (by kernel_rfl) Try.underlying4 rfl hW' hfn hg
  clear hW' hfn
  obtain ⟨⟨l0⟩, rfl, hsz0⟩ := okWide_struct Try.underlying35 (hval 0 35 v0 rfl rfl)
  have hS0 : Sh.ok W (Sh.agg 8 [(0, 1, (Sh.int .i64)), (1, 1, (Sh.int .i64)), (2, 1, (Sh.int .i64)), (3, 1, (Sh.int .i64)), (4, 1, Sh.str), (5, 1, (Sh.int .i64)), (6, 1, Sh.bool), (7, 1, (Sh.slice 4 (Sh.agg 4 [(0, 1, Sh.str), (1, 1, (Sh.int .i64)), (2, 1, Sh.bool), (3, 1, Sh.str)])))]) l0 := arg_ok 5 (by kernel_rfl) h0
  have hl0 : l0.length = 8 := by simp only [Sh.ok] at hS0; exact hS0.1
  obtain ⟨c0_0, c0_1, c0_2, c0_3, c0_4, c0_5, c0_6, c0_7, rfl⟩ := list8 hl0
  generalize hsl0_0 : (Sh.slice 4 (Sh.agg 4 [(0, 1, Sh.str), (1, 1, (Sh.int .i64)), (2, 1, Sh.bool), (3, 1, Sh.str)])) = sl0_0 at hS0
  simp only [Sh.ok, Sh.okAll] at hS0
  obtain ⟨_, ⟨a0, e0, w0⟩, ⟨a1, e1, w1⟩, ⟨a2, e2, w2⟩, ⟨a3, e3, w3⟩, ⟨a4, e4, w4⟩, ⟨a5, e5, w5⟩, ⟨a6, e6⟩, q0_7, _⟩ := hS0
  obtain rfl : c0_0 = .int .i64 a0 := by simpa using e0
  obtain rfl : c0_1 = .int .i64 a1 := by simpa using e1
  obtain rfl : c0_2 = .int .i64 a2 := by simpa using e2
  obtain rfl : c0_3 = .int .i64 a3 := by simpa using e3
  obtain rfl : c0_4 = .string a4 := by simpa using e4
  obtain rfl : c0_5 = .int .i64 a5 := by simpa using e5
  obtain rfl : c0_6 = .bool a6 := by simpa using e6
  have qq7 : Sh.ok W (Sh.slice 4 (Sh.agg 4 [(0, 1, Sh.str), (1, 1, (Sh.int .i64)), (2, 1, Sh.bool), (3, 1, Sh.str)])) [c0_7] := by subst hsl0_0; exact q0_7
  obtain ⟨A7, len7, cap7, rfl⟩ := slice_leaf qq7
  have S7 := qq7
  obtain ⟨a8, rfl, rfl, rfl, w8⟩ := open_int Try.underlying3 (hval 1 3 v1 rfl rfl) h1
  obtain ⟨a9, rfl, rfl, rfl, w9⟩ := open_int Try.underlying2 (hval 2 2 v2 rfl rfl) h2
  refine (replicaCut_walk W a0 w0 a1 w1 a2 w2 a3 w3 a4 w4 a5 w5 a6 A7 len7 cap7 S7 a8 w8 a9 w9).mono fun e W' ⟨he, hg⟩ => ?_
  subst he
  exact ⟨_, rfl, fin W' hg⟩

theorem proved : Rows.ReplicaCutSaid :=
  OpenClaim.holds_of_wide 6 Try.f6 rfl rfl rfl rfl rfl rfl rfl ⟨rfl, rfl, rfl, rfl, rfl⟩ rfl rfl rfl rfl rfl (by kernel_rfl) Try.func6 (by kernel_rfl)
    (of_decide_eq_true (by kernel_rfl)) (by unfold Func.isWrapper; first | (rw [if_pos (by decide +kernel)]; kernel_rfl) | (rw [if_neg (by decide +kernel)]; exact ⟨rfl, rfl⟩))
    (fun os started H enc _ => lifted os started H enc)

end Go.Proofs.Ytpmgabeefppajaa.replicaCut
