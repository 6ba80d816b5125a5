/- ReplicaTurned of henhouse: for every input the law returns true and its arguments read afterwards as before. No conditions. -/
import Derived.Test.YtpmgabeefppajaaRows
import Derived.Test.YtpmgabeefppajaaLaw
import Derived.Test.YtpmgabeefppajaaOpen
import Derived.Test.YtpmgabeefppajaaRl
import Derived.WalkKit
import Derived.ProofKit
import Derived.OpenShut
namespace Go.Proofs.Ytpmgabeefppajaa.replicaTurned
open Go.ChangeShapes Go.WideShapes Go.ChangeAt Go.RowKit
open Go.ChangeMaps (open_string shut_string)
set_option linter.unusedVariables false

theorem own : ownKnob Try.prog.godebug = none := by kernel_rfl
theorem laidOut : laidOutB Try.prog = true := by kernel_rfl

theorem list8 {l : List Value} (h : l.length = 8) : ∃ c0 c1 c2 c3 c4 c5 c6 c7, l = [c0, c1, c2, c3, c4, c5, c6, c7] := by
  match l, h with
  | [c0, c1, c2, c3, c4, c5, c6, c7], _ => exact ⟨c0, c1, c2, c3, c4, c5, c6, c7, rfl⟩

theorem slice_leaf {w : World} {n : Nat} {e : Sh} {c : Value} (h : Sh.ok w (.slice n e) [c]) : ∃ A len cap, c = .slice A len cap := by
  simp only [Sh.ok] at h
  rcases h with h | ⟨a, l, c', h, _⟩
  · exact ⟨none, 0, 0, by simpa using h⟩
  · exact ⟨some a, l, c', by simpa using h⟩

set_option maxRecDepth 100000 in
theorem lifted (os : Os) (started : os.Started) (H : Type) (enc : TypeId × Value → H) :
    ReturnsInHanded {} Try.checked os 5 .any (Rows.replicaTurnedSpec.pre6 enc Try.prog Try.f5 Rows.replicaTurnedRow.domain false) (Rows.replicaTurnedSpec.post enc Try.prog Try.f5 false true false false) := by
  refine returnsInHanded_of_change (C := Try.checked) own started (by kernel_rfl) Try.func5
    (ChangeSpec.witness6 (enc := enc) (C := Try.checked) false ⟨#[], #[.agg #[.int .i64 0, .int .i64 0, .int .i64 0, .int .i64 0, .string .empty, .int .i64 0, .bool false, .slice none 0 0], .agg #[.int .i64 0, .int .i64 0, .int .i64 0, .int .i64 0, .string .empty, .int .i64 0, .bool false, .slice none 0 0]], []⟩ 8 (by kernel_rfl) (by kernel_rfl) (by kernel_rfl) (by kernel_rfl)) ?_
  intro W base args ds gs before hval0 hW hcnd _
  have hval : ∀ (j : Nat) t v, Try.f5.params[j]? = some t → args[j]? = some v → Value.okWide Try.prog W .any base t v := hval0
  have hW' := hW
  obtain ⟨p, q, hA0, hV, rfl, hfz, hnd⟩ := hW
  have hA : DataW.TrodAll enc Try.prog W 0 (fun _ => true) true Try.f5.params.toList args.toList ds p := hA0
  rw [Try.params5] at hA hval
  obtain ⟨v0, vs0, d0, ds0, p0, q0, hargs, rfl, rfl, h0, r0⟩ := trodAll_cons hA
  obtain ⟨v1, vs1, d1, ds1, p1, q1, rfl, rfl, rfl, h1, r1⟩ := trodAll_cons r0
  obtain ⟨rfl, rfl, rfl⟩ := trodAll_nil r1
  obtain rfl : args = #[v0, v1] := by cases args; simp_all
  obtain ⟨rfl, rfl⟩ := trodVars_none hV
  have hfn : Rows.replicaTurnedSpec.fn H [d0, d1] = { results := [.lit (.bool true)], args := [d0, d1] } := rfl
  clear hA0 hval0
  simp only [List.append_nil] at hW'
  have fin : ∀ W', Below W.heap.size W W' → Rows.replicaTurnedSpec.post enc Try.prog Try.f5 false true false false W #[v0, v1] (.bool true) W' := fun W' hg => law_post laidOut (by kernel_rfl) (by kernel_rfl) Try.underlying4 rfl hW' hfn hg
  clear hW' hfn
  obtain ⟨⟨l0⟩, rfl, hsz0⟩ := okWide_struct Try.underlying35 (hval 0 35 v0 rfl rfl)
  have hS0 : Sh.ok W (Sh.agg 8 [(0, 1, (Sh.int .i64)), (1, 1, (Sh.int .i64)), (2, 1, (Sh.int .i64)), (3, 1, (Sh.int .i64)), (4, 1, Sh.str), (5, 1, (Sh.int .i64)), (6, 1, Sh.bool), (7, 1, (Sh.slice 4 (Sh.agg 4 [(0, 1, Sh.str), (1, 1, (Sh.int .i64)), (2, 1, Sh.bool), (3, 1, Sh.str)])))]) l0 := arg_ok 5 (by kernel_rfl) h0
  have hl0 : l0.length = 8 := by simp only [Sh.ok] at hS0; exact hS0.1
  obtain ⟨c0_0, c0_1, c0_2, c0_3, c0_4, c0_5, c0_6, c0_7, rfl⟩ := list8 hl0
  generalize hsl0_0 : (Sh.slice 4 (Sh.agg 4 [(0, 1, Sh.str), (1, 1, (Sh.int .i64)), (2, 1, Sh.bool), (3, 1, Sh.str)])) = sl0_0 at hS0
  simp only [Sh.ok, Sh.okAll] at hS0
  obtain ⟨_, ⟨a0, e0, w0⟩, ⟨a1, e1, w1⟩, ⟨a2, e2, w2⟩, ⟨a3, e3, w3⟩, ⟨a4, e4, w4⟩, ⟨a5, e5, w5⟩, ⟨a6, e6⟩, q0_7, _⟩ := hS0
  obtain rfl : c0_0 = .int .i64 a0 := by simpa using e0
  obtain rfl : c0_1 = .int .i64 a1 := by simpa using e1
  obtain rfl : c0_2 = .int .i64 a2 := by simpa using e2
  obtain rfl : c0_3 = .int .i64 a3 := by simpa using e3
  obtain rfl : c0_4 = .string a4 := by simpa using e4
  obtain rfl : c0_5 = .int .i64 a5 := by simpa using e5
  obtain rfl : c0_6 = .bool a6 := by simpa using e6
  have qq7 : Sh.ok W (Sh.slice 4 (Sh.agg 4 [(0, 1, Sh.str), (1, 1, (Sh.int .i64)), (2, 1, Sh.bool), (3, 1, Sh.str)])) [c0_7] := by subst hsl0_0; exact q0_7
  obtain ⟨A7, len7, cap7, rfl⟩ := slice_leaf qq7
  have S7 := qq7
  obtain ⟨⟨l1⟩, rfl, hsz1⟩ := okWide_struct Try.underlying35 (hval 1 35 v1 rfl rfl)
  have hS1 : Sh.ok W (Sh.agg 8 [(0, 1, (Sh.int .i64)), (1, 1, (Sh.int .i64)), (2, 1, (Sh.int .i64)), (3, 1, (Sh.int .i64)), (4, 1, Sh.str), (5, 1, (Sh.int .i64)), (6, 1, Sh.bool), (7, 1, (Sh.slice 4 (Sh.agg 4 [(0, 1, Sh.str), (1, 1, (Sh.int .i64)), (2, 1, Sh.bool), (3, 1, Sh.str)])))]) l1 := arg_ok 5 (by kernel_rfl) h1
  have hl1 : l1.length = 8 := by simp only [Sh.ok] at hS1; exact hS1.1
  obtain ⟨c1_0, c1_1, c1_2, c1_3, c1_4, c1_5, c1_6, c1_7, rfl⟩ := list8 hl1
  generalize hsl1_0 : (Sh.slice 4 (Sh.agg 4 [(0, 1, Sh.str), (1, 1, (Sh.int .i64)), (2, 1, Sh.bool), (3, 1, Sh.str)])) = sl1_0 at hS1
  simp only [Sh.ok, Sh.okAll] at hS1
  obtain ⟨_, ⟨a8, e8, w8⟩, ⟨a9, e9, w9⟩, ⟨a10, e10, w10⟩, ⟨a11, e11, w11⟩, ⟨a12, e12, w12⟩, ⟨a13, e13, w13⟩, ⟨a14, e14⟩, q1_7, _⟩ := hS1
  obtain rfl : c1_0 = .int .i64 a8 := by simpa using e8
  obtain rfl : c1_1 = .int .i64 a9 := by simpa using e9
  obtain rfl : c1_2 = .int .i64 a10 := by simpa using e10
  obtain rfl : c1_3 = .int .i64 a11 := by simpa using e11
  obtain rfl : c1_4 = .string a12 := by simpa using e12
  obtain rfl : c1_5 = .int .i64 a13 := by simpa using e13
  obtain rfl : c1_6 = .bool a14 := by simpa using e14
  have qq15 : Sh.ok W (Sh.slice 4 (Sh.agg 4 [(0, 1, Sh.str), (1, 1, (Sh.int .i64)), (2, 1, Sh.bool), (3, 1, Sh.str)])) [c1_7] := by subst hsl1_0; exact q1_7
  obtain ⟨A15, len15, cap15, rfl⟩ := slice_leaf qq15
  have S15 := qq15
  refine (replicaTurned_walk W a0 w0 a1 w1 a2 w2 a3 w3 a4 w4 a5 w5 a6 A7 len7 cap7 S7 a8 w8 a9 w9 a10 w10 a11 w11 a12 w12 a13 w13 a14 A15 len15 cap15 S15).mono fun e W' ⟨he, hg⟩ => ?_
  subst he
  exact ⟨_, rfl, fin W' hg⟩

theorem proved : Rows.ReplicaTurnedSaid :=
  OpenClaim.holds_of_wide 5 Try.f5 rfl rfl rfl rfl rfl rfl rfl ⟨rfl, rfl, rfl, rfl, rfl⟩ rfl rfl rfl rfl rfl (by kernel_rfl) Try.func5 (by kernel_rfl)
    (of_decide_eq_true (by kernel_rfl)) (by unfold Func.isWrapper; first | (rw [if_pos (by decide +kernel)]; kernel_rfl) | (rw [if_neg (by decide +kernel)]; exact ⟨rfl, rfl⟩))
    (fun os started H enc _ => lifted os started H enc)

end Go.Proofs.Ytpmgabeefppajaa.replicaTurned
