/- ClockDue: the sort is the library's; the law. -/
import Derived.Test.YtchjgojagmhpeaaSg
import Derived.Test.YtchjgojagmhpeaaShelf
namespace Go.Proofs.Ytchjgojagmhpeaa
open Go.RowKit Go.Maps
open Go.ChangeShapes Go.ChangeAt
open Go.Proofs Go.Sort Go.Lib
set_option linter.unusedVariables false
set_option linter.unusedSimpArgs false
set_option maxRecDepth 20000
theorem sort_ok : SortOK := by
  intro w R b n B g now D h hB h1 h2 h3 xs cap hH hg hl
  have := Try.slices_SortFunc_total encW (fun _ => rfl) (cfW D) (swoW D) 24 #[.pointer (some ⟨B, 0, none⟩)] g 0 cap xs.toArray w (enters_of Try.func24 (by kernel_rfl) rfl) (cmp_lays h hB h1 h2 h3 _) hH hg (by simp; omega) (totW D)
  exact this
theorem sort_nil : SortNil := fun w f => Try.slices_SortFunc_none (α := W64) none 0 f w
theorem due_big (w : World) (A : Option Addr) (len cap : Nat) (h : 100 < len) : Calls Try.prog 5 #[.slice A len cap] w fun e w' => e = .returned (.bool true) ∧ Below w.heap.size w w' := by
  have hl2 : (len : Int) > 100 := by omega
  go_enter Try.func5, Try.ntmps5
  go_wp2_with fail
  refine (first_any _).mono ?_
  rintro _ w1 ⟨rfl, hb⟩
  have HB1 := Lib.hid hb
  clear hb
  go_wp2_with fail
  refine (first_any _).mono ?_
  rintro _ w2 ⟨rfl, hb⟩
  have HB2 := Lib.hid hb
  clear hb
  go_wp2
  go_ret
  exact ⟨rfl, HB1.out.trans (HB2.out.mono HB1.out.size)⟩
theorem clockDue_walk (w : World) (A0 : Option Addr) (len0 cap0 : Nat) (S0 : Sh.ok w (Sh.slice 3 (Sh.agg 3 [(0, 1, (Sh.int .i64)), (1, 1, (Sh.int .i64)), (2, 1, (Sh.int .i64))])) [.slice A0 len0 cap0]) :
    Calls Try.prog 5 #[.slice A0 len0 cap0] w fun e w' => e = .returned (.bool true) ∧ Below w.heap.size w w' := by
  obtain ⟨b, off, xs, hl, hm, hA⟩ := acts_of S0
  by_cases h : 100 < len0
  · exact due_big w A0 len0 cap0 h
  · exact due_in sort_ok sort_nil w A0 len0 cap0 b off xs hl hm (by omega) hA
end Go.Proofs.Ytchjgojagmhpeaa
