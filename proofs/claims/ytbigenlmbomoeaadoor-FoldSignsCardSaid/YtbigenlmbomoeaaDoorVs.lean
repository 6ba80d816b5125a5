/- Signs; the tables that ValidString reads. -/
import Derived.Test.YtbigenlmbomoeaaDoorFo
import Derived.Test.YtbigenlmbomoeaaDoorShelf
namespace Go.Proofs.YtbigenlmbomoeaaDoor
open Go.RowKit
set_option linter.unusedVariables false
set_option maxRecDepth 20000
def Tabs (w : World) : Prop := Lib.Utf8Tabs 0 1 w
def signs (s : ByteArray) : Nat := if Lib.validD s.data.toList = true then Lib.runeCount s else 0
theorem below_iter {B : Nat} {a w : World} (h : Below B a w) (hB : B ≤ w.heap.size) (s : ByteArray) (p : Nat) : Below B a (w.iter s p) := h.alloc hB _
set_option maxHeartbeats 1000000 in
theorem signs_any (s : ByteArray) (hs : s.size ≤ 1000000) (w : World) (hT : Tabs w) : Calls Tryd.prog 14 #[.string s] w fun e w' => e = .returned (.int .i64 (signs s : Int)) ∧ Below w.heap.size w w' := by
  have hV := Tryd.utf8_ValidString s w (by omega) hT
  obtain ⟨v, hv⟩ : ∃ v, Lib.validD s.data.toList = v := ⟨_, rfl⟩
  rw [hv] at hV
  obtain ⟨r, hr⟩ : ∃ r, signs s = r := ⟨_, rfl⟩
  rw [hr]
  have HR := Lib.hid (show r = if v = true then Lib.runeCount s else 0 by rw [← hr, ← hv]; rfl)
  have HV := Lib.hid hV
  have HN := Lib.hid (fun w => Tryd.utf8_RuneCountInString s w (by omega))
  clear hV hv hr
  go_enter Tryd.func14, Tryd.ntmps14
  go_wp2_with (go_at_call 16; refine HV.out.mono ?_)
  rintro e w1 ⟨rfl, h1⟩
  have HB1 := Lib.hid h1
  clear h1
  cases v with
  | false =>
    go_wp2
    go_ret
    exact ⟨by rw [HR.out]; rfl, HB1.out⟩
  | true =>
    go_wp2_with (go_at_call 21; refine (HN.out _).mono ?_)
    rintro e w2 ⟨rfl, pos, rfl⟩
    go_wp2
    go_ret
    exact ⟨by rw [HR.out]; rfl, below_iter HB1.out HB1.out.size _ _⟩
end Go.Proofs.YtbigenlmbomoeaaDoor
