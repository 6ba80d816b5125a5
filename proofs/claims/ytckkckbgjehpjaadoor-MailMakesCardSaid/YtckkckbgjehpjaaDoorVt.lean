/- The tables that ValidString reads. -/
import Derived.Test.YtckkckbgjehpjaaDoorFo
import Derived.Test.YtckkckbgjehpjaaDoorShelf
namespace Go.Proofs.YtckkckbgjehpjaaDoor
open Go.RowKit
set_option linter.unusedVariables false
set_option maxRecDepth 20000
def Tabs (w : World) : Prop := Lib.Utf8Tabs 0 1 w
theorem below_iter {B : Nat} {a w : World} (h : Below B a w) (hB : B ≤ w.heap.size) (s : ByteArray) (p : Nat) : Below B a (w.iter s p) := h.alloc hB _
end Go.Proofs.YtckkckbgjehpjaaDoor
