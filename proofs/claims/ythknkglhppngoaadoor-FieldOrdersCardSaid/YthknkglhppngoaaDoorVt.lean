/- The tables that ValidString reads. -/
import Derived.Test.YthknkglhppngoaaDoorFo
import Derived.Test.YthknkglhppngoaaDoorShelf
namespace Go.Proofs.YthknkglhppngoaaDoor
open Go.RowKit
set_option linter.unusedVariables false
set_option maxRecDepth 20000
def Tabs (w : World) : Prop := Lib.Utf8Tabs 1 2 w
theorem below_iter {B : Nat} {a w : World} (h : Below B a w) (hB : B ≤ w.heap.size) (s : ByteArray) (p : Nat) : Below B a (w.iter s p) := h.alloc hB _
end Go.Proofs.YthknkglhppngoaaDoor
