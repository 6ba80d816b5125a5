/-
  No cell of these rows narrows 'for every input' (looked for: loops, veiled, ifaces, maps, wideKeys, modest, calm, conditions, laid).
  DERIVED. THE GIVEN ROWS OF THIS SEAT. 9 by the template 'for every input the law returns true; each argument reads behind the call as it read before'; 0 by the template 'total and deterministic' (their statements: YthcjbljkokflgaaTotals.lean).
  GIVEN WITH THE SEED: the statements are not yours to turn. If you find one false, say at which input.
  Laid BY PROGRAM, IN A SANDBOX (cutbox-rows.mjs): the forced cells as the released guide's own fill.sh prints them over the translation 95777eeb1f8c38e5… (all of the seat's roots in one cut). By AI agents, Wed Nov 11 2026. No macro, syntax, notation, axiom, sorry.
-/
import Derived.Test.YthcjbljkokflgaaChecked
import GoSem.Claim
import GoSem.ClaimJoined
import GoSem.ClaimMapViews
import Derived.JoinedTies
import Derived.KernelRfl
namespace Go.Proofs.Ythcjbljkokflgaa
/- THE CELL 'sum', in the pinned program and in every row, IS THE sha256 OF THE DUMP (.gsa) THAT YthcjbljkokflgaaProg.lean LOADS. Nothing in Lean hashes anything: it is a label: what it is worth is what the hold of that sum in a sandbox is worth. -/
noncomputable def Try.pinned : Pinned := { name := "ythcjbljkokflgaa", sum := "95777eeb1f8c38e53a4418fe75173d9d60b21281c369f60ed4265b6c31ab8276", checked := Try.checked }
namespace Rows
def none {H : Type} : Left H := { results := [], args := [] }

/-- 'henlaw17.ColPlays': WHATEVER THE INPUT: true; the input reads as it did. -/
def colPlaysSpec : ChangeSpec := { name := "colPlays", fn := fun _ => fun
  | [d1, d2, d3, d4] => { results := [.lit (.bool true)], args := [d1, d2, d3, d4] }
  | _ => none }
def colPlaysRow : OpenClaim := { program := "ythcjbljkokflgaa", sum := "95777eeb1f8c38e53a4418fe75173d9d60b21281c369f60ed4265b6c31ab8276", func := "henhouse/henlaw17.ColPlays", spec := "colPlays", unfollowed := true, recurses := true, apart := false }
def ColPlaysSaid : Prop := colPlaysRow.holds Try.pinned (OpenSpec.ofChange colPlaysSpec)

/-- ITS FALSE NEIGHBOUR: 'it returns false'. Refute it at one input. -/
def colPlaysWrong : ChangeSpec := { name := "colPlays", fn := fun _ => fun
  | [d1, d2, d3, d4] => { results := [.lit (.bool false)], args := [d1, d2, d3, d4] }
  | _ => none }
def ColPlaysWrongFalsely : Prop := colPlaysRow.holds Try.pinned (OpenSpec.ofChange colPlaysWrong)

/-- 'henlaw17.ColChecks': WHATEVER THE INPUT: true; the input reads as it did. -/
def colChecksSpec : ChangeSpec := { name := "colChecks", fn := fun _ => fun
  | [d1, d2, d3, d4, d5, d6] => { results := [.lit (.bool true)], args := [d1, d2, d3, d4, d5, d6] }
  | _ => none }
def colChecksRow : OpenClaim := { program := "ythcjbljkokflgaa", sum := "95777eeb1f8c38e53a4418fe75173d9d60b21281c369f60ed4265b6c31ab8276", func := "henhouse/henlaw17.ColChecks", spec := "colChecks", unfollowed := true, recurses := true, apart := false }
def ColChecksSaid : Prop := colChecksRow.holds Try.pinned (OpenSpec.ofChange colChecksSpec)

/-- ITS FALSE NEIGHBOUR: 'it returns false'. Refute it at one input. -/
def colChecksWrong : ChangeSpec := { name := "colChecks", fn := fun _ => fun
  | [d1, d2, d3, d4, d5, d6] => { results := [.lit (.bool false)], args := [d1, d2, d3, d4, d5, d6] }
  | _ => none }
def ColChecksWrongFalsely : Prop := colChecksRow.holds Try.pinned (OpenSpec.ofChange colChecksWrong)

/-- 'henlaw17.ColSince': WHATEVER THE INPUT: true; the input reads as it did. -/
def colSinceSpec : ChangeSpec := { name := "colSince", fn := fun _ => fun
  | [d1, d2, d3, d4, d5] => { results := [.lit (.bool true)], args := [d1, d2, d3, d4, d5] }
  | _ => none }
def colSinceRow : OpenClaim := { program := "ythcjbljkokflgaa", sum := "95777eeb1f8c38e53a4418fe75173d9d60b21281c369f60ed4265b6c31ab8276", func := "henhouse/henlaw17.ColSince", spec := "colSince", unfollowed := true, recurses := true, apart := false }
def ColSinceSaid : Prop := colSinceRow.holds Try.pinned (OpenSpec.ofChange colSinceSpec)

/-- ITS FALSE NEIGHBOUR: 'it returns false'. Refute it at one input. -/
def colSinceWrong : ChangeSpec := { name := "colSince", fn := fun _ => fun
  | [d1, d2, d3, d4, d5] => { results := [.lit (.bool false)], args := [d1, d2, d3, d4, d5] }
  | _ => none }
def ColSinceWrongFalsely : Prop := colSinceRow.holds Try.pinned (OpenSpec.ofChange colSinceWrong)

/-- 'henlaw17.ColPages': WHATEVER THE INPUT: true; the input reads as it did. -/
def colPagesSpec : ChangeSpec := { name := "colPages", fn := fun _ => fun
  | [d1, d2, d3, d4, d5, d6] => { results := [.lit (.bool true)], args := [d1, d2, d3, d4, d5, d6] }
  | _ => none }
def colPagesRow : OpenClaim := { program := "ythcjbljkokflgaa", sum := "95777eeb1f8c38e53a4418fe75173d9d60b21281c369f60ed4265b6c31ab8276", func := "henhouse/henlaw17.ColPages", spec := "colPages", unfollowed := true, recurses := true, apart := false }
def ColPagesSaid : Prop := colPagesRow.holds Try.pinned (OpenSpec.ofChange colPagesSpec)

/-- ITS FALSE NEIGHBOUR: 'it returns false'. Refute it at one input. -/
def colPagesWrong : ChangeSpec := { name := "colPages", fn := fun _ => fun
  | [d1, d2, d3, d4, d5, d6] => { results := [.lit (.bool false)], args := [d1, d2, d3, d4, d5, d6] }
  | _ => none }
def ColPagesWrongFalsely : Prop := colPagesRow.holds Try.pinned (OpenSpec.ofChange colPagesWrong)

/-- 'henlaw17.ColSplits': WHATEVER THE INPUT: true; the input reads as it did. -/
def colSplitsSpec : ChangeSpec := { name := "colSplits", fn := fun _ => fun
  | [d1, d2] => { results := [.lit (.bool true)], args := [d1, d2] }
  | _ => none }
def colSplitsRow : OpenClaim := { program := "ythcjbljkokflgaa", sum := "95777eeb1f8c38e53a4418fe75173d9d60b21281c369f60ed4265b6c31ab8276", func := "henhouse/henlaw17.ColSplits", spec := "colSplits", unfollowed := true, recurses := true, apart := false }
def ColSplitsSaid : Prop := colSplitsRow.holds Try.pinned (OpenSpec.ofChange colSplitsSpec)

/-- ITS FALSE NEIGHBOUR: 'it returns false'. Refute it at one input. -/
def colSplitsWrong : ChangeSpec := { name := "colSplits", fn := fun _ => fun
  | [d1, d2] => { results := [.lit (.bool false)], args := [d1, d2] }
  | _ => none }
def ColSplitsWrongFalsely : Prop := colSplitsRow.holds Try.pinned (OpenSpec.ofChange colSplitsWrong)

/-- 'henlaw17.ColRight': WHATEVER THE INPUT: true; the input reads as it did. -/
def colRightSpec : ChangeSpec := { name := "colRight", fn := fun _ => fun
  | [d1, d2, d3, d4, d5, d6] => { results := [.lit (.bool true)], args := [d1, d2, d3, d4, d5, d6] }
  | _ => none }
def colRightRow : OpenClaim := { program := "ythcjbljkokflgaa", sum := "95777eeb1f8c38e53a4418fe75173d9d60b21281c369f60ed4265b6c31ab8276", func := "henhouse/henlaw17.ColRight", spec := "colRight", unfollowed := true, recurses := true, apart := false }
def ColRightSaid : Prop := colRightRow.holds Try.pinned (OpenSpec.ofChange colRightSpec)

/-- ITS FALSE NEIGHBOUR: 'it returns false'. Refute it at one input. -/
def colRightWrong : ChangeSpec := { name := "colRight", fn := fun _ => fun
  | [d1, d2, d3, d4, d5, d6] => { results := [.lit (.bool false)], args := [d1, d2, d3, d4, d5, d6] }
  | _ => none }
def ColRightWrongFalsely : Prop := colRightRow.holds Try.pinned (OpenSpec.ofChange colRightWrong)

/-- 'henlaw17.ColKnows': WHATEVER THE INPUT: true; the input reads as it did. -/
def colKnowsSpec : ChangeSpec := { name := "colKnows", fn := fun _ => fun
  | [d1, d2, d3, d4, d5] => { results := [.lit (.bool true)], args := [d1, d2, d3, d4, d5] }
  | _ => none }
def colKnowsRow : OpenClaim := { program := "ythcjbljkokflgaa", sum := "95777eeb1f8c38e53a4418fe75173d9d60b21281c369f60ed4265b6c31ab8276", func := "henhouse/henlaw17.ColKnows", spec := "colKnows", unfollowed := true, recurses := true, apart := false }
def ColKnowsSaid : Prop := colKnowsRow.holds Try.pinned (OpenSpec.ofChange colKnowsSpec)

/-- ITS FALSE NEIGHBOUR: 'it returns false'. Refute it at one input. -/
def colKnowsWrong : ChangeSpec := { name := "colKnows", fn := fun _ => fun
  | [d1, d2, d3, d4, d5] => { results := [.lit (.bool false)], args := [d1, d2, d3, d4, d5] }
  | _ => none }
def ColKnowsWrongFalsely : Prop := colKnowsRow.holds Try.pinned (OpenSpec.ofChange colKnowsWrong)

/-- 'henlaw17.ColFolds': WHATEVER THE INPUT: true; the input reads as it did. -/
def colFoldsSpec : ChangeSpec := { name := "colFolds", fn := fun _ => fun
  | [d1, d2, d3, d4, d5, d6] => { results := [.lit (.bool true)], args := [d1, d2, d3, d4, d5, d6] }
  | _ => none }
def colFoldsRow : OpenClaim := { program := "ythcjbljkokflgaa", sum := "95777eeb1f8c38e53a4418fe75173d9d60b21281c369f60ed4265b6c31ab8276", func := "henhouse/henlaw17.ColFolds", spec := "colFolds", unfollowed := true, recurses := true, apart := false }
def ColFoldsSaid : Prop := colFoldsRow.holds Try.pinned (OpenSpec.ofChange colFoldsSpec)

/-- ITS FALSE NEIGHBOUR: 'it returns false'. Refute it at one input. -/
def colFoldsWrong : ChangeSpec := { name := "colFolds", fn := fun _ => fun
  | [d1, d2, d3, d4, d5, d6] => { results := [.lit (.bool false)], args := [d1, d2, d3, d4, d5, d6] }
  | _ => none }
def ColFoldsWrongFalsely : Prop := colFoldsRow.holds Try.pinned (OpenSpec.ofChange colFoldsWrong)

/-- 'henlaw17.ColNew': WHATEVER THE INPUT: true; the input reads as it did. -/
def colNewSpec : ChangeSpec := { name := "colNew", fn := fun _ => fun
  | [d1, d2, d3, d4, d5] => { results := [.lit (.bool true)], args := [d1, d2, d3, d4, d5] }
  | _ => none }
def colNewRow : OpenClaim := { program := "ythcjbljkokflgaa", sum := "95777eeb1f8c38e53a4418fe75173d9d60b21281c369f60ed4265b6c31ab8276", func := "henhouse/henlaw17.ColNew", spec := "colNew", unfollowed := true, recurses := true, apart := false }
def ColNewSaid : Prop := colNewRow.holds Try.pinned (OpenSpec.ofChange colNewSpec)

/-- ITS FALSE NEIGHBOUR: 'it returns false'. Refute it at one input. -/
def colNewWrong : ChangeSpec := { name := "colNew", fn := fun _ => fun
  | [d1, d2, d3, d4, d5] => { results := [.lit (.bool false)], args := [d1, d2, d3, d4, d5] }
  | _ => none }
def ColNewWrongFalsely : Prop := colNewRow.holds Try.pinned (OpenSpec.ofChange colNewWrong)

/- THE SECOND FORM. 'bulk': how many values and letters a reading holds, each counted each time it is reached (what is shared counts as often as it is met; a slice's spare places count too). A statement '..UptoSaid' is the law's where the arguments, and the package variables that the reading takes, are together of bulk at most 1048576: NARROWER than '..Said'. Prove '..Said' where nothing that the law and all that it calls make is longer than what came in: it says more and counts as full. Else prove '..UptoSaid'. A law counts once. -/
mutual
def uptoBulk {H : Type} : DataW H → Nat
  | .lit (.string bytes) => bytes.length + 1
  | .lit _ => 1
  | .nil => 1
  | .ptr d => uptoBulk d + 1
  | .slice elems spare => uptoBulkAll elems + uptoBulkAll spare + 1
  | .agg parts => uptoBulkAll parts + 1
  | .iface _ d => uptoBulk d + 1
  | .map entries => uptoBulkEntries entries + 1
  | .held _ => 1
def uptoBulkAll {H : Type} : List (DataW H) → Nat
  | [] => 0
  | d :: r => uptoBulk d + uptoBulkAll r
def uptoBulkEntries {H : Type} : List (Lit × DataW H) → Nat
  | [] => 0
  | x :: r => uptoBulkEntry x + uptoBulkEntries r
def uptoBulkEntry {H : Type} : Lit × DataW H → Nat
  | (.string bytes, d) => bytes.length + uptoBulk d + 1
  | (_, d) => uptoBulk d + 1
 end
def uptoSmall : (H : Type) → List (DataW H) → Bool := fun _ ds => decide (uptoBulkAll ds ≤ 1048576)
def OpenSpec.upto (s : _root_.Go.ChangeSpec) : _root_.Go.OpenSpec := { _root_.Go.OpenSpec.ofChange s with cond := some uptoSmall }

/-- 'henlaw17.ColPlays', WHERE WHAT IT READS IS OF BULK AT MOST 1048576: true; the input reads as it did. -/
def colPlaysUptoRow : OpenClaim := { program := "ythcjbljkokflgaa", sum := "95777eeb1f8c38e53a4418fe75173d9d60b21281c369f60ed4265b6c31ab8276", func := "henhouse/henlaw17.ColPlays", spec := "colPlays", unfollowed := true, recurses := true, apart := false, narrowed := true }
def ColPlaysUptoSaid : Prop := colPlaysUptoRow.holds Try.pinned (OpenSpec.upto colPlaysSpec)

/-- 'henlaw17.ColChecks', WHERE WHAT IT READS IS OF BULK AT MOST 1048576: true; the input reads as it did. -/
def colChecksUptoRow : OpenClaim := { program := "ythcjbljkokflgaa", sum := "95777eeb1f8c38e53a4418fe75173d9d60b21281c369f60ed4265b6c31ab8276", func := "henhouse/henlaw17.ColChecks", spec := "colChecks", unfollowed := true, recurses := true, apart := false, narrowed := true }
def ColChecksUptoSaid : Prop := colChecksUptoRow.holds Try.pinned (OpenSpec.upto colChecksSpec)

/-- 'henlaw17.ColSince', WHERE WHAT IT READS IS OF BULK AT MOST 1048576: true; the input reads as it did. -/
def colSinceUptoRow : OpenClaim := { program := "ythcjbljkokflgaa", sum := "95777eeb1f8c38e53a4418fe75173d9d60b21281c369f60ed4265b6c31ab8276", func := "henhouse/henlaw17.ColSince", spec := "colSince", unfollowed := true, recurses := true, apart := false, narrowed := true }
def ColSinceUptoSaid : Prop := colSinceUptoRow.holds Try.pinned (OpenSpec.upto colSinceSpec)

/-- 'henlaw17.ColPages', WHERE WHAT IT READS IS OF BULK AT MOST 1048576: true; the input reads as it did. -/
def colPagesUptoRow : OpenClaim := { program := "ythcjbljkokflgaa", sum := "95777eeb1f8c38e53a4418fe75173d9d60b21281c369f60ed4265b6c31ab8276", func := "henhouse/henlaw17.ColPages", spec := "colPages", unfollowed := true, recurses := true, apart := false, narrowed := true }
def ColPagesUptoSaid : Prop := colPagesUptoRow.holds Try.pinned (OpenSpec.upto colPagesSpec)

/-- 'henlaw17.ColSplits', WHERE WHAT IT READS IS OF BULK AT MOST 1048576: true; the input reads as it did. -/
def colSplitsUptoRow : OpenClaim := { program := "ythcjbljkokflgaa", sum := "95777eeb1f8c38e53a4418fe75173d9d60b21281c369f60ed4265b6c31ab8276", func := "henhouse/henlaw17.ColSplits", spec := "colSplits", unfollowed := true, recurses := true, apart := false, narrowed := true }
def ColSplitsUptoSaid : Prop := colSplitsUptoRow.holds Try.pinned (OpenSpec.upto colSplitsSpec)

/-- 'henlaw17.ColRight', WHERE WHAT IT READS IS OF BULK AT MOST 1048576: true; the input reads as it did. -/
def colRightUptoRow : OpenClaim := { program := "ythcjbljkokflgaa", sum := "95777eeb1f8c38e53a4418fe75173d9d60b21281c369f60ed4265b6c31ab8276", func := "henhouse/henlaw17.ColRight", spec := "colRight", unfollowed := true, recurses := true, apart := false, narrowed := true }
def ColRightUptoSaid : Prop := colRightUptoRow.holds Try.pinned (OpenSpec.upto colRightSpec)

/-- 'henlaw17.ColKnows', WHERE WHAT IT READS IS OF BULK AT MOST 1048576: true; the input reads as it did. -/
def colKnowsUptoRow : OpenClaim := { program := "ythcjbljkokflgaa", sum := "95777eeb1f8c38e53a4418fe75173d9d60b21281c369f60ed4265b6c31ab8276", func := "henhouse/henlaw17.ColKnows", spec := "colKnows", unfollowed := true, recurses := true, apart := false, narrowed := true }
def ColKnowsUptoSaid : Prop := colKnowsUptoRow.holds Try.pinned (OpenSpec.upto colKnowsSpec)

/-- 'henlaw17.ColFolds', WHERE WHAT IT READS IS OF BULK AT MOST 1048576: true; the input reads as it did. -/
def colFoldsUptoRow : OpenClaim := { program := "ythcjbljkokflgaa", sum := "95777eeb1f8c38e53a4418fe75173d9d60b21281c369f60ed4265b6c31ab8276", func := "henhouse/henlaw17.ColFolds", spec := "colFolds", unfollowed := true, recurses := true, apart := false, narrowed := true }
def ColFoldsUptoSaid : Prop := colFoldsUptoRow.holds Try.pinned (OpenSpec.upto colFoldsSpec)

/-- 'henlaw17.ColNew', WHERE WHAT IT READS IS OF BULK AT MOST 1048576: true; the input reads as it did. -/
def colNewUptoRow : OpenClaim := { program := "ythcjbljkokflgaa", sum := "95777eeb1f8c38e53a4418fe75173d9d60b21281c369f60ed4265b6c31ab8276", func := "henhouse/henlaw17.ColNew", spec := "colNew", unfollowed := true, recurses := true, apart := false, narrowed := true }
def ColNewUptoSaid : Prop := colNewUptoRow.holds Try.pinned (OpenSpec.upto colNewSpec)

end Rows
end Go.Proofs.Ythcjbljkokflgaa
