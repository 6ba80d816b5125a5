/-
  No cell of these rows narrows 'for every input' (looked for: loops, veiled, ifaces, maps, wideKeys, modest, calm, conditions, laid).
  DERIVED. THE GIVEN ROWS OF THIS SEAT. 3 by the template 'for every input the law returns true; each argument reads behind the call as it read before'; 0 by the template 'total and deterministic' (their statements: YtfkghnkmneekkaaTotals.lean).
  GIVEN WITH THE SEED: the statements are not yours to turn. If you find one false, say at which input.
  Laid BY PROGRAM, IN A SANDBOX (cutbox-rows.mjs): the forced cells as the released guide's own fill.sh prints them over the translation 88b99ce0ac717823… (all of the seat's roots in one cut). By AI agents, Wed Nov 11 2026. No macro, syntax, notation, axiom, sorry.
-/
import Derived.Test.YtfkghnkmneekkaaChecked
import GoSem.Claim
import GoSem.ClaimJoined
import GoSem.ClaimMapViews
import Derived.JoinedTies
import Derived.KernelRfl
namespace Go.Proofs.Ytfkghnkmneekkaa
/- THE CELL 'sum', in the pinned program and in every row, IS THE sha256 OF THE DUMP (.gsa) THAT YtfkghnkmneekkaaProg.lean LOADS. Nothing in Lean hashes anything: it is a label: what it is worth is what the hold of that sum in a sandbox is worth. -/
noncomputable def Try.pinned : Pinned := { name := "ytfkghnkmneekkaa", sum := "88b99ce0ac7178232886815151d5f79b33bcac2aadc2ef24a28c1f305944e440", checked := Try.checked }
namespace Rows
def none {H : Type} : Left H := { results := [], args := [] }

/-- 'henlaw20.FnvTells': WHATEVER THE INPUT: true; the input reads as it did. -/
def fnvTellsSpec : ChangeSpec := { name := "fnvTells", fn := fun _ => fun
  | [d] => { results := [.lit (.bool true)], args := [d] }
  | _ => none }
def fnvTellsRow : OpenClaim := { program := "ytfkghnkmneekkaa", sum := "88b99ce0ac7178232886815151d5f79b33bcac2aadc2ef24a28c1f305944e440", func := "henhouse/henlaw20.FnvTells", spec := "fnvTells", apart := false }
def FnvTellsSaid : Prop := fnvTellsRow.holds Try.pinned (OpenSpec.ofChange fnvTellsSpec)

/-- ITS FALSE NEIGHBOUR: 'it returns false'. Refute it at one input. -/
def fnvTellsWrong : ChangeSpec := { name := "fnvTells", fn := fun _ => fun
  | [d] => { results := [.lit (.bool false)], args := [d] }
  | _ => none }
def FnvTellsWrongFalsely : Prop := fnvTellsRow.holds Try.pinned (OpenSpec.ofChange fnvTellsWrong)

/-- 'henlaw20.FnvNext': WHATEVER THE INPUT: true; the input reads as it did. -/
def fnvNextSpec : ChangeSpec := { name := "fnvNext", fn := fun _ => fun
  | [d1, d2] => { results := [.lit (.bool true)], args := [d1, d2] }
  | _ => none }
def fnvNextRow : OpenClaim := { program := "ytfkghnkmneekkaa", sum := "88b99ce0ac7178232886815151d5f79b33bcac2aadc2ef24a28c1f305944e440", func := "henhouse/henlaw20.FnvNext", spec := "fnvNext", apart := false }
def FnvNextSaid : Prop := fnvNextRow.holds Try.pinned (OpenSpec.ofChange fnvNextSpec)

/-- ITS FALSE NEIGHBOUR: 'it returns false'. Refute it at one input. -/
def fnvNextWrong : ChangeSpec := { name := "fnvNext", fn := fun _ => fun
  | [d1, d2] => { results := [.lit (.bool false)], args := [d1, d2] }
  | _ => none }
def FnvNextWrongFalsely : Prop := fnvNextRow.holds Try.pinned (OpenSpec.ofChange fnvNextWrong)

/-- 'henlaw20.FnvShard': WHATEVER THE INPUT: true; the input reads as it did. -/
def fnvShardSpec : ChangeSpec := { name := "fnvShard", fn := fun _ => fun
  | [d1, d2] => { results := [.lit (.bool true)], args := [d1, d2] }
  | _ => none }
def fnvShardRow : OpenClaim := { program := "ytfkghnkmneekkaa", sum := "88b99ce0ac7178232886815151d5f79b33bcac2aadc2ef24a28c1f305944e440", func := "henhouse/henlaw20.FnvShard", spec := "fnvShard", apart := false }
def FnvShardSaid : Prop := fnvShardRow.holds Try.pinned (OpenSpec.ofChange fnvShardSpec)

/-- ITS FALSE NEIGHBOUR: 'it returns false'. Refute it at one input. -/
def fnvShardWrong : ChangeSpec := { name := "fnvShard", fn := fun _ => fun
  | [d1, d2] => { results := [.lit (.bool false)], args := [d1, d2] }
  | _ => none }
def FnvShardWrongFalsely : Prop := fnvShardRow.holds Try.pinned (OpenSpec.ofChange fnvShardWrong)

/- THE SECOND FORM. 'bulk': how many values and letters a reading holds, each counted each time it is reached (what is shared counts as often as it is met; a slice's spare places count too). A statement '..UptoSaid' is the law's where the arguments, and the package variables that the reading takes, are together of bulk at most 1048576: NARROWER than '..Said'. Prove '..Said' where nothing that the law and all that it calls make is longer than what came in: it says more and counts as full. Else prove '..UptoSaid'. A law counts once. -/
mutual
def uptoBulk {H : Type} : DataW H → Nat
  | .lit (.string bytes) => bytes.length + 1
  | .lit _ => 1
  | .nil => 1
  | .ptr d => uptoBulk d + 1
  | .slice elems spare => uptoBulkAll elems + uptoBulkAll spare + 1
  | .agg parts => uptoBulkAll parts + 1
  | .iface _ d => uptoBulk d + 1
  | .map entries => uptoBulkEntries entries + 1
  | .held _ => 1
def uptoBulkAll {H : Type} : List (DataW H) → Nat
  | [] => 0
  | d :: r => uptoBulk d + uptoBulkAll r
def uptoBulkEntries {H : Type} : List (Lit × DataW H) → Nat
  | [] => 0
  | x :: r => uptoBulkEntry x + uptoBulkEntries r
def uptoBulkEntry {H : Type} : Lit × DataW H → Nat
  | (.string bytes, d) => bytes.length + uptoBulk d + 1
  | (_, d) => uptoBulk d + 1
 end
def uptoSmall : (H : Type) → List (DataW H) → Bool := fun _ ds => decide (uptoBulkAll ds ≤ 1048576)
def OpenSpec.upto (s : _root_.Go.ChangeSpec) : _root_.Go.OpenSpec := { _root_.Go.OpenSpec.ofChange s with cond := some uptoSmall }

/-- 'henlaw20.FnvTells', WHERE WHAT IT READS IS OF BULK AT MOST 1048576: true; the input reads as it did. -/
def fnvTellsUptoRow : OpenClaim := { program := "ytfkghnkmneekkaa", sum := "88b99ce0ac7178232886815151d5f79b33bcac2aadc2ef24a28c1f305944e440", func := "henhouse/henlaw20.FnvTells", spec := "fnvTells", apart := false, narrowed := true }
def FnvTellsUptoSaid : Prop := fnvTellsUptoRow.holds Try.pinned (OpenSpec.upto fnvTellsSpec)

/-- 'henlaw20.FnvNext', WHERE WHAT IT READS IS OF BULK AT MOST 1048576: true; the input reads as it did. -/
def fnvNextUptoRow : OpenClaim := { program := "ytfkghnkmneekkaa", sum := "88b99ce0ac7178232886815151d5f79b33bcac2aadc2ef24a28c1f305944e440", func := "henhouse/henlaw20.FnvNext", spec := "fnvNext", apart := false, narrowed := true }
def FnvNextUptoSaid : Prop := fnvNextUptoRow.holds Try.pinned (OpenSpec.upto fnvNextSpec)

/-- 'henlaw20.FnvShard', WHERE WHAT IT READS IS OF BULK AT MOST 1048576: true; the input reads as it did. -/
def fnvShardUptoRow : OpenClaim := { program := "ytfkghnkmneekkaa", sum := "88b99ce0ac7178232886815151d5f79b33bcac2aadc2ef24a28c1f305944e440", func := "henhouse/henlaw20.FnvShard", spec := "fnvShard", apart := false, narrowed := true }
def FnvShardUptoSaid : Prop := fnvShardUptoRow.holds Try.pinned (OpenSpec.upto fnvShardSpec)

end Rows
end Go.Proofs.Ytfkghnkmneekkaa
