/-
  No cell of these rows narrows 'for every input' (looked for: loops, veiled, ifaces, maps, wideKeys, modest, calm, conditions, laid).
  DERIVED. THE GIVEN ROWS OF THIS SEAT. 4 by the template 'for every input the law returns true; each argument reads behind the call as it read before'; 0 by the template 'total and deterministic' (their statements: YtgfaegnpogdneaaTotals.lean).
  GIVEN WITH THE SEED: the statements are not yours to turn. If you find one false, say at which input.
  Laid BY PROGRAM, IN A SANDBOX (cutbox-rows.mjs): the forced cells as the released guide's own fill.sh prints them over the translation 5cecc7d5d2f6fdfa… (all of the seat's roots in one cut). By AI agents, Wed Nov 11 2026. No macro, syntax, notation, axiom, sorry.
-/
import Derived.Test.YtgfaegnpogdneaaChecked
import GoSem.Claim
import GoSem.ClaimJoined
import GoSem.ClaimMapViews
import Derived.JoinedTies
import Derived.KernelRfl
namespace Go.Proofs.Ytgfaegnpogdneaa
/- THE CELL 'sum', in the pinned program and in every row, IS THE sha256 OF THE DUMP (.gsa) THAT YtgfaegnpogdneaaProg.lean LOADS. Nothing in Lean hashes anything: it is a label: what it is worth is what the hold of that sum in a sandbox is worth. -/
noncomputable def Try.pinned : Pinned := { name := "ytgfaegnpogdneaa", sum := "5cecc7d5d2f6fdfae7c25858a2e1d947d2802d3f36521a3f367eca37cf3b5264", checked := Try.checked }
namespace Rows
def none {H : Type} : Left H := { results := [], args := [] }

/-- 'henlaw24.HubPlays': WHATEVER THE INPUT: true; the input reads as it did. -/
def hubPlaysSpec : ChangeSpec := { name := "hubPlays", fn := fun _ => fun
  | [d1, d2] => { results := [.lit (.bool true)], args := [d1, d2] }
  | _ => none }
def hubPlaysRow : OpenClaim := { program := "ytgfaegnpogdneaa", sum := "5cecc7d5d2f6fdfae7c25858a2e1d947d2802d3f36521a3f367eca37cf3b5264", func := "henhouse/henlaw24.HubPlays", spec := "hubPlays", apart := false }
def HubPlaysSaid : Prop := hubPlaysRow.holds Try.pinned (OpenSpec.ofChange hubPlaysSpec)

/-- ITS FALSE NEIGHBOUR: 'it returns false'. Refute it at one input. -/
def hubPlaysWrong : ChangeSpec := { name := "hubPlays", fn := fun _ => fun
  | [d1, d2] => { results := [.lit (.bool false)], args := [d1, d2] }
  | _ => none }
def HubPlaysWrongFalsely : Prop := hubPlaysRow.holds Try.pinned (OpenSpec.ofChange hubPlaysWrong)

/-- 'henlaw24.HubWakes': WHATEVER THE INPUT: true; the input reads as it did. -/
def hubWakesSpec : ChangeSpec := { name := "hubWakes", fn := fun _ => fun
  | [d1, d2] => { results := [.lit (.bool true)], args := [d1, d2] }
  | _ => none }
def hubWakesRow : OpenClaim := { program := "ytgfaegnpogdneaa", sum := "5cecc7d5d2f6fdfae7c25858a2e1d947d2802d3f36521a3f367eca37cf3b5264", func := "henhouse/henlaw24.HubWakes", spec := "hubWakes", apart := false }
def HubWakesSaid : Prop := hubWakesRow.holds Try.pinned (OpenSpec.ofChange hubWakesSpec)

/-- ITS FALSE NEIGHBOUR: 'it returns false'. Refute it at one input. -/
def hubWakesWrong : ChangeSpec := { name := "hubWakes", fn := fun _ => fun
  | [d1, d2] => { results := [.lit (.bool false)], args := [d1, d2] }
  | _ => none }
def HubWakesWrongFalsely : Prop := hubWakesRow.holds Try.pinned (OpenSpec.ofChange hubWakesWrong)

/-- 'henlaw24.HubOnce': WHATEVER THE INPUT: true; the input reads as it did. -/
def hubOnceSpec : ChangeSpec := { name := "hubOnce", fn := fun _ => fun
  | [d1, d2, d3] => { results := [.lit (.bool true)], args := [d1, d2, d3] }
  | _ => none }
def hubOnceRow : OpenClaim := { program := "ytgfaegnpogdneaa", sum := "5cecc7d5d2f6fdfae7c25858a2e1d947d2802d3f36521a3f367eca37cf3b5264", func := "henhouse/henlaw24.HubOnce", spec := "hubOnce", apart := false }
def HubOnceSaid : Prop := hubOnceRow.holds Try.pinned (OpenSpec.ofChange hubOnceSpec)

/-- ITS FALSE NEIGHBOUR: 'it returns false'. Refute it at one input. -/
def hubOnceWrong : ChangeSpec := { name := "hubOnce", fn := fun _ => fun
  | [d1, d2, d3] => { results := [.lit (.bool false)], args := [d1, d2, d3] }
  | _ => none }
def HubOnceWrongFalsely : Prop := hubOnceRow.holds Try.pinned (OpenSpec.ofChange hubOnceWrong)

/-- 'henlaw24.HubCounts': WHATEVER THE INPUT: true; the input reads as it did. -/
def hubCountsSpec : ChangeSpec := { name := "hubCounts", fn := fun _ => fun
  | [d] => { results := [.lit (.bool true)], args := [d] }
  | _ => none }
def hubCountsRow : OpenClaim := { program := "ytgfaegnpogdneaa", sum := "5cecc7d5d2f6fdfae7c25858a2e1d947d2802d3f36521a3f367eca37cf3b5264", func := "henhouse/henlaw24.HubCounts", spec := "hubCounts", apart := false }
def HubCountsSaid : Prop := hubCountsRow.holds Try.pinned (OpenSpec.ofChange hubCountsSpec)

/-- ITS FALSE NEIGHBOUR: 'it returns false'. Refute it at one input. -/
def hubCountsWrong : ChangeSpec := { name := "hubCounts", fn := fun _ => fun
  | [d] => { results := [.lit (.bool false)], args := [d] }
  | _ => none }
def HubCountsWrongFalsely : Prop := hubCountsRow.holds Try.pinned (OpenSpec.ofChange hubCountsWrong)

/- THE SECOND FORM. 'bulk': how many values and letters a reading holds, each counted each time it is reached (what is shared counts as often as it is met; a slice's spare places count too). A statement '..UptoSaid' is the law's where the arguments, and the package variables that the reading takes, are together of bulk at most 1048576: NARROWER than '..Said'. Prove '..Said' where nothing that the law and all that it calls make is longer than what came in: it says more and counts as full. Else prove '..UptoSaid'. A law counts once. -/
mutual
def uptoBulk {H : Type} : DataW H → Nat
  | .lit (.string bytes) => bytes.length + 1
  | .lit _ => 1
  | .nil => 1
  | .ptr d => uptoBulk d + 1
  | .slice elems spare => uptoBulkAll elems + uptoBulkAll spare + 1
  | .agg parts => uptoBulkAll parts + 1
  | .iface _ d => uptoBulk d + 1
  | .map entries => uptoBulkEntries entries + 1
  | .held _ => 1
def uptoBulkAll {H : Type} : List (DataW H) → Nat
  | [] => 0
  | d :: r => uptoBulk d + uptoBulkAll r
def uptoBulkEntries {H : Type} : List (Lit × DataW H) → Nat
  | [] => 0
  | x :: r => uptoBulkEntry x + uptoBulkEntries r
def uptoBulkEntry {H : Type} : Lit × DataW H → Nat
  | (.string bytes, d) => bytes.length + uptoBulk d + 1
  | (_, d) => uptoBulk d + 1
 end
def uptoSmall : (H : Type) → List (DataW H) → Bool := fun _ ds => decide (uptoBulkAll ds ≤ 1048576)
def OpenSpec.upto (s : _root_.Go.ChangeSpec) : _root_.Go.OpenSpec := { _root_.Go.OpenSpec.ofChange s with cond := some uptoSmall }

/-- 'henlaw24.HubPlays', WHERE WHAT IT READS IS OF BULK AT MOST 1048576: true; the input reads as it did. -/
def hubPlaysUptoRow : OpenClaim := { program := "ytgfaegnpogdneaa", sum := "5cecc7d5d2f6fdfae7c25858a2e1d947d2802d3f36521a3f367eca37cf3b5264", func := "henhouse/henlaw24.HubPlays", spec := "hubPlays", apart := false, narrowed := true }
def HubPlaysUptoSaid : Prop := hubPlaysUptoRow.holds Try.pinned (OpenSpec.upto hubPlaysSpec)

/-- 'henlaw24.HubWakes', WHERE WHAT IT READS IS OF BULK AT MOST 1048576: true; the input reads as it did. -/
def hubWakesUptoRow : OpenClaim := { program := "ytgfaegnpogdneaa", sum := "5cecc7d5d2f6fdfae7c25858a2e1d947d2802d3f36521a3f367eca37cf3b5264", func := "henhouse/henlaw24.HubWakes", spec := "hubWakes", apart := false, narrowed := true }
def HubWakesUptoSaid : Prop := hubWakesUptoRow.holds Try.pinned (OpenSpec.upto hubWakesSpec)

/-- 'henlaw24.HubOnce', WHERE WHAT IT READS IS OF BULK AT MOST 1048576: true; the input reads as it did. -/
def hubOnceUptoRow : OpenClaim := { program := "ytgfaegnpogdneaa", sum := "5cecc7d5d2f6fdfae7c25858a2e1d947d2802d3f36521a3f367eca37cf3b5264", func := "henhouse/henlaw24.HubOnce", spec := "hubOnce", apart := false, narrowed := true }
def HubOnceUptoSaid : Prop := hubOnceUptoRow.holds Try.pinned (OpenSpec.upto hubOnceSpec)

/-- 'henlaw24.HubCounts', WHERE WHAT IT READS IS OF BULK AT MOST 1048576: true; the input reads as it did. -/
def hubCountsUptoRow : OpenClaim := { program := "ytgfaegnpogdneaa", sum := "5cecc7d5d2f6fdfae7c25858a2e1d947d2802d3f36521a3f367eca37cf3b5264", func := "henhouse/henlaw24.HubCounts", spec := "hubCounts", apart := false, narrowed := true }
def HubCountsUptoSaid : Prop := hubCountsUptoRow.holds Try.pinned (OpenSpec.upto hubCountsSpec)

end Rows
end Go.Proofs.Ytgfaegnpogdneaa
