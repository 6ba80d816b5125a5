/-
  No cell of these rows narrows 'for every input' (looked for: loops, veiled, ifaces, maps, wideKeys, modest, calm, conditions, laid).
  DERIVED. THE GIVEN ROWS OF THIS SEAT. 5 by the template 'for every input the law returns true; each argument reads behind the call as it read before'; 0 by the template 'total and deterministic' (their statements: YtpmgabeefppajaaTotals.lean).
  GIVEN WITH THE SEED: the statements are not yours to turn. If you find one false, say at which input.
  Laid BY PROGRAM, IN A SANDBOX (cutbox-rows.mjs): the forced cells as the released guide's own fill.sh prints them over the translation 4a99b0844863f6c2… (all of the seat's roots in one cut). By AI agents, Wed Nov 11 2026. No macro, syntax, notation, axiom, sorry.
-/
import Derived.Test.YtpmgabeefppajaaChecked
import GoSem.Claim
import GoSem.ClaimJoined
import GoSem.ClaimMapViews
import Derived.JoinedTies
import Derived.KernelRfl
namespace Go.Proofs.Ytpmgabeefppajaa
/- THE CELL 'sum', in the pinned program and in every row, IS THE sha256 OF THE DUMP (.gsa) THAT YtpmgabeefppajaaProg.lean LOADS. Nothing in Lean hashes anything: it is a label: what it is worth is what the hold of that sum in a sandbox is worth. -/
noncomputable def Try.pinned : Pinned := { name := "ytpmgabeefppajaa", sum := "4a99b0844863f6c25b84f8df794041b10c933ab278e3840c2e4129aae6ab306a", checked := Try.checked }
namespace Rows
def none {H : Type} : Left H := { results := [], args := [] }

/-- 'henlaw18.ReplicaPlays': WHATEVER THE INPUT: true; the input reads as it did. -/
def replicaPlaysSpec : ChangeSpec := { name := "replicaPlays", fn := fun _ => fun
  | [d] => { results := [.lit (.bool true)], args := [d] }
  | _ => none }
def replicaPlaysRow : OpenClaim := { program := "ytpmgabeefppajaa", sum := "4a99b0844863f6c25b84f8df794041b10c933ab278e3840c2e4129aae6ab306a", func := "henhouse/henlaw18.ReplicaPlays", spec := "replicaPlays", unfollowed := true, recurses := true, apart := false }
def ReplicaPlaysSaid : Prop := replicaPlaysRow.holds Try.pinned (OpenSpec.ofChange replicaPlaysSpec)

/-- ITS FALSE NEIGHBOUR: 'it returns false'. Refute it at one input. -/
def replicaPlaysWrong : ChangeSpec := { name := "replicaPlays", fn := fun _ => fun
  | [d] => { results := [.lit (.bool false)], args := [d] }
  | _ => none }
def ReplicaPlaysWrongFalsely : Prop := replicaPlaysRow.holds Try.pinned (OpenSpec.ofChange replicaPlaysWrong)

/-- 'henlaw18.ReplicaKeeps': WHATEVER THE INPUT: true; the input reads as it did. -/
def replicaKeepsSpec : ChangeSpec := { name := "replicaKeeps", fn := fun _ => fun
  | [d] => { results := [.lit (.bool true)], args := [d] }
  | _ => none }
def replicaKeepsRow : OpenClaim := { program := "ytpmgabeefppajaa", sum := "4a99b0844863f6c25b84f8df794041b10c933ab278e3840c2e4129aae6ab306a", func := "henhouse/henlaw18.ReplicaKeeps", spec := "replicaKeeps", unfollowed := true, recurses := true, apart := false }
def ReplicaKeepsSaid : Prop := replicaKeepsRow.holds Try.pinned (OpenSpec.ofChange replicaKeepsSpec)

/-- ITS FALSE NEIGHBOUR: 'it returns false'. Refute it at one input. -/
def replicaKeepsWrong : ChangeSpec := { name := "replicaKeeps", fn := fun _ => fun
  | [d] => { results := [.lit (.bool false)], args := [d] }
  | _ => none }
def ReplicaKeepsWrongFalsely : Prop := replicaKeepsRow.holds Try.pinned (OpenSpec.ofChange replicaKeepsWrong)

/-- 'henlaw18.ReplicaTurned': WHATEVER THE INPUT: true; the input reads as it did. -/
def replicaTurnedSpec : ChangeSpec := { name := "replicaTurned", fn := fun _ => fun
  | [d1, d2] => { results := [.lit (.bool true)], args := [d1, d2] }
  | _ => none }
def replicaTurnedRow : OpenClaim := { program := "ytpmgabeefppajaa", sum := "4a99b0844863f6c25b84f8df794041b10c933ab278e3840c2e4129aae6ab306a", func := "henhouse/henlaw18.ReplicaTurned", spec := "replicaTurned", unfollowed := true, recurses := true, apart := false }
def ReplicaTurnedSaid : Prop := replicaTurnedRow.holds Try.pinned (OpenSpec.ofChange replicaTurnedSpec)

/-- ITS FALSE NEIGHBOUR: 'it returns false'. Refute it at one input. -/
def replicaTurnedWrong : ChangeSpec := { name := "replicaTurned", fn := fun _ => fun
  | [d1, d2] => { results := [.lit (.bool false)], args := [d1, d2] }
  | _ => none }
def ReplicaTurnedWrongFalsely : Prop := replicaTurnedRow.holds Try.pinned (OpenSpec.ofChange replicaTurnedWrong)

/-- 'henlaw18.ReplicaCut': WHATEVER THE INPUT: true; the input reads as it did. -/
def replicaCutSpec : ChangeSpec := { name := "replicaCut", fn := fun _ => fun
  | [d1, d2, d3] => { results := [.lit (.bool true)], args := [d1, d2, d3] }
  | _ => none }
def replicaCutRow : OpenClaim := { program := "ytpmgabeefppajaa", sum := "4a99b0844863f6c25b84f8df794041b10c933ab278e3840c2e4129aae6ab306a", func := "henhouse/henlaw18.ReplicaCut", spec := "replicaCut", unfollowed := true, recurses := true, apart := false }
def ReplicaCutSaid : Prop := replicaCutRow.holds Try.pinned (OpenSpec.ofChange replicaCutSpec)

/-- ITS FALSE NEIGHBOUR: 'it returns false'. Refute it at one input. -/
def replicaCutWrong : ChangeSpec := { name := "replicaCut", fn := fun _ => fun
  | [d1, d2, d3] => { results := [.lit (.bool false)], args := [d1, d2, d3] }
  | _ => none }
def ReplicaCutWrongFalsely : Prop := replicaCutRow.holds Try.pinned (OpenSpec.ofChange replicaCutWrong)

/-- 'henlaw18.ReplicaCol': WHATEVER THE INPUT: true; the input reads as it did. -/
def replicaColSpec : ChangeSpec := { name := "replicaCol", fn := fun _ => fun
  | [d1, d2, d3, d4, d5] => { results := [.lit (.bool true)], args := [d1, d2, d3, d4, d5] }
  | _ => none }
def replicaColRow : OpenClaim := { program := "ytpmgabeefppajaa", sum := "4a99b0844863f6c25b84f8df794041b10c933ab278e3840c2e4129aae6ab306a", func := "henhouse/henlaw18.ReplicaCol", spec := "replicaCol", unfollowed := true, recurses := true, apart := false }
def ReplicaColSaid : Prop := replicaColRow.holds Try.pinned (OpenSpec.ofChange replicaColSpec)

/-- ITS FALSE NEIGHBOUR: 'it returns false'. Refute it at one input. -/
def replicaColWrong : ChangeSpec := { name := "replicaCol", fn := fun _ => fun
  | [d1, d2, d3, d4, d5] => { results := [.lit (.bool false)], args := [d1, d2, d3, d4, d5] }
  | _ => none }
def ReplicaColWrongFalsely : Prop := replicaColRow.holds Try.pinned (OpenSpec.ofChange replicaColWrong)

/- THE SECOND FORM. 'bulk': how many values and letters a reading holds, each counted each time it is reached (what is shared counts as often as it is met; a slice's spare places count too). A statement '..UptoSaid' is the law's where the arguments, and the package variables that the reading takes, are together of bulk at most 1048576: NARROWER than '..Said'. Prove '..Said' where nothing that the law and all that it calls make is longer than what came in: it says more and counts as full. Else prove '..UptoSaid'. A law counts once. -/
mutual
def uptoBulk {H : Type} : DataW H → Nat
  | .lit (.string bytes) => bytes.length + 1
  | .lit _ => 1
  | .nil => 1
  | .ptr d => uptoBulk d + 1
  | .slice elems spare => uptoBulkAll elems + uptoBulkAll spare + 1
  | .agg parts => uptoBulkAll parts + 1
  | .iface _ d => uptoBulk d + 1
  | .map entries => uptoBulkEntries entries + 1
  | .held _ => 1
def uptoBulkAll {H : Type} : List (DataW H) → Nat
  | [] => 0
  | d :: r => uptoBulk d + uptoBulkAll r
def uptoBulkEntries {H : Type} : List (Lit × DataW H) → Nat
  | [] => 0
  | x :: r => uptoBulkEntry x + uptoBulkEntries r
def uptoBulkEntry {H : Type} : Lit × DataW H → Nat
  | (.string bytes, d) => bytes.length + uptoBulk d + 1
  | (_, d) => uptoBulk d + 1
 end
def uptoSmall : (H : Type) → List (DataW H) → Bool := fun _ ds => decide (uptoBulkAll ds ≤ 1048576)
def OpenSpec.upto (s : _root_.Go.ChangeSpec) : _root_.Go.OpenSpec := { _root_.Go.OpenSpec.ofChange s with cond := some uptoSmall }

/-- 'henlaw18.ReplicaPlays', WHERE WHAT IT READS IS OF BULK AT MOST 1048576: true; the input reads as it did. -/
def replicaPlaysUptoRow : OpenClaim := { program := "ytpmgabeefppajaa", sum := "4a99b0844863f6c25b84f8df794041b10c933ab278e3840c2e4129aae6ab306a", func := "henhouse/henlaw18.ReplicaPlays", spec := "replicaPlays", unfollowed := true, recurses := true, apart := false, narrowed := true }
def ReplicaPlaysUptoSaid : Prop := replicaPlaysUptoRow.holds Try.pinned (OpenSpec.upto replicaPlaysSpec)

/-- 'henlaw18.ReplicaKeeps', WHERE WHAT IT READS IS OF BULK AT MOST 1048576: true; the input reads as it did. -/
def replicaKeepsUptoRow : OpenClaim := { program := "ytpmgabeefppajaa", sum := "4a99b0844863f6c25b84f8df794041b10c933ab278e3840c2e4129aae6ab306a", func := "henhouse/henlaw18.ReplicaKeeps", spec := "replicaKeeps", unfollowed := true, recurses := true, apart := false, narrowed := true }
def ReplicaKeepsUptoSaid : Prop := replicaKeepsUptoRow.holds Try.pinned (OpenSpec.upto replicaKeepsSpec)

/-- 'henlaw18.ReplicaTurned', WHERE WHAT IT READS IS OF BULK AT MOST 1048576: true; the input reads as it did. -/
def replicaTurnedUptoRow : OpenClaim := { program := "ytpmgabeefppajaa", sum := "4a99b0844863f6c25b84f8df794041b10c933ab278e3840c2e4129aae6ab306a", func := "henhouse/henlaw18.ReplicaTurned", spec := "replicaTurned", unfollowed := true, recurses := true, apart := false, narrowed := true }
def ReplicaTurnedUptoSaid : Prop := replicaTurnedUptoRow.holds Try.pinned (OpenSpec.upto replicaTurnedSpec)

/-- 'henlaw18.ReplicaCut', WHERE WHAT IT READS IS OF BULK AT MOST 1048576: true; the input reads as it did. -/
def replicaCutUptoRow : OpenClaim := { program := "ytpmgabeefppajaa", sum := "4a99b0844863f6c25b84f8df794041b10c933ab278e3840c2e4129aae6ab306a", func := "henhouse/henlaw18.ReplicaCut", spec := "replicaCut", unfollowed := true, recurses := true, apart := false, narrowed := true }
def ReplicaCutUptoSaid : Prop := replicaCutUptoRow.holds Try.pinned (OpenSpec.upto replicaCutSpec)

/-- 'henlaw18.ReplicaCol', WHERE WHAT IT READS IS OF BULK AT MOST 1048576: true; the input reads as it did. -/
def replicaColUptoRow : OpenClaim := { program := "ytpmgabeefppajaa", sum := "4a99b0844863f6c25b84f8df794041b10c933ab278e3840c2e4129aae6ab306a", func := "henhouse/henlaw18.ReplicaCol", spec := "replicaCol", unfollowed := true, recurses := true, apart := false, narrowed := true }
def ReplicaColUptoSaid : Prop := replicaColUptoRow.holds Try.pinned (OpenSpec.upto replicaColSpec)

end Rows
end Go.Proofs.Ytpmgabeefppajaa
