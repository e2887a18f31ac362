/-
  No cell of these rows narrows 'for every input' (looked for: loops, veiled, ifaces, maps, wideKeys, modest, calm, conditions, laid).
  DERIVED. THE GIVEN ROWS OF THIS SEAT. 6 by the template 'for every input the law returns true; each argument reads behind the call as it read before'; 0 by the template 'total and deterministic' (their statements: YteciiehnoakgdaaTotals.lean).
  GIVEN WITH THE SEED: the statements are not yours to turn. If you find one false, say at which input.
  Laid BY PROGRAM, IN A SANDBOX (cutbox-rows.mjs): the forced cells as the released guide's own fill.sh prints them over the translation 12c8cb64dde88da0… (all of the seat's roots in one cut). By AI agents, Wed Nov 11 2026. No macro, syntax, notation, axiom, sorry.
-/
import Derived.Test.YteciiehnoakgdaaChecked
import GoSem.Claim
import GoSem.ClaimJoined
import GoSem.ClaimMapViews
import Derived.JoinedTies
import Derived.KernelRfl
namespace Go.Proofs.Yteciiehnoakgdaa
/- THE CELL 'sum', in the pinned program and in every row, IS THE sha256 OF THE DUMP (.gsa) THAT YteciiehnoakgdaaProg.lean LOADS. Nothing in Lean hashes anything: it is a label: what it is worth is what the hold of that sum in a sandbox is worth. -/
noncomputable def Try.pinned : Pinned := { name := "yteciiehnoakgdaa", sum := "12c8cb64dde88da00631ab519d95567b236636d7b7919e7f93fbcb4454f15534", checked := Try.checked }
namespace Rows
def none {H : Type} : Left H := { results := [], args := [] }

/-- 'coppicelaw09.NodeMay': WHATEVER THE INPUT: true; the input reads as it did. -/
def nodeMaySpec : ChangeSpec := { name := "nodeMay", fn := fun _ => fun
  | [d1, d2] => { results := [.lit (.bool true)], args := [d1, d2] }
  | _ => none }
def nodeMayRow : OpenClaim := { program := "yteciiehnoakgdaa", sum := "12c8cb64dde88da00631ab519d95567b236636d7b7919e7f93fbcb4454f15534", func := "coppice/coppicelaw09.NodeMay", spec := "nodeMay", inPlace := ["internal/bytealg.Compare"], apart := false }
def NodeMaySaid : Prop := nodeMayRow.holds Try.pinned (OpenSpec.ofChange nodeMaySpec)

/-- ITS FALSE NEIGHBOUR: 'it returns false'. Refute it at one input. -/
def nodeMayWrong : ChangeSpec := { name := "nodeMay", fn := fun _ => fun
  | [d1, d2] => { results := [.lit (.bool false)], args := [d1, d2] }
  | _ => none }
def NodeMayWrongFalsely : Prop := nodeMayRow.holds Try.pinned (OpenSpec.ofChange nodeMayWrong)

/-- 'coppicelaw09.NodeFinds': WHATEVER THE INPUT: true; the input reads as it did. -/
def nodeFindsSpec : ChangeSpec := { name := "nodeFinds", fn := fun _ => fun
  | [d1, d2] => { results := [.lit (.bool true)], args := [d1, d2] }
  | _ => none }
def nodeFindsRow : OpenClaim := { program := "yteciiehnoakgdaa", sum := "12c8cb64dde88da00631ab519d95567b236636d7b7919e7f93fbcb4454f15534", func := "coppice/coppicelaw09.NodeFinds", spec := "nodeFinds", inPlace := ["internal/bytealg.Compare"], apart := false }
def NodeFindsSaid : Prop := nodeFindsRow.holds Try.pinned (OpenSpec.ofChange nodeFindsSpec)

/-- ITS FALSE NEIGHBOUR: 'it returns false'. Refute it at one input. -/
def nodeFindsWrong : ChangeSpec := { name := "nodeFinds", fn := fun _ => fun
  | [d1, d2] => { results := [.lit (.bool false)], args := [d1, d2] }
  | _ => none }
def NodeFindsWrongFalsely : Prop := nodeFindsRow.holds Try.pinned (OpenSpec.ofChange nodeFindsWrong)

/-- 'coppicelaw09.NodeClones': WHATEVER THE INPUT: true; the input reads as it did. -/
def nodeClonesSpec : ChangeSpec := { name := "nodeClones", fn := fun _ => fun
  | [d] => { results := [.lit (.bool true)], args := [d] }
  | _ => none }
def nodeClonesRow : OpenClaim := { program := "yteciiehnoakgdaa", sum := "12c8cb64dde88da00631ab519d95567b236636d7b7919e7f93fbcb4454f15534", func := "coppice/coppicelaw09.NodeClones", spec := "nodeClones", inPlace := ["internal/bytealg.Compare"], apart := false }
def NodeClonesSaid : Prop := nodeClonesRow.holds Try.pinned (OpenSpec.ofChange nodeClonesSpec)

/-- ITS FALSE NEIGHBOUR: 'it returns false'. Refute it at one input. -/
def nodeClonesWrong : ChangeSpec := { name := "nodeClones", fn := fun _ => fun
  | [d] => { results := [.lit (.bool false)], args := [d] }
  | _ => none }
def NodeClonesWrongFalsely : Prop := nodeClonesRow.holds Try.pinned (OpenSpec.ofChange nodeClonesWrong)

/-- 'coppicelaw09.NodeWith': WHATEVER THE INPUT: true; the input reads as it did. -/
def nodeWithSpec : ChangeSpec := { name := "nodeWith", fn := fun _ => fun
  | [d1, d2, d3] => { results := [.lit (.bool true)], args := [d1, d2, d3] }
  | _ => none }
def nodeWithRow : OpenClaim := { program := "yteciiehnoakgdaa", sum := "12c8cb64dde88da00631ab519d95567b236636d7b7919e7f93fbcb4454f15534", func := "coppice/coppicelaw09.NodeWith", spec := "nodeWith", inPlace := ["internal/bytealg.Compare"], apart := false }
def NodeWithSaid : Prop := nodeWithRow.holds Try.pinned (OpenSpec.ofChange nodeWithSpec)

/-- ITS FALSE NEIGHBOUR: 'it returns false'. Refute it at one input. -/
def nodeWithWrong : ChangeSpec := { name := "nodeWith", fn := fun _ => fun
  | [d1, d2, d3] => { results := [.lit (.bool false)], args := [d1, d2, d3] }
  | _ => none }
def NodeWithWrongFalsely : Prop := nodeWithRow.holds Try.pinned (OpenSpec.ofChange nodeWithWrong)

/-- 'coppicelaw09.NodeJoined': WHATEVER THE INPUT: true; the input reads as it did. -/
def nodeJoinedSpec : ChangeSpec := { name := "nodeJoined", fn := fun _ => fun
  | [d1, d2, d3] => { results := [.lit (.bool true)], args := [d1, d2, d3] }
  | _ => none }
def nodeJoinedRow : OpenClaim := { program := "yteciiehnoakgdaa", sum := "12c8cb64dde88da00631ab519d95567b236636d7b7919e7f93fbcb4454f15534", func := "coppice/coppicelaw09.NodeJoined", spec := "nodeJoined", inPlace := ["internal/bytealg.Compare"], apart := false }
def NodeJoinedSaid : Prop := nodeJoinedRow.holds Try.pinned (OpenSpec.ofChange nodeJoinedSpec)

/-- ITS FALSE NEIGHBOUR: 'it returns false'. Refute it at one input. -/
def nodeJoinedWrong : ChangeSpec := { name := "nodeJoined", fn := fun _ => fun
  | [d1, d2, d3] => { results := [.lit (.bool false)], args := [d1, d2, d3] }
  | _ => none }
def NodeJoinedWrongFalsely : Prop := nodeJoinedRow.holds Try.pinned (OpenSpec.ofChange nodeJoinedWrong)

/-- 'coppicelaw09.NodeSplits': WHATEVER THE INPUT: true; the input reads as it did. -/
def nodeSplitsSpec : ChangeSpec := { name := "nodeSplits", fn := fun _ => fun
  | [d1, d2, d3] => { results := [.lit (.bool true)], args := [d1, d2, d3] }
  | _ => none }
def nodeSplitsRow : OpenClaim := { program := "yteciiehnoakgdaa", sum := "12c8cb64dde88da00631ab519d95567b236636d7b7919e7f93fbcb4454f15534", func := "coppice/coppicelaw09.NodeSplits", spec := "nodeSplits", inPlace := ["internal/bytealg.Compare"], apart := false }
def NodeSplitsSaid : Prop := nodeSplitsRow.holds Try.pinned (OpenSpec.ofChange nodeSplitsSpec)

/-- ITS FALSE NEIGHBOUR: 'it returns false'. Refute it at one input. -/
def nodeSplitsWrong : ChangeSpec := { name := "nodeSplits", fn := fun _ => fun
  | [d1, d2, d3] => { results := [.lit (.bool false)], args := [d1, d2, d3] }
  | _ => none }
def NodeSplitsWrongFalsely : Prop := nodeSplitsRow.holds Try.pinned (OpenSpec.ofChange nodeSplitsWrong)

/- THE SECOND FORM. 'bulk': how many values and letters a reading holds, each counted each time it is reached (what is shared counts as often as it is met; a slice's spare places count too). A statement '..UptoSaid' is the law's where the arguments, and the package variables that the reading takes, are together of bulk at most 1048576: NARROWER than '..Said'. Prove '..Said' where nothing that the law and all that it calls make is longer than what came in: it says more and counts as full. Else prove '..UptoSaid'. A law counts once. -/
mutual
def uptoBulk {H : Type} : DataW H → Nat
  | .lit (.string bytes) => bytes.length + 1
  | .lit _ => 1
  | .nil => 1
  | .ptr d => uptoBulk d + 1
  | .slice elems spare => uptoBulkAll elems + uptoBulkAll spare + 1
  | .agg parts => uptoBulkAll parts + 1
  | .iface _ d => uptoBulk d + 1
  | .map entries => uptoBulkEntries entries + 1
  | .held _ => 1
def uptoBulkAll {H : Type} : List (DataW H) → Nat
  | [] => 0
  | d :: r => uptoBulk d + uptoBulkAll r
def uptoBulkEntries {H : Type} : List (Lit × DataW H) → Nat
  | [] => 0
  | x :: r => uptoBulkEntry x + uptoBulkEntries r
def uptoBulkEntry {H : Type} : Lit × DataW H → Nat
  | (.string bytes, d) => bytes.length + uptoBulk d + 1
  | (_, d) => uptoBulk d + 1
 end
def uptoSmall : (H : Type) → List (DataW H) → Bool := fun _ ds => decide (uptoBulkAll ds ≤ 1048576)
def OpenSpec.upto (s : _root_.Go.ChangeSpec) : _root_.Go.OpenSpec := { _root_.Go.OpenSpec.ofChange s with cond := some uptoSmall }

/-- 'coppicelaw09.NodeMay', WHERE WHAT IT READS IS OF BULK AT MOST 1048576: true; the input reads as it did. -/
def nodeMayUptoRow : OpenClaim := { program := "yteciiehnoakgdaa", sum := "12c8cb64dde88da00631ab519d95567b236636d7b7919e7f93fbcb4454f15534", func := "coppice/coppicelaw09.NodeMay", spec := "nodeMay", inPlace := ["internal/bytealg.Compare"], apart := false, narrowed := true }
def NodeMayUptoSaid : Prop := nodeMayUptoRow.holds Try.pinned (OpenSpec.upto nodeMaySpec)

/-- 'coppicelaw09.NodeFinds', WHERE WHAT IT READS IS OF BULK AT MOST 1048576: true; the input reads as it did. -/
def nodeFindsUptoRow : OpenClaim := { program := "yteciiehnoakgdaa", sum := "12c8cb64dde88da00631ab519d95567b236636d7b7919e7f93fbcb4454f15534", func := "coppice/coppicelaw09.NodeFinds", spec := "nodeFinds", inPlace := ["internal/bytealg.Compare"], apart := false, narrowed := true }
def NodeFindsUptoSaid : Prop := nodeFindsUptoRow.holds Try.pinned (OpenSpec.upto nodeFindsSpec)

/-- 'coppicelaw09.NodeClones', WHERE WHAT IT READS IS OF BULK AT MOST 1048576: true; the input reads as it did. -/
def nodeClonesUptoRow : OpenClaim := { program := "yteciiehnoakgdaa", sum := "12c8cb64dde88da00631ab519d95567b236636d7b7919e7f93fbcb4454f15534", func := "coppice/coppicelaw09.NodeClones", spec := "nodeClones", inPlace := ["internal/bytealg.Compare"], apart := false, narrowed := true }
def NodeClonesUptoSaid : Prop := nodeClonesUptoRow.holds Try.pinned (OpenSpec.upto nodeClonesSpec)

/-- 'coppicelaw09.NodeWith', WHERE WHAT IT READS IS OF BULK AT MOST 1048576: true; the input reads as it did. -/
def nodeWithUptoRow : OpenClaim := { program := "yteciiehnoakgdaa", sum := "12c8cb64dde88da00631ab519d95567b236636d7b7919e7f93fbcb4454f15534", func := "coppice/coppicelaw09.NodeWith", spec := "nodeWith", inPlace := ["internal/bytealg.Compare"], apart := false, narrowed := true }
def NodeWithUptoSaid : Prop := nodeWithUptoRow.holds Try.pinned (OpenSpec.upto nodeWithSpec)

/-- 'coppicelaw09.NodeJoined', WHERE WHAT IT READS IS OF BULK AT MOST 1048576: true; the input reads as it did. -/
def nodeJoinedUptoRow : OpenClaim := { program := "yteciiehnoakgdaa", sum := "12c8cb64dde88da00631ab519d95567b236636d7b7919e7f93fbcb4454f15534", func := "coppice/coppicelaw09.NodeJoined", spec := "nodeJoined", inPlace := ["internal/bytealg.Compare"], apart := false, narrowed := true }
def NodeJoinedUptoSaid : Prop := nodeJoinedUptoRow.holds Try.pinned (OpenSpec.upto nodeJoinedSpec)

/-- 'coppicelaw09.NodeSplits', WHERE WHAT IT READS IS OF BULK AT MOST 1048576: true; the input reads as it did. -/
def nodeSplitsUptoRow : OpenClaim := { program := "yteciiehnoakgdaa", sum := "12c8cb64dde88da00631ab519d95567b236636d7b7919e7f93fbcb4454f15534", func := "coppice/coppicelaw09.NodeSplits", spec := "nodeSplits", inPlace := ["internal/bytealg.Compare"], apart := false, narrowed := true }
def NodeSplitsUptoSaid : Prop := nodeSplitsUptoRow.holds Try.pinned (OpenSpec.upto nodeSplitsSpec)

end Rows
end Go.Proofs.Yteciiehnoakgdaa
