/-
  No cell of these rows narrows 'for every input' (looked for: loops, veiled, ifaces, maps, wideKeys, modest, calm, conditions, laid).
  DERIVED. THE GIVEN ROWS OF THIS SEAT. 5 by the template 'for every input the law returns true; each argument reads behind the call as it read before'; 0 by the template 'total and deterministic' (their statements: YtpfmfobnanhcdaaTotals.lean).
  GIVEN WITH THE SEED: the statements are not yours to turn. If you find one false, say at which input.
  Laid BY PROGRAM, IN A SANDBOX (cutbox-rows.mjs): the forced cells as the released guide's own fill.sh prints them over the translation 3ed67f1d76bbc034… (all of the seat's roots in one cut). By AI agents, Wed Nov 11 2026. No macro, syntax, notation, axiom, sorry.
-/
import Derived.Test.YtpfmfobnanhcdaaChecked
import GoSem.Claim
import GoSem.ClaimJoined
import GoSem.ClaimMapViews
import Derived.JoinedTies
import Derived.KernelRfl
namespace Go.Proofs.Ytpfmfobnanhcdaa
/- THE CELL 'sum', in the pinned program and in every row, IS THE sha256 OF THE DUMP (.gsa) THAT YtpfmfobnanhcdaaProg.lean LOADS. Nothing in Lean hashes anything: it is a label: what it is worth is what the hold of that sum in a sandbox is worth. -/
noncomputable def Try.pinned : Pinned := { name := "ytpfmfobnanhcdaa", sum := "3ed67f1d76bbc0344e54828792f791bd104a13a4d78b3de99c2c42797193b33d", checked := Try.checked }
namespace Rows
def none {H : Type} : Left H := { results := [], args := [] }

/-- 'coppicelaw12.DescentPlays': WHATEVER THE INPUT: true; the input reads as it did. -/
def descentPlaysSpec : ChangeSpec := { name := "descentPlays", fn := fun _ => fun
  | [d] => { results := [.lit (.bool true)], args := [d] }
  | _ => none }
def descentPlaysRow : OpenClaim := { program := "ytpfmfobnanhcdaa", sum := "3ed67f1d76bbc0344e54828792f791bd104a13a4d78b3de99c2c42797193b33d", func := "coppice/coppicelaw12.DescentPlays", spec := "descentPlays", inPlace := ["sync/atomic.LoadUint64", "internal/bytealg.Compare", "sync/atomic.CompareAndSwapUint64"], unfollowed := true, recurses := true, apart := false }
def DescentPlaysSaid : Prop := descentPlaysRow.holds Try.pinned (OpenSpec.ofChange descentPlaysSpec)

/-- ITS FALSE NEIGHBOUR: 'it returns false'. Refute it at one input. -/
def descentPlaysWrong : ChangeSpec := { name := "descentPlays", fn := fun _ => fun
  | [d] => { results := [.lit (.bool false)], args := [d] }
  | _ => none }
def DescentPlaysWrongFalsely : Prop := descentPlaysRow.holds Try.pinned (OpenSpec.ofChange descentPlaysWrong)

/-- 'coppicelaw12.DescentTrue': WHATEVER THE INPUT: true; the input reads as it did. -/
def descentTrueSpec : ChangeSpec := { name := "descentTrue", fn := fun _ => fun
  | [d] => { results := [.lit (.bool true)], args := [d] }
  | _ => none }
def descentTrueRow : OpenClaim := { program := "ytpfmfobnanhcdaa", sum := "3ed67f1d76bbc0344e54828792f791bd104a13a4d78b3de99c2c42797193b33d", func := "coppice/coppicelaw12.DescentTrue", spec := "descentTrue", inPlace := ["sync/atomic.LoadUint64", "internal/bytealg.Compare", "sync/atomic.CompareAndSwapUint64"], unfollowed := true, recurses := true, apart := false }
def DescentTrueSaid : Prop := descentTrueRow.holds Try.pinned (OpenSpec.ofChange descentTrueSpec)

/-- ITS FALSE NEIGHBOUR: 'it returns false'. Refute it at one input. -/
def descentTrueWrong : ChangeSpec := { name := "descentTrue", fn := fun _ => fun
  | [d] => { results := [.lit (.bool false)], args := [d] }
  | _ => none }
def DescentTrueWrongFalsely : Prop := descentTrueRow.holds Try.pinned (OpenSpec.ofChange descentTrueWrong)

/-- 'coppicelaw09.NodeSplits': WHATEVER THE INPUT: true; the input reads as it did. -/
def nodeSplitsSpec : ChangeSpec := { name := "nodeSplits", fn := fun _ => fun
  | [d1, d2, d3] => { results := [.lit (.bool true)], args := [d1, d2, d3] }
  | _ => none }
def nodeSplitsRow : OpenClaim := { program := "ytpfmfobnanhcdaa", sum := "3ed67f1d76bbc0344e54828792f791bd104a13a4d78b3de99c2c42797193b33d", func := "coppice/coppicelaw09.NodeSplits", spec := "nodeSplits", inPlace := ["internal/bytealg.Compare"], apart := false }
def NodeSplitsSaid : Prop := nodeSplitsRow.holds Try.pinned (OpenSpec.ofChange nodeSplitsSpec)

/-- ITS FALSE NEIGHBOUR: 'it returns false'. Refute it at one input. -/
def nodeSplitsWrong : ChangeSpec := { name := "nodeSplits", fn := fun _ => fun
  | [d1, d2, d3] => { results := [.lit (.bool false)], args := [d1, d2, d3] }
  | _ => none }
def NodeSplitsWrongFalsely : Prop := nodeSplitsRow.holds Try.pinned (OpenSpec.ofChange nodeSplitsWrong)

/-- 'coppicelaw09.NodeHalves': WHATEVER THE INPUT: true; the input reads as it did. -/
def nodeHalvesSpec : ChangeSpec := { name := "nodeHalves", fn := fun _ => fun
  | [d1, d2, d3] => { results := [.lit (.bool true)], args := [d1, d2, d3] }
  | _ => none }
def nodeHalvesRow : OpenClaim := { program := "ytpfmfobnanhcdaa", sum := "3ed67f1d76bbc0344e54828792f791bd104a13a4d78b3de99c2c42797193b33d", func := "coppice/coppicelaw09.NodeHalves", spec := "nodeHalves", inPlace := ["internal/bytealg.Compare"], apart := false }
def NodeHalvesSaid : Prop := nodeHalvesRow.holds Try.pinned (OpenSpec.ofChange nodeHalvesSpec)

/-- ITS FALSE NEIGHBOUR: 'it returns false'. Refute it at one input. -/
def nodeHalvesWrong : ChangeSpec := { name := "nodeHalves", fn := fun _ => fun
  | [d1, d2, d3] => { results := [.lit (.bool false)], args := [d1, d2, d3] }
  | _ => none }
def NodeHalvesWrongFalsely : Prop := nodeHalvesRow.holds Try.pinned (OpenSpec.ofChange nodeHalvesWrong)

/-- 'coppicelaw09.NodeStays': WHATEVER THE INPUT: true; the input reads as it did. -/
def nodeStaysSpec : ChangeSpec := { name := "nodeStays", fn := fun _ => fun
  | [d] => { results := [.lit (.bool true)], args := [d] }
  | _ => none }
def nodeStaysRow : OpenClaim := { program := "ytpfmfobnanhcdaa", sum := "3ed67f1d76bbc0344e54828792f791bd104a13a4d78b3de99c2c42797193b33d", func := "coppice/coppicelaw09.NodeStays", spec := "nodeStays", inPlace := ["internal/bytealg.Compare"], apart := false }
def NodeStaysSaid : Prop := nodeStaysRow.holds Try.pinned (OpenSpec.ofChange nodeStaysSpec)

/-- ITS FALSE NEIGHBOUR: 'it returns false'. Refute it at one input. -/
def nodeStaysWrong : ChangeSpec := { name := "nodeStays", fn := fun _ => fun
  | [d] => { results := [.lit (.bool false)], args := [d] }
  | _ => none }
def NodeStaysWrongFalsely : Prop := nodeStaysRow.holds Try.pinned (OpenSpec.ofChange nodeStaysWrong)

/- THE SECOND FORM. 'bulk': how many values and letters a reading holds, each counted each time it is reached (what is shared counts as often as it is met; a slice's spare places count too). A statement '..UptoSaid' is the law's where the arguments, and the package variables that the reading takes, are together of bulk at most 1048576: NARROWER than '..Said'. Prove '..Said' where nothing that the law and all that it calls make is longer than what came in: it says more and counts as full. Else prove '..UptoSaid'. A law counts once. -/
mutual
def uptoBulk {H : Type} : DataW H → Nat
  | .lit (.string bytes) => bytes.length + 1
  | .lit _ => 1
  | .nil => 1
  | .ptr d => uptoBulk d + 1
  | .slice elems spare => uptoBulkAll elems + uptoBulkAll spare + 1
  | .agg parts => uptoBulkAll parts + 1
  | .iface _ d => uptoBulk d + 1
  | .map entries => uptoBulkEntries entries + 1
  | .held _ => 1
def uptoBulkAll {H : Type} : List (DataW H) → Nat
  | [] => 0
  | d :: r => uptoBulk d + uptoBulkAll r
def uptoBulkEntries {H : Type} : List (Lit × DataW H) → Nat
  | [] => 0
  | x :: r => uptoBulkEntry x + uptoBulkEntries r
def uptoBulkEntry {H : Type} : Lit × DataW H → Nat
  | (.string bytes, d) => bytes.length + uptoBulk d + 1
  | (_, d) => uptoBulk d + 1
 end
def uptoSmall : (H : Type) → List (DataW H) → Bool := fun _ ds => decide (uptoBulkAll ds ≤ 1048576)
def OpenSpec.upto (s : _root_.Go.ChangeSpec) : _root_.Go.OpenSpec := { _root_.Go.OpenSpec.ofChange s with cond := some uptoSmall }

/-- 'coppicelaw12.DescentPlays', WHERE WHAT IT READS IS OF BULK AT MOST 1048576: true; the input reads as it did. -/
def descentPlaysUptoRow : OpenClaim := { program := "ytpfmfobnanhcdaa", sum := "3ed67f1d76bbc0344e54828792f791bd104a13a4d78b3de99c2c42797193b33d", func := "coppice/coppicelaw12.DescentPlays", spec := "descentPlays", inPlace := ["sync/atomic.LoadUint64", "internal/bytealg.Compare", "sync/atomic.CompareAndSwapUint64"], unfollowed := true, recurses := true, apart := false, narrowed := true }
def DescentPlaysUptoSaid : Prop := descentPlaysUptoRow.holds Try.pinned (OpenSpec.upto descentPlaysSpec)

/-- 'coppicelaw12.DescentTrue', WHERE WHAT IT READS IS OF BULK AT MOST 1048576: true; the input reads as it did. -/
def descentTrueUptoRow : OpenClaim := { program := "ytpfmfobnanhcdaa", sum := "3ed67f1d76bbc0344e54828792f791bd104a13a4d78b3de99c2c42797193b33d", func := "coppice/coppicelaw12.DescentTrue", spec := "descentTrue", inPlace := ["sync/atomic.LoadUint64", "internal/bytealg.Compare", "sync/atomic.CompareAndSwapUint64"], unfollowed := true, recurses := true, apart := false, narrowed := true }
def DescentTrueUptoSaid : Prop := descentTrueUptoRow.holds Try.pinned (OpenSpec.upto descentTrueSpec)

/-- 'coppicelaw09.NodeSplits', WHERE WHAT IT READS IS OF BULK AT MOST 1048576: true; the input reads as it did. -/
def nodeSplitsUptoRow : OpenClaim := { program := "ytpfmfobnanhcdaa", sum := "3ed67f1d76bbc0344e54828792f791bd104a13a4d78b3de99c2c42797193b33d", func := "coppice/coppicelaw09.NodeSplits", spec := "nodeSplits", inPlace := ["internal/bytealg.Compare"], apart := false, narrowed := true }
def NodeSplitsUptoSaid : Prop := nodeSplitsUptoRow.holds Try.pinned (OpenSpec.upto nodeSplitsSpec)

/-- 'coppicelaw09.NodeHalves', WHERE WHAT IT READS IS OF BULK AT MOST 1048576: true; the input reads as it did. -/
def nodeHalvesUptoRow : OpenClaim := { program := "ytpfmfobnanhcdaa", sum := "3ed67f1d76bbc0344e54828792f791bd104a13a4d78b3de99c2c42797193b33d", func := "coppice/coppicelaw09.NodeHalves", spec := "nodeHalves", inPlace := ["internal/bytealg.Compare"], apart := false, narrowed := true }
def NodeHalvesUptoSaid : Prop := nodeHalvesUptoRow.holds Try.pinned (OpenSpec.upto nodeHalvesSpec)

/-- 'coppicelaw09.NodeStays', WHERE WHAT IT READS IS OF BULK AT MOST 1048576: true; the input reads as it did. -/
def nodeStaysUptoRow : OpenClaim := { program := "ytpfmfobnanhcdaa", sum := "3ed67f1d76bbc0344e54828792f791bd104a13a4d78b3de99c2c42797193b33d", func := "coppice/coppicelaw09.NodeStays", spec := "nodeStays", inPlace := ["internal/bytealg.Compare"], apart := false, narrowed := true }
def NodeStaysUptoSaid : Prop := nodeStaysUptoRow.holds Try.pinned (OpenSpec.upto nodeStaysSpec)

end Rows
end Go.Proofs.Ytpfmfobnanhcdaa
