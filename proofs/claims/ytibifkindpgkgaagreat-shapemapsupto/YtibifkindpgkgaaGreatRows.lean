/-
  No cell of these rows narrows 'for every input' (looked for: loops, veiled, ifaces, maps, wideKeys, modest, calm, conditions, laid).
  DERIVED. THE GIVEN ROWS OF THIS SEAT. 5 by the template 'for every input the law returns true; each argument reads behind the call as it read before'; 0 by the template 'total and deterministic' (their statements: YtibifkindpgkgaaGreatTotals.lean).
  GIVEN WITH THE SEED: the statements are not yours to turn. If you find one false, say at which input.
  Laid BY PROGRAM, IN A SANDBOX (cutbox-rows.mjs): the forced cells as the released guide's own fill.sh prints them over the translation 3f1d34c27dfce2f7… (all of the seat's roots in one cut). By AI agents, Wed Nov 11 2026. No macro, syntax, notation, axiom, sorry.
-/
import Derived.Test.YtibifkindpgkgaaGreatChecked
import GoSem.Claim
import GoSem.ClaimJoined
import GoSem.ClaimMapViews
import Derived.JoinedTies
import Derived.KernelRfl
namespace Go.Proofs.YtibifkindpgkgaaGreat
/- THE CELL 'sum', in the pinned program and in every row, IS THE sha256 OF THE DUMP (.gsa) THAT YtibifkindpgkgaaGreatProg.lean LOADS. Nothing in Lean hashes anything: it is a label: what it is worth is what the hold of that sum in a sandbox is worth. -/
noncomputable def Tryz.pinned : Pinned := { name := "ytibifkindpgkgaagreat", sum := "3f1d34c27dfce2f7ae9786b7631c81746031a0c124568eaa6776bf262615e118", checked := Tryz.checked }
namespace Rows
def none {H : Type} : Left H := { results := [], args := [] }

/-- 'coppicelaw11.ShapeMaps': WHATEVER THE INPUT: true; the input reads as it did. -/
def shapeMapsSpec : ChangeSpec := { name := "shapeMaps", fn := fun _ => fun
  | [d] => { results := [.lit (.bool true)], args := [d] }
  | _ => none }
def shapeMapsRow : OpenClaim := { program := "ytibifkindpgkgaagreat", sum := "3f1d34c27dfce2f7ae9786b7631c81746031a0c124568eaa6776bf262615e118", func := "coppice/coppicelaw11.ShapeMaps", spec := "shapeMaps", inPlace := ["sync/atomic.LoadUint64", "internal/bytealg.Compare", "sync/atomic.CompareAndSwapUint64"], apart := false }
def ShapeMapsSaid : Prop := shapeMapsRow.holds Tryz.pinned (OpenSpec.ofChange shapeMapsSpec)

/-- ITS FALSE NEIGHBOUR: 'it returns false'. Refute it at one input. -/
def shapeMapsWrong : ChangeSpec := { name := "shapeMaps", fn := fun _ => fun
  | [d] => { results := [.lit (.bool false)], args := [d] }
  | _ => none }
def ShapeMapsWrongFalsely : Prop := shapeMapsRow.holds Tryz.pinned (OpenSpec.ofChange shapeMapsWrong)

/-- 'coppicelaw11.ShapePlaces': WHATEVER THE INPUT: true; the input reads as it did. -/
def shapePlacesSpec : ChangeSpec := { name := "shapePlaces", fn := fun _ => fun
  | [d] => { results := [.lit (.bool true)], args := [d] }
  | _ => none }
def shapePlacesRow : OpenClaim := { program := "ytibifkindpgkgaagreat", sum := "3f1d34c27dfce2f7ae9786b7631c81746031a0c124568eaa6776bf262615e118", func := "coppice/coppicelaw11.ShapePlaces", spec := "shapePlaces", inPlace := ["sync/atomic.LoadUint64", "internal/bytealg.Compare", "sync/atomic.CompareAndSwapUint64"], apart := false }
def ShapePlacesSaid : Prop := shapePlacesRow.holds Tryz.pinned (OpenSpec.ofChange shapePlacesSpec)

/-- ITS FALSE NEIGHBOUR: 'it returns false'. Refute it at one input. -/
def shapePlacesWrong : ChangeSpec := { name := "shapePlaces", fn := fun _ => fun
  | [d] => { results := [.lit (.bool false)], args := [d] }
  | _ => none }
def ShapePlacesWrongFalsely : Prop := shapePlacesRow.holds Tryz.pinned (OpenSpec.ofChange shapePlacesWrong)

/-- 'coppicelaw12.DescentAlone': WHATEVER THE INPUT: true; the input reads as it did. -/
def descentAloneSpec : ChangeSpec := { name := "descentAlone", fn := fun _ => fun
  | [d] => { results := [.lit (.bool true)], args := [d] }
  | _ => none }
def descentAloneRow : OpenClaim := { program := "ytibifkindpgkgaagreat", sum := "3f1d34c27dfce2f7ae9786b7631c81746031a0c124568eaa6776bf262615e118", func := "coppice/coppicelaw12.DescentAlone", spec := "descentAlone", inPlace := ["sync/atomic.LoadUint64", "internal/bytealg.Compare", "sync/atomic.CompareAndSwapUint64"], unfollowed := true, recurses := true, apart := false }
def DescentAloneSaid : Prop := descentAloneRow.holds Tryz.pinned (OpenSpec.ofChange descentAloneSpec)

/-- ITS FALSE NEIGHBOUR: 'it returns false'. Refute it at one input. -/
def descentAloneWrong : ChangeSpec := { name := "descentAlone", fn := fun _ => fun
  | [d] => { results := [.lit (.bool false)], args := [d] }
  | _ => none }
def DescentAloneWrongFalsely : Prop := descentAloneRow.holds Tryz.pinned (OpenSpec.ofChange descentAloneWrong)

/-- 'coppicelaw13.GetMoment': WHATEVER THE INPUT: true; the input reads as it did. -/
def getMomentSpec : ChangeSpec := { name := "getMoment", fn := fun _ => fun
  | [d] => { results := [.lit (.bool true)], args := [d] }
  | _ => none }
def getMomentRow : OpenClaim := { program := "ytibifkindpgkgaagreat", sum := "3f1d34c27dfce2f7ae9786b7631c81746031a0c124568eaa6776bf262615e118", func := "coppice/coppicelaw13.GetMoment", spec := "getMoment", inPlace := ["sync/atomic.CompareAndSwapUint64", "sync/atomic.LoadUint64", "internal/bytealg.Compare"], unfollowed := true, recurses := true, apart := false }
def GetMomentSaid : Prop := getMomentRow.holds Tryz.pinned (OpenSpec.ofChange getMomentSpec)

/-- ITS FALSE NEIGHBOUR: 'it returns false'. Refute it at one input. -/
def getMomentWrong : ChangeSpec := { name := "getMoment", fn := fun _ => fun
  | [d] => { results := [.lit (.bool false)], args := [d] }
  | _ => none }
def GetMomentWrongFalsely : Prop := getMomentRow.holds Tryz.pinned (OpenSpec.ofChange getMomentWrong)

/-- 'coppicelaw13.GetAlone': WHATEVER THE INPUT: true; the input reads as it did. -/
def getAloneSpec : ChangeSpec := { name := "getAlone", fn := fun _ => fun
  | [d1, d2] => { results := [.lit (.bool true)], args := [d1, d2] }
  | _ => none }
def getAloneRow : OpenClaim := { program := "ytibifkindpgkgaagreat", sum := "3f1d34c27dfce2f7ae9786b7631c81746031a0c124568eaa6776bf262615e118", func := "coppice/coppicelaw13.GetAlone", spec := "getAlone", inPlace := ["sync/atomic.CompareAndSwapUint64", "sync/atomic.LoadUint64", "internal/bytealg.Compare"], unfollowed := true, recurses := true, apart := false }
def GetAloneSaid : Prop := getAloneRow.holds Tryz.pinned (OpenSpec.ofChange getAloneSpec)

/-- ITS FALSE NEIGHBOUR: 'it returns false'. Refute it at one input. -/
def getAloneWrong : ChangeSpec := { name := "getAlone", fn := fun _ => fun
  | [d1, d2] => { results := [.lit (.bool false)], args := [d1, d2] }
  | _ => none }
def GetAloneWrongFalsely : Prop := getAloneRow.holds Tryz.pinned (OpenSpec.ofChange getAloneWrong)

/- THE SECOND FORM. 'bulk': how many values and letters a reading holds, each counted each time it is reached (what is shared counts as often as it is met; a slice's spare places count too). A statement '..UptoSaid' is the law's where the arguments, and the package variables that the reading takes, are together of bulk at most 1048576: NARROWER than '..Said'. Prove '..Said' where nothing that the law and all that it calls make is longer than what came in: it says more and counts as full. Else prove '..UptoSaid'. A law counts once. -/
mutual
def uptoBulk {H : Type} : DataW H → Nat
  | .lit (.string bytes) => bytes.length + 1
  | .lit _ => 1
  | .nil => 1
  | .ptr d => uptoBulk d + 1
  | .slice elems spare => uptoBulkAll elems + uptoBulkAll spare + 1
  | .agg parts => uptoBulkAll parts + 1
  | .iface _ d => uptoBulk d + 1
  | .map entries => uptoBulkEntries entries + 1
  | .held _ => 1
def uptoBulkAll {H : Type} : List (DataW H) → Nat
  | [] => 0
  | d :: r => uptoBulk d + uptoBulkAll r
def uptoBulkEntries {H : Type} : List (Lit × DataW H) → Nat
  | [] => 0
  | x :: r => uptoBulkEntry x + uptoBulkEntries r
def uptoBulkEntry {H : Type} : Lit × DataW H → Nat
  | (.string bytes, d) => bytes.length + uptoBulk d + 1
  | (_, d) => uptoBulk d + 1
 end
def uptoSmall : (H : Type) → List (DataW H) → Bool := fun _ ds => decide (uptoBulkAll ds ≤ 1048576)
def OpenSpec.upto (s : _root_.Go.ChangeSpec) : _root_.Go.OpenSpec := { _root_.Go.OpenSpec.ofChange s with cond := some uptoSmall }

/-- 'coppicelaw11.ShapeMaps', WHERE WHAT IT READS IS OF BULK AT MOST 1048576: true; the input reads as it did. -/
def shapeMapsUptoRow : OpenClaim := { program := "ytibifkindpgkgaagreat", sum := "3f1d34c27dfce2f7ae9786b7631c81746031a0c124568eaa6776bf262615e118", func := "coppice/coppicelaw11.ShapeMaps", spec := "shapeMaps", inPlace := ["sync/atomic.LoadUint64", "internal/bytealg.Compare", "sync/atomic.CompareAndSwapUint64"], apart := false, narrowed := true }
def ShapeMapsUptoSaid : Prop := shapeMapsUptoRow.holds Tryz.pinned (OpenSpec.upto shapeMapsSpec)

/-- 'coppicelaw11.ShapePlaces', WHERE WHAT IT READS IS OF BULK AT MOST 1048576: true; the input reads as it did. -/
def shapePlacesUptoRow : OpenClaim := { program := "ytibifkindpgkgaagreat", sum := "3f1d34c27dfce2f7ae9786b7631c81746031a0c124568eaa6776bf262615e118", func := "coppice/coppicelaw11.ShapePlaces", spec := "shapePlaces", inPlace := ["sync/atomic.LoadUint64", "internal/bytealg.Compare", "sync/atomic.CompareAndSwapUint64"], apart := false, narrowed := true }
def ShapePlacesUptoSaid : Prop := shapePlacesUptoRow.holds Tryz.pinned (OpenSpec.upto shapePlacesSpec)

/-- 'coppicelaw12.DescentAlone', WHERE WHAT IT READS IS OF BULK AT MOST 1048576: true; the input reads as it did. -/
def descentAloneUptoRow : OpenClaim := { program := "ytibifkindpgkgaagreat", sum := "3f1d34c27dfce2f7ae9786b7631c81746031a0c124568eaa6776bf262615e118", func := "coppice/coppicelaw12.DescentAlone", spec := "descentAlone", inPlace := ["sync/atomic.LoadUint64", "internal/bytealg.Compare", "sync/atomic.CompareAndSwapUint64"], unfollowed := true, recurses := true, apart := false, narrowed := true }
def DescentAloneUptoSaid : Prop := descentAloneUptoRow.holds Tryz.pinned (OpenSpec.upto descentAloneSpec)

/-- 'coppicelaw13.GetMoment', WHERE WHAT IT READS IS OF BULK AT MOST 1048576: true; the input reads as it did. -/
def getMomentUptoRow : OpenClaim := { program := "ytibifkindpgkgaagreat", sum := "3f1d34c27dfce2f7ae9786b7631c81746031a0c124568eaa6776bf262615e118", func := "coppice/coppicelaw13.GetMoment", spec := "getMoment", inPlace := ["sync/atomic.CompareAndSwapUint64", "sync/atomic.LoadUint64", "internal/bytealg.Compare"], unfollowed := true, recurses := true, apart := false, narrowed := true }
def GetMomentUptoSaid : Prop := getMomentUptoRow.holds Tryz.pinned (OpenSpec.upto getMomentSpec)

/-- 'coppicelaw13.GetAlone', WHERE WHAT IT READS IS OF BULK AT MOST 1048576: true; the input reads as it did. -/
def getAloneUptoRow : OpenClaim := { program := "ytibifkindpgkgaagreat", sum := "3f1d34c27dfce2f7ae9786b7631c81746031a0c124568eaa6776bf262615e118", func := "coppice/coppicelaw13.GetAlone", spec := "getAlone", inPlace := ["sync/atomic.CompareAndSwapUint64", "sync/atomic.LoadUint64", "internal/bytealg.Compare"], unfollowed := true, recurses := true, apart := false, narrowed := true }
def GetAloneUptoSaid : Prop := getAloneUptoRow.holds Tryz.pinned (OpenSpec.upto getAloneSpec)

end Rows
end Go.Proofs.YtibifkindpgkgaaGreat
