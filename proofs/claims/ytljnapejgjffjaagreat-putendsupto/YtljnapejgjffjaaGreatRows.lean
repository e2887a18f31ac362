/-
  No cell of these rows narrows 'for every input' (looked for: loops, veiled, ifaces, maps, wideKeys, modest, calm, conditions, laid).
  DERIVED. THE GIVEN ROWS OF THIS SEAT. 5 by the template 'for every input the law returns true; each argument reads behind the call as it read before'; 0 by the template 'total and deterministic' (their statements: YtljnapejgjffjaaGreatTotals.lean).
  GIVEN WITH THE SEED: the statements are not yours to turn. If you find one false, say at which input.
  Laid BY PROGRAM, IN A SANDBOX (cutbox-rows.mjs): the forced cells as the released guide's own fill.sh prints them over the translation c9a4af8ffe3076df… (all of the seat's roots in one cut). By AI agents, Wed Nov 11 2026. No macro, syntax, notation, axiom, sorry.
-/
import Derived.Test.YtljnapejgjffjaaGreatChecked
import GoSem.Claim
import GoSem.ClaimJoined
import GoSem.ClaimMapViews
import Derived.JoinedTies
import Derived.KernelRfl
namespace Go.Proofs.YtljnapejgjffjaaGreat
/- THE CELL 'sum', in the pinned program and in every row, IS THE sha256 OF THE DUMP (.gsa) THAT YtljnapejgjffjaaGreatProg.lean LOADS. Nothing in Lean hashes anything: it is a label: what it is worth is what the hold of that sum in a sandbox is worth. -/
noncomputable def Tryz.pinned : Pinned := { name := "ytljnapejgjffjaagreat", sum := "c9a4af8ffe3076df18503da81b35d15fb7fba5e0dd8fd766b6fdb8ce3fca286c", checked := Tryz.checked }
namespace Rows
def none {H : Type} : Left H := { results := [], args := [] }

/-- 'coppicelaw14.PutPlays': WHATEVER THE INPUT: true; the input reads as it did. -/
def putPlaysSpec : ChangeSpec := { name := "putPlays", fn := fun _ => fun
  | [d1, d2] => { results := [.lit (.bool true)], args := [d1, d2] }
  | _ => none }
def putPlaysRow : OpenClaim := { program := "ytljnapejgjffjaagreat", sum := "c9a4af8ffe3076df18503da81b35d15fb7fba5e0dd8fd766b6fdb8ce3fca286c", func := "coppice/coppicelaw14.PutPlays", spec := "putPlays", inPlace := ["sync/atomic.LoadUint64", "internal/bytealg.Compare", "sync/atomic.CompareAndSwapUint64"], unfollowed := true, recurses := true, apart := false }
def PutPlaysSaid : Prop := putPlaysRow.holds Tryz.pinned (OpenSpec.ofChange putPlaysSpec)

/-- ITS FALSE NEIGHBOUR: 'it returns false'. Refute it at one input. -/
def putPlaysWrong : ChangeSpec := { name := "putPlays", fn := fun _ => fun
  | [d1, d2] => { results := [.lit (.bool false)], args := [d1, d2] }
  | _ => none }
def PutPlaysWrongFalsely : Prop := putPlaysRow.holds Tryz.pinned (OpenSpec.ofChange putPlaysWrong)

/-- 'coppicelaw14.PutEnds': WHATEVER THE INPUT: true; the input reads as it did. -/
def putEndsSpec : ChangeSpec := { name := "putEnds", fn := fun _ => fun
  | [d1, d2] => { results := [.lit (.bool true)], args := [d1, d2] }
  | _ => none }
def putEndsRow : OpenClaim := { program := "ytljnapejgjffjaagreat", sum := "c9a4af8ffe3076df18503da81b35d15fb7fba5e0dd8fd766b6fdb8ce3fca286c", func := "coppice/coppicelaw14.PutEnds", spec := "putEnds", inPlace := ["sync/atomic.LoadUint64", "internal/bytealg.Compare", "sync/atomic.CompareAndSwapUint64"], unfollowed := true, recurses := true, apart := false }
def PutEndsSaid : Prop := putEndsRow.holds Tryz.pinned (OpenSpec.ofChange putEndsSpec)

/-- ITS FALSE NEIGHBOUR: 'it returns false'. Refute it at one input. -/
def putEndsWrong : ChangeSpec := { name := "putEnds", fn := fun _ => fun
  | [d1, d2] => { results := [.lit (.bool false)], args := [d1, d2] }
  | _ => none }
def PutEndsWrongFalsely : Prop := putEndsRow.holds Tryz.pinned (OpenSpec.ofChange putEndsWrong)

/-- 'coppicelaw15.DelPlays': WHATEVER THE INPUT: true; the input reads as it did. -/
def delPlaysSpec : ChangeSpec := { name := "delPlays", fn := fun _ => fun
  | [d1, d2] => { results := [.lit (.bool true)], args := [d1, d2] }
  | _ => none }
def delPlaysRow : OpenClaim := { program := "ytljnapejgjffjaagreat", sum := "c9a4af8ffe3076df18503da81b35d15fb7fba5e0dd8fd766b6fdb8ce3fca286c", func := "coppice/coppicelaw15.DelPlays", spec := "delPlays", inPlace := ["sync/atomic.LoadUint64", "internal/bytealg.Compare", "sync/atomic.CompareAndSwapUint64"], unfollowed := true, recurses := true, apart := false }
def DelPlaysSaid : Prop := delPlaysRow.holds Tryz.pinned (OpenSpec.ofChange delPlaysSpec)

/-- ITS FALSE NEIGHBOUR: 'it returns false'. Refute it at one input. -/
def delPlaysWrong : ChangeSpec := { name := "delPlays", fn := fun _ => fun
  | [d1, d2] => { results := [.lit (.bool false)], args := [d1, d2] }
  | _ => none }
def DelPlaysWrongFalsely : Prop := delPlaysRow.holds Tryz.pinned (OpenSpec.ofChange delPlaysWrong)

/-- 'coppicelaw15.DelSound': WHATEVER THE INPUT: true; the input reads as it did. -/
def delSoundSpec : ChangeSpec := { name := "delSound", fn := fun _ => fun
  | [d1, d2] => { results := [.lit (.bool true)], args := [d1, d2] }
  | _ => none }
def delSoundRow : OpenClaim := { program := "ytljnapejgjffjaagreat", sum := "c9a4af8ffe3076df18503da81b35d15fb7fba5e0dd8fd766b6fdb8ce3fca286c", func := "coppice/coppicelaw15.DelSound", spec := "delSound", inPlace := ["sync/atomic.LoadUint64", "internal/bytealg.Compare", "sync/atomic.CompareAndSwapUint64"], unfollowed := true, recurses := true, apart := false }
def DelSoundSaid : Prop := delSoundRow.holds Tryz.pinned (OpenSpec.ofChange delSoundSpec)

/-- ITS FALSE NEIGHBOUR: 'it returns false'. Refute it at one input. -/
def delSoundWrong : ChangeSpec := { name := "delSound", fn := fun _ => fun
  | [d1, d2] => { results := [.lit (.bool false)], args := [d1, d2] }
  | _ => none }
def DelSoundWrongFalsely : Prop := delSoundRow.holds Tryz.pinned (OpenSpec.ofChange delSoundWrong)

/-- 'coppicelaw15.DelBack': WHATEVER THE INPUT: true; the input reads as it did. -/
def delBackSpec : ChangeSpec := { name := "delBack", fn := fun _ => fun
  | [d1, d2, d3] => { results := [.lit (.bool true)], args := [d1, d2, d3] }
  | _ => none }
def delBackRow : OpenClaim := { program := "ytljnapejgjffjaagreat", sum := "c9a4af8ffe3076df18503da81b35d15fb7fba5e0dd8fd766b6fdb8ce3fca286c", func := "coppice/coppicelaw15.DelBack", spec := "delBack", inPlace := ["sync/atomic.LoadUint64", "internal/bytealg.Compare", "sync/atomic.CompareAndSwapUint64"], unfollowed := true, recurses := true, apart := false }
def DelBackSaid : Prop := delBackRow.holds Tryz.pinned (OpenSpec.ofChange delBackSpec)

/-- ITS FALSE NEIGHBOUR: 'it returns false'. Refute it at one input. -/
def delBackWrong : ChangeSpec := { name := "delBack", fn := fun _ => fun
  | [d1, d2, d3] => { results := [.lit (.bool false)], args := [d1, d2, d3] }
  | _ => none }
def DelBackWrongFalsely : Prop := delBackRow.holds Tryz.pinned (OpenSpec.ofChange delBackWrong)

/- THE SECOND FORM. 'bulk': how many values and letters a reading holds, each counted each time it is reached (what is shared counts as often as it is met; a slice's spare places count too). A statement '..UptoSaid' is the law's where the arguments, and the package variables that the reading takes, are together of bulk at most 1048576: NARROWER than '..Said'. Prove '..Said' where nothing that the law and all that it calls make is longer than what came in: it says more and counts as full. Else prove '..UptoSaid'. A law counts once. -/
mutual
def uptoBulk {H : Type} : DataW H → Nat
  | .lit (.string bytes) => bytes.length + 1
  | .lit _ => 1
  | .nil => 1
  | .ptr d => uptoBulk d + 1
  | .slice elems spare => uptoBulkAll elems + uptoBulkAll spare + 1
  | .agg parts => uptoBulkAll parts + 1
  | .iface _ d => uptoBulk d + 1
  | .map entries => uptoBulkEntries entries + 1
  | .held _ => 1
def uptoBulkAll {H : Type} : List (DataW H) → Nat
  | [] => 0
  | d :: r => uptoBulk d + uptoBulkAll r
def uptoBulkEntries {H : Type} : List (Lit × DataW H) → Nat
  | [] => 0
  | x :: r => uptoBulkEntry x + uptoBulkEntries r
def uptoBulkEntry {H : Type} : Lit × DataW H → Nat
  | (.string bytes, d) => bytes.length + uptoBulk d + 1
  | (_, d) => uptoBulk d + 1
 end
def uptoSmall : (H : Type) → List (DataW H) → Bool := fun _ ds => decide (uptoBulkAll ds ≤ 1048576)
def OpenSpec.upto (s : _root_.Go.ChangeSpec) : _root_.Go.OpenSpec := { _root_.Go.OpenSpec.ofChange s with cond := some uptoSmall }

/-- 'coppicelaw14.PutPlays', WHERE WHAT IT READS IS OF BULK AT MOST 1048576: true; the input reads as it did. -/
def putPlaysUptoRow : OpenClaim := { program := "ytljnapejgjffjaagreat", sum := "c9a4af8ffe3076df18503da81b35d15fb7fba5e0dd8fd766b6fdb8ce3fca286c", func := "coppice/coppicelaw14.PutPlays", spec := "putPlays", inPlace := ["sync/atomic.LoadUint64", "internal/bytealg.Compare", "sync/atomic.CompareAndSwapUint64"], unfollowed := true, recurses := true, apart := false, narrowed := true }
def PutPlaysUptoSaid : Prop := putPlaysUptoRow.holds Tryz.pinned (OpenSpec.upto putPlaysSpec)

/-- 'coppicelaw14.PutEnds', WHERE WHAT IT READS IS OF BULK AT MOST 1048576: true; the input reads as it did. -/
def putEndsUptoRow : OpenClaim := { program := "ytljnapejgjffjaagreat", sum := "c9a4af8ffe3076df18503da81b35d15fb7fba5e0dd8fd766b6fdb8ce3fca286c", func := "coppice/coppicelaw14.PutEnds", spec := "putEnds", inPlace := ["sync/atomic.LoadUint64", "internal/bytealg.Compare", "sync/atomic.CompareAndSwapUint64"], unfollowed := true, recurses := true, apart := false, narrowed := true }
def PutEndsUptoSaid : Prop := putEndsUptoRow.holds Tryz.pinned (OpenSpec.upto putEndsSpec)

/-- 'coppicelaw15.DelPlays', WHERE WHAT IT READS IS OF BULK AT MOST 1048576: true; the input reads as it did. -/
def delPlaysUptoRow : OpenClaim := { program := "ytljnapejgjffjaagreat", sum := "c9a4af8ffe3076df18503da81b35d15fb7fba5e0dd8fd766b6fdb8ce3fca286c", func := "coppice/coppicelaw15.DelPlays", spec := "delPlays", inPlace := ["sync/atomic.LoadUint64", "internal/bytealg.Compare", "sync/atomic.CompareAndSwapUint64"], unfollowed := true, recurses := true, apart := false, narrowed := true }
def DelPlaysUptoSaid : Prop := delPlaysUptoRow.holds Tryz.pinned (OpenSpec.upto delPlaysSpec)

/-- 'coppicelaw15.DelSound', WHERE WHAT IT READS IS OF BULK AT MOST 1048576: true; the input reads as it did. -/
def delSoundUptoRow : OpenClaim := { program := "ytljnapejgjffjaagreat", sum := "c9a4af8ffe3076df18503da81b35d15fb7fba5e0dd8fd766b6fdb8ce3fca286c", func := "coppice/coppicelaw15.DelSound", spec := "delSound", inPlace := ["sync/atomic.LoadUint64", "internal/bytealg.Compare", "sync/atomic.CompareAndSwapUint64"], unfollowed := true, recurses := true, apart := false, narrowed := true }
def DelSoundUptoSaid : Prop := delSoundUptoRow.holds Tryz.pinned (OpenSpec.upto delSoundSpec)

/-- 'coppicelaw15.DelBack', WHERE WHAT IT READS IS OF BULK AT MOST 1048576: true; the input reads as it did. -/
def delBackUptoRow : OpenClaim := { program := "ytljnapejgjffjaagreat", sum := "c9a4af8ffe3076df18503da81b35d15fb7fba5e0dd8fd766b6fdb8ce3fca286c", func := "coppice/coppicelaw15.DelBack", spec := "delBack", inPlace := ["sync/atomic.LoadUint64", "internal/bytealg.Compare", "sync/atomic.CompareAndSwapUint64"], unfollowed := true, recurses := true, apart := false, narrowed := true }
def DelBackUptoSaid : Prop := delBackUptoRow.holds Tryz.pinned (OpenSpec.upto delBackSpec)

end Rows
end Go.Proofs.YtljnapejgjffjaaGreat
