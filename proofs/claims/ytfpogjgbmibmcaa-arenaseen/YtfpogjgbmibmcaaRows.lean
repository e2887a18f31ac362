/-
  No cell of these rows narrows 'for every input' (looked for: loops, veiled, ifaces, maps, wideKeys, modest, calm, conditions, laid).
  DERIVED. THE GIVEN ROWS OF THIS SEAT. 5 by the template 'for every input the law returns true; each argument reads behind the call as it read before'; 0 by the template 'total and deterministic' (their statements: YtfpogjgbmibmcaaTotals.lean).
  GIVEN WITH THE SEED: the statements are not yours to turn. If you find one false, say at which input.
  Laid BY PROGRAM, IN A SANDBOX (cutbox-rows.mjs): the forced cells as the released guide's own fill.sh prints them over the translation cbb10fb52e937ab7… (all of the seat's roots in one cut). By AI agents, Wed Nov 11 2026. No macro, syntax, notation, axiom, sorry.
-/
import Derived.Test.YtfpogjgbmibmcaaChecked
import GoSem.Claim
import GoSem.ClaimJoined
import GoSem.ClaimMapViews
import Derived.JoinedTies
import Derived.KernelRfl
namespace Go.Proofs.Ytfpogjgbmibmcaa
/- THE CELL 'sum', in the pinned program and in every row, IS THE sha256 OF THE DUMP (.gsa) THAT YtfpogjgbmibmcaaProg.lean LOADS. Nothing in Lean hashes anything: it is a label: what it is worth is what the hold of that sum in a sandbox is worth. -/
noncomputable def Try.pinned : Pinned := { name := "ytfpogjgbmibmcaa", sum := "cbb10fb52e937ab72eb9ec91ff376a838fd156ddfa89057d842a106c550c0ba8", checked := Try.checked }
namespace Rows
def none {H : Type} : Left H := { results := [], args := [] }

/-- 'coppicelaw10.ArenaPlays': WHATEVER THE INPUT: true; the input reads as it did. -/
def arenaPlaysSpec : ChangeSpec := { name := "arenaPlays", fn := fun _ => fun
  | [d1, d2] => { results := [.lit (.bool true)], args := [d1, d2] }
  | _ => none }
def arenaPlaysRow : OpenClaim := { program := "ytfpogjgbmibmcaa", sum := "cbb10fb52e937ab72eb9ec91ff376a838fd156ddfa89057d842a106c550c0ba8", func := "coppice/coppicelaw10.ArenaPlays", spec := "arenaPlays", inPlace := ["sync/atomic.CompareAndSwapUint64", "sync/atomic.LoadUint64"], apart := false }
def ArenaPlaysSaid : Prop := arenaPlaysRow.holds Try.pinned (OpenSpec.ofChange arenaPlaysSpec)

/-- ITS FALSE NEIGHBOUR: 'it returns false'. Refute it at one input. -/
def arenaPlaysWrong : ChangeSpec := { name := "arenaPlays", fn := fun _ => fun
  | [d1, d2] => { results := [.lit (.bool false)], args := [d1, d2] }
  | _ => none }
def ArenaPlaysWrongFalsely : Prop := arenaPlaysRow.holds Try.pinned (OpenSpec.ofChange arenaPlaysWrong)

/-- 'coppicelaw10.ArenaFills': WHATEVER THE INPUT: true; the input reads as it did. -/
def arenaFillsSpec : ChangeSpec := { name := "arenaFills", fn := fun _ => fun
  | [d1, d2] => { results := [.lit (.bool true)], args := [d1, d2] }
  | _ => none }
def arenaFillsRow : OpenClaim := { program := "ytfpogjgbmibmcaa", sum := "cbb10fb52e937ab72eb9ec91ff376a838fd156ddfa89057d842a106c550c0ba8", func := "coppice/coppicelaw10.ArenaFills", spec := "arenaFills", inPlace := ["sync/atomic.CompareAndSwapUint64", "sync/atomic.LoadUint64"], apart := false }
def ArenaFillsSaid : Prop := arenaFillsRow.holds Try.pinned (OpenSpec.ofChange arenaFillsSpec)

/-- ITS FALSE NEIGHBOUR: 'it returns false'. Refute it at one input. -/
def arenaFillsWrong : ChangeSpec := { name := "arenaFills", fn := fun _ => fun
  | [d1, d2] => { results := [.lit (.bool false)], args := [d1, d2] }
  | _ => none }
def ArenaFillsWrongFalsely : Prop := arenaFillsRow.holds Try.pinned (OpenSpec.ofChange arenaFillsWrong)

/-- 'coppicelaw10.ArenaHolder': WHATEVER THE INPUT: true; the input reads as it did. -/
def arenaHolderSpec : ChangeSpec := { name := "arenaHolder", fn := fun _ => fun
  | [d] => { results := [.lit (.bool true)], args := [d] }
  | _ => none }
def arenaHolderRow : OpenClaim := { program := "ytfpogjgbmibmcaa", sum := "cbb10fb52e937ab72eb9ec91ff376a838fd156ddfa89057d842a106c550c0ba8", func := "coppice/coppicelaw10.ArenaHolder", spec := "arenaHolder", inPlace := ["sync/atomic.CompareAndSwapUint64", "sync/atomic.LoadUint64"], apart := false }
def ArenaHolderSaid : Prop := arenaHolderRow.holds Try.pinned (OpenSpec.ofChange arenaHolderSpec)

/-- ITS FALSE NEIGHBOUR: 'it returns false'. Refute it at one input. -/
def arenaHolderWrong : ChangeSpec := { name := "arenaHolder", fn := fun _ => fun
  | [d] => { results := [.lit (.bool false)], args := [d] }
  | _ => none }
def ArenaHolderWrongFalsely : Prop := arenaHolderRow.holds Try.pinned (OpenSpec.ofChange arenaHolderWrong)

/-- 'coppicelaw10.ArenaApart': WHATEVER THE INPUT: true; the input reads as it did. -/
def arenaApartSpec : ChangeSpec := { name := "arenaApart", fn := fun _ => fun
  | [d1, d2, d3] => { results := [.lit (.bool true)], args := [d1, d2, d3] }
  | _ => none }
def arenaApartRow : OpenClaim := { program := "ytfpogjgbmibmcaa", sum := "cbb10fb52e937ab72eb9ec91ff376a838fd156ddfa89057d842a106c550c0ba8", func := "coppice/coppicelaw10.ArenaApart", spec := "arenaApart", inPlace := ["sync/atomic.CompareAndSwapUint64", "sync/atomic.LoadUint64"], apart := false }
def ArenaApartSaid : Prop := arenaApartRow.holds Try.pinned (OpenSpec.ofChange arenaApartSpec)

/-- ITS FALSE NEIGHBOUR: 'it returns false'. Refute it at one input. -/
def arenaApartWrong : ChangeSpec := { name := "arenaApart", fn := fun _ => fun
  | [d1, d2, d3] => { results := [.lit (.bool false)], args := [d1, d2, d3] }
  | _ => none }
def ArenaApartWrongFalsely : Prop := arenaApartRow.holds Try.pinned (OpenSpec.ofChange arenaApartWrong)

/-- 'coppicelaw10.ArenaSeen': WHATEVER THE INPUT: true; the input reads as it did. -/
def arenaSeenSpec : ChangeSpec := { name := "arenaSeen", fn := fun _ => fun
  | [d1, d2] => { results := [.lit (.bool true)], args := [d1, d2] }
  | _ => none }
def arenaSeenRow : OpenClaim := { program := "ytfpogjgbmibmcaa", sum := "cbb10fb52e937ab72eb9ec91ff376a838fd156ddfa89057d842a106c550c0ba8", func := "coppice/coppicelaw10.ArenaSeen", spec := "arenaSeen", inPlace := ["sync/atomic.CompareAndSwapUint64", "sync/atomic.LoadUint64"], apart := false }
def ArenaSeenSaid : Prop := arenaSeenRow.holds Try.pinned (OpenSpec.ofChange arenaSeenSpec)

/-- ITS FALSE NEIGHBOUR: 'it returns false'. Refute it at one input. -/
def arenaSeenWrong : ChangeSpec := { name := "arenaSeen", fn := fun _ => fun
  | [d1, d2] => { results := [.lit (.bool false)], args := [d1, d2] }
  | _ => none }
def ArenaSeenWrongFalsely : Prop := arenaSeenRow.holds Try.pinned (OpenSpec.ofChange arenaSeenWrong)

/- THE SECOND FORM. 'bulk': how many values and letters a reading holds, each counted each time it is reached (what is shared counts as often as it is met; a slice's spare places count too). A statement '..UptoSaid' is the law's where the arguments, and the package variables that the reading takes, are together of bulk at most 1048576: NARROWER than '..Said'. Prove '..Said' where nothing that the law and all that it calls make is longer than what came in: it says more and counts as full. Else prove '..UptoSaid'. A law counts once. -/
mutual
def uptoBulk {H : Type} : DataW H → Nat
  | .lit (.string bytes) => bytes.length + 1
  | .lit _ => 1
  | .nil => 1
  | .ptr d => uptoBulk d + 1
  | .slice elems spare => uptoBulkAll elems + uptoBulkAll spare + 1
  | .agg parts => uptoBulkAll parts + 1
  | .iface _ d => uptoBulk d + 1
  | .map entries => uptoBulkEntries entries + 1
  | .held _ => 1
def uptoBulkAll {H : Type} : List (DataW H) → Nat
  | [] => 0
  | d :: r => uptoBulk d + uptoBulkAll r
def uptoBulkEntries {H : Type} : List (Lit × DataW H) → Nat
  | [] => 0
  | x :: r => uptoBulkEntry x + uptoBulkEntries r
def uptoBulkEntry {H : Type} : Lit × DataW H → Nat
  | (.string bytes, d) => bytes.length + uptoBulk d + 1
  | (_, d) => uptoBulk d + 1
 end
def uptoSmall : (H : Type) → List (DataW H) → Bool := fun _ ds => decide (uptoBulkAll ds ≤ 1048576)
def OpenSpec.upto (s : _root_.Go.ChangeSpec) : _root_.Go.OpenSpec := { _root_.Go.OpenSpec.ofChange s with cond := some uptoSmall }

/-- 'coppicelaw10.ArenaPlays', WHERE WHAT IT READS IS OF BULK AT MOST 1048576: true; the input reads as it did. -/
def arenaPlaysUptoRow : OpenClaim := { program := "ytfpogjgbmibmcaa", sum := "cbb10fb52e937ab72eb9ec91ff376a838fd156ddfa89057d842a106c550c0ba8", func := "coppice/coppicelaw10.ArenaPlays", spec := "arenaPlays", inPlace := ["sync/atomic.CompareAndSwapUint64", "sync/atomic.LoadUint64"], apart := false, narrowed := true }
def ArenaPlaysUptoSaid : Prop := arenaPlaysUptoRow.holds Try.pinned (OpenSpec.upto arenaPlaysSpec)

/-- 'coppicelaw10.ArenaFills', WHERE WHAT IT READS IS OF BULK AT MOST 1048576: true; the input reads as it did. -/
def arenaFillsUptoRow : OpenClaim := { program := "ytfpogjgbmibmcaa", sum := "cbb10fb52e937ab72eb9ec91ff376a838fd156ddfa89057d842a106c550c0ba8", func := "coppice/coppicelaw10.ArenaFills", spec := "arenaFills", inPlace := ["sync/atomic.CompareAndSwapUint64", "sync/atomic.LoadUint64"], apart := false, narrowed := true }
def ArenaFillsUptoSaid : Prop := arenaFillsUptoRow.holds Try.pinned (OpenSpec.upto arenaFillsSpec)

/-- 'coppicelaw10.ArenaHolder', WHERE WHAT IT READS IS OF BULK AT MOST 1048576: true; the input reads as it did. -/
def arenaHolderUptoRow : OpenClaim := { program := "ytfpogjgbmibmcaa", sum := "cbb10fb52e937ab72eb9ec91ff376a838fd156ddfa89057d842a106c550c0ba8", func := "coppice/coppicelaw10.ArenaHolder", spec := "arenaHolder", inPlace := ["sync/atomic.CompareAndSwapUint64", "sync/atomic.LoadUint64"], apart := false, narrowed := true }
def ArenaHolderUptoSaid : Prop := arenaHolderUptoRow.holds Try.pinned (OpenSpec.upto arenaHolderSpec)

/-- 'coppicelaw10.ArenaApart', WHERE WHAT IT READS IS OF BULK AT MOST 1048576: true; the input reads as it did. -/
def arenaApartUptoRow : OpenClaim := { program := "ytfpogjgbmibmcaa", sum := "cbb10fb52e937ab72eb9ec91ff376a838fd156ddfa89057d842a106c550c0ba8", func := "coppice/coppicelaw10.ArenaApart", spec := "arenaApart", inPlace := ["sync/atomic.CompareAndSwapUint64", "sync/atomic.LoadUint64"], apart := false, narrowed := true }
def ArenaApartUptoSaid : Prop := arenaApartUptoRow.holds Try.pinned (OpenSpec.upto arenaApartSpec)

/-- 'coppicelaw10.ArenaSeen', WHERE WHAT IT READS IS OF BULK AT MOST 1048576: true; the input reads as it did. -/
def arenaSeenUptoRow : OpenClaim := { program := "ytfpogjgbmibmcaa", sum := "cbb10fb52e937ab72eb9ec91ff376a838fd156ddfa89057d842a106c550c0ba8", func := "coppice/coppicelaw10.ArenaSeen", spec := "arenaSeen", inPlace := ["sync/atomic.CompareAndSwapUint64", "sync/atomic.LoadUint64"], apart := false, narrowed := true }
def ArenaSeenUptoSaid : Prop := arenaSeenUptoRow.holds Try.pinned (OpenSpec.upto arenaSeenSpec)

end Rows
end Go.Proofs.Ytfpogjgbmibmcaa
