/- Texts of one's own. -/
import Derived.Test.YtealejbfloacpaaGreatB33
import Derived.WalkMore
import Derived.Deep.LoopGhost
namespace Go.Proofs.YtealejbfloacpaaGreat
open Go.RowKit
set_option maxRecDepth 100000
def Bxs (w : World) (b : Nat) : Prop := w.heap[b]? = some (.cells #[.bool false, .int .i64 0, .int .i64 0, .int .i64 0, .int .i64 0, .int .i64 0] 42 (0, 0)) ∧ w.heap[b + 1]? = some (.cells #[.bool false, .int .i64 0, .int .i64 0, .int .i64 0, .int .i64 0, .int .i64 0] 42 (0, 0))
theorem Bxs.below {w w' : World} {b : Nat} (h : Bxs w b) (hb : Below w.heap.size w w') : Bxs w' b := ⟨(hb.block _ (lt_of_block h.1)).trans h.1, (hb.block _ (lt_of_block h.2)).trans h.2⟩
theorem Bxs.upd {w w' : World} {b : Nat} {S : Nat → Prop} (h : Bxs w b) (hu : Upd S w w') (h1 : ¬ S b) (h2 : ¬ S (b + 1)) : Bxs w' b := ⟨hu.heap h.1 h1, hu.heap h.2 h2⟩
section
variable {W : World} {X : Nat → Prop} {B m N A : Nat} {nd lf inn fl bk : Int} {s : AS} {F : Nat → Prop}
end
end Go.Proofs.YtealejbfloacpaaGreat
