/- pair: Read. -/
import Derived.Test.YtepjblmjjegpgaaG26
import Derived.Deep.RegionHeld3
import Derived.BigRegion
import Derived.Handy
namespace Go.Proofs.Ytepjblmjjegpgaa
open Go.RowKit

/-- An entry's two slices in a block. -/
def E2 (W : World) (g : Nat) (k v : Value) : Prop := W.heap[g]? = some (.cells #[k, v] 35 (0, 0))
theorem E2.cells {W : World} {g : Nat} {k v : Value} (h : E2 W g k v) : W.cell? ⟨g, 0, none⟩ = some k ∧ W.cell? ⟨g, 1, none⟩ = some v := by
  unfold E2 at h
  refine ⟨?_, ?_⟩ <;> (rw [cell_of_row _ _ _ _ _ _ h]; rfl)
theorem E2.fr {W : World} {g : Nat} {k v : Value} (h : E2 W g k v) (j : Nat) : W.frozen? ⟨g, j, none⟩ = false := by unfold E2 at h; simp [World.frozen?, h]
theorem E2.below {W W' : World} {g : Nat} {k v : Value} (h : E2 W g k v) (hb : Below W.heap.size W W') : E2 W' g k v := (hb.block g (lt_of_block h)).trans h
theorem E2.set {W : World} {g : Nat} {k v : Value} (h : E2 W g k v) (k' v' : Value) : E2 ((W.setCell ⟨g, 0, none⟩ k').setCell ⟨g, 1, none⟩ v') g k' v' := by
  have h1 : (W.setCell ⟨g, 0, none⟩ k').heap[g]? = some (.cells #[k', v] 35 (0, 0)) := block_setCell h 0 _
  exact block_setCell h1 1 _

/-- What Read told: an entry of one's own, a place, an error. -/
def RdPost (w : World) (K V : List Int) (pl : Nat) (er : Int) (e : Ending) (w' : World) : Prop :=
  ∃ ka kc va vc M, e = .returned (.tuple #[.agg #[.slice ka K.length kc, .slice va V.length vc], .int .i64 (pl : Int), .int .i64 er]) ∧ OwnB w' w.heap.size 5 (.slice ka K.length kc) K ∧ OwnB w' M 5 (.slice va V.length vc) V ∧ w.heap.size ≤ M ∧ M ≤ w'.heap.size ∧ (∀ i, (Value.slice ka K.length kc).ownBlock = some i → i < M) ∧ Below w.heap.size w w'

end Go.Proofs.Ytepjblmjjegpgaa
