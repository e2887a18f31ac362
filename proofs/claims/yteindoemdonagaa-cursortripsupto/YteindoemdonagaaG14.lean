/- What 'spoil' does: it turns one's own row alone. -/
import Derived.Test.YteindoemdonagaaG7
import Derived.Test.YteindoemdonagaaG6
namespace Go.Proofs.Yteindoemdonagaa
open Go.RowKit

theorem isByte_set {cur : Array Value} (h : ∀ u ∈ cur.toList, IsByte u) (k : Nat) (x : Int) : ∀ u ∈ (cur.setIfInBounds k (.int .u8 x)).toList, IsByte u := by
  intro u hu
  rw [Array.toList_setIfInBounds] at hu
  rcases List.mem_or_eq_of_mem_set hu with h1 | h1
  · exact h u h1
  · exact ⟨x, h1⟩

end Go.Proofs.Yteindoemdonagaa
