/- Texts of one's own. -/
import Derived.Test.YtealejbfloacpaaGreatM12
import Derived.Test.YtealejbfloacpaaGreatM17
import Derived.Test.YtealejbfloacpaaGreatM11
import Derived.Test.YtealejbfloacpaaGreatM13
import Derived.Deep.CutBlock
namespace Go.Proofs.YtealejbfloacpaaGreat
open Go.RowKit
set_option maxRecDepth 100000
theorem Nd.zero_own' (W : World) (N : Nat) : Nd.zero.Own W N := ⟨OwnB.nil _ _ _, ⟨B8.nil, Nat.zero_le _⟩, ⟨World.ownsRow_nil _ _ _ _, fun x hx => (by cases hx), fun x hx => (by cases hx)⟩, ⟨World.ownsRow_nil _ _ _ _, fun x hx => (by cases hx), fun x hx => (by cases hx)⟩, World.ownsRow_nil _ _ _ _, Nat.zero_le _, Nat.zero_le _, Nat.zero_le _⟩
end Go.Proofs.YtealejbfloacpaaGreat
