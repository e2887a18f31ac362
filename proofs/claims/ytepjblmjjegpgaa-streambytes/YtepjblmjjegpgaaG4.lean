/- What each of the taker's functions does to the world. -/
import Derived.Test.YtepjblmjjegpgaaRows
import Derived.Test.YtepjblmjjegpgaaG1
import Derived.WalkKit
import Derived.WalkSpells
import Derived.WalkLawsBesides
import Derived.RegionTactic
namespace Go.Proofs.Ytepjblmjjegpgaa
open Go.RowKit

section
variable {w : World} {b : Nat} {n t : Int} {wh wr : Bool}
end

end Go.Proofs.Ytepjblmjjegpgaa
