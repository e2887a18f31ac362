/- What Read does: it answers what 'scan' says, and turns nothing that was there. -/
import Derived.Test.YtepjblmjjegpgaaG4
import Derived.Deep.LoopGhost
namespace Go.Proofs.Ytepjblmjjegpgaa
open Go.RowKit

end Go.Proofs.Ytepjblmjjegpgaa
