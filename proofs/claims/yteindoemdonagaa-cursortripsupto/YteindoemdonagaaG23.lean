/- The document's sink. -/
import Derived.Test.YteindoemdonagaaG22
namespace Go.Proofs.Yteindoemdonagaa
open Go.RowKit

end Go.Proofs.Yteindoemdonagaa
