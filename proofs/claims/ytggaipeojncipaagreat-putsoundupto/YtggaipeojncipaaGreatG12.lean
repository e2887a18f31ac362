/- Texts of one's own. -/
import Derived.Test.YtggaipeojncipaaGreatG11
import Derived.Test.YtggaipeojncipaaGreatG10
namespace Go.Proofs.YtggaipeojncipaaGreat
open Go.RowKit
set_option maxRecDepth 100000
def cutAt (k : Option Addr) (n c : Nat) : Option Addr := if c = n then k else k.map (·.add n)
end Go.Proofs.YtggaipeojncipaaGreat
