/- The document's source is a reader, its sink a writer. -/
import Derived.Test.YteindoemdonagaaG23
import Derived.Test.YteindoemdonagaaG19
namespace Go.Proofs.Yteindoemdonagaa
open Go.RowKit

end Go.Proofs.Yteindoemdonagaa

namespace Go.Proofs.Yteindoemdonagaa
open Go.RowKit

section
variable {τ : Type} {wf : τ → List Int → Int × Int × τ} {cnt sz : τ → Nat} {f : FuncId} {recv : Value} {B g g2 : Nat} {Wd : World → τ → (Nat → Prop) → Prop} {W W' : World} {x : OutS τ} {F S : Nat → Prop}
end

end Go.Proofs.Yteindoemdonagaa
