/- Both Ins are asked the same: they answer alike. -/
import Derived.Test.YteindoemdonagaaG29
import Derived.Test.YteindoemdonagaaG14
import Derived.Test.YteindoemdonagaaG6
namespace Go.Proofs.Yteindoemdonagaa
open Go.RowKit

/-- The state behind what is asked. -/
def opP {σ : Type} (RD : Nat → σ → Int × Int × List Int × σ) (k n : Int) (x : InS σ) : InS σ :=
  if k = 0 then (byteP RD x).2.2 else if k = 1 then (bytesP RD n x).2.2 else if k = 2 then (numP RD x).2.2 else if k = 3 then (endP RD x).2.2 else x
theorem op_ok {σ : Type} {RD : Nat → σ → Int × Int × List Int × σ} {cnt m vol : σ → Nat} {f : FuncId} {recv : Value} {B : Nat} {Rd : World → σ → (Nat → Prop) → Prop} (X : RFam RD cnt m vol f recv B Rd) (k n : Int) (x : InS σ) (C l : Nat) (hx : InOk cnt m vol C l x) : InOk cnt m vol (C + 200) l (opP RD k n x) := by
  unfold opP
  split
  · exact byte_ok X x C l hx
  · split
    · exact bytes_ok X n x C l hx
    · split
      · exact num_ok X x C l hx
      · split
        · exact end_ok X x C l hx
        · exact hx.mono (by omega)

section
variable {σ : Type} {RD : Nat → σ → Int × Int × List Int × σ} {cnt m vol : σ → Nat} {f1 f2 : FuncId} {recv1 recv2 : Value} {B : Nat} {Rd1 Rd2 : World → σ → (Nat → Prop) → Prop} {gc gd g2 most : Nat} {r : Value} {W0 W W1 W2 : World} {x x' : InS σ} {F G F1 G1 : Nat → Prop}
end

theorem OwnB.max {w : World} {base : Nat} {e : TypeId} {v : Value} {zs : List Int} (h : OwnB w base e v zs) : zs.length ≤ maxLen := by
  rcases h with ⟨_, h⟩ | ⟨g, cap, cur, _, _, _, h4, h5, _⟩
  · rw [h]; exact Nat.zero_le _
  · exact Nat.le_trans h4 h5

end Go.Proofs.Yteindoemdonagaa
