/- Texts of one's own. -/
import Derived.Test.YtljnapejgjffjaaGreatH27
namespace Go.Proofs.YtljnapejgjffjaaGreat
open Go.RowKit
set_option maxRecDepth 100000
theorem RX.below {W W' : World} {A : Nat} {F : Nat → Prop} {s : AS} (h : RX W A F s) (hb : Below W.heap.size W W') : RX W' A F s := h.upd (S := Noth) (Upd.of_below hb _) (fun _ _ e => e)
theorem RX.drewN {W : World} {A : Nat} {F : Nat → Prop} {s : AS} (h : RX W A F s) (m : Nat) : RX (W.drewN m) A F s := h.upd (S := Noth) (upd_drewN _ _ _) (fun _ _ e => e)
section
variable {W : World} {P A : Nat} {F : Nat → Prop} {s : AS} {id : Int} {a0 a1 a2 a3 a4 a5 a6 a7 a8 a9 a10 a11 a12 a13 a14 : Value}
end
end Go.Proofs.YtljnapejgjffjaaGreat
