/- pair: Between. -/
import Derived.Test.YtjnldmbjeiejdaaKBase
import Derived.Test.YtjnldmbjeiejdaaKClone
namespace Go.Proofs.Ytjnldmbjeiejdaa
open Go.RowKit

theorem drewB {B : Nat} {w w' : World} (h : Below B w w') (m : Nat) : Below B w (w'.drewN m) := ⟨h.os, h.tape, h.output, h.size, h.block⟩
theorem ofDrew {B : Nat} {w w' : World} {m : Nat} (h : Below B (w.drewN m) w') : Below B w w' := ⟨h.os, h.tape, h.output, h.size, h.block⟩
theorem Row.drewR {w : World} {k : IntKind} {a : Option Addr} {zs : List Int} (h : Row w k a zs) (m : Nat) : Row (w.drewN m) k a zs := h

def btE (a b : List Int) : Int := if cmpI a b < 0 then 0 else 51
def btL (a b : List Int) : List Int := if cmpI a b < 0 then betw a b else []


end Go.Proofs.Ytjnldmbjeiejdaa
