/- Texts of one's own. -/
import Derived.Test.YtealejbfloacpaaGreatM22
import Derived.Test.YtealejbfloacpaaGreatM5
import Derived.Deep.CutBlock
import Derived.Maps.OwnSet
import Derived.Test.YtealejbfloacpaaGreatM3
namespace Go.Proofs.YtealejbfloacpaaGreat
open Go.RowKit
set_option maxRecDepth 100000
theorem Nd.zero_own (W : World) (N : Nat) : Nd.zero.Own W N := ⟨OwnB.nil _ _ _, ⟨B8.nil, Nat.zero_le _⟩, tl_own_nil _ _, tl_own_nil _ _, World.ownsRow_nil _ _ _ _, Nat.zero_le _, Nat.zero_le _, Nat.zero_le _⟩
theorem PX.below {W W' : World} {A : Nat} {F : Nat → Prop} {s : AS} (h : PX W A F s) (hb : Below W.heap.size W W') : PX W' A F s := h.upd (S := Noth) (Upd.of_below hb _) (fun _ _ e => e)
end Go.Proofs.YtealejbfloacpaaGreat
namespace Go.Proofs.YtealejbfloacpaaGreat
open Go.RowKit
set_option maxRecDepth 100000
structure Sp where
 id : Int
 low : Tx
 n : Nd
section
variable {W W' : World} {X : Nat → Prop} {B m N A : Nat} {ga la : Option Addr} {gc lc : Nat} {nd lf inn fl bk : Int} {s : AS} {O : List (List Sp)} {ov : List IL} {cur : List Sp}
end
end Go.Proofs.YtealejbfloacpaaGreat
namespace Go.Proofs.YtealejbfloacpaaGreat
open Go.RowKit
set_option maxRecDepth 100000
def rpt (b : Bool) (id er lv no en : Int) : Value := .agg #[.bool b, .int .i64 id, .int .i64 er, .int .i64 lv, .int .i64 no, .int .i64 en]
section
variable {W : World} {X : Nat → Prop} {B m N A : Nat} {ga : Option Addr} {gc : Nat} {nd lf inn fl bk : Int} {s : AS} {O : List (List Sp)} {ov : List IL}
end
end Go.Proofs.YtealejbfloacpaaGreat
