/- Texts of one's own. -/
import Derived.Test.YtealejbfloacpaaGreatB16
import Derived.Test.YtealejbfloacpaaGreatB9
import Derived.Test.YtealejbfloacpaaGreatB12
import Derived.Deep.CutBlock
namespace Go.Proofs.YtealejbfloacpaaGreat
open Go.RowKit
set_option maxRecDepth 100000
/-- While what came out is spoiled: the boxes stand, and the lists are as they may be. -/
structure NS (w W : World) (N M bh bb : Nat) (lv ri : Int) (ha ka va ca : Option Addr) (hc kc vc cc lh lk lw lc : Nat) : Prop where
  bxh : W.heap[bh]? = some (.cells #[.int .i64 lv, .slice ha lh hc, .int .i64 ri] 29 (0, 0))
  bxb : W.heap[bb]? = some (.cells #[.slice ka lk kc, .slice va lw vc, .slice ca lc cc] 33 (0, 0))
  h : Bk W N M ha lh
  k : TBk W N M ka lk
  c : IBk W N M ca lc
  up : Upd (fun b => N ≤ b) w W
section
variable {w W : World} {N M bh bb : Nat} {lv ri : Int} {ha ka va ca : Option Addr} {hc kc vc cc lh lk lw lc g k : Nat} {cur : Array Value}
theorem NS.nil (s : NS w W N M bh bb lv ri ha ka va ca hc kc vc cc lh lk lw lc) (hN : N ≤ g) (hg : W.heap[g]? = some (.cells cur 23 (0, 0))) : NS w (W.setCell ⟨g, k, none⟩ (.slice none 0 0)) N M bh bb lv ri ha ka va ca hc kc vc cc lh lk lw lc :=
  ⟨(Below.heap_setCell _ _ _ _ (fun e => by have := s.bxh; rw [e, hg] at this; simp at this)).trans s.bxh, (Below.heap_setCell _ _ _ _ (fun e => by have := s.bxb; rw [e, hg] at this; simp at this)).trans s.bxb, s.h.other hg (by decide), s.k.nil hg, s.c.other hg (by decide), s.up.trans ((Upd.refl _ W).setCell _ _ (fun _ => hN))⟩
theorem NS.int (s : NS w W N M bh bb lv ri ha ka va ca hc kc vc cc lh lk lw lc) (hN : N ≤ g) (hg : W.heap[g]? = some (.cells cur 3 (0, 0))) (x : Int) : NS w (W.setCell ⟨g, k, none⟩ (.int .i64 x)) N M bh bb lv ri ha ka va ca hc kc vc cc lh lk lw lc :=
  ⟨(Below.heap_setCell _ _ _ _ (fun e => by have := s.bxh; rw [e, hg] at this; simp at this)).trans s.bxh, (Below.heap_setCell _ _ _ _ (fun e => by have := s.bxb; rw [e, hg] at this; simp at this)).trans s.bxb, s.h.other hg (by decide), s.k.other hg (by decide) (by decide), s.c.int hg x, s.up.trans ((Upd.refl _ W).setCell _ _ (fun _ => hN))⟩
end
section
variable {K : Nat → Prop} {W : World} {P AX AY : Nat} {s : AS}
end
end Go.Proofs.YtealejbfloacpaaGreat
