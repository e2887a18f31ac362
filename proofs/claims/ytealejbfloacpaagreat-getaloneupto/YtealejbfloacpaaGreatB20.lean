/- Texts of one's own. -/
import Derived.Test.YtealejbfloacpaaGreatB13
import Derived.Test.YtealejbfloacpaaGreatB17
import Derived.Deep.CutBlock
import Derived.Test.YtealejbfloacpaaGreatB12
import Derived.Test.YtealejbfloacpaaGreatB14
namespace Go.Proofs.YtealejbfloacpaaGreat
open Go.RowKit
set_option maxRecDepth 100000
abbrev z3 : Array Value := #[.slice none 0 0, .slice none 0 0, .slice none 0 0]
/-- The boxes of halves. -/
structure HB (W : World) (b B : Nat) (nc lc rc : Array Value) : Prop where
  n : W.heap[b]? = some (.cells nc 35 (0, 0))
  o1 : W.heap[b + 1]? = some (.cells z3 33 (0, 0))
  o2 : W.heap[b + 1 + 1]? = some (.cells z3 33 (0, 0))
  l : W.heap[B]? = some (.cells lc 33 (0, 0))
  r : W.heap[B + 1]? = some (.cells rc 33 (0, 0))
  lt : b + 2 < B
section
variable {W W' : World} {b B : Nat} {nc lc rc : Array Value}
theorem HB.below (h : HB W b B nc lc rc) (hb : Below W.heap.size W W') : HB W' b B nc lc rc :=
  ⟨(hb.block _ (lt_of_block h.n)).trans h.n, (hb.block _ (lt_of_block h.o1)).trans h.o1, (hb.block _ (lt_of_block h.o2)).trans h.o2, (hb.block _ (lt_of_block h.l)).trans h.l, (hb.block _ (lt_of_block h.r)).trans h.r, h.lt⟩
theorem HB.setR (h : HB W b B nc lc rc) (i : Nat) (v : Value) : HB (W.setCell ⟨B + 1, i, none⟩ v) b B nc lc (rc.setIfInBounds i v) := by
  have hlt := h.lt
  exact ⟨by rw [Below.heap_setCell _ _ _ _ (by simp only; omega)]; exact h.n, by rw [Below.heap_setCell _ _ _ _ (by simp only; omega)]; exact h.o1, by rw [Below.heap_setCell _ _ _ _ (by simp only; omega)]; exact h.o2, by rw [Below.heap_setCell _ _ _ _ (by simp only; omega)]; exact h.l, block_setCell h.r i v, hlt⟩
end
end Go.Proofs.YtealejbfloacpaaGreat

namespace Go.Proofs.YtealejbfloacpaaGreat
open Go.RowKit
set_option maxRecDepth 100000
theorem Nd.zero_own' (W : World) (N : Nat) : Nd.zero.Own W N := ⟨OwnB.nil _ _ _, ⟨B8.nil, Nat.zero_le _⟩, ⟨World.ownsRow_nil _ _ _ _, fun x hx => (by cases hx), fun x hx => (by cases hx)⟩, ⟨World.ownsRow_nil _ _ _ _, fun x hx => (by cases hx), fun x hx => (by cases hx)⟩, World.ownsRow_nil _ _ _ _, Nat.zero_le _, Nat.zero_le _, Nat.zero_le _⟩
end Go.Proofs.YtealejbfloacpaaGreat
