/- CursorOuts: the walk. -/
import Derived.Test.YteindoemdonagaaG29
import Derived.Test.YteindoemdonagaaG27
import Derived.Test.YteindoemdonagaaG18
import Derived.Deep.MidRow
namespace Go.Proofs.Yteindoemdonagaa
open Go.RowKit

/-- What is told, as it came in. -/
structure IsLays (w : World) (a : Option Addr) (len : Nat) (Kf : Nat → Int) (Af : Nat → Option Addr) (Lf Cf : Nat → Nat) (Zf : Nat → List Int) : Prop where
  cells : ∀ i, i < len → ∃ b o, a = some ⟨b, o, none⟩ ∧ w.rangeAt b (o + i * 2) [.int .i64 (Kf i), .slice (Af i) (Lf i) (Cf i)]
  none : ∀ i, i < len → Af i = none → Lf i = 0 ∧ Cf i = 0
  zlen : ∀ i, i < len → (Zf i).length = Lf i
  row : ∀ i, i < len → Row w .u8 (Af i) (Zf i)
def tot (Lf : Nat → Nat) : Nat → Nat
  | 0 => 0
  | i + 1 => tot Lf i + Lf i
theorem tot_le (Lf : Nat → Nat) {i n : Nat} (h : i ≤ n) : tot Lf i ≤ tot Lf n := by
  induction n with
  | zero => rw [Nat.le_zero.1 h]; exact Nat.le_refl _
  | succ n ih =>
    by_cases hi : i = n + 1
    · rw [hi]; exact Nat.le_refl _
    · exact Nat.le_trans (ih (by omega)) (Nat.le_add_right _ _)
theorem rangeL_below {B g o : Nat} {w w' : World} {cs : List Value} (hb : Below B w w') (hg : g < B) (h : w.rangeAt g o cs) : w'.rangeAt g o cs :=
  fun j v hv => (hb.cell (p := ⟨g, o + j, none⟩) hg).trans (h j v hv)
theorem row_ltL {w : World} {k : IntKind} {a : Option Addr} {zs : List Int} (h : Row w k a zs) {x : Addr} (hx : a = some x) (hp : 0 < zs.length) : x.block < w.heap.size := by
  obtain ⟨b, o, h1, h2, _⟩ := h.cons hp
  rw [hx] at h1
  cases h1
  exact h2
theorem three_newL (W : World) (a b c : Obj) : ((W.alloc a).alloc b |>.alloc c).heap[W.heap.size]? = some a ∧ ((W.alloc a).alloc b |>.alloc c).heap[W.heap.size + 1]? = some b ∧ ((W.alloc a).alloc b |>.alloc c).heap[W.heap.size + 2]? = some c := by
  have hs : ∀ (V : World) (x : Obj) (k : Nat), V.heap.size = k → (V.alloc x).heap[k]? = some x := fun V x k h => by rw [← h]; exact World.alloc_heap_new V x
  have ho : ∀ (V : World) (x : Obj) (k : Nat), k < V.heap.size → (V.alloc x).heap[k]? = V.heap[k]? := fun V x k h => Below.heap_alloc V x k h
  refine ⟨?_, ?_, hs _ _ _ (by simp)⟩
  · rw [ho _ _ _ (by simp only [World.size_alloc]; omega), ho _ _ _ (by simp)]; exact hs _ _ _ rfl
  · rw [ho _ _ _ (by simp)]; exact hs _ _ _ (by simp)
theorem IsOut.snk {ts : List Int} {fail : Int} {g B gc : Nat} {r : Value} {W : World} {x : OutS (Nat × List Int)} {F : Nat → Prop} (h : IsOut (SnkWd ts fail g B) B gc r W x F) : ∃ M, SnkAt W B M ts fail g x.t.1 x.t.2 := by
  obtain ⟨wv, off, M, _, hr, _⟩ := h
  exact ⟨M, hr⟩
theorem snk_push (ts : List Int) (fail : Int) (x : OutS (Nat × List Int)) (h : x.t.2.length = x.at') : (pushP (snkWf ts fail) x).2.2.t.2.length = (pushP (snkWf ts fail) x).2.2.at' := by
  by_cases hx : x.err ≠ 0 ∨ x.b = []
  · have hp : pushP (snkWf ts fail) x = (0, x.err, x) := by unfold pushP; rw [if_pos hx]
    rw [hp]; exact h
  · rw [push_step (Classical.byContradiction fun e => hx (.inl e)) (fun e => hx (.inr e)) _ rfl]
    unfold snkWf
    split
    · rw [if_neg (by simp)]
      simp only [Int.toNat_zero, Nat.add_zero]
      exact h
    · have hm := mostN_le ts (x.t.1 + 1) (x.b.take 4096).length
      rw [if_neg (by simp only; omega)]
      simp only [Int.toNat_natCast, List.length_append, List.length_take] at hm ⊢
      omega
theorem snk_flush (ts : List Int) (fail : Int) : ∀ (fu : Nat) (x : OutS (Nat × List Int)), x.t.2.length = x.at' → (flushF (snkWf ts fail) fu x).t.2.length = (flushF (snkWf ts fail) fu x).at'
  | 0, x, h => h
  | fu + 1, x, h => by
    rw [flushF]
    split
    · exact h
    · exact snk_flush ts fail fu _ (snk_push ts fail x h)
theorem snk_op (ts : List Int) (fail : Int) (k : Int) (ys : List Int) (x : OutS (Nat × List Int)) (h : x.t.2.length = x.at') : (opO (snkWf ts fail) k ys x).t.2.length = (opO (snkWf ts fail) k ys x).at' := by
  unfold opO
  split
  · unfold layP
    split
    · exact h
    · exact h
  · split
    · exact snk_push ts fail x h
    · split
      · exact snk_flush ts fail _ x h
      · exact h

end Go.Proofs.Yteindoemdonagaa
