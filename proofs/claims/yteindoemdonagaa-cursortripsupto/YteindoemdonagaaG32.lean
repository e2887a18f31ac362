/- CursorIns: the walk. -/
import Derived.Test.YteindoemdonagaaG29
import Derived.Test.YteindoemdonagaaG30
import Derived.Deep.MidRow
namespace Go.Proofs.Yteindoemdonagaa
open Go.RowKit

theorem range_below {B g o : Nat} {w w' : World} {cs : List Value} (hb : Below B w w') (hg : g < B) (h : w.rangeAt g o cs) : w'.rangeAt g o cs :=
  fun j v hv => (hb.cell (p := ⟨g, o + j, none⟩) hg).trans (h j v hv)
/-- What is asked, as it came in. -/
structure IsAsks (w : World) (a : Option Addr) (len : Nat) (Kf Nf : Nat → Int) : Prop where
  cells : ∀ i, i < len → ∃ b o, a = some ⟨b, o, none⟩ ∧ w.rangeAt b (o + i * 2) [.int .i64 (Kf i), .int .i64 (Nf i)]
  top : ∀ i, i < len → Nf i ≤ 9223372036854775807

theorem IsIn.src {zs gs : List Int} {fail : Int} {eager : Bool} {g B gc : Nat} {M0 : Nat → Prop} {r : Value} {W : World} {x : InS (Nat × Nat)} {F : Nat → Prop} (h : IsIn (SrcRd zs gs fail eager g B M0) B gc r W x F) : SrcAt W M0 zs gs fail eager g x.s.1 x.s.2 := by
  obtain ⟨hv, M, _, hr, _⟩ := h
  exact hr.2.1
theorem three_new (W : World) (a b c : Obj) : ((W.alloc a).alloc b |>.alloc c).heap[W.heap.size]? = some a ∧ ((W.alloc a).alloc b |>.alloc c).heap[W.heap.size + 1]? = some b ∧ ((W.alloc a).alloc b |>.alloc c).heap[W.heap.size + 2]? = some c := by
  have hs : ∀ (V : World) (x : Obj) (k : Nat), V.heap.size = k → (V.alloc x).heap[k]? = some x := fun V x k h => by rw [← h]; exact World.alloc_heap_new V x
  have ho : ∀ (V : World) (x : Obj) (k : Nat), k < V.heap.size → (V.alloc x).heap[k]? = V.heap[k]? := fun V x k h => Below.heap_alloc V x k h
  refine ⟨?_, ?_, hs _ _ _ (by simp)⟩
  · rw [ho _ _ _ (by simp only [World.size_alloc]; omega), ho _ _ _ (by simp)]; exact hs _ _ _ rfl
  · rw [ho _ _ _ (by simp)]; exact hs _ _ _ (by simp)

end Go.Proofs.Yteindoemdonagaa
