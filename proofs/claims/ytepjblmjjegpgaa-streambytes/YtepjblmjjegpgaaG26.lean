/- pair: readHead, fault, keyFault, join. -/
import Derived.Test.YtepjblmjjegpgaaG17
import Derived.Test.YtepjblmjjegpgaaG6
import Derived.Test.YtepjblmjjegpgaaG24
import Derived.Test.YtepjblmjjegpgaaG14
import Derived.Laws.CopyOwn
namespace Go.Proofs.Ytepjblmjjegpgaa
open Go.RowKit

theorem fits8_b8 {zs : List Int} (h : B8 zs) : Fits8 zs := fun i => by
  by_cases hi : i < zs.length
  · have := h zs[i] (List.getElem_mem hi)
    simpa [List.getD, hi] using this
  · simp [List.getD, hi]

end Go.Proofs.Ytepjblmjjegpgaa

namespace Go.Proofs.Ytepjblmjjegpgaa
open Go.RowKit

def zeros (n : Nat) : List Value := List.replicate n (.int .u8 0)
theorem zeros_len (n : Nat) : (zeros n).length = n := by simp [zeros]
theorem zeros_bytes (n : Nat) : ∀ u ∈ zeros n, IsByte u := fun _ hu => ⟨0, List.eq_of_mem_replicate hu⟩
theorem made_zeros (n : Nat) : madeCells (Value.int .u8 0).cells (n * 1) = (zeros n).toArray := by
  apply Array.ext
  · simp [madeCells, zeros]
  · intro i h1 h2
    simp [madeCells, zeros, Value.cells, Nat.mod_one]
theorem run_zeros (n : Nat) (hn : n ≤ 140737488355328) (w : World) : (Instr.makeSlice 25 (.int .i64 (n : Int)) (.int .i64 (n : Int))).run Try.prog w = .ok (.slice (some ⟨w.heap.size, 0, none⟩) n n) (w.alloc (.cells (zeros n).toArray 5)) := by
  obtain ⟨i0, hi, hz0, hz1, hz2⟩ := info_parts infoByte'
  have h := run_make (P := Try.prog) w 25 5 i0 (.int .u8 0) Try.underlying25 hi hz0 .i64 .i64 (n : Int) (n : Int) (by omega) (by omega) (by rw [hz2]; omega) (by omega)
  rw [hz1, Int.toNat_natCast] at h
  rw [made_zeros] at h
  exact h
theorem szU8 : (Try.prog.info? 5).map (·.size) = some 1 := by kernel_rfl

theorem splice2 (X Y : List Int) (n m : Nat) (hX : X.length = n) (hY : Y.length = m) : splice (splice (zeros (n + m)) 0 (X.map (Value.int .u8))) n (Y.map (Value.int .u8)) = (X ++ Y).map (Value.int .u8) := by
  have e1 : splice (zeros (n + m)) 0 (X.map (Value.int .u8)) = X.map (Value.int .u8) ++ zeros m := by
    simp only [splice, List.take_zero, List.nil_append, Nat.zero_add, List.length_map, hX]
    simp [zeros]
  rw [e1]
  simp only [splice, List.length_map, hY]
  rw [List.take_append_of_le_length (by simp [hX]), List.take_of_length_le (by simp [hX]), List.drop_eq_nil_of_le (by simp [zeros, hX]), List.append_nil, List.map_append]

end Go.Proofs.Ytepjblmjjegpgaa

namespace Go.Proofs.Ytepjblmjjegpgaa
open Go.RowKit

/-- Three numbers in a block of their own. -/
def H3 (W : World) (g : Nat) (x y z : Int) : Prop := W.heap[g]? = some (.cells #[.int .u64 x, .int .u64 y, .int .u64 z] 78 (0, 0))
theorem H3.cells {W : World} {g : Nat} {x y z : Int} (h : H3 W g x y z) : W.cell? ⟨g, 0, none⟩ = some (.int .u64 x) ∧ W.cell? ⟨g, 1, none⟩ = some (.int .u64 y) ∧ W.cell? ⟨g, 2, none⟩ = some (.int .u64 z) := by
  unfold H3 at h
  refine ⟨?_, ?_, ?_⟩ <;> (rw [cell_of_row _ _ _ _ _ _ h]; rfl)
theorem H3.fr {W : World} {g : Nat} {x y z : Int} (h : H3 W g x y z) (j : Nat) : W.frozen? ⟨g, j, none⟩ = false := by unfold H3 at h; simp [World.frozen?, h]
theorem H3.below {W W' : World} {g : Nat} {x y z : Int} (h : H3 W g x y z) (hb : Below W.heap.size W W') : H3 W' g x y z := (hb.block g (lt_of_block h)).trans h
theorem H3.other {W : World} {g g' : Nat} {x y z : Int} (h : H3 W g x y z) (hne : g ≠ g') (k : Nat) (v : Value) : H3 (W.setCell ⟨g', k, none⟩ v) g x y z := (Below.heap_setCell _ _ _ _ hne).trans h
theorem H3.set0 {W : World} {g : Nat} {x y z : Int} (h : H3 W g x y z) (u : Int) : H3 (W.setCell ⟨g, 0, none⟩ (.int .u64 u)) g u y z := block_setCell h 0 _
theorem H3.set1 {W : World} {g : Nat} {x y z : Int} (h : H3 W g x y z) (u : Int) : H3 (W.setCell ⟨g, 1, none⟩ (.int .u64 u)) g x u z := block_setCell h 1 _
theorem H3.set2 {W : World} {g : Nat} {x y z : Int} (h : H3 W g x y z) (u : Int) : H3 (W.setCell ⟨g, 2, none⟩ (.int .u64 u)) g x y u := block_setCell h 2 _

end Go.Proofs.Ytepjblmjjegpgaa
