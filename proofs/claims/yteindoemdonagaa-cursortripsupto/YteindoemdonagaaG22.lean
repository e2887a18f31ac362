/- The document's source. -/
import Derived.Test.YteindoemdonagaaG18
import Derived.Deep.DeepCutAuto
import Derived.Deep.CutBlock
import Derived.BigRegion
namespace Go.Proofs.Yteindoemdonagaa
open Go.RowKit

theorem most_swap (gs : List Int) (c size L : Nat) : min (mostN gs c size) L = min size (mostN gs c L) := by
  unfold mostN
  split <;> omega

theorem fill_next (X : List Int) (cur : List Value) (i : Nat) (h1 : i < X.length) (h2 : i < cur.length) : ((X.take i).map (Value.int .u8) ++ cur.drop i).toArray.setIfInBounds i (.int .u8 (X.getD i 0)) = ((X.take (i + 1)).map (Value.int .u8) ++ cur.drop (i + 1)).toArray := by
  have hl : ((X.take i).map (Value.int .u8)).length = i := by rw [List.length_map, List.length_take]; omega
  rw [List.setIfInBounds_toArray, List.set_append_right _ _ (by omega), hl, Nat.sub_self, List.drop_eq_getElem_cons h2, List.set_cons_zero, List.take_add_one, List.map_append]
  simp [h1]
theorem fill_cell {W : World} {r : Nat} {X : List Int} {cur : List Value} {i : Nat} (h : W.heap[r]? = some (.cells ((X.take i).map (Value.int .u8) ++ cur.drop i).toArray 5 (0, 0))) (h0 : i ≤ X.length) (h2 : i < cur.length) (h8 : ∀ u ∈ cur, IsByte u) : ∃ x, W.cell? ⟨r, i, none⟩ = some (.int .u8 x) := by
  have hl : ((X.take i).map (Value.int .u8)).length = i := by rw [List.length_map, List.length_take]; omega
  obtain ⟨x, hx⟩ := h8 cur[i] (List.getElem_mem _)
  refine ⟨x, ?_⟩
  rw [cell_of_row _ _ _ _ _ _ h, List.getElem?_toArray, List.getElem?_append_right (by omega), hl, Nat.sub_self, List.getElem?_drop, Nat.add_zero, List.getElem?_eq_getElem h2, hx]

end Go.Proofs.Yteindoemdonagaa
