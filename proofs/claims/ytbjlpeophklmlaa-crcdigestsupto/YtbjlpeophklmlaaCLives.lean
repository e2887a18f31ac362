/- 'lives'. -/
import Derived.Test.YtbjlpeophklmlaaCSteps
namespace Go.Proofs.Ytbjlpeophklmlaa
open Go.RowKit

theorem row_lit (w : World) (zs : List Int) (cs : Array Value) (T : TypeId) (h : cs = (zs.map (Value.int .u8)).toArray) : Row (w.alloc (.cells cs T)) .u8 (some ⟨w.heap.size, 0, none⟩) zs := by
  intro i hi
  refine ⟨w.heap.size, 0, rfl, ?_⟩
  rw [cell_of_row _ _ _ _ _ _ (heap_alloc_new w _), h]
  simp [List.getD, hi]
theorem sum_a : sumOf [97] = 3904355907 := by decide +kernel

set_option maxHeartbeats 400000 in
theorem lives_any (w : World) :
    Calls Try.prog 9 #[] w fun e w' => e = .returned (.bool true) ∧ Below w.heap.size w w' := by
  have HG := hide (sum_any (some ⟨w.heap.size, 0, none⟩) 1 1 [97] (w.alloc (.cells #[.int .u8 97] 5)) rfl (by decide) (row_lit w [97] _ _ rfl) (by intro c hc; simp at hc; omega))
  rw [sum_a] at HG
  go_enter Try.func9, Try.ntmps9
  go_wp2_with (go_at_call 10; refine (unhide HG).mono ?_; rintro e w' ⟨rfl, rfl⟩)
  go_ret
  exact ⟨rfl, (Below.refl _ _).alloc (Nat.le_refl _) _⟩

end Go.Proofs.Ytbjlpeophklmlaa
