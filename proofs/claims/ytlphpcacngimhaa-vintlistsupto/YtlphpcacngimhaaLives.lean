/- What 'lives' answers. -/
import Derived.Test.YtlphpcacngimhaaRead
import Derived.Test.YtlphpcacngimhaaSize
namespace Go.Proofs.Ytlphpcacngimhaa
open Go.RowKit

theorem scan_lives : scan 0 0 [172, 2] = (300, 2, 0) := by decide

theorem read_172_2 (b cap : Nat) (w : World) (hb : b < w.heap.size) (h0 : w.cell? ⟨b, 0, none⟩ = some (.int .u8 172)) (h1 : w.cell? ⟨b, 1, none⟩ = some (.int .u8 2)) :
    Calls Try.prog 11 #[.slice (some ⟨b, 0, none⟩) 2 cap, .int .i64 0] w fun e w' => e = .returned (.tuple #[.int .u64 300, .int .i64 2, .int .i64 0]) ∧ Below w.heap.size w w' := by
  have := read_some b 0 2 cap 0 [172, 2] w rfl (by decide) (by omega) hb
    (fun i hi => by
      match i, hi with
      | 0, _ => exact h0
      | 1, _ => exact h1)
    (fun i => by
      match i with
      | 0 => decide
      | 1 => decide
      | i + 2 => simp)
  refine this.mono ?_
  rintro e w' ⟨rfl, hb⟩
  refine ⟨?_, hb⟩
  show Ending.returned (Value.tuple #[.int .u64 (scan 0 0 [172, 2]).1, .int .i64 (0 + ((scan 0 0 [172, 2]).2.1 : Int)), .int .i64 (scan 0 0 [172, 2]).2.2]) = _
  rw [scan_lives]
  rfl

theorem read_lit (w : World) :
    Calls Try.prog 11 #[.slice (some ⟨w.heap.size, 0, none⟩) 2 2, .int .i64 0] (w.alloc (.cells #[.int .u8 172, .int .u8 2] 5)) fun e w' =>
      e = .returned (.tuple #[.int .u64 300, .int .i64 2, .int .i64 0]) ∧ Below w.heap.size w w' := by
  refine (read_172_2 w.heap.size 2 _ (by simp) ?_ ?_).mono ?_
  · rw [cell_of_row _ _ _ _ _ _ (heap_alloc_new w _)]; rfl
  · rw [cell_of_row _ _ _ _ _ _ (heap_alloc_new w _)]; rfl
  · rintro e w' ⟨rfl, hb⟩
    exact ⟨rfl, ((Below.refl _ _).alloc (Nat.le_refl _) _).trans (hb.mono (by simp))⟩

set_option maxHeartbeats 400000 in
theorem lives_any (w : World) :
    Calls Try.prog 9 #[] w fun e w' => e = .returned (.bool true) ∧ Below w.heap.size w w' := by
  have hs := size_any 300 w (by omega) (by omega)
  have e300 : (vsize (Int.toNat 300) : Int) = 2 := by rw [show Int.toNat 300 = 300 from rfl, vsize_300]; rfl
  rw [e300] at hs
  have HS := hide hs
  clear hs e300
  go_enter Try.func9, Try.ntmps9
  go_wp2_with (first | (go_at_call 15; refine (unhide HS).mono ?_; rintro e w' ⟨rfl, rfl⟩) | (go_at_call 11; refine (read_lit _).mono ?_; rintro e w2 ⟨rfl, hb⟩))
  go_ret
  exact ⟨rfl, hb⟩

end Go.Proofs.Ytlphpcacngimhaa
