/- Digests. -/
import Derived.Test.YtbjlpeophklmlaaCSteps
import Derived.Test.YtbjlpeophklmlaaCRow
namespace Go.Proofs.Ytbjlpeophklmlaa
open Go.RowKit

/-- A digest in its block. -/
def IsD (w : World) (g : Nat) (s n : Nat) : Prop := w.heap[g]? = some (.cells #[.int .u32 (s : Int), .int .i64 (n : Int)] 58 (0, 0))
theorem IsD.sum {w : World} {g s n : Nat} (h : IsD w g s n) : w.cell? ⟨g, 0, none⟩ = some (.int .u32 (s : Int)) := by rw [cell_of_row _ _ _ _ _ _ h]; rfl
theorem IsD.count {w : World} {g s n : Nat} (h : IsD w g s n) : w.cell? ⟨g, 1, none⟩ = some (.int .i64 (n : Int)) := by rw [cell_of_row _ _ _ _ _ _ h]; rfl
theorem IsD.fr {w : World} {g s n : Nat} (h : IsD w g s n) (j : Nat) : w.frozen? ⟨g, j, none⟩ = false := by simp [World.frozen?, show w.heap[g]? = _ from h]
theorem IsD.lt {w : World} {g s n : Nat} (h : IsD w g s n) : g < w.heap.size := lt_of_block h
theorem IsD.below {w w' : World} {g s n B : Nat} (h : IsD w g s n) (hb : Below B w w') (hg : g < B) : IsD w' g s n := (hb.block g hg).trans h
theorem IsD.block {w w' : World} {g s n : Nat} (h : IsD w g s n) (hb : w'.heap[g]? = w.heap[g]?) : IsD w' g s n := hb.trans h

set_option maxHeartbeats 400000 in
theorem new_any (w : World) :
    Calls Try.prog 26 #[] w fun e w' => e = .returned (.pointer (some ⟨w.heap.size, 0, none⟩)) ∧ w' = w.alloc (.cells #[.int .u32 0, .int .i64 0] 58) := by
  go_enter Try.func26, Try.ntmps26
  go_wp2
  go_ret
  exact ⟨rfl, rfl⟩
theorem new_isD (w : World) : IsD (w.alloc (.cells #[.int .u32 0, .int .i64 0] 58)) w.heap.size 0 0 := heap_alloc_new w _

set_option maxHeartbeats 800000 in
theorem write_any (g s n : Nat) (a : Option Addr) (len cap : Nat) (zs : List Int) (w : World) (hD : IsD w g s n) (hs : s < 4294967296) (hn : n ≤ 4611686018427387904) (hl : zs.length = len) (hm : len ≤ 140737488355328) (hr : Row w .u8 a zs) (h8 : B8 zs) :
    Calls Try.prog 27 #[.pointer (some ⟨g, 0, none⟩), .slice a len cap] w fun e w' => e = .returned (.tuple #[]) ∧ IsD w' g (moreOf s zs) (n + len) ∧ w.grownBy w' (some g) := by
  have HM := hide (more_any s a len cap zs w hs hl (by unfold maxLen; omega) hr h8)
  have h0 := hD.sum
  have h1 := hD.count
  have f0 := hD.fr 0
  have f1 := hD.fr 1
  have HD := hide hD
  clear hr hD
  generalize moreOf s zs = t at *
  go_enter Try.func27, Try.ntmps27
  go_wp2_with (go_at_call 16; refine keep HM.out ?_)
  go_end0
  refine ⟨rfl, ?_, grownBy_setCell (grownBy_setCell (grownBy_refl _ _) 0 _) 1 _⟩
  have hb := block_setCell (block_setCell HD.out 0 (.int .u32 (t : Int))) 1 (.int .i64 ((n : Int) + (len : Int)))
  exact hb

set_option maxHeartbeats 400000 in
theorem dsum_any (g s n : Nat) (w : World) (hD : IsD w g s n) :
    Calls Try.prog 29 #[.pointer (some ⟨g, 0, none⟩)] w fun e w' => e = .returned (.int .u32 s) ∧ w' = w := by
  have h0 := hD.sum
  clear hD
  go_enter Try.func29, Try.ntmps29
  go_wp2
  go_ret
  exact ⟨rfl, rfl⟩

set_option maxHeartbeats 400000 in
theorem dlen_any (g s n : Nat) (w : World) (hD : IsD w g s n) :
    Calls Try.prog 30 #[.pointer (some ⟨g, 0, none⟩)] w fun e w' => e = .returned (.int .i64 n) ∧ w' = w := by
  have h0 := hD.count
  clear hD
  go_enter Try.func30, Try.ntmps30
  go_wp2
  go_ret
  exact ⟨rfl, rfl⟩

end Go.Proofs.Ytbjlpeophklmlaa
