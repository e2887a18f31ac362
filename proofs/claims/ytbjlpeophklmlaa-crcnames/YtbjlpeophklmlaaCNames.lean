/- CrcNames: the walk. -/
import Derived.Test.YtbjlpeophklmlaaCPatch
import Derived.Test.YtbjlpeophklmlaaCOpen
import Derived.Test.YtbjlpeophklmlaaCSkip
import Derived.Test.YtbjlpeophklmlaaCLives
import Derived.Lib.SlBytesConst
namespace Go.Proofs.Ytbjlpeophklmlaa
open Go.RowKit

theorem below_lit {w w' : World} {o : Obj} (h : Below (w.alloc o).heap.size (w.alloc o) w') : Below w.heap.size w w' := ((Below.refl _ _).alloc (Nat.le_refl _) _).trans (h.mono (by simp))
theorem n_sum : sumOf [49, 50, 51, 52, 53, 54, 55, 56, 57] = 3421780262 := by decide +kernel
theorem n_op1 : opErr [1, 2, 3] = 21 ∧ opVal [1, 2, 3] = [] := by decide +kernel
theorem n_op2 : opErr [97, 67, 190, 183, 233] = 22 ∧ opVal [97, 67, 190, 183, 233] = [] := by decide +kernel
theorem n_pt : ptText [49, 50, 51, 52] 0 0 = [157, 10, 217, 109] := by decide +kernel
theorem n_join : joinOf (sumOf [49, 50, 51, 52]) (sumOf [53, 54, 55, 56, 57]) 5 = 3421780262 := by decide +kernel
theorem b8_lit {zs : List Int} (h : zs.all (fun c => decide (0 ≤ c) && decide (c ≤ 255)) = true) : B8 zs := by
  intro c hc
  have := List.all_eq_true.1 h c hc
  simpa using this

/-- A row of a literal, marked or not. -/
theorem row_mark (w : World) (zs : List Int) (cs : Array Value) (T : TypeId) (fr : Nat × Nat) (h : cs = (zs.map (Value.int .u8)).toArray) : Row (w.alloc (.cells cs T fr)) .u8 (some ⟨w.heap.size, 0, none⟩) zs := by
  intro i hi
  refine ⟨w.heap.size, 0, rfl, ?_⟩
  rw [cell_of_row _ _ _ _ _ _ (heap_alloc_new w _), h]
  simp [List.getD, hi]

set_option maxRecDepth 100000 in
set_option maxHeartbeats 1600000 in
theorem crcNames_any (w : World) :
    Calls Try.prog 3 #[] w fun e w' => e = .returned (.bool true) ∧ Below w.heap.size w w' := by
  have kc := fun (w : World) (C : Array Value) (n c : Nat) => Lib.run_convert_bytes_const (P := Try.prog) w 23 5 C n c Try.underlying23 Try.underlying5
  go_enter Try.func3, Try.ntmps3
  go_wp2_with fail
  refine (lives_any _).mono ?_
  rintro e w1 ⟨rfl, hb1⟩
  go_wp2_with fail
  obtain ⟨w2, hw2⟩ : ∃ w2, w2 = w1.alloc (.cells #[.int .u8 49, .int .u8 50, .int .u8 51, .int .u8 52, .int .u8 53, .int .u8 54, .int .u8 55, .int .u8 56, .int .u8 57] 5 (9, 9 + 1)) := ⟨_, rfl⟩
  have hr2 : Row w2 .u8 (some ⟨w1.heap.size, 0, none⟩) [49, 50, 51, 52, 53, 54, 55, 56, 57] := by rw [hw2]; exact row_mark w1 _ _ _ _ rfl
  have hb2 : Below w.heap.size w w2 := by rw [hw2]; exact hb1.alloc hb1.size _
  simp only [Nat.reduceAdd] at hw2 ⊢
  rw [← hw2]
  clear hw2
  have hb8 : B8 [49, 50, 51, 52, 53, 54, 55, 56, 57] := b8_lit (by decide)
  have C1 := hide (sum_any (some ⟨w1.heap.size, 0, none⟩) 9 9 _ w2 rfl (by decide) hr2 hb8)
  rw [n_sum] at C1
  have C2 := hide (sum_any (some ⟨w1.heap.size, 0, none⟩) 4 9 [49, 50, 51, 52] w2.drew rfl (by decide) (hr2.take 4) (hb8.take 4))
  have C3 := hide (sum_any (some ⟨w1.heap.size, 4, none⟩) 5 5 [53, 54, 55, 56, 57] w2.drew rfl (by decide) (by have := hr2.drop 4; exact this) (hb8.drop 4))
  have C4 := hide (join_any (sumOf [49, 50, 51, 52]) (sumOf [53, 54, 55, 56, 57]) 5 w2.drew (sumOf_lt _) (sumOf_lt _) (by omega))
  rw [n_join] at C4
  generalize sumOf [49, 50, 51, 52] = s1 at *
  generalize sumOf [53, 54, 55, 56, 57] = s2 at *
  generalize w1.heap.size = g at *
  refine keep C1.out ?_
  go_wp2_with fail
  go_region_held3 (fun _ => True) (trivial) (first
    | (go_at_call 10; refine keep C2.out ?_; clear C2)
    | (go_at_call 10; refine keep C3.out ?_)
    | (go_at_call 11; refine C4.out.mono ?_; rintro e w3 ⟨rfl, hb3⟩)
    | fail)
  have hb3' : Below w.heap.size w w3 := hb2.drew.trans (hb3.mono hb2.size)
  clear hb3 hb2 hr2 C1 C3 C4
  go_wp2_with fail
  refine keep (join_neg 1 1 (-1) w3 (by decide)) ?_
  go_wp2_with fail
  have O1 := hide (open_any (some ⟨w3.heap.size, 0, none⟩) 3 3 [1, 2, 3] (w3.alloc (.cells #[.int .u8 1, .int .u8 2, .int .u8 3] 5)) rfl (by omega) (by omega) (row_mark w3 _ _ _ _ rfl) (b8_lit (by decide)))
  rw [n_op1.1, n_op1.2] at O1
  refine O1.out.mono ?_
  rintro e w4 ⟨v4, rfl, hown4, hb4⟩
  have hb4' : Below w.heap.size w w4 := hb3'.trans ((below_lit hb4).mono hb3'.size)
  clear hown4 hb4 O1 hb3'
  go_wp2_with fail
  have O2 := hide (open_any (some ⟨w4.heap.size, 0, none⟩) 5 5 [97, 67, 190, 183, 233] (w4.alloc (.cells #[.int .u8 97, .int .u8 67, .int .u8 190, .int .u8 183, .int .u8 233] 5)) rfl (by omega) (by omega) (row_mark w4 _ _ _ _ rfl) (b8_lit (by decide)))
  rw [n_op2.1, n_op2.2] at O2
  refine O2.out.mono ?_
  rintro e w5 ⟨v5, rfl, hown5, hb5⟩
  have hb5' : Below w.heap.size w w5 := hb4'.trans ((below_lit hb5).mono hb4'.size)
  clear hown5 hb5 O2 hb4'
  go_wp2_with fail
  have P1 := hide (patch_good (some ⟨w5.heap.size, 0, none⟩) 4 4 0 0 [49, 50, 51, 52] (w5.alloc (.cells #[.int .u8 49, .int .u8 50, .int .u8 51, .int .u8 52] 5 (4, 4 + 1))) rfl (by omega) (by omega) (by decide) (row_mark w5 _ _ _ _ rfl) (b8_lit (by decide)) (by omega))
  rw [n_pt] at P1
  refine P1.out.mono ?_
  rintro e w6 ⟨v6, rfl, hown6, hb6⟩
  have hb6' : Below w.heap.size w w6 := hb5'.trans ((below_lit hb6).mono hb5'.size)
  obtain ⟨a6, c6, rfl, _, _, _⟩ := hown6.sliceN (n := 4) rfl
  have hr6 := hide hown6.row
  clear hown6 hb6 P1 hb5'
  go_wp2_with fail
  have SM := hide (same_any a6 (some ⟨w6.heap.size, 0, none⟩) 4 c6 4 4 [157, 10, 217, 109] [157, 10, 217, 109] (w6.alloc (.cells #[.int .u8 157, .int .u8 10, .int .u8 217, .int .u8 109] 5)) (by unfold maxLen; omega) rfl rfl (hr6.out.alloc _) (row_mark w6 _ _ _ _ rfl))
  rw [decide_eq_true rfl] at SM
  refine SM.out.mono ?_
  rintro e w7 ⟨rfl, hst7⟩
  go_wp2_with fail
  go_ret
  exact ⟨rfl, (hb6'.alloc hb6'.size _).trans (hst7.below _)⟩

end Go.Proofs.Ytbjlpeophklmlaa
