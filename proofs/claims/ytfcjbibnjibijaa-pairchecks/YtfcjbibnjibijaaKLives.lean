/- 'lives'. -/
import Derived.Test.YtfcjbibnjibijaaKBase
import Derived.Lib.SlBytesConst
namespace Go.Proofs.Ytfcjbibnjibijaa
open Go.RowKit

theorem row_lit (w : World) (zs : List Int) (cs : Array Value) (T : TypeId) (fr : Nat × Nat) (h : cs = (zs.map (Value.int .u8)).toArray) : Row (w.alloc (.cells cs T fr)) .u8 (some ⟨w.heap.size, 0, none⟩) zs := by
  intro i hi
  refine ⟨w.heap.size, 0, rfl, ?_⟩
  rw [cell_of_row _ _ _ _ _ _ (heap_alloc_new w _), h]
  simp [List.getD, hi]
theorem b8_lit {zs : List Int} (h : zs.all (fun c => decide (0 ≤ c) && decide (c ≤ 255)) = true) : B8 zs := by
  intro c hc
  have := List.all_eq_true.1 h c hc
  simp only [Bool.and_eq_true, decide_eq_true_eq] at this
  exact this
theorem drewK {B : Nat} {w w' : World} (h : Below B w w') (m : Nat) : Below B w (w'.drewN m) := ⟨h.os, h.tape, h.output, h.size, h.block⟩

/-- The laws for '[]byte' of a constant, behind other blocks. -/
theorem conv1 (w : World) (o : Obj) (C : Array Value) (n c : Nat) : (convert 23 23 (.slice (some ⟨w.heap.size + 1, 0, none⟩) n c)).run Try.prog ((w.alloc o).alloc (.cells C 5)) = .ok (.slice (some ⟨w.heap.size + 1, 0, none⟩) n c) ((w.alloc o).alloc (.cells C 5 (C.size, C.size + 1))) := by
  have := Lib.run_convert_bytes_const (P := Try.prog) (w.alloc o) 23 5 C n c Try.underlying23 Try.underlying5
  rwa [World.size_alloc] at this
theorem conv2 (w : World) (o o2 : Obj) (C : Array Value) (n c : Nat) : (convert 23 23 (.slice (some ⟨w.heap.size + 1 + 1, 0, none⟩) n c)).run Try.prog (((w.alloc o).alloc o2).alloc (.cells C 5)) = .ok (.slice (some ⟨w.heap.size + 1 + 1, 0, none⟩) n c) (((w.alloc o).alloc o2).alloc (.cells C 5 (C.size, C.size + 1))) := by
  have := conv1 (w.alloc o) o2 C n c
  rwa [World.size_alloc] at this
theorem conv3 (w : World) (o o2 o3 : Obj) (C : Array Value) (n c : Nat) : (convert 23 23 (.slice (some ⟨w.heap.size + 1 + 1 + 1, 0, none⟩) n c)).run Try.prog ((((w.alloc o).alloc o2).alloc o3).alloc (.cells C 5)) = .ok (.slice (some ⟨w.heap.size + 1 + 1 + 1, 0, none⟩) n c) ((((w.alloc o).alloc o2).alloc o3).alloc (.cells C 5 (C.size, C.size + 1))) := by
  have := conv2 (w.alloc o) o2 o3 C n c
  rwa [World.size_alloc] at this

set_option maxHeartbeats 400000 in
theorem lives_any (w : World) :
    Calls Try.prog 9 #[] w fun e w' => e = .returned (.bool true) ∧ Below w.heap.size w w' := by
  have r1 : Row ((w.alloc (.cells #[.int .u8 97, .int .u8 98] 5 (2, 3))).alloc (.cells #[.int .u8 98] 5 (1, 2))) .u8 (some ⟨w.heap.size, 0, none⟩) [97, 98] := (row_lit w [97, 98] #[.int .u8 97, .int .u8 98] 5 (2, 3) rfl).alloc _
  have r2 : Row ((w.alloc (.cells #[.int .u8 97, .int .u8 98] 5 (2, 3))).alloc (.cells #[.int .u8 98] 5 (1, 2))) .u8 (some ⟨w.heap.size + 1, 0, none⟩) [98] := by
    have := row_lit (w.alloc (.cells #[.int .u8 97, .int .u8 98] 5 (2, 3))) [98] #[.int .u8 98] 5 (1, 2) rfl
    rwa [World.size_alloc] at this
  have H1 := hide (compare_any (some ⟨w.heap.size, 0, none⟩) (some ⟨w.heap.size + 1, 0, none⟩) 2 2 1 1 [97, 98] [98] _ rfl rfl r1 r2 (b8_lit rfl) (b8_lit rfl))
  rw [show cmpI [97, 98] [98] = -1 from by decide] at H1
  have H2 : Hid (∀ W : World, Calls Try.prog 27 #[.slice (some ⟨W.heap.size, 0, none⟩) 3 3, .slice (some ⟨W.heap.size + 1, 0, none⟩) 3 3] ((W.alloc (.cells #[.int .u8 97, .int .u8 98, .int .u8 99] 5 (3, 4))).alloc (.cells #[.int .u8 97, .int .u8 98, .int .u8 100] 5 (3, 4))) fun e w' => e = .returned (.int .i64 2) ∧ Below W.heap.size W w') := fun W => by
    have q1 : Row ((W.alloc (.cells #[.int .u8 97, .int .u8 98, .int .u8 99] 5 (3, 4))).alloc (.cells #[.int .u8 97, .int .u8 98, .int .u8 100] 5 (3, 4))) .u8 (some ⟨W.heap.size, 0, none⟩) [97, 98, 99] := (row_lit W [97, 98, 99] #[.int .u8 97, .int .u8 98, .int .u8 99] 5 (3, 4) rfl).alloc _
    have q2 : Row ((W.alloc (.cells #[.int .u8 97, .int .u8 98, .int .u8 99] 5 (3, 4))).alloc (.cells #[.int .u8 97, .int .u8 98, .int .u8 100] 5 (3, 4))) .u8 (some ⟨W.heap.size + 1, 0, none⟩) [97, 98, 100] := by
      have := row_lit (W.alloc (.cells #[.int .u8 97, .int .u8 98, .int .u8 99] 5 (3, 4))) [97, 98, 100] #[.int .u8 97, .int .u8 98, .int .u8 100] 5 (3, 4) rfl
      rwa [World.size_alloc] at this
    refine (common_any (some ⟨W.heap.size, 0, none⟩) (some ⟨W.heap.size + 1, 0, none⟩) 3 3 3 3 [97, 98, 99] [97, 98, 100] _ (by decide) (by decide) rfl rfl q1 q2).mono ?_
    rintro e w1 ⟨rfl, m, rfl⟩
    exact ⟨by rw [show comN [97, 98, 99] [97, 98, 100] = 2 from by decide]; rfl, drewK (((Below.refl _ _).alloc (Nat.le_refl _) _).alloc (by simp) _) m⟩
  have H3 := hide (H2.out ((w.alloc (.cells #[.int .u8 97, .int .u8 98] 5 (2, 3))).alloc (.cells #[.int .u8 98] 5 (1, 2))))
  rw [World.size_alloc, World.size_alloc] at H3
  clear r1 r2 H2
  have kc1 := conv1
  have kc2 := conv2
  have kc3 := conv3
  have kc := fun (w : World) (C : Array Value) (n c : Nat) => Lib.run_convert_bytes_const (P := Try.prog) w 23 5 C n c Try.underlying23 Try.underlying5
  go_enter Try.func9, Try.ntmps9
  go_wp2_with fail
  refine keep H1.out ?_
  go_wp2_with fail
  refine H3.out.mono ?_
  rintro e w1 ⟨rfl, hb⟩
  go_wp2_with fail
  go_ret
  exact ⟨rfl, (((Below.refl _ _).alloc (Nat.le_refl _) _).alloc (by simp) _).trans (hb.mono (by omega))⟩

end Go.Proofs.Ytfcjbibnjibijaa
