/- 'lives'. -/
import Derived.Test.YtpljbgcofmlhbaaGreatG10
import Derived.Lib.SlBytesConst
namespace Go.Proofs.YtpljbgcofmlhbaaGreat
open Go.RowKit
set_option maxRecDepth 100000
theorem row_lit (w : World) (zs : List Int) (cs : Array Value) (T : TypeId) (fr : Nat × Nat) (h : cs = (zs.map (Value.int .u8)).toArray) : Row (w.alloc (.cells cs T fr)) .u8 (some ⟨w.heap.size, 0, none⟩) zs := by
 intro i hi
 refine ⟨w.heap.size, 0, rfl, ?_⟩
 rw [cell_of_row _ _ _ _ _ _ (heap_alloc_new w _), h]
 simp [List.getD, hi]
theorem b8_lit {zs : List Int} (h : zs.all (fun c => decide (0 ≤ c) && decide (c ≤ 255)) = true) : B8 zs := by
 intro c hc
 have := List.all_eq_true.1 h c hc
 simp only [Bool.and_eq_true, decide_eq_true_eq] at this
 exact this
theorem drewK {B : Nat} {w w' : World} (h : Below B w w') (m : Nat) : Below B w (w'.drewN m) := ⟨h.os, h.tape, h.output, h.size, h.block⟩
theorem conv1 (w : World) (o : Obj) (C : Array Value) (n c : Nat) : (convert 28 28 (.slice (some ⟨w.heap.size + 1, 0, none⟩) n c)).run Tryz.prog ((w.alloc o).alloc (.cells C 5)) = .ok (.slice (some ⟨w.heap.size + 1, 0, none⟩) n c) ((w.alloc o).alloc (.cells C 5 (C.size, C.size + 1))) := by
 have := Lib.run_convert_bytes_const (P := Tryz.prog) (w.alloc o) 28 5 C n c Tryz.underlying28 Tryz.underlying5
 rwa [World.size_alloc] at this
theorem conv2 (w : World) (o o2 : Obj) (C : Array Value) (n c : Nat) : (convert 28 28 (.slice (some ⟨w.heap.size + 1 + 1, 0, none⟩) n c)).run Tryz.prog (((w.alloc o).alloc o2).alloc (.cells C 5)) = .ok (.slice (some ⟨w.heap.size + 1 + 1, 0, none⟩) n c) (((w.alloc o).alloc o2).alloc (.cells C 5 (C.size, C.size + 1))) := by
 have := conv1 (w.alloc o) o2 C n c
 rwa [World.size_alloc] at this
theorem conv3 (w : World) (o o2 o3 : Obj) (C : Array Value) (n c : Nat) : (convert 28 28 (.slice (some ⟨w.heap.size + 1 + 1 + 1, 0, none⟩) n c)).run Tryz.prog ((((w.alloc o).alloc o2).alloc o3).alloc (.cells C 5)) = .ok (.slice (some ⟨w.heap.size + 1 + 1 + 1, 0, none⟩) n c) ((((w.alloc o).alloc o2).alloc o3).alloc (.cells C 5 (C.size, C.size + 1))) := by
 have := conv2 (w.alloc o) o2 o3 C n c
 rwa [World.size_alloc] at this
end Go.Proofs.YtpljbgcofmlhbaaGreat
