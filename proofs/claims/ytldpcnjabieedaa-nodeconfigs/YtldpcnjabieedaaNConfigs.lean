/- NodeConfigs: the walk. -/
import Derived.Test.YtldpcnjabieedaaNHead
import Derived.Test.YtldpcnjabieedaaNConf
namespace Go.Proofs.Ytldpcnjabieedaa
open Go.RowKit

set_option maxRecDepth 100000 in
set_option maxHeartbeats 1600000 in
theorem nodeConfigs_any (nd lf inn fl bk : Int) (w : World) :
    Calls Try.prog 3 #[.agg #[.int .i64 nd, .int .i64 lf, .int .i64 inn, .int .i64 fl, .int .i64 bk]] w fun e w' => e = .returned (.bool true) ∧ Below w.heap.size w w' := by
  obtain ⟨ce, hce⟩ : ∃ ce, ce = cfgE nd lf inn fl bk := ⟨_, rfl⟩
  have HC : Hid (∀ W, Calls Try.prog 8 #[.agg #[.int .i64 nd, .int .i64 lf, .int .i64 inn, .int .i64 fl, .int .i64 bk]] W fun e w' => e = .returned (.int .i64 ce) ∧ Below W.heap.size W w') := fun W => by rw [hce]; exact config_any nd lf inn fl bk W
  have HR : Hid (∀ W, Calls Try.prog 9 #[.agg #[.int .i64 nd, .int .i64 lf, .int .i64 inn, .int .i64 fl, .int .i64 bk]] W fun e w' => e = .returned (.int .i64 ce) ∧ Below W.heap.size W w') := fun W => by rw [hce]; exact rconfig_any nd lf inn fl bk W
  clear hce
  obtain ⟨w0, hw0⟩ : ∃ w0, w0 = w.alloc (.cells #[.int .i64 nd, .int .i64 lf, .int .i64 inn, .int .i64 fl, .int .i64 bk] 23) := ⟨_, rfl⟩
  have g0 : w0.heap[w.heap.size]? = some (.cells #[.int .i64 nd, .int .i64 lf, .int .i64 inn, .int .i64 fl, .int .i64 bk] 23 (0, 0)) := by rw [hw0]; exact heap_alloc_new w _
  have B0 : Hid (Below w.heap.size w w0) := by show Below _ _ _; rw [hw0]; exact (Below.refl _ _).alloc (Nat.le_refl _) _
  have G0 := hide g0
  have HW0 := hide hw0
  clear g0 hw0
  go_enter Try.func3, Try.ntmps3
  go_wp2_with fail
  rw [← HW0.out]
  refine (head_any w0).mono ?_
  rintro e w1 ⟨rfl, b1⟩
  have B1 := hide (B0.out.trans (b1.mono B0.out.size))
  have G1 : Hid (w1.heap[w.heap.size]? = _) := (b1.block _ (lt_of_block G0.out)).trans G0.out
  have c0 : w1.cell? ⟨w.heap.size, 0, none⟩ = some (.int .i64 nd) := by rw [cell_of_row _ _ _ _ _ _ G1.out]; rfl
  have c1 : w1.cell? ⟨w.heap.size, 1, none⟩ = some (.int .i64 lf) := by rw [cell_of_row _ _ _ _ _ _ G1.out]; rfl
  have c2 : w1.cell? ⟨w.heap.size, 2, none⟩ = some (.int .i64 inn) := by rw [cell_of_row _ _ _ _ _ _ G1.out]; rfl
  have c3 : w1.cell? ⟨w.heap.size, 3, none⟩ = some (.int .i64 fl) := by rw [cell_of_row _ _ _ _ _ _ G1.out]; rfl
  have c4 : w1.cell? ⟨w.heap.size, 4, none⟩ = some (.int .i64 bk) := by rw [cell_of_row _ _ _ _ _ _ G1.out]; rfl
  have hl : w.heap.size < w1.heap.size := lt_of_block G1.out
  clear b1 HW0
  go_wp2_with fail
  go_region_held3 (fun W => W.cell? ⟨w.heap.size, 0, none⟩ = some (.int .i64 nd) ∧ W.cell? ⟨w.heap.size, 1, none⟩ = some (.int .i64 lf) ∧ W.cell? ⟨w.heap.size, 2, none⟩ = some (.int .i64 inn) ∧ W.cell? ⟨w.heap.size, 3, none⟩ = some (.int .i64 fl) ∧ W.cell? ⟨w.heap.size, 4, none⟩ = some (.int .i64 bk)) (go_keep) (first
    | (go_at_call 9; refine (HR.out w2).mono ?_; rintro e w3 ⟨rfl, b3⟩; have e0 := (b3.cell (p := ⟨w.heap.size, 0, none⟩) (show w.heap.size < w2.heap.size by omega)).trans d0; have e1 := (b3.cell (p := ⟨w.heap.size, 1, none⟩) (show w.heap.size < w2.heap.size by omega)).trans d1; have e2 := (b3.cell (p := ⟨w.heap.size, 2, none⟩) (show w.heap.size < w2.heap.size by omega)).trans d2; have e3 := (b3.cell (p := ⟨w.heap.size, 3, none⟩) (show w.heap.size < w2.heap.size by omega)).trans d3; have e4 := (b3.cell (p := ⟨w.heap.size, 4, none⟩) (show w.heap.size < w2.heap.size by omega)).trans d4; have B3 := hide (B2.out.trans (b3.mono B2.out.size)); clear b3)
    | (go_at_call 8; refine (HC.out w1.drew).mono ?_; rintro e w2 ⟨rfl, b2'⟩; have b2 : Below w1.heap.size w1 w2 := ⟨b2'.os, b2'.tape, b2'.output, b2'.size, b2'.block⟩; have d0 := (b2.cell (p := ⟨w.heap.size, 0, none⟩) hl).trans c0; have d1 := (b2.cell (p := ⟨w.heap.size, 1, none⟩) hl).trans c1; have d2 := (b2.cell (p := ⟨w.heap.size, 2, none⟩) hl).trans c2; have d3 := (b2.cell (p := ⟨w.heap.size, 3, none⟩) hl).trans c3; have d4 := (b2.cell (p := ⟨w.heap.size, 4, none⟩) hl).trans c4; have B2 := hide (B1.out.trans (b2.mono B1.out.size)); have hl2 := b2.size; clear b2 b2')
    | fail)
  go_wp2_with fail
  go_ret
  exact ⟨by simp, B3.out⟩

end Go.Proofs.Ytldpcnjabieedaa
