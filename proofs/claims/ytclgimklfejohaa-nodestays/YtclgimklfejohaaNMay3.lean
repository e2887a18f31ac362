/- Check's parts of the program: Over, keysMay. -/
import Derived.Test.YtclgimklfejohaaNMay2
import Derived.Test.YtclgimklfejohaaNFind
namespace Go.Proofs.Ytclgimklfejohaa
open Go.RowKit

/-- More than there may be? -/
def OvP (lv : Int) (lk lc : Nat) (lf inn : Int) : Prop := if lv = 0 then lf < (lk : Int) else inn < (lc : Int)
instance (lv : Int) (lk lc : Nat) (lf inn : Int) : Decidable (OvP lv lk lc lf inn) := by unfold OvP; exact inferInstance

set_option maxRecDepth 100000 in
set_option maxHeartbeats 1600000 in
theorem over_any (n : Nd) (nd lf inn fl bk : Int) (w : World) : Calls Try.prog 9 #[n.v, .agg #[.int .i64 nd, .int .i64 lf, .int .i64 inn, .int .i64 fl, .int .i64 bk]] w fun e w' => e = .returned (.bool (decide (OvP n.lv n.ks.L.length n.cs.s.length lf inn))) ∧ Below w.heap.size w w' := by
  have HL : Hid (∀ W, Calls Try.prog 28 #[n.v] W fun e w' => e = .returned (.bool (decide (n.lv = 0))) ∧ Below W.heap.size W w') := fun W => isLeaf_any n W
  have HWD : Hid (∀ W : World, Calls Try.prog 29 #[n.v] W.drew fun e w' => e = .returned (.int .i64 (wid n.lv n.ks.L.length n.cs.s.length : Nat)) ∧ Below W.heap.size W w') := fun W => (width_any n W.drew).mono fun e w' ⟨h, b⟩ => ⟨h, ⟨b.os, b.tape, b.output, b.size, b.block⟩⟩
  obtain ⟨lv, ⟨ha, hc, hs⟩, ri, ⟨ka, kc, K⟩, ⟨va, vc, V⟩, ⟨ca, cc, C⟩⟩ := n
  simp only [Nd.v, Tx.v, TL.v, IL.v, wid, OvP] at HL HWD ⊢
  generalize hs.length = lh at *
  generalize K.length = lk at *
  generalize V.length = lw at *
  generalize C.length = lc at *
  obtain ⟨w0, hw0⟩ : ∃ w0, w0 = (w.alloc (.cells #[.int .i64 lv, .slice ha lh hc, .int .i64 ri, .slice ka lk kc, .slice va lw vc, .slice ca lc cc] 30)).alloc (.cells #[.int .i64 nd, .int .i64 lf, .int .i64 inn, .int .i64 fl, .int .i64 bk] 32) := ⟨_, rfl⟩
  have B0 : Hid (Below w.heap.size w w0) := by show Below _ _ _; rw [hw0]; exact ((Below.refl _ _).alloc (Nat.le_refl _) _).alloc (by simp) _
  have G0 : Hid (w0.heap[w.heap.size]? = some (.cells #[.int .i64 lv, .slice ha lh hc, .int .i64 ri, .slice ka lk kc, .slice va lw vc, .slice ca lc cc] 30 (0, 0))) := by show _ = _; rw [hw0]; exact old_at (new_at rfl)
  have F0 : Hid (w0.heap[w.heap.size + 1]? = some (.cells #[.int .i64 nd, .int .i64 lf, .int .i64 inn, .int .i64 fl, .int .i64 bk] 32 (0, 0))) := by show _ = _; rw [hw0]; exact new_at (by simp)
  have HW0 := hide hw0
  clear hw0
  by_cases h : lv = 0
  · simp only [if_pos h] at HWD ⊢
    have HL2 := hide (HL.out w0)
    rw [decide_eq_true h] at HL2
    clear HL h
    go_enter Try.func9, Try.ntmps9
    go_wp2_with fail
    rw [← HW0.out]
    refine HL2.out.mono ?_
    rintro e w1 ⟨rfl, b⟩
    have B1 := hide (B0.out.trans (b.mono B0.out.size))
    have G1 : Hid (w1.heap[w.heap.size]? = _) := (b.block _ (lt_of_block G0.out)).trans G0.out
    have F1 : Hid (w1.heap[w.heap.size + 1]? = some (.cells #[.int .i64 nd, .int .i64 lf, .int .i64 inn, .int .i64 fl, .int .i64 bk] 32 (0, 0))) := (b.block _ (lt_of_block F0.out)).trans F0.out
    clear b HW0
    obtain ⟨c0, c1, c2, c3, c4, c5⟩ := Six.of G1.out
    have x1 : w1.cell? ⟨w.heap.size + 1, 1, none⟩ = some (.int .i64 lf) := by rw [cell_of_row _ _ _ _ _ _ F1.out]; rfl
    have hf1 := lt_of_block F1.out
    go_wp2_with fail
    go_region_held3 (fun W => W.cell? ⟨w.heap.size, 0, none⟩ = some (.int .i64 lv) ∧ W.cell? ⟨w.heap.size, 1, none⟩ = some (.slice ha lh hc) ∧ W.cell? ⟨w.heap.size, 2, none⟩ = some (.int .i64 ri) ∧ W.cell? ⟨w.heap.size, 3, none⟩ = some (.slice ka lk kc) ∧ W.cell? ⟨w.heap.size, 4, none⟩ = some (.slice va lw vc) ∧ W.cell? ⟨w.heap.size, 5, none⟩ = some (.slice ca lc cc) ∧ W.cell? ⟨w.heap.size + 1, 1, none⟩ = some (.int .i64 lf)) (go_keep) (first
      | (go_at_call 29; refine (HWD.out w1).mono ?_; rintro e w2 ⟨rfl, b⟩; have y := Six.of ((b.block _ (lt_of_block G1.out)).trans G1.out); obtain ⟨y0, y1, y2, y3, y4, y5⟩ := y; have z1 := (b.cell (p := ⟨w.heap.size + 1, 1, none⟩) hf1).trans x1; have B2 := hide (B1.out.trans (b.mono B1.out.size)); clear b)
      | fail)
    go_wp2_with fail
    go_ret
    exact ⟨rfl, B2.out⟩
  · simp only [if_neg h] at HWD ⊢
    have HL2 := hide (HL.out w0)
    rw [decide_eq_false h] at HL2
    clear HL h
    go_enter Try.func9, Try.ntmps9
    go_wp2_with fail
    rw [← HW0.out]
    refine HL2.out.mono ?_
    rintro e w1 ⟨rfl, b⟩
    have B1 := hide (B0.out.trans (b.mono B0.out.size))
    have G1 : Hid (w1.heap[w.heap.size]? = _) := (b.block _ (lt_of_block G0.out)).trans G0.out
    have F1 : Hid (w1.heap[w.heap.size + 1]? = some (.cells #[.int .i64 nd, .int .i64 lf, .int .i64 inn, .int .i64 fl, .int .i64 bk] 32 (0, 0))) := (b.block _ (lt_of_block F0.out)).trans F0.out
    clear b HW0
    obtain ⟨c0, c1, c2, c3, c4, c5⟩ := Six.of G1.out
    have x1 : w1.cell? ⟨w.heap.size + 1, 2, none⟩ = some (.int .i64 inn) := by rw [cell_of_row _ _ _ _ _ _ F1.out]; rfl
    have hf1 := lt_of_block F1.out
    go_wp2_with fail
    go_region_held3 (fun W => W.cell? ⟨w.heap.size, 0, none⟩ = some (.int .i64 lv) ∧ W.cell? ⟨w.heap.size, 1, none⟩ = some (.slice ha lh hc) ∧ W.cell? ⟨w.heap.size, 2, none⟩ = some (.int .i64 ri) ∧ W.cell? ⟨w.heap.size, 3, none⟩ = some (.slice ka lk kc) ∧ W.cell? ⟨w.heap.size, 4, none⟩ = some (.slice va lw vc) ∧ W.cell? ⟨w.heap.size, 5, none⟩ = some (.slice ca lc cc) ∧ W.cell? ⟨w.heap.size + 1, 2, none⟩ = some (.int .i64 inn)) (go_keep) (first
      | (go_at_call 29; refine (HWD.out w1).mono ?_; rintro e w2 ⟨rfl, b⟩; have y := Six.of ((b.block _ (lt_of_block G1.out)).trans G1.out); obtain ⟨y0, y1, y2, y3, y4, y5⟩ := y; have z1 := (b.cell (p := ⟨w.heap.size + 1, 2, none⟩) hf1).trans x1; have B2 := hide (B1.out.trans (b.mono B1.out.size)); clear b)
      | fail)
    go_wp2_with fail
    go_ret
    exact ⟨rfl, B2.out⟩

end Go.Proofs.Ytclgimklfejohaa
