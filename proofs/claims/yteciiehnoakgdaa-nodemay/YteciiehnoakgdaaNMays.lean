/- NodeMay: the walk. Written by mkmay.py. -/
import Derived.Test.YteciiehnoakgdaaNLent2
import Derived.Test.YteciiehnoakgdaaNWhole
import Derived.Test.YteciiehnoakgdaaNMay8
namespace Go.Proofs.Yteciiehnoakgdaa
open Go.RowKit

set_option maxRecDepth 100000 in
set_option maxHeartbeats 6400000 in
theorem nodeMay_any (n : Nd) (nd lf inn fl bk : Int) (w : World) (hn : n.Ok w) (hz1 : n.ks.L.length * 24 ≤ 140737488351300) (hz2 : n.vs.L.length * 24 ≤ 140737488351300) (hz3 : n.cs.s.length * 8 ≤ 140737488351300) :
    Calls Try.prog 3 #[n.v, .agg #[.int .i64 nd, .int .i64 lf, .int .i64 inn, .int .i64 fl, .int .i64 bk]] w fun e w' => e = .returned (.bool true) ∧ Below w.heap.size w w' := by
  have HN : Hid (∀ W, Below w.heap.size w W → n.Ok W) := fun W h => hn.below h
  clear hn
  obtain ⟨ce, hce⟩ : ∃ ce, ce = nchkE n.p nd lf inn fl bk := ⟨_, rfl⟩
  have HLE : Hid (∀ W, Below w.heap.size w W → Calls Try.prog 10 #[n.v] W (LePost W n)) := fun W h => lent_any n W (HN.out W h) (by omega) (by omega) (by omega)
  have HWH : Hid (∀ x : Nd, x.p = n.p → ∀ W, Below w.heap.size w W → x.Ok W → SpN W x → Calls Try.prog 12 #[x.v, n.v] W fun e w' => e = .returned (.bool true) ∧ Below W.heap.size W w') := fun x hx W h ho hs => whole_any x n W ho hs (HN.out W h) hx
  have HWO : Hid (∀ x : Nd, x.p = n.p → ∀ W, Below w.heap.size w W → x.Ok W → Calls Try.prog 11 #[x.v, .agg #[.int .i64 nd, .int .i64 lf, .int .i64 inn, .int .i64 fl, .int .i64 bk]] W fun e w' => e = .returned (.int .i64 ce) ∧ Below W.heap.size W w') := fun x hx W h ho => by
    have h1 := ncheck_any x nd lf inn fl bk W ho
    rw [hx, ← hce] at h1; exact h1
  have HRO : Hid (∀ W, Below w.heap.size w W → Calls Try.prog 13 #[n.v, .agg #[.int .i64 nd, .int .i64 lf, .int .i64 inn, .int .i64 fl, .int .i64 bk]] W fun e w' => e = .returned (.int .i64 ce) ∧ Below W.heap.size W w') := fun W h => by rw [hce]; exact rcheck_any n nd lf inn fl bk W (HN.out W h)
  clear hce
  obtain ⟨P, hP⟩ : ∃ P, P = n.p := ⟨_, rfl⟩
  unfold LePost at HLE
  rw [← hP] at HLE HWH HWO
  clear hP
  obtain ⟨lv, ⟨ha, hc, hs⟩, ri, ⟨ka, kc, K⟩, ⟨va, vc, V⟩, ⟨ca, cc, C⟩⟩ := n
  simp only [Nd.v, Tx.v, TL.v, IL.v] at HLE HWH HWO HRO ⊢
  clear HN hz1 hz2 hz3
  generalize hs.length = lh at *
  generalize K.length = lk at *
  generalize V.length = lw at *
  generalize C.length = lc at *
  obtain ⟨w0, hw0⟩ : ∃ w0, w0 = (w.alloc (.cells #[.int .i64 lv, .slice ha lh hc, .int .i64 ri, .slice ka lk kc, .slice va lw vc, .slice ca lc cc] 30)).alloc (.cells #[.int .i64 nd, .int .i64 lf, .int .i64 inn, .int .i64 fl, .int .i64 bk] 32) := ⟨_, rfl⟩
  have B0 : Hid (Below w.heap.size w w0) := by show Below _ _ _; rw [hw0]; exact ((Below.refl _ _).alloc (Nat.le_refl _) _).alloc (by simp) _
  have G0 : Hid (w0.heap[w.heap.size]? = some (.cells #[.int .i64 lv, .slice ha lh hc, .int .i64 ri, .slice ka lk kc, .slice va lw vc, .slice ca lc cc] 30 (0, 0))) := by show _ = _; rw [hw0]; exact old_at (new_at rfl)
  have F0 : Hid (w0.heap[w.heap.size + 1]? = some (.cells #[.int .i64 nd, .int .i64 lf, .int .i64 inn, .int .i64 fl, .int .i64 bk] 32 (0, 0))) := by show _ = _; rw [hw0]; exact new_at (by simp)
  have HW0 := hide hw0
  clear hw0
  go_enter Try.func3, Try.ntmps3
  go_wp2_with fail
  rw [← HW0.out]
  refine (head_any w0).mono ?_
  rintro e w1 ⟨rfl, b⟩
  have B1 := hide (B0.out.trans (b.mono B0.out.size))
  have G1 : Hid (w1.heap[w.heap.size]? = _) := (b.block _ (lt_of_block G0.out)).trans G0.out
  have F1 : Hid (w1.heap[w.heap.size + 1]? = _) := (b.block _ (lt_of_block F0.out)).trans F0.out
  clear b HW0
  obtain ⟨c0, c1, c2, c3, c4, c5⟩ := Six.of G1.out
  go_wp2_with fail
  refine (HLE.out w1 B1.out).mono ?_
  rintro e w2 ⟨x, rfl, hxp, hxo, hxs, b⟩
  have B2 := hide (B1.out.trans (b.mono B1.out.size))
  have G2 : Hid (w2.heap[w.heap.size]? = _) := (b.block _ (lt_of_block G1.out)).trans G1.out
  have F2 : Hid (w2.heap[w.heap.size + 1]? = _) := (b.block _ (lt_of_block F1.out)).trans F1.out
  have HXO : Hid (∀ W, Below w2.heap.size w2 W → x.Ok W) := fun W h => hxo.below h
  have HXS : Hid (∀ W, Below w2.heap.size w2 W → SpN W x) := fun W h => hxs.below h
  have HQ2 := hide (fun W h h' => HWO.out x hxp W h' (HXO.out W h))
  have HQ4 := hide (fun W h h' => HWH.out x hxp W h' (HXO.out W h) (HXS.out W h))
  clear b hxp hxo hxs HWH HLE HWO HXO HXS
  clear c0 c1 c2 c3 c4 c5
  have Bx2 : Hid (Below w2.heap.size w2 w2) := Below.refl _ _
  obtain ⟨lv6, ⟨ha6, hc6, hs6⟩, ri6, ⟨ka6, kc6, K6⟩, ⟨va6, vc6, V6⟩, ⟨ca6, cc6, C6⟩⟩ := x
  simp only at HQ2 HQ4 ⊢
  generalize hs6.length = lh6 at *
  generalize K6.length = lk6 at *
  generalize V6.length = lw6 at *
  generalize C6.length = lc6 at *
  obtain ⟨w3, hw3⟩ : ∃ w3, w3 = w2.alloc (.cells #[.int .i64 lv6, .slice ha6 lh6 hc6, .int .i64 ri6, .slice ka6 lk6 kc6, .slice va6 lw6 vc6, .slice ca6 lc6 cc6] 30) := ⟨_, rfl⟩
  have bb3 : Below w2.heap.size w2 w3 := by rw [hw3]; exact (Below.refl _ _).alloc (Nat.le_refl _) _
  have B3 := hide (B2.out.trans (bb3.mono B2.out.size))
  have Bx3 := hide (Bx2.out.trans (bb3.mono Bx2.out.size))
  have G3 : Hid (w3.heap[w.heap.size]? = _) := (bb3.block _ (lt_of_block G2.out)).trans G2.out
  have F3 : Hid (w3.heap[w.heap.size + 1]? = _) := (bb3.block _ (lt_of_block F2.out)).trans F2.out
  have A3 : Hid (w3.heap[w2.heap.size]? = some (.cells #[.int .i64 lv6, .slice ha6 lh6 hc6, .int .i64 ri6, .slice ka6 lk6 kc6, .slice va6 lw6 vc6, .slice ca6 lc6 cc6] 30 (0, 0))) := by show _ = _; rw [hw3]; exact heap_alloc_new w2 _
  have HW3 := hide hw3
  clear hw3 bb3
  have x0 : w3.cell? ⟨w.heap.size + 1, 0, none⟩ = some (.int .i64 nd) := by rw [cell_of_row _ _ _ _ _ _ F3.out]; rfl
  have x1 : w3.cell? ⟨w.heap.size + 1, 1, none⟩ = some (.int .i64 lf) := by rw [cell_of_row _ _ _ _ _ _ F3.out]; rfl
  have x2 : w3.cell? ⟨w.heap.size + 1, 2, none⟩ = some (.int .i64 inn) := by rw [cell_of_row _ _ _ _ _ _ F3.out]; rfl
  have x3 : w3.cell? ⟨w.heap.size + 1, 3, none⟩ = some (.int .i64 fl) := by rw [cell_of_row _ _ _ _ _ _ F3.out]; rfl
  have x4 : w3.cell? ⟨w.heap.size + 1, 4, none⟩ = some (.int .i64 bk) := by rw [cell_of_row _ _ _ _ _ _ F3.out]; rfl
  rw [HW3.out] at x0 x1 x2 x3 x4
  go_wp2_with fail
  rw [← HW3.out]
  refine (HQ2.out w3 Bx3.out B3.out).mono ?_
  rintro e w4 ⟨rfl, b⟩
  have B4 := hide (B3.out.trans (b.mono B3.out.size))
  have Bx4 := hide (Bx3.out.trans (b.mono Bx3.out.size))
  have G4 : Hid (w4.heap[w.heap.size]? = _) := (b.block _ (lt_of_block G3.out)).trans G3.out
  have F4 : Hid (w4.heap[w.heap.size + 1]? = _) := (b.block _ (lt_of_block F3.out)).trans F3.out
  have A4 : Hid (w4.heap[w2.heap.size]? = _) := (b.block _ (lt_of_block A3.out)).trans A3.out
  clear b HQ2 HW3
  clear x0 x1 x2 x3 x4
  obtain ⟨c0, c1, c2, c3, c4, c5⟩ := Six.of A4.out
  obtain ⟨d0, d1, d2, d3, d4, d5⟩ := Six.of G4.out
  go_wp2_with fail
  refine (HQ4.out w4 Bx4.out B4.out).mono ?_
  rintro e w5 ⟨rfl, b⟩
  have B5 := hide (B4.out.trans (b.mono B4.out.size))
  have Bx5 := hide (Bx4.out.trans (b.mono Bx4.out.size))
  have G5 : Hid (w5.heap[w.heap.size]? = _) := (b.block _ (lt_of_block G4.out)).trans G4.out
  have F5 : Hid (w5.heap[w.heap.size + 1]? = _) := (b.block _ (lt_of_block F4.out)).trans F4.out
  have A5 : Hid (w5.heap[w2.heap.size]? = _) := (b.block _ (lt_of_block A4.out)).trans A4.out
  clear b HQ4
  clear c0 c1 c2 c3 c4 c5 d0 d1 d2 d3 d4 d5
  obtain ⟨c0, c1, c2, c3, c4, c5⟩ := Six.of G5.out
  have x0 : w5.cell? ⟨w.heap.size + 1, 0, none⟩ = some (.int .i64 nd) := by rw [cell_of_row _ _ _ _ _ _ F5.out]; rfl
  have x1 : w5.cell? ⟨w.heap.size + 1, 1, none⟩ = some (.int .i64 lf) := by rw [cell_of_row _ _ _ _ _ _ F5.out]; rfl
  have x2 : w5.cell? ⟨w.heap.size + 1, 2, none⟩ = some (.int .i64 inn) := by rw [cell_of_row _ _ _ _ _ _ F5.out]; rfl
  have x3 : w5.cell? ⟨w.heap.size + 1, 3, none⟩ = some (.int .i64 fl) := by rw [cell_of_row _ _ _ _ _ _ F5.out]; rfl
  have x4 : w5.cell? ⟨w.heap.size + 1, 4, none⟩ = some (.int .i64 bk) := by rw [cell_of_row _ _ _ _ _ _ F5.out]; rfl
  go_wp2_with fail
  refine (HRO.out w5 B5.out).mono ?_
  rintro e w6 ⟨rfl, b⟩
  have B6 := hide (B5.out.trans (b.mono B5.out.size))
  have Bx6 := hide (Bx5.out.trans (b.mono Bx5.out.size))
  have G6 : Hid (w6.heap[w.heap.size]? = _) := (b.block _ (lt_of_block G5.out)).trans G5.out
  have F6 : Hid (w6.heap[w.heap.size + 1]? = _) := (b.block _ (lt_of_block F5.out)).trans F5.out
  have A6 : Hid (w6.heap[w2.heap.size]? = _) := (b.block _ (lt_of_block A5.out)).trans A5.out
  clear b HRO
  clear c0 c1 c2 c3 c4 c5 x0 x1 x2 x3 x4
  have t1 : (ce == ce) = true := by simp
  go_wp2_with fail
  go_ret
  exact ⟨by simp, B6.out⟩

end Go.Proofs.Yteciiehnoakgdaa
