/- The law's leaf, inner. -/
import Derived.Test.YteciiehnoakgdaaNRef
import Derived.Test.YteciiehnoakgdaaNClone2
namespace Go.Proofs.Yteciiehnoakgdaa
open Go.RowKit

set_option maxRecDepth 100000 in
set_option maxHeartbeats 800000 in
theorem leaf_any (n : Nd) (w : World) (hn : n.Ok w) :
    Calls Try.prog 23 #[n.v] w fun e w' => e = .returned (.bool (decide (RtP n.p ∧ n.lv = 0))) ∧ Below w.heap.size w w' := by
  obtain ⟨rb, hrb⟩ : ∃ rb, rb = decide (RtP n.p) := ⟨_, rfl⟩
  have HR : Hid (∀ W, Below w.heap.size w W → Calls Try.prog 31 #[n.v] W fun e w' => e = .returned (.bool rb) ∧ Below W.heap.size W w') := fun W h => by rw [hrb]; exact right_any n W (hn.below h)
  obtain ⟨R, hR⟩ : ∃ R, R = decide (RtP n.p ∧ n.lv = 0) := ⟨_, rfl⟩
  have hRR : R = (rb && decide (n.lv = 0)) := by rw [hR, hrb, Bool.decide_and]
  rw [← hR]
  clear hR hrb hn
  obtain ⟨lv, ⟨ha, hc, hs⟩, ri, ⟨ka, kc, K⟩, ⟨va, vc, V⟩, ⟨ca, cc, C⟩⟩ := n
  simp only [Nd.v, Tx.v, TL.v, IL.v] at HR hRR ⊢
  generalize hs.length = lh at *
  generalize K.length = lk at *
  generalize V.length = lw at *
  generalize C.length = lc at *
  obtain ⟨w0, hw0⟩ : ∃ w0, w0 = w.alloc (.cells #[.int .i64 lv, .slice ha lh hc, .int .i64 ri, .slice ka lk kc, .slice va lw vc, .slice ca lc cc] 30) := ⟨_, rfl⟩
  have B0 : Hid (Below w.heap.size w w0) := by show Below _ _ _; rw [hw0]; exact (Below.refl _ _).alloc (Nat.le_refl _) _
  have g0 : w0.heap[w.heap.size]? = some (.cells #[.int .i64 lv, .slice ha lh hc, .int .i64 ri, .slice ka lk kc, .slice va lw vc, .slice ca lc cc] 30 (0, 0)) := by rw [hw0]; exact heap_alloc_new w _
  have G0 := hide g0
  have HW0 := hide hw0
  have HRR := hide hRR
  clear hw0 g0 hRR
  go_enter Try.func23, Try.ntmps23
  go_wp2_with fail
  rw [← HW0.out]
  refine (HR.out w0 B0.out).mono ?_
  rintro e w1 ⟨rfl, b1⟩
  have G1 : Hid (w1.heap[w.heap.size]? = _) := (b1.block _ (lt_of_block G0.out)).trans G0.out
  have c0 := (Six.of G1.out).1
  have B1 := hide (B0.out.trans (b1.mono B0.out.size))
  clear b1
  cases rb with
  | false =>
    have HF : Hid (R = false) := by show _ = _; rw [HRR.out]; rfl
    go_wp2_with fail
    go_ret
    exact ⟨by rw [HF.out]; rfl, B1.out⟩
  | true =>
    by_cases h0 : lv = 0
    · subst h0
      have HF : Hid (R = true) := by show _ = _; rw [HRR.out]; rfl
      go_wp2_with fail
      go_ret
      exact ⟨by rw [HF.out]; rfl, B1.out⟩
    · have h0' : (lv == 0) = false := by rw [beq_eq_false_iff_ne]; exact h0
      have HF : Hid (R = false) := by show _ = _; rw [HRR.out]; simp [h0]
      go_wp2_with fail
      go_ret
      exact ⟨by rw [HF.out]; rfl, B1.out⟩
set_option maxRecDepth 100000 in
set_option maxHeartbeats 800000 in
theorem inner_any (n : Nd) (w : World) (hn : n.Ok w) :
    Calls Try.prog 28 #[n.v] w fun e w' => e = .returned (.bool (decide (RtP n.p ∧ 0 < n.lv))) ∧ Below w.heap.size w w' := by
  obtain ⟨rb, hrb⟩ : ∃ rb, rb = decide (RtP n.p) := ⟨_, rfl⟩
  have HR : Hid (∀ W, Below w.heap.size w W → Calls Try.prog 31 #[n.v] W fun e w' => e = .returned (.bool rb) ∧ Below W.heap.size W w') := fun W h => by rw [hrb]; exact right_any n W (hn.below h)
  obtain ⟨R, hR⟩ : ∃ R, R = decide (RtP n.p ∧ 0 < n.lv) := ⟨_, rfl⟩
  have hRR : R = (rb && decide (0 < n.lv)) := by rw [hR, hrb, Bool.decide_and]
  rw [← hR]
  clear hR hrb hn
  obtain ⟨lv, ⟨ha, hc, hs⟩, ri, ⟨ka, kc, K⟩, ⟨va, vc, V⟩, ⟨ca, cc, C⟩⟩ := n
  simp only [Nd.v, Tx.v, TL.v, IL.v] at HR hRR ⊢
  generalize hs.length = lh at *
  generalize K.length = lk at *
  generalize V.length = lw at *
  generalize C.length = lc at *
  obtain ⟨w0, hw0⟩ : ∃ w0, w0 = w.alloc (.cells #[.int .i64 lv, .slice ha lh hc, .int .i64 ri, .slice ka lk kc, .slice va lw vc, .slice ca lc cc] 30) := ⟨_, rfl⟩
  have B0 : Hid (Below w.heap.size w w0) := by show Below _ _ _; rw [hw0]; exact (Below.refl _ _).alloc (Nat.le_refl _) _
  have g0 : w0.heap[w.heap.size]? = some (.cells #[.int .i64 lv, .slice ha lh hc, .int .i64 ri, .slice ka lk kc, .slice va lw vc, .slice ca lc cc] 30 (0, 0)) := by rw [hw0]; exact heap_alloc_new w _
  have G0 := hide g0
  have HW0 := hide hw0
  have HRR := hide hRR
  clear hw0 g0 hRR
  go_enter Try.func28, Try.ntmps28
  go_wp2_with fail
  rw [← HW0.out]
  refine (HR.out w0 B0.out).mono ?_
  rintro e w1 ⟨rfl, b1⟩
  have G1 : Hid (w1.heap[w.heap.size]? = _) := (b1.block _ (lt_of_block G0.out)).trans G0.out
  have c0 := (Six.of G1.out).1
  have B1 := hide (B0.out.trans (b1.mono B0.out.size))
  clear b1
  cases rb with
  | false =>
    have HF : Hid (R = false) := by show _ = _; rw [HRR.out]; rfl
    go_wp2_with fail
    go_ret
    exact ⟨by rw [HF.out]; rfl, B1.out⟩
  | true =>
    have HF : Hid (R = decide (0 < lv)) := by show _ = _; rw [HRR.out]; rfl
    go_wp2_with fail
    go_ret
    exact ⟨by rw [HF.out]; rfl, B1.out⟩

end Go.Proofs.Yteciiehnoakgdaa
