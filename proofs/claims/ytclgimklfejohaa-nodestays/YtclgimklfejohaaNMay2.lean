/- Check's parts of the program: isLeaf, width, Over, headMay. -/
import Derived.Test.YtclgimklfejohaaNMay1
import Derived.Test.YtclgimklfejohaaNRef
import Derived.Test.YtclgimklfejohaaNClone2
namespace Go.Proofs.Ytclgimklfejohaa
open Go.RowKit

set_option maxHeartbeats 400000 in
theorem isLeaf_any (n : Nd) (w : World) : Calls Try.prog 28 #[n.v] w fun e w' => e = .returned (.bool (decide (n.lv = 0))) ∧ Below w.heap.size w w' := by
  obtain ⟨lv, ⟨ha, hc, hs⟩, ri, ⟨ka, kc, K⟩, ⟨va, vc, V⟩, ⟨ca, cc, C⟩⟩ := n
  simp only [Nd.v, Tx.v, TL.v, IL.v]
  have HD : Hid ((lv == 0) = decide (lv = 0)) := by show _ = _; by_cases h : lv = 0 <;> simp [h]
  rw [← HD.out]
  go_enter Try.func28, Try.ntmps28
  go_wp2
  go_ret
  exact ⟨rfl, (Below.refl _ _).alloc (Nat.le_refl _) _⟩

/-- How many a node has of what is counted. -/
def wid (lv : Int) (lk lc : Nat) : Nat := if lv = 0 then lk else lc

set_option maxHeartbeats 800000 in
theorem width_any (n : Nd) (w : World) : Calls Try.prog 29 #[n.v] w fun e w' => e = .returned (.int .i64 (wid n.lv n.ks.L.length n.cs.s.length : Nat)) ∧ Below w.heap.size w w' := by
  have HL : Hid (∀ W, Calls Try.prog 28 #[n.v] W fun e w' => e = .returned (.bool (decide (n.lv = 0))) ∧ Below W.heap.size W w') := fun W => isLeaf_any n W
  obtain ⟨lv, ⟨ha, hc, hs⟩, ri, ⟨ka, kc, K⟩, ⟨va, vc, V⟩, ⟨ca, cc, C⟩⟩ := n
  simp only [Nd.v, Tx.v, TL.v, IL.v, wid] at HL ⊢
  generalize hs.length = lh at *
  generalize K.length = lk at *
  generalize V.length = lw at *
  generalize C.length = lc at *
  obtain ⟨w0, hw0⟩ : ∃ w0, w0 = w.alloc (.cells #[.int .i64 lv, .slice ha lh hc, .int .i64 ri, .slice ka lk kc, .slice va lw vc, .slice ca lc cc] 30) := ⟨_, rfl⟩
  have B0 : Hid (Below w.heap.size w w0) := by show Below _ _ _; rw [hw0]; exact (Below.refl _ _).alloc (Nat.le_refl _) _
  have G0 : Hid (w0.heap[w.heap.size]? = some (.cells #[.int .i64 lv, .slice ha lh hc, .int .i64 ri, .slice ka lk kc, .slice va lw vc, .slice ca lc cc] 30 (0, 0))) := by show _ = _; rw [hw0]; exact heap_alloc_new w _
  have HW0 := hide hw0
  clear hw0
  by_cases h : lv = 0
  · rw [if_pos h]
    have HL2 := hide (HL.out w0)
    rw [decide_eq_true h] at HL2
    clear HL h
    go_enter Try.func29, Try.ntmps29
    go_wp2_with fail
    rw [← HW0.out]
    refine HL2.out.mono ?_
    rintro e w1 ⟨rfl, b⟩
    have B1 := hide (B0.out.trans (b.mono B0.out.size))
    have G1 : Hid (w1.heap[w.heap.size]? = _) := (b.block _ (lt_of_block G0.out)).trans G0.out
    clear b HW0
    obtain ⟨c0, c1, c2, c3, c4, c5⟩ := Six.of G1.out
    go_wp2_with fail
    go_ret
    exact ⟨rfl, B1.out⟩
  · rw [if_neg h]
    have HL2 := hide (HL.out w0)
    rw [decide_eq_false h] at HL2
    clear HL h
    go_enter Try.func29, Try.ntmps29
    go_wp2_with fail
    rw [← HW0.out]
    refine HL2.out.mono ?_
    rintro e w1 ⟨rfl, b⟩
    have B1 := hide (B0.out.trans (b.mono B0.out.size))
    have G1 : Hid (w1.heap[w.heap.size]? = _) := (b.block _ (lt_of_block G0.out)).trans G0.out
    clear b HW0
    obtain ⟨c0, c1, c2, c3, c4, c5⟩ := Six.of G1.out
    go_wp2_with fail
    go_ret
    exact ⟨rfl, B1.out⟩

/-- May a head be? -/
def HdP (lv : Int) (lh : Nat) (ri nd : Int) : Prop := ((0 ≤ lv ∧ lv ≤ 32) ∧ (0 ≤ ri ∧ ri ≤ nd)) ∧ (lh = 0 ↔ ri = 0) ∧ lh ≤ 64
instance (lv : Int) (lh : Nat) (ri nd : Int) : Decidable (HdP lv lh ri nd) := by unfold HdP; exact inferInstance

set_option maxHeartbeats 1600000 in
theorem headMay_any (lv ri : Int) (ha : Option Addr) (lh hc : Nat) (nd lf inn fl bk : Int) (w : World) (hz : lh ≤ 140737488355328) : Calls Try.prog 39 #[.agg #[.int .i64 lv, .slice ha lh hc, .int .i64 ri], .agg #[.int .i64 nd, .int .i64 lf, .int .i64 inn, .int .i64 fl, .int .i64 bk]] w fun e w' => e = .returned (.bool (decide (HdP lv lh ri nd))) ∧ Below w.heap.size w w' := by
  by_cases h0 : 0 ≤ lv ∧ lv ≤ 32
  · by_cases h1 : 0 ≤ ri ∧ ri ≤ nd
    · by_cases h2 : (lh = 0 ↔ ri = 0)
      · have b2 : (((lh : Int) == 0) == (ri == 0)) = true := by
          by_cases a : lh = 0
          · have b := h2.1 a; subst a; subst b; rfl
          · have b : ¬ ri = 0 := fun h => a (h2.2 h)
            rw [beq_eq_false_iff_ne.2 (show (lh : Int) ≠ 0 by omega), beq_eq_false_iff_ne.2 b]; rfl
        have HE : Hid (decide (HdP lv lh ri nd) = decide ((lh : Int) ≤ 64)) := by show _ = _; exact decide_eq_decide.2 ⟨fun h => by have := h.2.2; omega, fun h => ⟨⟨h0, h1⟩, h2, by omega⟩⟩
        rw [HE.out]
        have H0 := hide h0
        have H1 := hide h1
        clear h2 h0 h1 HE
        go_enter Try.func39, Try.ntmps39
        go_wp2_with fail
        refine keep (within_yes _ _ _ _ H0.out.1 H0.out.2) ?_
        go_wp2_with fail
        refine keep (within_yes _ _ _ _ H1.out.1 H1.out.2) ?_
        go_wp2_with fail
        go_ret
        exact ⟨rfl, ((Below.refl _ _).alloc (Nat.le_refl _) _).alloc (by simp) _⟩
      · have b2 : (((lh : Int) == 0) == (ri == 0)) = false := by
          by_cases a : lh = 0
          · have b : ¬ ri = 0 := fun h => h2 ⟨fun _ => h, fun _ => a⟩
            subst a
            rw [beq_eq_false_iff_ne.2 b]; rfl
          · have b : ri = 0 := Classical.byContradiction fun h => h2 ⟨fun h' => absurd h' a, fun h' => absurd h' h⟩
            subst b
            rw [beq_eq_false_iff_ne.2 (show (lh : Int) ≠ 0 by omega)]; rfl
        have HE : Hid (decide (HdP lv lh ri nd) = false) := by show _ = _; exact decide_eq_false fun h => h2 h.2.1
        rw [HE.out]
        have H0 := hide h0
        have H1 := hide h1
        clear h2 h0 h1 HE
        go_enter Try.func39, Try.ntmps39
        go_wp2_with fail
        refine keep (within_yes _ _ _ _ H0.out.1 H0.out.2) ?_
        go_wp2_with fail
        refine keep (within_yes _ _ _ _ H1.out.1 H1.out.2) ?_
        go_wp2_with fail
        go_ret
        exact ⟨rfl, ((Below.refl _ _).alloc (Nat.le_refl _) _).alloc (by simp) _⟩
    · have HE : Hid (decide (HdP lv lh ri nd) = false) := by show _ = _; exact decide_eq_false fun h => h1 h.1.2
      rw [HE.out]
      have H0 := hide h0
      have H1 : Hid (¬ (0 ≤ ri ∧ ri ≤ nd)) := h1
      clear h0 h1 HE
      go_enter Try.func39, Try.ntmps39
      go_wp2_with fail
      refine keep (within_yes _ _ _ _ H0.out.1 H0.out.2) ?_
      go_wp2_with fail
      refine keep (within_no _ _ _ _ H1.out) ?_
      go_wp2_with fail
      go_ret
      exact ⟨rfl, ((Below.refl _ _).alloc (Nat.le_refl _) _).alloc (by simp) _⟩
  · have HE : Hid (decide (HdP lv lh ri nd) = false) := by show _ = _; exact decide_eq_false fun h => h0 h.1.1
    rw [HE.out]
    have H0 : Hid (¬ (0 ≤ lv ∧ lv ≤ 32)) := h0
    clear h0 HE
    go_enter Try.func39, Try.ntmps39
    go_wp2_with fail
    refine keep (within_no _ _ _ _ H0.out) ?_
    go_wp2_with fail
    go_ret
    exact ⟨rfl, ((Below.refl _ _).alloc (Nat.le_refl _) _).alloc (by simp) _⟩

end Go.Proofs.Ytclgimklfejohaa
