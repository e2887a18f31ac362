/- Check's parts of the document: kids. -/
import Derived.Test.YteciiehnoakgdaaNMay5
namespace Go.Proofs.Yteciiehnoakgdaa
open Go.RowKit

set_option maxRecDepth 100000 in
set_option maxHeartbeats 3200000 in
theorem rkids_any (n : Nd) (nd lf inn fl bk : Int) (w : World) (hn : n.Ok w) : Calls Try.prog 44 #[n.v, .agg #[.int .i64 nd, .int .i64 lf, .int .i64 inn, .int .i64 fl, .int .i64 bk]] w fun e w' => e = .returned (.bool (decide ((n.cs.s.length : Int) ≤ inn ∧ KdP n.cs.s nd))) ∧ Below w.heap.size w w' := by
  obtain ⟨rv, hrv⟩ : ∃ rv, rv = decide ((n.cs.s.length : Int) ≤ inn ∧ KdP n.cs.s nd) := ⟨_, rfl⟩
  rw [← hrv]
  have hcz := hn.cz
  have HC : Hid (∀ W, Below w.heap.size w W → Row W .i64 n.cs.a n.cs.s) := fun W h => (hn.below h).c.r
  clear hn
  obtain ⟨lv, ⟨ha, hc, hs⟩, ri, ⟨ka, kc, K⟩, ⟨va, vc, V⟩, ⟨ca, cc, C⟩⟩ := n
  simp only [Nd.v, Tx.v, TL.v, IL.v] at HC hcz hrv ⊢
  obtain ⟨lc, hlc⟩ : ∃ lc, C.length = lc := ⟨_, rfl⟩
  rw [hlc] at hcz hrv ⊢
  replace hlc := hide hlc
  replace hrv := hide hrv
  generalize hs.length = lh at *
  generalize K.length = lk at *
  generalize V.length = lw at *
  obtain ⟨w0, hw0⟩ : ∃ w0, w0 = (w.alloc (.cells #[.int .i64 lv, .slice ha lh hc, .int .i64 ri, .slice ka lk kc, .slice va lw vc, .slice ca lc cc] 30)).alloc (.cells #[.int .i64 nd, .int .i64 lf, .int .i64 inn, .int .i64 fl, .int .i64 bk] 32) := ⟨_, rfl⟩
  have B0 : Hid (Below w.heap.size w w0) := by show Below _ _ _; rw [hw0]; exact ((Below.refl _ _).alloc (Nat.le_refl _) _).alloc (by simp) _
  have G0 : Hid (w0.heap[w.heap.size]? = some (.cells #[.int .i64 lv, .slice ha lh hc, .int .i64 ri, .slice ka lk kc, .slice va lw vc, .slice ca lc cc] 30 (0, 0))) := by show _ = _; rw [hw0]; exact old_at (new_at rfl)
  have F0 : Hid (w0.heap[w.heap.size + 1]? = some (.cells #[.int .i64 nd, .int .i64 lf, .int .i64 inn, .int .i64 fl, .int .i64 bk] 32 (0, 0))) := by show _ = _; rw [hw0]; exact new_at (by simp)
  have HW0 := hide hw0
  clear hw0
  by_cases hin : inn < (lc : Int)
  · have HF : Hid (rv = false) := by show _ = _; rw [hrv.out]; exact decide_eq_false fun h => by have := h.1; omega
    go_enter Try.func44, Try.ntmps44
    go_wp2_with fail
    go_ret
    exact ⟨by rw [HF.out]; rfl, by have := B0.out; rw [HW0.out] at this; exact this⟩
  · go_enter Try.func44, Try.ntmps44
    go_wp2_with fail
    rw [← HW0.out]
    clear HW0
    have HIN : Hid ((lc : Int) ≤ inn) := by show _ ≤ _; omega
    clear hin
    go_loopw [5] (fun q wr => ∃ i : Nat, q = .int .i64 (i : Int) ∧ i ≤ lc ∧ Hid (Below w.heap.size w wr) ∧ Hid (wr.heap[w.heap.size]? = some (.cells #[.int .i64 lv, .slice ha lh hc, .int .i64 ri, .slice ka lk kc, .slice va lw vc, .slice ca lc cc] 30 (0, 0))) ∧ Hid (wr.heap[w.heap.size + 1]? = some (.cells #[.int .i64 nd, .int .i64 lf, .int .i64 inn, .int .i64 fl, .int .i64 bk] 32 (0, 0))) ∧ Hid (∀ j, j < i → (1 ≤ C.getD j 0 ∧ C.getD j 0 ≤ nd) ∧ ¬ isAt C j (C.getD j 0))) (fun q _ => lc - (intOf q).toNat)
    case atStart => exact ⟨0, rfl, Nat.zero_le _, B0, G0, F0, fun j hj => absurd hj (Nat.not_lt_zero j)⟩
    case round =>
      clear B0 G0 F0
      obtain ⟨i, rfl, hle, B1, G1, F1, HE⟩ := hrel
      rename World => wr
      obtain ⟨c0, c1, c2, c3, c4, c5⟩ := Six.of G1.out
      have x0 : wr.cell? ⟨w.heap.size + 1, 0, none⟩ = some (.int .i64 nd) := by rw [cell_of_row _ _ _ _ _ _ F1.out]; rfl
      by_cases hlt : i < lc
      · have j1 : (i : Int) < (lc : Int) := by omega
        have j2 : (0 : Int) ≤ (i : Int) := by omega
        obtain ⟨b, o, hae, s0⟩ := HC.out wr B1.out i (by rw [hlc.out]; exact hlt)
        subst hae
        obtain ⟨y, hy⟩ : ∃ y, y = C.getD i 0 := ⟨_, rfl⟩
        rw [← hy] at s0
        replace hy := hide hy
        have HNO : Hid (¬ ((1 ≤ y ∧ y ≤ nd) ∧ ¬ isAt C i y) → rv = false) := fun h2 => by
          rw [hrv.out]
          refine decide_eq_false fun h => h2 ?_
          have := h.2 i (by rw [hlc.out]; exact hlt)
          rw [← hy.out] at this
          exact this
        by_cases h1 : y < 1
        · have HF : Hid (rv = false) := HNO.out fun h => by have := h.1.1; omega
          clear HNO HE
          go_wp2_with fail
          go_quiet (fail)
          go_wp2_with fail
          go_ret
          exact ⟨by rw [HF.out]; rfl, below_drewN B1.out _⟩
        · by_cases h2 : nd < y
          · have HF : Hid (rv = false) := HNO.out fun h => by have := h.1.2; omega
            clear HNO HE
            go_wp2_with fail
            go_quiet (fail)
            go_wp2_with fail
            go_ret
            exact ⟨by rw [HF.out]; rfl, below_drewN B1.out _⟩
          · have HY : Hid (1 ≤ y ∧ y ≤ nd) := ⟨by omega, by omega⟩
            go_wp2_with fail
            go_quiet (fail)
            go_wp2_with fail
            clear c0 c1 c2 c3 c4 c5 x0 s0 h1 h2
            go_loopw [6] (fun q wr => ∃ k : Nat, q = .int .i64 (k : Int) ∧ k ≤ i ∧ Hid (Below w.heap.size w wr) ∧ Hid (wr.heap[w.heap.size]? = some (.cells #[.int .i64 lv, .slice ha lh hc, .int .i64 ri, .slice ka lk kc, .slice va lw vc, .slice (some ⟨b, o, none⟩) lc cc] 30 (0, 0))) ∧ Hid (wr.heap[w.heap.size + 1]? = some (.cells #[.int .i64 nd, .int .i64 lf, .int .i64 inn, .int .i64 fl, .int .i64 bk] 32 (0, 0))) ∧ Hid (∀ j, j < k → C.getD j 0 ≠ y)) (fun q _ => i - (intOf q).toNat)
            case atStart => exact ⟨0, rfl, Nat.zero_le _, below_drewN B1.out _, G1.out, F1.out, fun j hj => absurd hj (Nat.not_lt_zero j)⟩
            case round =>
              clear B1 G1 F1
              obtain ⟨k, rfl, hki, B1, G1, F1, HE2⟩ := hrel
              rename World => wr
              obtain ⟨c0, c1, c2, c3, c4, c5⟩ := Six.of G1.out
              by_cases hk : k < i
              · have k1 : (k : Int) < (i : Int) := by omega
                have k2 : (0 : Int) ≤ (k : Int) := by omega
                have k3 : (k : Int) < (lc : Int) := by omega
                obtain ⟨b', o', hae, s1⟩ := HC.out wr B1.out k (by rw [hlc.out]; omega)
                obtain ⟨b'', o'', hae2, s2⟩ := HC.out wr B1.out i (by rw [hlc.out]; omega)
                cases hae
                cases hae2
                rw [← hy.out] at s2
                obtain ⟨z, hz⟩ : ∃ z, z = C.getD k 0 := ⟨_, rfl⟩
                rw [← hz] at s1
                replace hz := hide hz
                by_cases hzy : z = y
                · have HF : Hid (rv = false) := HNO.out fun h => h.2 ⟨k, hk, by rw [← hz.out, hzy]⟩
                  have q1 : (z == y) = true := by rw [beq_iff_eq]; exact hzy
                  replace hzy := hide hzy
                  clear HNO HE HE2
                  go_wp2_with fail
                  go_quiet (fail)
                  go_wp2_with fail
                  go_ret
                  exact ⟨by rw [HF.out]; rfl, below_drewN B1.out _⟩
                · have q1 : (z == y) = false := by rw [beq_eq_false_iff_ne]; exact hzy
                  have HE3 : Hid (∀ j, j < k + 1 → C.getD j 0 ≠ y) := fun j hj => by
                    by_cases e : j = k
                    · rw [e, ← hz.out]; exact hzy
                    · exact HE2.out j (by omega)
                  clear HE2
                  go_wp2_with fail
                  go_quiet (fail)
                  go_wp2_with fail
                  go_roundw
                  case rel => exact ⟨k + 1, by go_num, by omega, below_drewN B1.out _, G1.out, F1.out, HE3⟩
                  case measure => simp [intOf]; omega
              · have k1 : ¬ (k : Int) < (i : Int) := by omega
                obtain rfl : k = i := by omega
                have HE3 : Hid (∀ j, j < k + 1 → (1 ≤ C.getD j 0 ∧ C.getD j 0 ≤ nd) ∧ ¬ isAt C j (C.getD j 0)) := fun j hj => by
                  by_cases e : j = k
                  · rw [e, ← hy.out]; exact ⟨HY.out, fun ⟨q, h1, h2⟩ => HE2.out q h1 h2⟩
                  · exact HE.out j (by omega)
                clear HE2 HE HNO
                go_wp2_with fail
                go_roundw
                case rel => exact ⟨k + 1, by go_num, by omega, B1, G1, F1, HE3⟩
                case measure => simp [intOf]; omega
      · have j1 : ¬ (i : Int) < (lc : Int) := by omega
        have HF : Hid (rv = true) := by
          show _ = _
          rw [hrv.out]
          refine decide_eq_true ⟨HIN.out, fun j hj => HE.out j ?_⟩
          rw [hlc.out] at hj
          omega
        go_wp2_with fail
        go_ret
        exact ⟨by rw [HF.out]; rfl, B1.out⟩

end Go.Proofs.Yteciiehnoakgdaa
