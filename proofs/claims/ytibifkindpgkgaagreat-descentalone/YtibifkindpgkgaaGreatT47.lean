/- shape: has, wrong. -/
import Derived.Carry
import Derived.WalkMore
import Derived.Deep.LoopGhost
import Derived.Test.YtibifkindpgkgaaGreatG44
import Derived.Test.YtibifkindpgkgaaGreatG12
import Derived.Test.YtibifkindpgkgaaGreatG30
import Derived.Test.YtibifkindpgkgaaGreatG24
namespace Go.Proofs.YtibifkindpgkgaaGreat
open Go.RowKit
set_option maxRecDepth 100000
theorem rpt_form (b : Bool) (id er lv no en : Int) : rpt b id er lv no en = .agg #[.bool b, .int .i64 id, .int .i64 er, .int .i64 lv, .int .i64 no, .int .i64 en] := rfl

set_option maxHeartbeats 400000 in
theorem rwrong_any (id er : Int) (w : World) : Calls Tryz.prog 78 #[.int .i64 id, .int .i64 er] w fun e w' => e = .returned (rpt false id er 0 0 0) ∧ Below w.heap.size w w' := by
  obtain ⟨w1, hw1⟩ : ∃ x, x = w.alloc (.cells #[.bool false, .int .i64 0, .int .i64 0, .int .i64 0, .int .i64 0, .int .i64 0] 45) := ⟨_, rfl⟩
  have b1 : Below w.heap.size w w1 := by rw [hw1]; exact (Below.refl _ _).alloc (Nat.le_refl _) _
  have g1 : w1.heap[w.heap.size]? = some (.cells #[.bool false, .int .i64 0, .int .i64 0, .int .i64 0, .int .i64 0, .int .i64 0] 45 (0, 0)) := by rw [hw1]; exact heap_alloc_new w _
  have HW1 : Hid (w.alloc (.cells #[.bool false, .int .i64 0, .int .i64 0, .int .i64 0, .int .i64 0, .int .i64 0] 45) = w1) := hw1.symm
  obtain ⟨y0, y1, y2, y3, y4, y5⟩ := Six.of g1
  have F5 := fun j => frozen_of g1 j
  have G6 := six_block g1 (.bool false) (.int .i64 id) (.int .i64 er) (.int .i64 0) (.int .i64 0) (.int .i64 0)
  have U6 : Upd (fun b => b = w.heap.size) w1 (six6 w1 w.heap.size (.bool false) (.int .i64 id) (.int .i64 er) (.int .i64 0) (.int .i64 0) (.int .i64 0)) := six_upd _ _ _ _ _ _ _ _ _ rfl
  have B6 := hide (b1.trans (U6.below b1.size (fun k hk e => by omega)))
  have HG6 := hide G6
  clear b1 g1 hw1 U6 G6
  go_enter Tryz.func78, Tryz.ntmps78
  go_upto_region 1 with fail
  rw [HW1.out]
  go_wp2_with fail
  (try simp only [Exit.inBlock, Exit.then])
  obtain ⟨q0, q1, q2, q3, q4, q5⟩ := Six.of HG6.out
  show bodyPost _ _ _ _ _ (six6 w1 w.heap.size (.bool false) (.int .i64 id) (.int .i64 er) (.int .i64 0) (.int .i64 0) (.int .i64 0))
  exact bodyPost_ret (v := rpt false id er 0 0 0) (by simp [results, Tryz.results78, go_sem, q0, q1, q2, q3, q4, q5, rpt]) rfl ⟨rfl, B6.out⟩
set_option maxRecDepth 100000 in
set_option maxHeartbeats 800000 in
theorem has_any (v : IL) (x : Int) (w : World) (hv : v.Ok w) (hz : v.s.length ≤ 65536) : Calls Tryz.prog 47 #[v.v, .int .i64 x] w fun e w' => e = .returned (.bool (decide (x ∈ v.s))) ∧ w' = w := by
  obtain ⟨va, vc, vs⟩ := v
  simp only at hz
  obtain ⟨D, hD⟩ : ∃ D, D = decide (x ∈ vs) := ⟨_, rfl⟩
  have HD : Hid (D = true ↔ x ∈ vs) := by show _ ↔ _; rw [hD, decide_eq_true_iff]
  simp only [IL.v]
  rw [← hD]
  have HV := hide hv
  obtain ⟨l, hl⟩ : ∃ l, vs.length = l := ⟨_, rfl⟩
  rw [hl] at hz ⊢
  have HL := hide hl
  clear hD hv hl
  go_enter Tryz.func47, Tryz.ntmps47
  go_wp2_with fail
  go_loopw [5] (fun q5 wr => ∃ i : Nat, i ≤ l ∧ q5 = .int .i64 (i : Int) ∧ Hid (∀ j, j < i → vs.getD j 0 ≠ x) ∧ w = wr) (fun q5 _ => l - (intOf q5).toNat)
  case atStart => exact ⟨0, Nat.zero_le _, rfl, fun j hj => absurd hj (Nat.not_lt_zero j), rfl⟩
  case round =>
    obtain ⟨i, hi, rfl, HA, rfl⟩ := hrel
    by_cases hlt : i < l
    · have j1 : (i : Int) < (l : Int) := by omega
      have hiv : i < vs.length := by rw [HL.out]; exact hlt
      obtain ⟨b, o, hva, hcell⟩ := HV.out.r i hiv
      simp only at hva hcell
      subst hva
      obtain ⟨y, hy⟩ : ∃ y, vs.getD i 0 = y := ⟨_, rfl⟩
      rw [hy] at hcell
      have HY := hide hy
      clear hy
      by_cases hyx : y = x
      · subst hyx
        have hT : D = true := HD.out.2 (by rw [← HY.out, List.getD_eq_getElem?_getD, List.getElem?_eq_getElem hiv]; exact List.getElem_mem hiv)
        subst hT
        go_wp2_with fail
        go_ret
        exact ⟨rfl, rfl⟩
      · have hyx2 : (y == x) = false := by rw [beq_eq_false_iff_ne]; exact hyx
        go_wp2_with fail
        go_roundw
        case rel =>
          refine ⟨i + 1, by omega, by go_num, fun j hj => ?_, trivial⟩
          rcases Nat.lt_or_ge j i with h | h
          · exact HA.out j h
          · obtain rfl : j = i := by omega
            rw [HY.out]; exact hyx
        case measure => simp [intOf]; omega
    · have j1 : ¬ (i : Int) < (l : Int) := by omega
      obtain rfl : i = l := by omega
      have hF : D = false := by
        cases D with
        | false => rfl
        | true =>
          obtain ⟨j, hj, hjx⟩ := List.getElem_of_mem (HD.out.1 rfl)
          exact absurd (by rw [List.getD_eq_getElem?_getD, List.getElem?_eq_getElem hj]; exact hjx) (HA.out j (by rw [← HL.out]; exact hj))
      subst hF
      go_wp2_with fail
      go_ret
      exact ⟨rfl, rfl⟩
end Go.Proofs.YtibifkindpgkgaaGreat
