/- spell, Grow, Concat, Seal. -/
import Derived.Test.YtepjblmjjegpgaaGreatW5
import Derived.Test.YtepjblmjjegpgaaGreatW7
import Derived.Test.YtepjblmjjegpgaaGreatW13
namespace Go.Proofs.YtepjblmjjegpgaaGreat
open Go.RowKit
set_option maxRecDepth 100000

theorem make4 (w : World) : (Instr.makeSlice 23 (.int .i64 4) (.int .i64 4)).run Tryz.prog w = .ok (.slice (some ⟨w.heap.size, 0, none⟩) 4 4) (w.alloc (.cells #[.int .u8 0, .int .u8 0, .int .u8 0, .int .u8 0] 5)) := by
  obtain ⟨i0, hi, hz0, hz1, hz2⟩ := info_parts infoByte
  have h := run_makeSlice (P := Tryz.prog) w 23 5 i0 (.int .u8 0) Tryz.underlying23 hi hz0 .i64 .i64 4 4 (by decide) (by decide) (by rw [hz1]; decide) (by rw [hz2]; decide) (by decide)
  rw [hz1, show madeCells (Value.int .u8 0).cells (Int.toNat 4 * 1) = #[.int .u8 0, .int .u8 0, .int .u8 0, .int .u8 0] from by kernel_rfl] at h
  exact h

set_option maxHeartbeats 800000 in
theorem cspell_any (s : Nat) (w : World) (hs : s < 4294967296) :
    Calls Tryz.prog 114 #[.int .u32 s] w fun e w' => e = .returned (.slice (some ⟨w.heap.size, 0, none⟩) 4 4) ∧ w' = w.alloc (.cells ((spell s).map (Value.int .u8)).toArray 5) := by
  have hmk := make4
  go_enter Tryz.func114, Tryz.ntmps114
  go_wp2
  clear hmk
  refine wp_loop_rounds 5 ?_
  rw [rounds_succ]
  go_wp2
  rw [rounds_succ]
  go_wp2
  rw [rounds_succ]
  go_wp2
  rw [rounds_succ]
  go_wp2
  rw [rounds_succ]
  go_wp2
  go_ret
  refine ⟨rfl, ?_⟩
  have e : (#[.int .u8 ((s : Int) % 256), .int .u8 ((s : Int) / 256 % 256), .int .u8 ((s : Int) / 65536 % 256), .int .u8 ((s : Int) / 16777216)] : Array Value) = ((spell s).map (Value.int .u8)).toArray := by
    have h : (s : Int) / 16777216 = ((s / 16777216 % 256 : Nat) : Int) := by omega
    rw [h]
    rfl
  rw [e]

theorem spell_row (s : Nat) (w : World) : Row (w.alloc (.cells ((spell s).map (Value.int .u8)).toArray 5)) .u8 (some ⟨w.heap.size, 0, none⟩) (spell s) := by
  intro i hi
  refine ⟨w.heap.size, 0, rfl, ?_⟩
  rw [cell_of_row _ _ _ _ _ _ (heap_alloc_new w _)]
  simp [List.getD, hi]

theorem parts2 {w : World} {b : Nat} {a1 a2 : Option Addr} {l1 c1 l2 c2 : Nat} {x y : List Int} (h1 : x.length = l1) (h2 : y.length = l2) (n1 : a1 = none → l1 = 0 ∧ c1 = 0) (n2 : a2 = none → l2 = 0 ∧ c2 = 0)
    (k1 : w.cell? ⟨b, 0, none⟩ = some (.slice a1 l1 c1)) (k2 : w.cell? ⟨b, 1, none⟩ = some (.slice a2 l2 c2)) (r1 : Row w .u8 a1 x) (r2 : Row w .u8 a2 y) : Parts w b 0 [.slice a1 l1 c1, .slice a2 l2 c2] [x, y] :=
  ⟨rfl, fun i hi => by
    match i, hi with
    | 0, _ => exact k1
    | 1, _ => exact k2, fun i hi => by
    match i, hi with
    | 0, _ => exact ⟨a1, l1, c1, rfl, h1, n1, r1⟩
    | 1, _ => exact ⟨a2, l2, c2, rfl, h2, n2, r2⟩⟩

set_option maxHeartbeats 800000 in
theorem seal_any (a : Option Addr) (len cap : Nat) (zs : List Int) (w : World) (hl : zs.length = len) (hm : len ≤ 140737488351232) (hnone : a = none → len = 0 ∧ cap = 0) (hr : Row w .u8 a zs) (h8 : B8 zs) :
    Calls Tryz.prog 85 #[.slice a len cap] w fun e w' => ∃ v, e = .returned v ∧ OwnB w' w.heap.size 5 v (zs ++ spell (sumOf zs)) ∧ Below w.heap.size w w' := by
  have HS := hide (sum_any a len cap zs w hl (by unfold maxLen; omega) hr h8)
  have HP := hide (cspell_any (sumOf zs) w (sumOf_lt zs))
  have HR := hide hr
  have HN := hide hnone
  have HSR := hide (spell_row (sumOf zs) w)
  clear hr hnone
  generalize sumOf zs = s at *
  have HF : Hid ([zs, spell s].flatten = zs ++ spell s) := by show _ = _; simp
  go_enter Tryz.func85, Tryz.ntmps85
  go_wp2_with fail
  refine keep HS.out ?_
  go_wp2_with fail
  refine HP.out.mono ?_
  rintro e w1 ⟨rfl, hw1⟩
  have hb1 : Below w.heap.size w w1 := by rw [hw1]; exact (Below.refl _ _).alloc (Nat.le_refl _) _
  rw [← hw1] at HSR
  clear hw1
  have HC := hide (concat_any w1.heap.size 0 2 2 [.slice a len cap, .slice (some ⟨w.heap.size, 0, none⟩) 4 4] [zs, spell s] (w1.alloc (.cells #[.slice a len cap, .slice (some ⟨w.heap.size, 0, none⟩) 4 4] 23)) rfl (by omega)
    (parts2 hl (spell_len s) HN.out (fun h => by cases h) (by rw [cell_of_row _ _ _ _ _ _ (heap_alloc_new w1 _)]; rfl) (by rw [cell_of_row _ _ _ _ _ _ (heap_alloc_new w1 _)]; rfl) ((HR.out.below2 hb1).alloc _) (HSR.out.alloc _))
    (by rw [HF.out, List.length_append, hl, spell_len]; omega))
  rw [HF.out] at HC
  go_wp2_with fail
  refine HC.out.mono ?_
  rintro e w2 ⟨v, rfl, hown, hb2⟩
  go_wp2_with fail
  go_ret
  have h1 := hb1.size
  exact ⟨v, rfl, hown.mono (by simp; omega), (hb1.alloc h1 _).trans (hb2.mono (by simp; omega))⟩

end Go.Proofs.YtepjblmjjegpgaaGreat
