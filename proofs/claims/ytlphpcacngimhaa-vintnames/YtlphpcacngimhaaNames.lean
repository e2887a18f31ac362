/- VintNames: the walk. -/
import Derived.Test.YtlphpcacngimhaaList
import Derived.Test.YtlphpcacngimhaaLives
import Derived.Test.YtlphpcacngimhaaSame
namespace Go.Proofs.Ytlphpcacngimhaa
open Go.RowKit

theorem row_lit (w : World) (zs : List Int) (cs : Array Value) (T : TypeId) (h : cs = (zs.map (Value.int .u8)).toArray) : Row (w.alloc (.cells cs T)) .u8 (some ⟨w.heap.size, 0, none⟩) zs := by
  intro i hi
  refine ⟨w.heap.size, 0, rfl, ?_⟩
  rw [cell_of_row _ _ _ _ _ _ (heap_alloc_new w _), h]
  simp [List.getD, hi]

theorem below_lit {w w' : World} {o : Obj} (h : Below (w.alloc o).heap.size (w.alloc o) w') : Below w.heap.size w w' := ((Below.refl _ _).alloc (Nat.le_refl _) _).trans (h.mono (by simp))

/-- Read of a literal. -/
theorem read_lits (w : World) (zs : List Int) (cs : Array Value) (len : Nat) (p N M E : Int) (hl : zs.length = len) (hm : len ≤ 100) (h : cs = (zs.map (Value.int .u8)).toArray) (h8 : ∀ c ∈ zs, 0 ≤ c ∧ c ≤ 255) (e1 : rdNum zs p = N) (e2 : rdEnd zs p = M) (e3 : rdErr zs p = E) :
    Calls Try.prog 11 #[.slice (some ⟨w.heap.size, 0, none⟩) len len, .int .i64 p] (w.alloc (.cells cs 5)) fun e w' => e = .returned (.tuple #[.int .u64 N, .int .i64 M, .int .i64 E]) ∧ Below w.heap.size w w' := by
  have h := read_any (some ⟨w.heap.size, 0, none⟩) len len p zs _ hl (by unfold maxLen; omega) (row_lit w zs cs 5 h) (fits8_of_mem h8)
  rw [e1, e2, e3] at h
  refine h.mono ?_
  rintro e w' ⟨rfl, hb⟩
  exact ⟨rfl, below_lit hb⟩

theorem seq_lit : seq [5, 172, 2, 128, 0] = [(0, 5), (1, 300)] := by decide +kernel
theorem behind_lit : behindS (seq [5, 172, 2, 128, 0]) = 3 := by decide +kernel
theorem enc128 : enc 128 = [128, 1] := by decide +kernel
theorem encMax : enc 18446744073709551615 = [255, 255, 255, 255, 255, 255, 255, 255, 255, 1] := by decide +kernel

theorem list_lit (w : World) :
    Calls Try.prog 12 #[.slice (some ⟨w.heap.size, 0, none⟩) 5 5] (w.alloc (.cells #[.int .u8 5, .int .u8 172, .int .u8 2, .int .u8 128, .int .u8 0] 5)) fun e w' => e = .returned (.tuple #[.slice none 0 0, .int .i64 13, .int .i64 4]) ∧ Below w.heap.size w w' := by
  have h := callsIn_wide.1 (list_bad_in 5 (Nat.le_refl _) (some ⟨w.heap.size, 0, none⟩) 5 5 [5, 172, 2, 128, 0] (w.alloc (.cells #[.int .u8 5, .int .u8 172, .int .u8 2, .int .u8 128, .int .u8 0] 5)) rfl (by omega) (by decide) (row_lit w _ _ _ rfl) (by rw [seq_lit]; decide) 3 behind_lit (by decide) 13 4 (by show _ = _; decide +kernel) (by show _ = _; decide +kernel))
  refine h.mono ?_
  rintro e w' ⟨rfl, hb⟩
  exact ⟨rfl, below_lit hb⟩

theorem cell_nine {w : World} {g : Nat} (h : Row w .u8 (some ⟨g, 0, none⟩) [255, 255, 255, 255, 255, 255, 255, 255, 255, 1]) : w.cell? ⟨g, 9, none⟩ = some (.int .u8 1) := by
  obtain ⟨b, off, ha, hc⟩ := h 9 (by decide)
  cases ha
  exact hc

set_option maxRecDepth 100000 in
set_option maxHeartbeats 800000 in
theorem names_any (w : World) :
    Calls Try.prog 3 #[] w fun e w' => e = .returned (.bool true) ∧ Below w.heap.size w w' := by
  go_enter Try.func3, Try.ntmps3
  go_wp2_with (first
    | (go_at_call 9; refine (lives_any _).mono ?_; rintro e w1 ⟨rfl, hb1⟩))
  have H2 := bytes_any 128 w1 (by omega)
  rw [enc128] at H2
  refine H2.mono ?_
  rintro e w2 ⟨rfl, hown2, hb2⟩
  have HA := hide (row_of_owns hown2)
  clear H2 hown2
  go_wp2_with fail
  have H3 := bytes_any 18446744073709551615 w2 (by omega)
  rw [encMax] at H3
  refine H3.mono ?_
  rintro e w3 ⟨rfl, hown3, hb3⟩
  have HB := hide (row_of_owns hown3)
  have z1 := hb1.size
  have z2 := hb2.size
  have hw3 : Below w.heap.size w w3 := (hb1.trans (hb2.mono z1)).trans (hb3.mono (by omega))
  have HA3 := hide (HA.out.below2 hb3)
  clear H3 hown3 HA hb1 hb2 hb3
  generalize w1.heap.size = g1 at *
  generalize w2.heap.size = g2 at *
  go_wp2_with fail
  refine (read_lits w3 [172, 2, 7] _ 3 2 7 3 0 rfl (by decide) rfl (by decide) (by decide +kernel) (by decide +kernel) (by decide +kernel)).mono ?_
  rintro e w4 ⟨rfl, hb4⟩
  go_wp2_with fail
  refine (read_lits w4 [128, 0] _ 2 0 0 1 13 rfl (by decide) rfl (by decide) (by decide +kernel) (by decide +kernel) (by decide +kernel)).mono ?_
  rintro e w5 ⟨rfl, hb5⟩
  go_wp2_with fail
  refine (read_lits w5 [128] _ 1 0 0 1 11 rfl (by decide) rfl (by decide) (by decide +kernel) (by decide +kernel) (by decide +kernel)).mono ?_
  rintro e w6 ⟨rfl, hb6⟩
  go_wp2_with fail
  refine (read_lits w6 [255, 255, 255, 255, 255, 255, 255, 255, 255, 2] _ 10 0 0 9 12 rfl (by decide) rfl (by decide) (by decide +kernel) (by decide +kernel) (by decide +kernel)).mono ?_
  rintro e w7 ⟨rfl, hb7⟩
  go_wp2_with fail
  refine (list_lit w7).mono ?_
  rintro e w8 ⟨rfl, hb8⟩
  have z4 := hb4.size
  have z5 := hb5.size
  have z6 := hb6.size
  have z7 := hb7.size
  have h38 : Below w3.heap.size w3 w8 := (((hb4.trans (hb5.mono z4)).trans (hb6.mono (by omega))).trans (hb7.mono (by omega))).trans (hb8.mono (by omega))
  have HA8 := hide (HA3.out.below2 h38)
  have HB8 := hide (HB.out.below2 h38)
  have hw8 : Below w.heap.size w w8 := hw3.trans (h38.mono hw3.size)
  clear hb4 hb5 hb6 hb7 hb8 h38 HA3 HB
  have HSM := hide (same_any (some ⟨g1 + 1, 0, none⟩) (some ⟨w8.heap.size, 0, none⟩) 2 2 2 2 [128, 1] [128, 1] (w8.alloc (.cells #[.int .u8 128, .int .u8 1] 5)) (by unfold maxLen; omega) rfl rfl (HA8.out.alloc _) (row_lit w8 _ _ _ rfl))
  rw [decide_eq_true rfl] at HSM
  go_wp2_with (first
    | (go_at_call 13; refine HSM.out.mono ?_; rintro e w9 ⟨rfl, hst9⟩; have hb9 := cell_nine (hst9.row (HB8.out.alloc _)))
    | fail)
  go_ret
  exact ⟨rfl, (hw8.alloc hw8.size _).trans (hst9.below _)⟩

end Go.Proofs.Ytlphpcacngimhaa
