/- PipeNames: the walk. -/
import Derived.Test.YtpjldnjcomdhkaaPLaw
import Derived.Test.YtpjldnjcomdhkaaPSame
import Derived.Lib.SlBytesConst
namespace Go.Proofs.Ytpjldnjcomdhkaa
open Go.RowKit

set_option maxHeartbeats 800000 in
/-- No writer. -/
theorem copy_nil (r : Value) (size : Int) (w : World) :
    Calls Try.prog 12 #[.nilIface, r, .int .i64 size] w fun e w' => e = .returned (.tuple #[.int .i64 0, .int .i64 1]) ∧ Below w.heap.size w w' := by
  go_enter Try.func12, Try.ntmps12
  go_wp2_with fail
  have hs := heap_alloc_new ((w.alloc (.cells #[.nilIface] 74)).alloc (.cells #[.int .i64 0] 3)) (.cells #[.int .i64 1] 35)
  have h1 : (((w.alloc (.cells #[.nilIface] 74)).alloc (.cells #[.int .i64 0] 3)).alloc (.cells #[.int .i64 1] 35)).heap[w.heap.size + 1]? = some (.cells #[.int .i64 0] 3 (0, 0)) := (Below.heap_alloc _ _ _ (by simp)).trans (by have := heap_alloc_new (w.alloc (.cells #[.nilIface] 74)) (.cells #[.int .i64 0] 3); simpa using this)
  have hb : Below w.heap.size w (((w.alloc (.cells #[.nilIface] 74)).alloc (.cells #[.int .i64 0] 3)).alloc (.cells #[.int .i64 1] 35)) := (((Below.refl _ _).alloc (Nat.le_refl _) _).alloc (by simp) _).alloc (by simp; omega) _
  rw [World.size_alloc, World.size_alloc] at hs
  generalize ((w.alloc (.cells #[.nilIface] 74)).alloc (.cells #[.int .i64 0] 3)).alloc (.cells #[.int .i64 1] 35) = w3 at *
  have c1 := (show Bx w3 (w.heap.size + 1) 3 (.int .i64 0) from h1).cell
  have c2 := (show Bx w3 (w.heap.size + 1 + 1) 35 (.int .i64 1) from hs).cell
  refine bodyPost_ret (by simp [results, Try.results12, go_sem, c1, c2]; try rfl) rfl ?_
  exact ⟨rfl, hb⟩

theorem names_copy1 : copyL (handA (snkWf [1, 0] 4)) (srcAll [97, 98, 99, 100, 101, 102] [2, 0, 3] 0 false 4 (0, 0)) (0, 0) (0, []) 0 = (2, 32, (3, 5), (4, [97, 98])) := by decide
theorem names_copy2 : copyL (handA (snkWf [1, 0] 4)) (srcAll [97, 98, 99, 100, 101, 102] [2, 0, 3] 0 false 0 (3, 5)) (3, 5) (4, [97, 98]) 0 = (0, 1, (3, 5), (4, [97, 98])) := by decide
theorem lit_row {W : World} {k : IntKind} {t : TypeId} {fr : Nat × Nat} (zs : List Int) (g : Nat) (h : W.heap[g]? = some (.cells (zs.map (Value.int k)).toArray t fr)) : Row W k (some ⟨g, 0, none⟩) zs := by
  intro i hi
  refine ⟨g, 0, rfl, ?_⟩
  rw [Nat.zero_add, cell_of_row _ _ _ _ _ _ h]
  simp [List.getD, hi]

set_option maxRecDepth 100000 in
set_option maxHeartbeats 3200000 in
theorem pipeNames_any (w : World) : Calls Try.prog 3 #[] w fun e w' => e = .returned (.bool true) ∧ Below w.heap.size w w' := by
  have kc := fun (w : World) (C : Array Value) (n c : Nat) => Lib.run_convert_bytes_const (P := Try.prog) w 23 5 C n c Try.underlying23 Try.underlying5
  go_enter Try.func3, Try.ntmps3
  go_wp2_with fail
  refine (lives_any w).mono ?_
  rintro e w1 ⟨rfl, hb1⟩
  have q1 := heap_alloc2_old w1 (.cells #[.int .u8 97, .int .u8 98, .int .u8 99, .int .u8 100, .int .u8 101, .int .u8 102] 5 (6, 7)) (.cells #[.int .i64 2, .int .i64 0, .int .i64 3] 3)
  have q2 := heap_alloc2_new w1 (.cells #[.int .u8 97, .int .u8 98, .int .u8 99, .int .u8 100, .int .u8 101, .int .u8 102] 5 (6, 7)) (.cells #[.int .i64 2, .int .i64 0, .int .i64 3] 3)
  have hz1 := hb1.size
  have HB1 := hide hb1
  have HQ1 := hide q1
  have HQ2 := hide q2
  clear q1 q2 hb1
  go_wp2_with fail
  refine (source_any (some ⟨w1.heap.size, 0, none⟩) (some ⟨w1.heap.size + 1, 0, none⟩) 6 6 3 3 [97, 98, 99, 100, 101, 102] [2, 0, 3] 0 false _ rfl rfl (by omega) (by omega) (fun h => by cases h) (fun h => by cases h) (lit_row _ _ ((Below.heap_alloc _ _ _ (by simp only [World.size_alloc]; omega)).trans HQ1.out)) (lit_row _ _ ((Below.heap_alloc _ _ _ (by simp only [World.size_alloc]; omega)).trans HQ2.out))).mono ?_
  rintro e w2 ⟨g, M, g2, rfl, hS, hM, _, _, hb2⟩
  have hB2 : Below w.heap.size w w2 := (((HB1.out.alloc hz1 _).alloc (by simp; omega) _).alloc (by simp; omega) _).trans (hb2.mono (by simp; omega))
  have hM' : ∀ i, M i → w.heap.size ≤ i := fun i hi => by have := (hM i hi).1; simp at this; omega
  have HS := hide hS
  have HM := hide hM'
  have HB2 := hide hB2
  have hz2 := hB2.size
  have q3 := heap_alloc_new w2 (.cells #[.int .i64 1, .int .i64 0] 3)
  have HQ3 := hide q3
  clear hS hM hM' hb2 hB2 q3 HQ1 HQ2 HB1
  go_wp2_with fail
  refine (sink_any (some ⟨w2.heap.size, 0, none⟩) 2 2 [1, 0] 4 _ rfl (by omega) (fun h => by cases h) (lit_row _ _ HQ3.out)).mono ?_
  rintro e w3 ⟨h, M2, h2, rfl, hK, _, _, _, hb3⟩
  have hb3' := below_lit' hb3
  have HS3 := hide (HS.out.upd (Upd.of_below hb3' Noth) (fun i _ e => e))
  have HB3 := hide (HB2.out.trans (hb3'.mono hz2))
  have HK3 := hide (hK.mono (show w.heap.size ≤ (w2.alloc (.cells #[.int .i64 1, .int .i64 0] 3)).heap.size by simp; omega))
  have hMlt := HS.out.lt.1
  have HD3 : Hid (∀ i, M i → ¬ M2 i) := hide (fun i hi e => by have h1 := hMlt i hi; have h2 := (hK.lt i e).1; simp at h2; omega)
  have hz3 := HB3.out.size
  have HC := hide (copySS_any [97, 98, 99, 100, 101, 102] [2, 0, 3] [1, 0] 0 4 false 4 g h w.heap.size M M2 w3 0 0 0 [] (fun x hx => by simp at hx; omega) HS3.out HM.out HK3.out HD3.out hz3 (by simp) (by simp) (by simp))
  rw [names_copy1] at HC
  clear hK hb3 hb3' HS HQ3 HB2 hMlt
  go_wp2_with fail
  refine HC.out.mono ?_
  rintro e w4 ⟨rfl, ⟨_, hS4, _⟩, ⟨M4, hK4, hm4⟩, hu4⟩
  have hS4' : SrcAt w4 M [97, 98, 99, 100, 101, 102] [2, 0, 3] 0 false g 3 5 := hS4
  have hK4' : SnkAt w4 w.heap.size M4 [1, 0] 4 h 4 [97, 98] := hK4
  have hMM : ∀ i, M i ∨ M2 i → w.heap.size ≤ i := fun i hi => hi.elim (HM.out i) (fun e => (HK3.out.lt i e).1)
  have HB4 := hide (HB3.out.trans (hu4.below hz3 (fun k hk e => by have := hMM k e; omega)))
  have hMl3 := HS3.out.lt.1
  have HD4 : Hid (∀ i, M i → ¬ M4 i) := hide (fun i hi e => (hm4 i e).elim (fun e' => HD3.out i hi e') (fun e' => by have := hMl3 i hi; omega))
  have HS4 := hide hS4'
  have HK4 := hide hK4'
  have HBY := hide (sbytes_any hK4' (by simp))
  have hz4 := HB4.out.size
  clear hS4 hS4' hK4 hK4' hm4 hu4 hMM hMl3 HC HS3 HK3 HD3 HB3
  go_wp2_with fail
  refine HBY.out.mono ?_
  rintro e w5 ⟨v5, rfl, ho5, hb5⟩
  obtain ⟨a5, k5, rfl, _, _, hq5⟩ := ho5.sliceN (n := 2) rfl
  have HR5 := hide ho5.row
  have HQ5 := hide hq5
  have HO5 := hide ho5
  have HS5 := hide (HS4.out.upd (Upd.of_below hb5 Noth) (fun i _ e => e))
  have HK5 := hide (HK4.out.upd (Upd.of_below hb5 Noth) (fun i _ e => e))
  have HB5 := hide (HB4.out.trans (hb5.mono hz4))
  have hz5 := HB5.out.size
  have hz45 := hb5.size
  have HC := hide (copySS_any [97, 98, 99, 100, 101, 102] [2, 0, 3] [1, 0] 0 4 false 0 g h w.heap.size M M4 w5 3 5 4 [97, 98] (fun x hx => by simp at hx; omega) HS5.out HM.out HK5.out HD4.out hz5 (by simp) (by simp) (by simp))
  rw [names_copy2] at HC
  have HSL : Hid (∀ i, M i → i < w4.heap.size) := hide HS4.out.lt.1
  clear ho5 hb5 hq5 HBY HS4
  go_wp2_with fail
  refine HC.out.mono ?_
  rintro e w6 ⟨rfl, ⟨_, hS6, _⟩, _, hu6⟩
  have hS6' : SrcAt w6 M [97, 98, 99, 100, 101, 102] [2, 0, 3] 0 false g 3 5 := hS6
  have HO6 := hide (HO5.out.upd hu6 (fun i hi e => by
    have h1 := HQ5.out i hi
    rcases e with e | e
    · have := HSL.out i e; omega
    · have := (HK4.out.lt i e).2; omega))
  have HB6 := hide (HB5.out.trans (hu6.below hz5 (fun k hk e => by
    rcases e with e | e
    · have := HM.out k e; omega
    · have := (HK4.out.lt k e).1; omega)))
  have hz6 := HB6.out.size
  clear hS6 hS6' hu6 HC HS5 HK5 HD4 HB5 HR5 HO5
  go_wp2_with fail
  refine (copy_nil _ 1 w6).mono ?_
  rintro e w7 ⟨rfl, hb7⟩
  have HO7 := hide (HO6.out.below hb7)
  have HB7 := hide (HB6.out.trans (hb7.mono hz6))
  have hz7 := HB7.out.size
  clear hb7 HO6 HB6
  go_wp2_with fail
  refine (source_any none none 0 0 0 0 [] [] 1 false w7 rfl rfl (by omega) (by omega) (fun _ => ⟨rfl, rfl⟩) (fun _ => ⟨rfl, rfl⟩) (row_nil _ _ _) (row_nil _ _ _)).mono ?_
  rintro e w8 ⟨g8, M8, g8', rfl, hS8, hM8, _, _, hb8⟩
  have HO8 := hide (HO7.out.below hb8)
  have HB8 := hide (HB7.out.trans (hb8.mono hz7))
  have HS8 := hide hS8
  have hz8 := hb8.size
  have HM8 := hide hM8
  have hlo7 := HO7.out.owns.lt
  clear hS8 hM8 hb8
  go_wp2_with fail
  refine (read_broken (.slice none 0 0) HS8.out (by omega) rfl).mono ?_
  rintro e w9 ⟨rfl, hS9, hu9⟩
  have hg8 : w7.heap.size ≤ g8 := (HM8.out g8 HS8.out.lt.2.1).1
  have HO9 := hide (HO8.out.upd hu9 (fun i hi e => by have := (hlo7 i hi).2; omega))
  have HB9 := hide (HB8.out.trans (hu9.below (by omega) (fun k hk e => by omega)))
  have hz9 := HB9.out.size
  clear hS9 hu9 HS8 HO8 HB8 HO7 HB7 HM8 hlo7
  go_wp2_with fail
  refine (source_any none none 0 0 0 0 [] [] 0 false w9 rfl rfl (by omega) (by omega) (fun _ => ⟨rfl, rfl⟩) (fun _ => ⟨rfl, rfl⟩) (row_nil _ _ _) (row_nil _ _ _)).mono ?_
  rintro e w10 ⟨g10, M10, g10', rfl, hS10, hM10, _, _, hb10⟩
  have HO10 := hide (HO9.out.below hb10)
  have HB10 := hide (HB9.out.trans (hb10.mono hz9))
  have HS10 := hide hS10
  have hz10 := hb10.size
  have HM10 := hide hM10
  have hlo9 := HO9.out.owns.lt
  clear hS10 hM10 hb10
  go_wp2_with fail
  refine (read_end (.slice none 0 0) HS10.out (by omega) rfl rfl).mono ?_
  rintro e w11 ⟨rfl, hS11, hu11⟩
  have hg10 : w9.heap.size ≤ g10 := (HM10.out g10 HS10.out.lt.2.1).1
  have HO11 := hide (HO10.out.upd hu11 (fun i hi e => by have := (hlo9 i hi).2; omega))
  have HB11 := hide (HB10.out.trans (hu11.below (by omega) (fun k hk e => by omega)))
  have hz11 := HB11.out.size
  clear hS11 hu11 HS10 HO10 HB10 HO9 HB9 HM10 hlo9
  have q5 := heap_alloc_new w11 (.cells #[.int .u8 97, .int .u8 98] 5 (2, 3))
  have HSM := hide (sameq a5 (some ⟨w11.heap.size, 0, none⟩) 2 k5 2 [97, 98] (w11.alloc (.cells #[.int .u8 97, .int .u8 98] 5 (2, 3))) (by unfold maxLen; omega) rfl (HO11.out.row.alloc _) (lit_row _ _ q5))
  have HEND : Hid (∀ m, Below w.heap.size w ((w11.alloc (.cells #[.int .u8 97, .int .u8 98] 5 (2, 3))).drewN m)) := hide (fun m => (HB11.out.alloc hz11 _).trans (((Still.refl _).drewN m).below _))
  clear q5
  go_wp2_with fail
  refine HSM.out.mono ?_
  rintro e w12 ⟨rfl, m12, hw12⟩
  have hw12' := hw12
  subst hw12'
  go_wp2_with fail
  go_ret
  exact ⟨rfl, HEND.out _⟩

end Go.Proofs.Ytpjldnjcomdhkaa
