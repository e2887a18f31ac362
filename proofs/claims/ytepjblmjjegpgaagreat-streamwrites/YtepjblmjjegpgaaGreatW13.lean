/- slices.Grow, slices.Concat. -/
import Derived.Test.YtepjblmjjegpgaaGreatRows
import Derived.Test.YtepjblmjjegpgaaGreatW7
import Derived.Lib.AppendZerosOnto
import Derived.WalkKit
import Derived.WalkSpells
import Derived.WalkLawsBesides
namespace Go.Proofs.YtepjblmjjegpgaaGreat
open Go.RowKit
set_option maxRecDepth 100000

theorem infoByte : (Tryz.prog.info? 5).map (fun i => (i.zero, i.size, i.bytes)) = some (some (.int .u8 0), 1, 1) := by kernel_rfl
set_option maxRecDepth 100000 in
set_option maxHeartbeats 1000000 in
theorem grow_nil (n : Nat) (w : World) (hn : n ≤ 140737488355328) :
    Calls Tryz.prog 83 #[.slice none 0 0, .int .i64 n] w fun e w' => ∃ v, e = .returned v ∧ OwnB w' w.heap.size 5 v [] ∧ Below w.heap.size w w' := by
  obtain ⟨i0, hi, hz0, hz1, hz2⟩ := info_parts infoByte
  by_cases h0 : n = 0
  · subst h0
    go_enter Tryz.func83, Tryz.ntmps83
    go_wp2
    go_ret
    exact ⟨_, rfl, OwnB.nil _ _ _, Below.refl _ _⟩
  · have h1 : ¬ ((n : Int) < 0) := by omega
    have h4 : (n : Int) > 0 := by omega
    have hold : (Builtin.firstCells i0.size 0 (.slice none 0 0)).run Tryz.prog w.drew = .ok ([] : List Value).toArray w.drew := run_firstCells_none w.drew i0.size 0 0 0
    have hrz : ∀ ty, (Builtin.append_ #[23, 3] ty #[.slice none 0 0, .int .i64 (n : Int)]).run Tryz.prog w =
        .ok (.slice (some ⟨w.heap.size, 0, none⟩) n (grownCap w n 0 5)) (w.drew.alloc (.cells (([] : List Value).toArray ++ Builtin.zeroCells (Value.int .u8 0).cells n ++ Builtin.zeroCells (Value.int .u8 0).cells (grownCap w n 0 5 - n)) 5)) := fun ty => by
      have h := Lib.run_append_grow_zeros (P := Tryz.prog) w 23 3 ty 5 i0 (.int .u8 0) .i64 .i64 Tryz.underlying23 Tryz.underlying3 hi hz0 none 0 0 [] hold n (by omega) (by rw [hz1]; decide) (by omega) (by omega) (by rw [hz2]; omega) (by rw [Nat.zero_add]; exact growslice_fits (by omega) (by rw [hz2]; omega))
      rw [Nat.zero_add] at h
      exact h
    have hGn : n ≤ grownCap w n 0 5 := grownCap_ge w _ _ _
    obtain ⟨G, hG⟩ : ∃ G, G = grownCap w n 0 5 := ⟨_, rfl⟩
    have hG63 : G ≤ maxLen := by rw [hG]; exact grownCap_le_maxLen w n 0 _ (by unfold maxLen; omega)
    rw [← hG] at hrz hGn
    clear hold hG
    have hG2 : G ≤ 9223372036854775807 := by unfold maxLen at hG63; exact hG63
    have HS : Hid ((([] : List Value).toArray ++ Builtin.zeroCells (Value.int .u8 0).cells n ++ Builtin.zeroCells (Value.int .u8 0).cells (G - n)).size = G) := by
      show _ = _
      simp [Builtin.zeroCells, Value.cells]
      omega
    have HB : Hid (∀ u ∈ (([] : List Value).toArray ++ Builtin.zeroCells (Value.int .u8 0).cells n ++ Builtin.zeroCells (Value.int .u8 0).cells (G - n)).toList, IsByte u) := by
      intro u hu
      simp only [Array.toList_append, List.mem_append] at hu
      rcases hu with (hu | hu) | hu
      · cases hu
      · exact zero_bytes _ u hu
      · exact zero_bytes _ u hu
    generalize ([] : List Value).toArray ++ Builtin.zeroCells (Value.int .u8 0).cells n ++ Builtin.zeroCells (Value.int .u8 0).cells (G - n) = cells at *
    go_enter Tryz.func83, Tryz.ntmps83
    go_wp2_with (at_builtin; refine Lib.wpList_append_run _ rfl _ _ _ _ rfl _ _ rfl rfl _ _ (hrz _) ?_)
    go_ret
    exact ⟨_, rfl, OwnB.made (w := w.drew) _ G (Nat.le_refl _) hG63 HS.out HB.out, (Below.refl _ _).drew.alloc (Nat.le_refl _) _⟩

/-- Slices of bytes that lie one behind the other. -/
structure Parts (w : World) (b o : Nat) (vs : List Value) (ls : List (List Int)) : Prop where
  len : vs.length = ls.length
  cell : ∀ i, i < vs.length → w.cell? ⟨b, o + i, none⟩ = some (vs.getD i undef)
  each : ∀ i, i < vs.length → ∃ a l c, vs.getD i undef = .slice a l c ∧ (ls.getD i []).length = l ∧ (a = none → l = 0 ∧ c = 0) ∧ Row w .u8 a (ls.getD i [])
theorem Parts.below {w w' : World} {b o : Nat} {vs : List Value} {ls : List (List Int)} (h : Parts w b o vs ls) (hb : Below w.heap.size w w') : Parts w' b o vs ls :=
  ⟨h.len, fun i hi => (hb.cell (p := ⟨b, o + i, none⟩) (World.block_lt_of_cell? w ⟨b, o + i, none⟩ (h.cell i hi))).trans (h.cell i hi), fun i hi => by
    obtain ⟨a, l, c, h1, h2, h3, h4⟩ := h.each i hi
    exact ⟨a, l, c, h1, h2, h3, h4.below2 hb⟩⟩
theorem flat_succ (ls : List (List Int)) (k : Nat) (h : k < ls.length) : (ls.take (k + 1)).flatten = (ls.take k).flatten ++ ls.getD k [] := by
  rw [List.take_succ_eq_append_getElem h, List.flatten_append]
  simp [List.getD, h]
theorem flat_le (ls : List (List Int)) (k : Nat) : (ls.take k).flatten.length ≤ ls.flatten.length := by
  conv => rhs; rw [← List.take_append_drop k ls, List.flatten_append, List.length_append]
  omega

set_option maxRecDepth 100000 in
set_option maxHeartbeats 1600000 in
theorem concat_any (b o n cap : Nat) (vs : List Value) (ls : List (List Int)) (w : World) (hn : vs.length = n) (hnm : n ≤ 1000) (hP : Parts w b o vs ls) (ht : ls.flatten.length ≤ 140737488355328) :
    Calls Tryz.prog 45 #[.slice (some ⟨b, o, none⟩) n cap] w fun e w' => ∃ v, e = .returned v ∧ OwnB w' w.heap.size 5 v ls.flatten ∧ Below w.heap.size w w' := by
  obtain ⟨i0, hi, hz0, hz1, hz2⟩ := info_parts infoByte
  have HP := hide hP
  have hlen := hP.len
  clear hP
  go_enter Tryz.func45, Tryz.ntmps45
  go_wp2
  go_loop [3, 11] (fun q i => ∃ k : Nat, k ≤ n ∧ i = .int .i64 k ∧ q = .int .i64 ((ls.take k).flatten.length : Nat)) (fun _ i => n - (intOf i).toNat)
  case atStart => exact ⟨0, by omega, rfl, rfl⟩
  case round =>
    obtain ⟨k, hk, rfl, rfl⟩ := hrel
    by_cases hlt : k < n
    · obtain ⟨a, l, c, h1, h2, h3, h4⟩ := HP.out.each k (by omega)
      have hcell := HP.out.cell k (by omega)
      rw [h1] at hcell
      have HF : Hid ((ls.take (k + 1)).flatten.length = (ls.take k).flatten.length + l) := by
        show _ = _
        rw [flat_succ ls k (by omega), List.length_append, h2]
      have hf1 := flat_le ls (k + 1)
      rw [HF.out] at hf1
      clear h1 h2 h3 h4
      generalize (ls.take k).flatten.length = t at *
      go_wp2_with fail
      go_round
      case rel => exact ⟨k + 1, by omega, by go_num, by rw [HF.out]; go_num⟩
      case measure => simp [intOf]; omega
    · obtain rfl : k = n := by omega
      have hf1 := flat_le ls k
      have HG := hide (grow_nil (ls.take k).flatten.length w (by omega))
      generalize (ls.take k).flatten.length = t at *
      go_wp2_with fail
      refine HG.out.mono ?_
      rintro e w1 ⟨v0, rfl, hown0, hb1⟩
      go_wp2_with fail
      go_loopw [6, 27] (fun v i wr => ∃ j : Nat, j ≤ k ∧ i = .int .i64 j ∧ OwnB wr w.heap.size 5 v (ls.take j).flatten ∧ Below w.heap.size w wr) (fun _ i _ => k - (intOf i).toNat)
      case atStart => exact ⟨0, by omega, rfl, hown0, hb1⟩
      case round =>
        obtain ⟨j, hj, rfl, hown, hbel⟩ := hrel
        by_cases hjk : j < k
        · have HPw := hide (HP.out.below hbel)
          obtain ⟨a, l, c, h1, h2, h3, h4⟩ := HPw.out.each j (by omega)
          have hcell := HPw.out.cell j (by omega)
          rw [h1] at hcell
          have HF : Hid ((ls.take (j + 1)).flatten = (ls.take j).flatten ++ ls.getD j []) := flat_succ ls j (by omega)
          have HL : Hid ((ls.take (j + 1)).flatten.length = (ls.take j).flatten.length + l) := by
            show _ = _
            rw [HF.out, List.length_append, h2]
          have hf2 := flat_le ls (j + 1)
          rw [HL.out] at hf2
          have H4 := hide h4
          have H3 := hide h3
          have HO := hide hown
          have hsz := hbel.size
          clear h1 h3 h4 hown
          go_wp2_with (first
            | (at_builtin; refine append_b rfl (.tmp 31) (.tmp 32) 23 rfl w.heap.size 5 i0 Tryz.underlying23 hi hz0 hz1 hz2 _ (ls.take j).flatten rfl HO.out a l c (ls.getD j []) rfl h2 H3.out H4.out (by omega) hsz ?_; intro v2 w2 hown2 hg2)
            | fail)
          go_roundw
          case rel => exact ⟨j + 1, by omega, by go_num, by rw [HF.out]; exact hown2, hbel.grown hg2 hsz (fun q hq => (HO.out.owns.lt q hq).1)⟩
          case measure => simp [intOf]; omega
        · obtain rfl : j = k := by omega
          have HE : Hid ((ls.take j).flatten = ls.flatten) := by
            show _ = _
            rw [List.take_of_length_le (by omega)]
          rw [HE.out] at hown
          go_wp2_with fail
          go_ret
          exact ⟨_, rfl, hown, hbel⟩

end Go.Proofs.YtepjblmjjegpgaaGreat
