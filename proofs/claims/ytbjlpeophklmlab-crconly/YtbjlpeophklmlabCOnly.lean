/- CrcOnly: the walk. -/
import Derived.Test.YtbjlpeophklmlabCPatch
import Derived.Test.YtbjlpeophklmlabCLives
import Derived.BigQuiet
import Derived.Deep.QuietTactic
namespace Go.Proofs.Ytbjlpeophklmlab
open Go.RowKit

/-- A text with four other bytes. -/
def ovText (zs : List Int) (m y : Nat) : List Int := zs.take m ++ (spell y ++ zs.drop (m + 4))
theorem only_iff {zs : List Int} {m want y : Nat} (h8 : B8 zs) (hw : want < 4294967296) (hy : y < 4294967296) : ovText zs m y = ptText zs m want ↔ sumOf (ovText zs m y) = want := by
  constructor
  · intro h; rw [h]; exact pt_sum m want h8 hw
  · intro h
    have := pt_only h8 hw hy h
    unfold ovText ptText
    rw [this]
theorem ov_b8 {zs : List Int} (m y : Nat) (h8 : B8 zs) : B8 (ovText zs m y) := (h8.take m).append ((spell_b8 _).append (h8.drop _))
theorem ov_len {zs : List Int} {m : Nat} (y : Nat) (h : m + 4 ≤ zs.length) : (ovText zs m y).length = zs.length := by
  unfold ovText
  rw [List.length_append, List.length_append, spell_len, List.length_take, List.length_drop]
  omega
/-- The bytes beside the four are as they were. -/
theorem pt_beside {zs : List Int} {m want i : Nat} (h : m + 4 ≤ zs.length) (hi : i < m ∨ m + 4 ≤ i) : (ptText zs m want).getD i 0 = zs.getD i 0 := by
  unfold ptText
  simp only [List.getD_eq_getElem?_getD]
  rcases hi with hi | hi
  · rw [List.getElem?_append_left (by rw [List.length_take]; omega), List.getElem?_take, if_pos hi]
  · rw [List.getElem?_append_right (by rw [List.length_take]; omega), List.length_take, List.getElem?_append_right (by rw [spell_len]; omega), spell_len, List.getElem?_drop, show m + 4 + (i - min m zs.length - 4) = i by omega]
/-- Four bytes written one by one. -/
theorem ov_sets {zs : List Int} {m want y : Nat} (h : m + 4 ≤ zs.length) :
    (((((ptText zs m want).set m ((y % 256 : Nat) : Int)).set (m + 1) ((y / 256 % 256 : Nat) : Int)).set (m + 2) ((y / 65536 % 256 : Nat) : Int)).set (m + 3) ((y / 16777216 % 256 : Nat) : Int)) = ovText zs m y := by
  unfold ptText ovText spell
  have hl : (zs.take m).length = m := by rw [List.length_take]; omega
  generalize zs.take m = p at *
  generalize zs.drop (m + 4) = q at *
  subst hl
  simp

set_option maxRecDepth 100000 in
set_option maxHeartbeats 1600000 in
theorem crcOnly_bad (a : Option Addr) (len cap : Nat) (at' : Int) (x0 x1 : Int) (w : World) (hm : len ≤ 140737488351232) (h1 : at' ≤ 9223372036854775807) (h : at' < 0 ∨ (len : Int) < 4 ∨ (len : Int) - 4 < at') :
    Calls Try.prog 5 #[.slice a len cap, .int .i64 at', .agg #[.int .u32 x0, .int .u32 x1]] w fun e w' => e = .returned (.bool true) ∧ Below w.heap.size w w' := by
  have HP : Hid (∀ W, Calls Try.prog 19 #[.slice a len cap, .int .i64 at', .int .u32 x0] W fun e w' => e = .returned (.tuple #[.slice none 0 0, .int .i64 1]) ∧ w' = W) := fun W => patch_bad a len cap at' x0 W (by unfold maxLen; omega) h1 (by omega)
  by_cases c1 : at' < 0
  · clear h
    go_enter Try.func5, Try.ntmps5
    go_wp2_with fail
    refine (lives_any _).mono ?_
    rintro e w1 ⟨rfl, hb1⟩
    have hc0 : w1.cell? ⟨w.heap.size, 0, none⟩ = some (.int .u32 x0) := (hb1.cell (p := ⟨w.heap.size, 0, none⟩) (by simp)).trans (by rw [cell_of_row _ _ _ _ _ _ (heap_alloc_new w _)]; rfl)
    go_wp2_with fail
    refine keep (HP.out _) ?_
    go_wp2_with fail
    go_ret
    exact ⟨rfl, below_lit' hb1⟩
  · by_cases c2 : (len : Int) < 4
    · have c1' : 0 ≤ at' := by omega
      clear h c1
      go_enter Try.func5, Try.ntmps5
      go_wp2_with fail
      refine (lives_any _).mono ?_
      rintro e w1 ⟨rfl, hb1⟩
      have hc0 : w1.cell? ⟨w.heap.size, 0, none⟩ = some (.int .u32 x0) := (hb1.cell (p := ⟨w.heap.size, 0, none⟩) (by simp)).trans (by rw [cell_of_row _ _ _ _ _ _ (heap_alloc_new w _)]; rfl)
      go_wp2_with fail
      refine keep (HP.out _) ?_
      go_wp2_with fail
      go_ret
      exact ⟨rfl, below_lit' hb1⟩
    · have c3 : (len : Int) - 4 < at' := by omega
      have c1' : 0 ≤ at' := by omega
      clear h c1
      go_enter Try.func5, Try.ntmps5
      go_wp2_with fail
      refine (lives_any _).mono ?_
      rintro e w1 ⟨rfl, hb1⟩
      have hc0 : w1.cell? ⟨w.heap.size, 0, none⟩ = some (.int .u32 x0) := (hb1.cell (p := ⟨w.heap.size, 0, none⟩) (by simp)).trans (by rw [cell_of_row _ _ _ _ _ _ (heap_alloc_new w _)]; rfl)
      go_wp2_with fail
      refine keep (HP.out _) ?_
      go_wp2_with fail
      go_ret
      exact ⟨rfl, below_lit' hb1⟩

theorem own_set {w : World} {base g n cap : Nat} {e : TypeId} {t : List Int} (h : w.ownsRow base e 1 (.slice (some ⟨g, 0, none⟩) n cap) n (t.map (Value.int .u8))) (j : Nat) (x : Int) :
    (w.setCell ⟨g, j, none⟩ (.int .u8 x)).ownsRow base e 1 (.slice (some ⟨g, 0, none⟩) n cap) n ((t.set j x).map (Value.int .u8)) := by
  refine ⟨by rw [List.length_map, List.length_set, ← List.length_map (f := Value.int .u8)]; exact h.1, ?_⟩
  rcases h.2 with ⟨hv, _⟩ | ⟨g', cap', cur, hv, hb, hh, h1, h2, h3, h4⟩
  · cases hv
  · cases hv
    refine .inr ⟨g, cap, cur.setIfInBounds j (.int .u8 x), rfl, hb, block_setCell hh j _, h1, h2, by rw [Array.size_setIfInBounds]; exact h3, ?_⟩
    rw [List.map_set, ← h4, Array.toList_setIfInBounds, List.take_set]
theorem own_cell {w : World} {base g n cap : Nat} {e : TypeId} {t : List Int} (h : w.ownsRow base e 1 (.slice (some ⟨g, 0, none⟩) n cap) n (t.map (Value.int .u8))) (j : Nat) (hj : j < n) : ∃ x, w.cell? ⟨g, j, none⟩ = some (.int .u8 x) := by
  have hl : t.length = n := by have := h.1; simpa using this
  obtain ⟨b', o', ha, hc⟩ := (row_of_owns h) j (by omega)
  cases ha
  rw [Nat.zero_add] at hc
  exact ⟨_, hc⟩
theorem own_frozen {w : World} {base g n cap : Nat} {e : TypeId} {xs : List Value} (h : w.ownsRow base e 1 (.slice (some ⟨g, 0, none⟩) n cap) n xs) (j : Nat) : w.frozen? ⟨g, j, none⟩ = false := by
  rcases h.2 with ⟨hv, _⟩ | ⟨g', cap', cur, hv, hb, hh, _⟩
  · cases hv
  · cases hv
    simp [World.frozen?, hh]
/-- What holds while four bytes are written. -/
structure OnlySt (w W : World) (g n cap gx bp oP : Nat) (PT T : List Int) (x0 x1 : Int) : Prop where
  own : W.ownsRow w.heap.size 5 1 (.slice (some ⟨g, 0, none⟩) n cap) n (T.map (Value.int .u8))
  c0 : W.cell? ⟨gx, 0, none⟩ = some (.int .u32 x0)
  c1 : W.cell? ⟨gx, 1, none⟩ = some (.int .u32 x1)
  row : Row W .u8 (some ⟨bp, oP, none⟩) PT
  bel : Below w.heap.size w W
theorem OnlySt.set {w W : World} {g n cap gx bp oP : Nat} {PT T : List Int} {x0 x1 : Int} (h : OnlySt w W g n cap gx bp oP PT T x0 x1) (hx : gx ≠ g) (hb : bp ≠ g) (hg : w.heap.size ≤ g) (j : Nat) (v : Int) : OnlySt w (W.setCell ⟨g, j, none⟩ (.int .u8 v)) g n cap gx bp oP PT (T.set j v) x0 x1 :=
  ⟨own_set h.own j v, (World.cell?_of_block (w := W) (a := ⟨gx, 0, none⟩) (Below.heap_setCell _ _ _ _ hx)).trans h.c0, (World.cell?_of_block (w := W) (a := ⟨gx, 1, none⟩) (Below.heap_setCell _ _ _ _ hx)).trans h.c1, fun i hi => by
    obtain ⟨b', o', ha, hc⟩ := h.row i hi
    cases ha
    exact ⟨bp, oP, rfl, (World.cell?_of_block (w := W) (a := ⟨bp, oP + i, none⟩) (Below.heap_setCell _ _ _ _ hb)).trans hc⟩, h.bel.setCell (p := ⟨g, j, none⟩) hg _⟩
theorem getD_row {w : World} {b o : Nat} {zs : List Int} (h : Row w .u8 (some ⟨b, o, none⟩) zs) {i : Nat} (hi : i < zs.length) : w.cell? ⟨b, o + i, none⟩ = some (.int .u8 (zs.getD i 0)) := by
  obtain ⟨b', o', ha, hc⟩ := h i hi
  cases ha
  exact hc

set_option maxRecDepth 100000 in
set_option maxHeartbeats 3200000 in
theorem crcOnly_good (b o len cap m x0 x1 : Nat) (zs : List Int) (w : World) (hl : zs.length = len) (hc : len ≤ cap) (hm : len ≤ 140737488351232) (h4 : m + 4 ≤ len) (hr : Row w .u8 (some ⟨b, o, none⟩) zs) (h8 : B8 zs) (hx0 : x0 < 4294967296) (hx1 : x1 < 4294967296) :
    Calls Try.prog 5 #[.slice (some ⟨b, o, none⟩) len cap, .int .i64 m, .agg #[.int .u32 x0, .int .u32 x1]] w fun e w' => e = .returned (.bool true) ∧ Below w.heap.size w w' := by
  obtain ⟨i0, hi, hz0, hz1, hz2⟩ := info_parts infoByte
  have HR := hide hr
  have hmx : len ≤ maxLen := by unfold maxLen; omega
  have HP : Hid (∀ W, Row W .u8 (some ⟨b, o, none⟩) zs → Calls Try.prog 19 #[.slice (some ⟨b, o, none⟩) len cap, .int .i64 m, .int .u32 x0] W fun e w' => ∃ v, e = .returned (.tuple #[v, .int .i64 0]) ∧ OwnB w' W.heap.size 5 v (ptText zs m x0) ∧ Below W.heap.size W w') := fun W h => patch_good _ len cap m x0 zs W hl hc hm hx0 h h8 h4
  have hpl : (ptText zs m x0).length = len := by rw [ptText_len x0 (by omega), hl]
  have SP : Hid (∀ W a c, Row W .u8 a (ptText zs m x0) → Calls Try.prog 8 #[.slice a len c] W fun e w' => e = .returned (.int .u32 x0) ∧ w' = W) := fun W a c h => by
    have := sum_any a len c (ptText zs m x0) W hpl hmx h (ptText_b8 m x0 h8)
    rw [pt_sum m x0 h8 hx0] at this
    exact this
  have SO : Hid (∀ W a c, Row W .u8 a (ovText zs m x1) → Calls Try.prog 8 #[.slice a len c] W fun e w' => e = .returned (.int .u32 (sumOf (ovText zs m x1) : Nat)) ∧ w' = W) := fun W a c h => sum_any a len c (ovText zs m x1) W (by rw [ov_len x1 (by omega), hl]) hmx h (ov_b8 m x1 h8)
  have SM : Hid (∀ W a c a' c', Row W .u8 a (ovText zs m x1) → Row W .u8 a' (ptText zs m x0) → Calls Try.prog 18 #[.slice a len c, .slice a' len c'] W fun e w' => e = .returned (.bool (decide (ovText zs m x1 = ptText zs m x0))) ∧ Still W w') := fun W a c a' c' h h' => same_any a a' len c len c' _ _ W hmx (by rw [ov_len x1 (by omega), hl]) hpl h h'
  have BES : Hid (∀ i, i < m ∨ m + 4 ≤ i → (ptText zs m x0).getD i 0 = zs.getD i 0) := fun i hi => pt_beside (by omega) hi
  have HSET : Hid (((((ptText zs m x0).set m ((x1 % 256 : Nat) : Int)).set (m + 1) ((x1 / 256 % 256 : Nat) : Int)).set (m + 2) ((x1 / 65536 % 256 : Nat) : Int)).set (m + 3) ((x1 / 16777216 % 256 : Nat) : Int) = ovText zs m x1) := ov_sets (by omega)
  have HIFF := hide (only_iff (m := m) h8 hx0 hx1)
  generalize ptText zs m x0 = PT at *
  generalize ovText zs m x1 = OV at *
  clear hr h8
  have hu : (0 : Int) ≤ (m : Int) := by omega
  have hu1 : ¬ (m : Int) < 0 := by omega
  have hu2 : ¬ (len : Int) < 4 := by omega
  have hu3 : ¬ (len : Int) - 4 < (m : Int) := by omega
  go_enter Try.func5, Try.ntmps5
  go_wp2_with fail
  refine (lives_any _).mono ?_
  rintro e w1 ⟨rfl, hb1⟩
  have hbw1 : Below w.heap.size w w1 := below_lit' hb1
  have hc0 : w1.cell? ⟨w.heap.size, 0, none⟩ = some (.int .u32 (x0 : Int)) := (hb1.cell (p := ⟨w.heap.size, 0, none⟩) (by simp)).trans (by rw [cell_of_row _ _ _ _ _ _ (heap_alloc_new w _)]; rfl)
  have hc1 : w1.cell? ⟨w.heap.size, 1, none⟩ = some (.int .u32 (x1 : Int)) := (hb1.cell (p := ⟨w.heap.size, 1, none⟩) (by simp)).trans (by rw [cell_of_row _ _ _ _ _ _ (heap_alloc_new w _)]; rfl)
  have hz1' := hb1.size
  clear hb1
  go_wp2_with fail
  refine (HP.out w1 (HR.out.below2 hbw1)).mono ?_
  rintro e w2 ⟨vp, rfl, hop, hb2⟩
  obtain ⟨ap, cp, rfl, _, _, hbp⟩ := hop.sliceN hpl
  have hd0 := (hb2.cell (p := ⟨w.heap.size, 0, none⟩) (by simp at hz1' ⊢; omega)).trans hc0
  have hd1 := (hb2.cell (p := ⟨w.heap.size, 1, none⟩) (by simp at hz1' ⊢; omega)).trans hc1
  have hbw2 := hbw1.trans (hb2.mono hbw1.size)
  have HOP := hide hop
  have HRP := hide hop.row
  clear hop hc0 hc1 hb2
  go_wp2_with fail
  obtain ⟨bp, oP, rfl, _, _⟩ := HRP.out.cons (by omega)
  go_quiet ((go_at_call 8; exact Calls.quiet_of_same (SP.out _ _ _ HRP.out)))
  go_wp2_with fail
  go_loopw [10] (fun i wr => ∃ k : Nat, k ≤ len ∧ i = .int .i64 (k : Int) ∧ Still w2 wr) (fun i _ => len - (intOf i).toNat)
  case atStart => exact ⟨0, by omega, rfl, (Still.refl _).drewN _⟩
  case round =>
    obtain ⟨k, hk, rfl, hst⟩ := hrel
    by_cases hlt : k < len
    · have g1 := getD_row (hst.row HRP.out) (i := k) (by omega)
      have g2 := getD_row (hst.row (HR.out.below2 hbw2)) (i := k) (by omega)
      have f1 : (k : Int) < (len : Int) := by omega
      have f0 : (0 : Int) ≤ (k : Int) := by omega
      by_cases ha : k < m
      · rw [BES.out k (.inl ha)] at g1
        generalize zs.getD k 0 = c at *
        have d1 : (k : Int) < (m : Int) := by omega
        go_wp2_with fail
        go_quiet (fail)
        go_wp2_with fail
        go_roundw
        case rel => exact ⟨k + 1, by omega, by go_num, hst.drewN _⟩
        case measure => simp [intOf]; omega
      · by_cases hb : m + 4 ≤ k
        · rw [BES.out k (.inr hb)] at g1
          generalize zs.getD k 0 = c at *
          have d1 : decide ((k : Int) < (m : Int)) = false := by simp; omega
          have d2 : (m : Int) + 4 ≤ (k : Int) := by omega
          go_wp2_with fail
          go_quiet (fail)
          go_wp2_with fail
          go_roundw
          case rel => exact ⟨k + 1, by omega, by go_num, hst.drewN _⟩
          case measure => simp [intOf]; omega
        · have d1 : decide ((k : Int) < (m : Int)) = false := by simp; omega
          have d2 : decide ((m : Int) + 4 ≤ (k : Int)) = false := by simp; omega
          go_wp2_with fail
          go_quiet (fail)
          go_wp2_with fail
          go_roundw
          case rel => exact ⟨k + 1, by omega, by go_num, hst.drewN _⟩
          case measure => simp [intOf]; omega
    · have hge : ¬ (k : Int) < (len : Int) := by omega
      have hbwr : Below w.heap.size w wr := hbw2.trans (hst.below _)
      have e0 := (hst.cell ⟨w.heap.size, 0, none⟩).trans hd0
      have e1 := (hst.cell ⟨w.heap.size, 1, none⟩).trans hd1
      have HRP' := hide (hst.row HRP.out)
      have hxl : w.heap.size < wr.heap.size := by
        have := World.block_lt_of_cell? wr ⟨w.heap.size, 0, none⟩ e0
        exact this
      clear hd0 hd1 hst
      go_wp2_with (first
        | (at_builtin; refine append_b rfl (.tmp 94) (.tmp 95) 22 rfl wr.heap.size 5 i0 Try.underlying22 hi hz0 hz1 hz2 (.slice (some ⟨wr.heap.size, 0, none⟩) 0 0) [] rfl (OwnB.made #[] 0 (Nat.le_refl _) (by unfold maxLen; omega) rfl (by intro u hu; cases hu)) (some ⟨bp, oP, none⟩) len cp PT rfl hpl (by intro h; cases h) (HRP'.out.alloc _) (by simp; omega) (by simp) ?_; intro v4 w4 hown4 hg4; simp only [List.nil_append] at hown4)
        | fail)
      have hb4 : Below wr.heap.size wr w4 := ((Below.refl _ _).alloc (Nat.le_refl _) _).grown hg4 (by simp) (fun k h => by cases h; exact Nat.le_refl _)
      have o4 := hown4.owns
      rw [hpl] at o4
      obtain ⟨g4, c4, rfl, hg4b⟩ := slice_of_owns o4 (by omega)
      have q0 := (hb4.cell (p := ⟨w.heap.size, 0, none⟩) hxl).trans e0
      have q1 := (hb4.cell (p := ⟨w.heap.size, 1, none⟩) hxl).trans e1
      have HRP4 := hide (HRP'.out.below2 hb4)
      have hbw4 : Below w.heap.size w w4 := hbwr.trans (hb4.mono hbwr.size)
      have hbl : bp < wr.heap.size := by
        obtain ⟨_, _, ha, hlt, _⟩ := HRP'.out.cons (by omega)
        cases ha
        exact hlt
      have n1 : ¬ w.heap.size = g4 := by omega
      have n2 : ¬ g4 = w.heap.size := by omega
      have n3 : g4 ≠ bp := by omega
      clear hown4 hg4 e0 e1
      have S4 : OnlySt w w4 g4 len c4 w.heap.size bp oP PT PT x0 x1 := ⟨owns_mono o4 hbwr.size, q0, q1, HRP4.out, hbw4⟩
      have hgg : w.heap.size ≤ g4 := by omega
      clear o4 q0 q1 HRP4 hbw4 hb4
      refine wp_loop_rounds 5 ?_
      rw [rounds_succ]
      obtain ⟨y0, c0⟩ := own_cell S4.own m (by omega)
      have fz0 := own_frozen S4.own m
      have q1 := S4.c1
      go_wp2_with fail
      have S5 := S4.set n1 n3.symm hgg m ((x1 : Int) % 256)
      generalize w4.setCell ⟨g4, m, none⟩ (.int .u8 ((x1 : Int) % 256)) = w5 at S5 ⊢
      clear S4 c0 fz0 q1
      rw [rounds_succ]
      obtain ⟨y1, c1⟩ := own_cell S5.own (m + 1) (by omega)
      have fz1 := own_frozen S5.own (m + 1)
      have q1 := S5.c1
      go_wp2_with fail
      have S6 := S5.set n1 n3.symm hgg (m + 1) ((x1 : Int) / 256 % 256)
      generalize w5.setCell ⟨g4, m + 1, none⟩ (.int .u8 ((x1 : Int) / 256 % 256)) = w6 at S6 ⊢
      clear S5 c1 fz1 q1
      rw [rounds_succ]
      obtain ⟨y2, c2⟩ := own_cell S6.own (m + 2) (by omega)
      have fz2 := own_frozen S6.own (m + 2)
      have q1 := S6.c1
      go_wp2_with fail
      have S7 := S6.set n1 n3.symm hgg (m + 2) ((x1 : Int) / 65536 % 256)
      generalize w6.setCell ⟨g4, m + 2, none⟩ (.int .u8 ((x1 : Int) / 65536 % 256)) = w7 at S7 ⊢
      clear S6 c2 fz2 q1
      rw [rounds_succ]
      obtain ⟨y3, c3⟩ := own_cell S7.own (m + 3) (by omega)
      have fz3 := own_frozen S7.own (m + 3)
      have q1 := S7.c1
      go_wp2_with fail
      have S8 := S7.set n1 n3.symm hgg (m + 3) ((x1 : Int) / 16777216)
      generalize w7.setCell ⟨g4, m + 3, none⟩ (.int .u8 ((x1 : Int) / 16777216)) = w8 at S8 ⊢
      clear S7 c3 fz3 q1
      have hv : (x1 : Int) / 16777216 = ((x1 / 16777216 % 256 : Nat) : Int) := by omega
      rw [hv] at S8
      have hOV := HSET.out
      rw [show (((x1 % 256 : Nat) : Int)) = (x1 : Int) % 256 by omega, show (((x1 / 256 % 256 : Nat) : Int)) = (x1 : Int) / 256 % 256 by omega, show (((x1 / 65536 % 256 : Nat) : Int)) = (x1 : Int) / 65536 % 256 by omega] at hOV
      rw [hOV] at S8
      clear hOV hv
      have hcB : OV = PT ∧ sumOf OV = x0 ∨ ¬ OV = PT ∧ ¬ sumOf OV = x0 := by
        by_cases h : OV = PT
        · exact .inl ⟨h, HIFF.out.1 h⟩
        · exact .inr ⟨h, fun e => h (HIFF.out.2 e)⟩
      have HS8 := hide S8
      have q0 := S8.c0
      clear S8
      rw [rounds_succ]
      rcases hcB with ⟨hA, hB⟩ | ⟨hA, hB⟩
      · have SM' := hide (SM.out w8 (some ⟨g4, 0, none⟩) c4 (some ⟨bp, oP, none⟩) cp (row_of_owns HS8.out.own) HS8.out.row)
        rw [decide_eq_true hA] at SM'
        have SO' := SO
        rw [hB] at SO'
        clear hA hB HIFF SO SM HSET
        go_wp2_with fail
        refine SM'.out.mono ?_
        rintro e w9 ⟨rfl, hst9⟩
        have q9 := (hst9.cell ⟨w.heap.size, 0, none⟩).trans q0
        clear q0
        go_wp2_with fail
        refine keep (SO'.out w9 _ _ (hst9.row (row_of_owns HS8.out.own))) ?_
        go_wp2_with fail
        go_ret
        exact ⟨rfl, HS8.out.bel.trans (hst9.below _)⟩
      · have SM' := hide (SM.out w8 (some ⟨g4, 0, none⟩) c4 (some ⟨bp, oP, none⟩) cp (row_of_owns HS8.out.own) HS8.out.row)
        rw [decide_eq_false hA] at SM'
        have hne : (((sumOf OV : Nat) : Int) == (x0 : Int)) = false := by rw [beq_eq_false_iff_ne]; omega
        clear hA hB HIFF SM HSET
        generalize sumOf OV = so at *
        go_wp2_with fail
        refine SM'.out.mono ?_
        rintro e w9 ⟨rfl, hst9⟩
        have q9 := (hst9.cell ⟨w.heap.size, 0, none⟩).trans q0
        clear q0
        go_wp2_with fail
        refine keep (SO.out w9 _ _ (hst9.row (row_of_owns HS8.out.own))) ?_
        go_wp2_with fail
        go_ret
        exact ⟨rfl, HS8.out.bel.trans (hst9.below _)⟩

theorem crcOnly_any (a : Option Addr) (len cap : Nat) (zs : List Int) (at' : Int) (x0 x1 : Nat) (w : World) (hl : zs.length = len) (hc : len ≤ cap) (hm : len ≤ 140737488351232) (h1 : at' ≤ 9223372036854775807) (hr : Row w .u8 a zs) (h8 : B8 zs) (hx0 : x0 < 4294967296) (hx1 : x1 < 4294967296) :
    Calls Try.prog 5 #[.slice a len cap, .int .i64 at', .agg #[.int .u32 x0, .int .u32 x1]] w fun e w' => e = .returned (.bool true) ∧ Below w.heap.size w w' := by
  by_cases h : at' < 0 ∨ (len : Int) < 4 ∨ (len : Int) - 4 < at'
  · exact crcOnly_bad a len cap at' x0 x1 w hm h1 h
  · obtain ⟨m, rfl⟩ := Int.eq_ofNat_of_zero_le (show 0 ≤ at' by omega)
    obtain ⟨b, o, rfl, _, _⟩ := hr.cons (by omega)
    exact crcOnly_good b o len cap m x0 x1 zs w hl hc hm (by omega) hr h8 hx0 hx1

end Go.Proofs.Ytbjlpeophklmlab
