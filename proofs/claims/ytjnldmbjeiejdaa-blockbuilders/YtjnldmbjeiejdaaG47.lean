/- One entry is copied: the whole of the memory that the copy has. -/
import Derived.Test.YtjnldmbjeiejdaaG46
import Derived.Test.YtjnldmbjeiejdaaG27
import Derived.Deep.RegionLaw
namespace Go.Proofs.Ytjnldmbjeiejdaa
open Go.RowKit

/-- A row that fills its block is bytes through and through. -/
theorem own_full {w : World} {base g n m : Nat} {ys : List Int} (h : w.ownsRow base 5 1 (.slice (some ⟨g, 0, none⟩) n n) n (ys.map (Value.int .u8))) (hm : m ≤ n) (hy : ys.length = n) : OwnB w base 5 (.slice (some ⟨g, 0, none⟩) m n) (ys.take m) := by
  rcases h.2 with ⟨hv, _⟩ | ⟨g', cap, cur, hv, h1, h2, h3, h4, h5, h6⟩
  · cases hv
  · cases hv
    have hl : (ys.take m).length = m := by rw [List.length_take]; omega
    have hcl : cur.toList = ys.map (Value.int .u8) := by
      rw [← h6]
      refine (List.take_of_length_le ?_).symm
      rw [Array.length_toList, h5]
      omega
    refine .inr ⟨g, n, cur, by rw [hl], h1, h2, by omega, h4, by omega, ?_, ?_⟩
    · rw [hcl, hl, List.map_take]
    · rw [hcl]
      intro u hu
      obtain ⟨x, _, rfl⟩ := List.mem_map.1 hu
      exact ⟨x, rfl⟩

set_option maxHeartbeats 800000 in
theorem marked2_any (a : Option Addr) (len cap : Nat) (zs : List Int) (w : World) (hl : zs.length = len) (hm : len ≤ 140737488351232) (hnone : a = none → len = 0 ∧ cap = 0) (hr : Row w .u8 a zs) :
    Calls Try.prog 41 #[.slice a len cap] w fun e w' => e = .returned (.slice (some ⟨w.heap.size, 0, none⟩) len (len + 1)) ∧ Mkd w' w.heap.size zs ∧ OwnB w' w.heap.size 5 (.slice (some ⟨w.heap.size, 0, none⟩) len (len + 1)) zs ∧ Below w.heap.size w w' := by
  obtain ⟨i0, hi, hz0, hz1, hz2⟩ := info_parts infoU8
  have HR := hide hr
  have HN := hide hnone
  clear hr hnone
  go_enter Try.func41, Try.ntmps41
  go_wp2_with (first
    | (at_make; refine wpList_make_own _ rfl _ _ 23 rfl w.heap.size 5 i0 (.int .u8 0) 1 Try.underlying23 hi hz0 hz1 .i64 .i64 _ (len + 1) rfl rfl (by omega) (by rw [hz2]; omega) (by unfold maxLen; omega) (Nat.le_refl _) ?_; intro w1 hown1 hg1)
    | (at_builtin; refine wpList_append_fits_any _ rfl (.tmp 6) (.tmp 7) 23 rfl w.heap.size 5 i0 1 Try.underlying23 hi hz1 w.heap.size 0 (len + 1) _ rfl hown1 _ len _ (zs.map (Value.int .u8)) rfl (by simp [hl]) HN.out (row_cells (Row.kept HR.out hg1 (fun _ _ _ => by simp))) (ints_oneCell _ _) (by omega) ?_; intro w2 hown2 hg2; simp only [Nat.zero_add, List.nil_append] at hown2)
    | (at_builtin; refine wpList_append_fits_any _ rfl (.tmp 8) (.tmp 9) 23 rfl w.heap.size 5 i0 1 Try.underlying23 hi hz1 w.heap.size len (len + 1) _ rfl (hown2.alloc _) _ 1 _ [.int .u8 77] rfl rfl (by intro h; cases h) (by intro ad had; cases had; exact one_cellM _ _ _) (by intro u hu; simp at hu; subst hu; rfl) (by omega) ?_; intro w3 hown3 hg3))
  go_ret
  have e : (zs.map (Value.int .u8)) ++ [.int .u8 77] = (zs ++ [77]).map (Value.int .u8) := by simp
  rw [e] at hown3
  have s1 := hg1.size
  have s2 := hg2.size
  have b1 : Below w.heap.size w w1 := (Below.refl _ _).grown hg1 (Nat.le_refl _) (fun k h => by cases h)
  have b2 : Below w.heap.size w w2 := b1.grown hg2 s1 (fun k h => by cases h; exact Nat.le_refl _)
  have b3 : Below w.heap.size w w3 := (b2.alloc (by omega) _).grown hg3 (by simp; omega) (fun k h => by cases h; exact Nat.le_refl _)
  have hf := own_full (m := len) hown3 (by omega) (by simp [hl])
  have htk : (zs ++ [77]).take len = zs := by rw [← hl]; simp
  rw [htk] at hf
  exact ⟨rfl, mkd_of_owns hown3, hf, b3⟩

/-- The copy of one entry, and the mark behind it. -/
def cpE (e : Ent) (gk gv : Nat) : Ent := ⟨some ⟨gk, 0, none⟩, e.ks.length + 1, e.ks, some ⟨gv, 0, none⟩, e.vs.length + 1, e.vs⟩
def mkE (gm : Nat) : Ent := ⟨some ⟨gm, 0, none⟩, 1, [77], none, 0, []⟩

set_option maxRecDepth 100000 in
set_option maxHeartbeats 1600000 in
theorem copy1_any (b o c : Nat) (en : Ent) (w : World) (h0 : w.cell? ⟨b, o, none⟩ = some en.kv) (h1 : w.cell? ⟨b, o + 1, none⟩ = some en.vv) (ok : en.Ok w) :
    Calls Try.prog 14 #[.slice (some ⟨b, o, none⟩) 1 c] w fun e w' => ∃ gk gv gm, e = .returned (.slice (some ⟨w.heap.size, 0, none⟩) 1 2) ∧ ElOk w' w.heap.size w.heap.size [cpE en gk gv, mkE gm] ∧ Mkd w' gk en.ks ∧ Mkd w' gv en.vs ∧ Below w.heap.size w w' := by
  obtain ⟨i0, hi, hz0, hz1, hz2⟩ := info_parts infoE
  have hbl : b < w.heap.size := World.block_lt_of_cell? w ⟨b, o, none⟩ h0
  have OK := hide ok
  unfold Ent.kv at h0
  unfold Ent.vv at h1
  clear ok
  go_enter Try.func14, Try.ntmps14
  go_wp2_with (first
    | (at_make; refine wpList_make_own _ rfl _ _ 26 rfl w.heap.size 25 i0 (.agg #[.slice none 0 0, .slice none 0 0]) 2 Try.underlying26 hi hz0 hz1 .i64 .i64 _ 2 rfl rfl (by omega) (by rw [hz2]; omega) (by unfold maxLen; omega) (Nat.le_refl _) ?_; intro w1 hown1 hg1)
    | fail)
  have b1 : Below w.heap.size w w1 := (Below.refl _ _).grown hg1 (Nat.le_refl _) (fun k h => by cases h)
  have c0 := (b1.cell (p := ⟨b, o, none⟩) hbl).trans h0
  have c1 := (b1.cell (p := ⟨b, o + 1, none⟩) hbl).trans h1
  obtain ⟨cur, hcur, hcs⟩ : ∃ cur, w1.heap[w.heap.size]? = some (.cells cur 25 (0, 0)) ∧ cur.size = 4 := by
    rcases hown1.2 with ⟨hv, _⟩ | ⟨g', cap, cur, hv, _, h2, _, _, h5, _⟩
    · cases hv
    · cases hv; exact ⟨cur, h2, h5⟩
  have HCUR := hide hcur
  have B1 := hide b1
  clear hown1 hg1 b1 hcur h0 h1
  obtain ⟨nk, hnk⟩ : ∃ nk, en.ks.length = nk := ⟨_, rfl⟩
  obtain ⟨nv, hnv⟩ : ∃ nv, en.vs.length = nv := ⟨_, rfl⟩
  rw [hnk] at c0
  rw [hnv] at c1
  have hzk : nk ≤ 140737488351232 := by rw [← hnk]; exact OK.out.zk
  have hzv : nv ≤ 140737488351232 := by rw [← hnv]; exact OK.out.zv
  have hg1 : w.heap.size < w1.heap.size := lt_of_block HCUR.out
  have MK := hide (marked2_any en.ka nk en.kc en.ks w1.drew hnk hzk (by have := OK.out.nk; rw [hnk] at this; exact this) (show Row w1 .u8 en.ka en.ks from OK.out.k.below2 B1.out))
  have MV : Hid (∀ w2 : World, Below w1.heap.size w1 w2 → Calls Try.prog 41 #[.slice en.va nv en.vc] w2 fun e w' => e = .returned (.slice (some ⟨w2.heap.size, 0, none⟩) nv (nv + 1)) ∧ Mkd w' w2.heap.size en.vs ∧ OwnB w' w2.heap.size 5 (.slice (some ⟨w2.heap.size, 0, none⟩) nv (nv + 1)) en.vs ∧ Below w2.heap.size w2 w') := fun w2 hb => marked2_any en.va nv en.vc en.vs w2 hnv hzv (by have := OK.out.nv; rw [hnv] at this; exact this) ((OK.out.v.below2 B1.out).below2 hb)
  refine wp_loop_rounds 2 ?_
  rw [rounds_succ]
  go_wp2_with fail
  go_region_held3 (fun W => W.cell? ⟨b, o, none⟩ = some (.slice en.ka nk en.kc) ∧ W.cell? ⟨b, o + 1, none⟩ = some (.slice en.va nv en.vc)) (go_keep) (first
    | (refine step_append_room rfl (.tmp 15) (.tmp 29) 26 rfl 25 i0 2 Try.underlying26 hi hz1 w.heap.size 0 0 2 (by simp [Act.eval]) ⟨w3.heap.size, 0, none⟩ 1 1 [.slice (some ⟨w1.heap.size, 0, none⟩) nk (nk + 1), .slice (some ⟨w2.heap.size, 0, none⟩) nv (nv + 1)] (by simp [Act.eval]) rfl (two_new _ _ _ _) (by intro u hu; simp at hu; rcases hu with rfl | rfl <;> rfl) (by omega) HSP.out ?_; rw [HW5.out])
    | (go_at_call 41; refine (MV.out w2 B2.out).mono ?_; rintro e w3 ⟨rfl, m3, v3, b3⟩; have hb2 := B2.out.size; have hb3 := b3.size; have f0 := (b3.cell (p := ⟨b, o, none⟩) (show b < w2.heap.size by omega)).trans d0; have f1 := (b3.cell (p := ⟨b, o + 1, none⟩) (show b < w2.heap.size by omega)).trans d1; have M3 := hide m3; have V3 := hide v3; have B3 : Hid (Below w2.heap.size w2 w3) := b3; have G3 : Hid ((w3.alloc (.cells #[.slice (some ⟨w1.heap.size, 0, none⟩) nk (nk + 1), .slice (some ⟨w2.heap.size, 0, none⟩) nv (nv + 1)] 25)).heap[w.heap.size]? = some (.cells cur 25 (0, 0))) := (Below.heap_alloc _ _ _ (show w.heap.size < w3.heap.size by omega)).trans ((b3.block _ (show w.heap.size < w2.heap.size by omega)).trans ((B2.out.block _ hg1).trans HCUR.out)); have HSP : Hid (∀ j, j < [Value.slice (some ⟨w1.heap.size, 0, none⟩) nk (nk + 1), Value.slice (some ⟨w2.heap.size, 0, none⟩) nv (nv + 1)].length → ((w3.alloc (.cells #[.slice (some ⟨w1.heap.size, 0, none⟩) nk (nk + 1), .slice (some ⟨w2.heap.size, 0, none⟩) nv (nv + 1)] 25)).cell? ⟨w.heap.size, 0 + 0 * 2 + j, none⟩).isSome = true ∧ (w3.alloc (.cells #[.slice (some ⟨w1.heap.size, 0, none⟩) nk (nk + 1), .slice (some ⟨w2.heap.size, 0, none⟩) nv (nv + 1)] 25)).frozen? ⟨w.heap.size, 0 + 0 * 2 + j, none⟩ = false) := (fun j hj => ⟨by rw [cell_of_row _ _ _ _ _ _ G3.out]; simp at hj; simp; omega, frozen_blk G3.out _⟩); obtain ⟨w5, hw5⟩ : ∃ w5, w5 = ((w3.alloc (.cells #[.slice (some ⟨w1.heap.size, 0, none⟩) nk (nk + 1), .slice (some ⟨w2.heap.size, 0, none⟩) nv (nv + 1)] 25)).setCell ⟨w.heap.size, 0, none⟩ (.slice (some ⟨w1.heap.size, 0, none⟩) nk (nk + 1))).setCell ⟨w.heap.size, 1, none⟩ (.slice (some ⟨w2.heap.size, 0, none⟩) nv (nv + 1)) := ⟨_, rfl⟩; have HW5 : Hid ((w3.alloc (.cells #[.slice (some ⟨w1.heap.size, 0, none⟩) nk (nk + 1), .slice (some ⟨w2.heap.size, 0, none⟩) nv (nv + 1)] 25)).setCells w.heap.size (0 + 0 * 2) [.slice (some ⟨w1.heap.size, 0, none⟩) nk (nk + 1), .slice (some ⟨w2.heap.size, 0, none⟩) nv (nv + 1)] = w5) := (by show _ = _; rw [hw5]; simp [World.setCells]); have U5 : Hid (Upd (fun i => i = w.heap.size) (w3.alloc (.cells #[.slice (some ⟨w1.heap.size, 0, none⟩) nk (nk + 1), .slice (some ⟨w2.heap.size, 0, none⟩) nv (nv + 1)] 25)) w5) := (by rw [hw5]; exact (set_upd _ w.heap.size 0 _).trans (set_upd _ w.heap.size 1 _)); have G5 : Hid (w5.heap[w.heap.size]? = some (.cells ((cur.setIfInBounds 0 (.slice (some ⟨w1.heap.size, 0, none⟩) nk (nk + 1))).setIfInBounds 1 (.slice (some ⟨w2.heap.size, 0, none⟩) nv (nv + 1))) 25 (0, 0))) := (by show _ = _; rw [hw5]; exact block_setCell (block_setCell G3.out 0 _) 1 _); have g0 := U5.out.cell ((((Below.refl w3.heap.size w3).alloc (Nat.le_refl _) (.cells #[.slice (some ⟨w1.heap.size, 0, none⟩) nk (nk + 1), .slice (some ⟨w2.heap.size, 0, none⟩) nv (nv + 1)] 25)).cell (p := ⟨b, o, none⟩) (show b < w3.heap.size by omega)).trans f0) (show b ≠ w.heap.size by omega); have g1 := U5.out.cell ((((Below.refl w3.heap.size w3).alloc (Nat.le_refl _) (.cells #[.slice (some ⟨w1.heap.size, 0, none⟩) nk (nk + 1), .slice (some ⟨w2.heap.size, 0, none⟩) nv (nv + 1)] 25)).cell (p := ⟨b, o + 1, none⟩) (show b < w3.heap.size by omega)).trans f1) (show b ≠ w.heap.size by omega); have h0 := ((((Below.refl w3.heap.size w3).alloc (Nat.le_refl _) (.cells #[.slice (some ⟨w1.heap.size, 0, none⟩) nk (nk + 1), .slice (some ⟨w2.heap.size, 0, none⟩) nv (nv + 1)] 25)).cell (p := ⟨b, o, none⟩) (show b < w3.heap.size by omega)).trans f0); have h1 := ((((Below.refl w3.heap.size w3).alloc (Nat.le_refl _) (.cells #[.slice (some ⟨w1.heap.size, 0, none⟩) nk (nk + 1), .slice (some ⟨w2.heap.size, 0, none⟩) nv (nv + 1)] 25)).cell (p := ⟨b, o + 1, none⟩) (show b < w3.heap.size by omega)).trans f1); replace hw5 := hide hw5; clear m3 v3 b3)
    | (go_at_call 41; refine MK.out.mono ?_; rintro e w2 ⟨rfl, m2, v2, b2⟩; have B2 : Hid (Below w1.heap.size w1 w2) := ⟨b2.os, b2.tape, b2.output, b2.size, b2.block⟩; have d0 := (B2.out.cell (p := ⟨b, o, none⟩) (show b < w1.heap.size by omega)).trans c0; have d1 := (B2.out.cell (p := ⟨b, o + 1, none⟩) (show b < w1.heap.size by omega)).trans c1; have M2 : Hid (Mkd w2 w1.heap.size en.ks) := m2; have V2 : Hid (OwnB w2 w1.heap.size 5 (.slice (some ⟨w1.heap.size, 0, none⟩) nk (nk + 1)) en.ks) := v2; clear m2 v2 b2)
    | fail)
  clear g0 g1 h0 h1 f0 f1 d0 d1 c0 c1 MK MV HSP HW5
  have hz2' := B2.out.size
  have hz3' := B3.out.size
  have hz5 := U5.out.size
  rw [World.size_alloc] at hz5
  have G7 : Hid (((w5.alloc (.cells #[.int .u8 77] 5)).alloc (.cells #[.slice (some ⟨w5.heap.size, 0, none⟩) 1 1, .slice none 0 0] 25)).heap[w.heap.size]? = some (.cells ((cur.setIfInBounds 0 (.slice (some ⟨w1.heap.size, 0, none⟩) nk (nk + 1))).setIfInBounds 1 (.slice (some ⟨w2.heap.size, 0, none⟩) nv (nv + 1))) 25 (0, 0))) := (Below.heap_alloc _ _ _ (by simp; omega)).trans ((Below.heap_alloc _ _ _ (by omega)).trans G5.out)
  have y := two_new2 (w5.alloc (.cells #[.int .u8 77] 5)) (.slice (some ⟨w5.heap.size, 0, none⟩) 1 1) (.slice none 0 0) 25
  rw [World.size_alloc] at y
  have Y0 := hide y.1
  have Y1 := hide y.2
  clear y
  go_wp2_with fail
  rw [rounds_succ]
  go_wp2_with (first
    | (at_builtin; refine app_room rfl (.tmp 31) (.tmp 34) 26 rfl 25 i0 Try.underlying26 hi hz1 w.heap.size 1 2 rfl _ _ G7.out (by simp [hcs]) (by omega) ⟨w5.heap.size + 1, 0, none⟩ 1 (.slice (some ⟨w5.heap.size, 0, none⟩) 1 1) (.slice none 0 0) rfl Y0.out Y1.out rfl rfl ?_)
    | fail)
  obtain ⟨w7, hw7⟩ : ∃ w7, w7 = (w5.alloc (.cells #[.int .u8 77] 5)).alloc (.cells #[.slice (some ⟨w5.heap.size, 0, none⟩) 1 1, .slice none 0 0] 25) := ⟨_, rfl⟩
  rw [← hw7] at G7 ⊢
  obtain ⟨w8, hw8⟩ : ∃ w8, w8 = (w7.setCell ⟨w.heap.size, 2, none⟩ (.slice (some ⟨w5.heap.size, 0, none⟩) 1 1)).setCell ⟨w.heap.size, 3, none⟩ (.slice none 0 0) := ⟨_, rfl⟩
  rw [← hw8]
  have G8 : w8.heap[w.heap.size]? = some (.cells ((((cur.setIfInBounds 0 (.slice (some ⟨w1.heap.size, 0, none⟩) nk (nk + 1))).setIfInBounds 1 (.slice (some ⟨w2.heap.size, 0, none⟩) nv (nv + 1))).setIfInBounds 2 (.slice (some ⟨w5.heap.size, 0, none⟩) 1 1)).setIfInBounds 3 (.slice none 0 0)) 25 (0, 0)) := by rw [hw8]; exact block_setCell (block_setCell G7.out 2 _) 3 _
  have U78 : Upd (fun i => i = w.heap.size) w7 w8 := by rw [hw8]; exact (set_upd _ w.heap.size 2 _).trans (set_upd _ w.heap.size 3 _)
  have U57 : Upd (fun i => i = w.heap.size) w5 w7 := by rw [hw7]; exact (((Upd.refl _ w5).alloc _).alloc _)
  have U38 : Upd (fun i => i = w.heap.size) w3 w8 := ((((Upd.refl _ w3).alloc (.cells #[.slice (some ⟨w1.heap.size, 0, none⟩) nk (nk + 1), .slice (some ⟨w2.heap.size, 0, none⟩) nv (nv + 1)] 25)).trans U5.out).trans U57).trans U78
  have U28 : Upd (fun i => i = w.heap.size) w2 w8 := (Upd.of_below B3.out _).trans U38
  have hM5 : w5.heap.size < w7.heap.size ∧ w7.heap[w5.heap.size]? = some (.cells #[.int .u8 77] 5 (0, 0)) := by
    rw [hw7]
    exact ⟨by simp; omega, (Below.heap_alloc _ _ _ (by simp)).trans (heap_alloc_new w5 _)⟩
  have hM8 : w8.heap[w5.heap.size]? = some (.cells #[.int .u8 77] 5 (0, 0)) := U78.heap hM5.2 (by omega)
  have hB8 : Below w.heap.size w w8 := (B1.out.trans (B2.out.mono B1.out.size)).trans (U28.below (by omega) (fun i hi e => by omega))
  have oK : OwnB w8 w.heap.size 5 (.slice (some ⟨w1.heap.size, 0, none⟩) nk (nk + 1)) en.ks := (V2.out.upd U28 (fun k hk e => by cases hk; exact absurd e (by show w1.heap.size ≠ w.heap.size; omega))).mono (by omega)
  have oV : OwnB w8 w.heap.size 5 (.slice (some ⟨w2.heap.size, 0, none⟩) nv (nv + 1)) en.vs := (V3.out.upd U38 (fun k hk e => by cases hk; exact absurd e (by show w2.heap.size ≠ w.heap.size; omega))).mono (by omega)
  have oM : OwnB w8 w.heap.size 5 (.slice (some ⟨w5.heap.size, 0, none⟩) 1 1) [77] := .inr ⟨w5.heap.size, 1, #[.int .u8 77], rfl, by omega, hM8, by simp, by unfold maxLen; omega, rfl, rfl, fun u hu => by simp at hu; exact ⟨77, hu⟩⟩
  have mK : Mkd w8 w1.heap.size en.ks := fun i hi => U28.cell (M2.out i hi) (show w1.heap.size ≠ w.heap.size by omega)
  have mV : Mkd w8 w2.heap.size en.vs := fun i hi => U38.cell (M3.out i hi) (show w2.heap.size ≠ w.heap.size by omega)
  have HF : Hid (ElOk w8 w.heap.size w.heap.size [cpE en w1.heap.size w2.heap.size, mkE w5.heap.size]) := by
    refine ⟨⟨_, G8, by simp [hcs], fun i hi => ?_⟩, fun i hi => ?_, fun i hi b hb => ?_, Nat.le_refl _⟩
    all_goals
      have h01 : i = 0 ∨ i = 1 := by simp at hi; omega
    · rcases h01 with rfl | rfl <;> simp [cpE, mkE, Ent.kv, Ent.vv, hcs, hnk, hnv]
    · rcases h01 with rfl | rfl
      · simp only [List.getElem_cons_zero, cpE, Ent.kv, Ent.vv, hnk, hnv]
        exact ⟨oK, oV⟩
      · simp only [List.getElem_cons_succ, List.getElem_cons_zero, mkE, Ent.kv, Ent.vv]
        exact ⟨oM, OwnB.nil _ _ _⟩
    · rcases h01 with rfl | rfl
      · simp only [List.getElem_cons_zero, cpE, Ent.kv, Ent.vv, Value.ownBlock, Option.some.injEq] at hb
        omega
      · simp only [List.getElem_cons_succ, List.getElem_cons_zero, mkE, Ent.kv, Ent.vv, Value.ownBlock, Option.some.injEq, reduceCtorEq, or_false] at hb
        omega
  go_ret
  exact ⟨w1.heap.size, w2.heap.size, w5.heap.size, rfl, HF.out, mK, mV, hB8⟩

/-- What Kept asks of it. -/
theorem cpd1 {W : World} {N ga gk gv gm : Nat} {en : Ent} (h : ElOk W N ga [cpE en gk gv, mkE gm]) (mk : Mkd W gk en.ks) (mv : Mkd W gv en.vs) : Cpd W N ga [cpE en gk gv] [en] := by
  obtain ⟨cur, h1, h2, h3⟩ := h.eb
  have e0 := h3 0 (by simp)
  have e1 := h3 1 (by simp)
  have o0 := h.ok 0 (by simp)
  have s0 := h.sep 0 (by simp)
  have lk := (o0.1.owns.lt gk rfl).1
  have lv := (o0.2.owns.lt gv rfl).1
  have sk : gk ≠ ga := s0 gk (.inl rfl)
  have sv : gv ≠ ga := s0 gv (.inr rfl)
  refine ⟨rfl, fun i hi => ?_, fun i hi => ?_, fun i hi _ => ?_, h.gN, ⟨gm, ?_⟩⟩
  · obtain rfl : i = 0 := by simp at hi; omega
    rw [cell_of_row _ _ _ _ _ _ h1]; exact e0.1
  · obtain rfl : i = 0 := by simp at hi; omega
    rw [cell_of_row _ _ _ _ _ _ h1]; exact e0.2
  · obtain rfl : i = 0 := by simp at hi; omega
    exact ⟨rfl, rfl, rfl, rfl, ⟨gk, rfl, mk, lk, fun e => by cases e; exact sk rfl⟩, ⟨gv, rfl, mv, lv, fun e => by cases e; exact sv rfl⟩⟩
  · rw [cell_of_row _ _ _ _ _ _ h1]; exact e1.1
/-- The copy as an entry to be added. -/
theorem cp1_ok {W W0 : World} {N ga gk gv gm : Nat} {en : Ent} (h : ElOk W N ga [cpE en gk gv, mkE gm]) (ok : en.Ok W0) : (cpE en gk gv).Ok W := by
  have o0 := h.ok 0 (by simp)
  exact ⟨o0.1.row, o0.2.row, (fun e => by cases e), (fun e => by cases e), by show en.ks.length ≤ en.ks.length + 1; omega, by show en.vs.length ≤ en.vs.length + 1; omega, ok.k8, ok.v8, ok.zk, ok.zv⟩

end Go.Proofs.Ytjnldmbjeiejdaa
