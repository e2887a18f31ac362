/- What the statements' helpers make: a source and a sink, the program's and the document's. -/
import Derived.Test.YtcffekhlnidjnaaPInst
import Derived.Test.YtcffekhlnidjnaaCSpoil
import Derived.Deep.DeepCutAuto
import Derived.Deep.CutBlock
namespace Go.Proofs.Ytcffekhlnidjnaa
open Go.RowKit

/-- The document's source, as it is made. -/
def RSrc0 (W : World) (g : Nat) (x y : Value) (fail : Int) (eager : Bool) (c k : Nat) : Prop := W.heap[g]? = some (.cells #[x, y, .int .i64 fail, .bool eager, .int .i64 (c : Int), .int .i64 (k : Int), .bool false, .slice none 0 0, .slice none 0 0, .int .u8 0, .int .u8 0, .slice none 0 0] 46 (0, 0))
def RSnk0 (W : World) (g : Nat) (x : Value) (fail : Int) (c : Nat) (y : Value) : Prop := W.heap[g]? = some (.cells #[x, .int .i64 fail, .int .i64 (c : Int), y, .bool false, .slice none 0 0, .slice none 0 0, .slice none 0 0] 51 (0, 0))

def SourcePost (zs gs : List Int) (fail : Int) (eager : Bool) (x y : Value) (w : World) (e : Ending) (w' : World) : Prop :=
  ∃ g M g2, e = .returned (.tuple #[.pointer (some ⟨g, 0, none⟩), .pointer (some ⟨g2, 0, none⟩)]) ∧ SrcAt w' M zs gs fail eager g 0 0 ∧ (∀ i, M i → w.heap.size ≤ i ∧ i ≠ g2) ∧ RSrc0 w' g2 x y fail eager 0 0 ∧ w.heap.size ≤ g2 ∧ Below w.heap.size w w'

theorem feed_cells {W : World} {g : Nat} {a b c d : Value} (h : W.heap[g]? = some (.cells #[a, b, c, d] 26 (0, 0))) : W.cell? ⟨g, 0, none⟩ = some a ∧ W.cell? ⟨g, 1, none⟩ = some b ∧ W.cell? ⟨g, 2, none⟩ = some c ∧ W.cell? ⟨g, 3, none⟩ = some d ∧ ∀ j, W.frozen? ⟨g, j, none⟩ = false := by
  refine ⟨?_, ?_, ?_, ?_, fun j => frozen_blk h j⟩ <;> (rw [cell_of_row _ _ _ _ _ _ h]; rfl)

theorem HNN {W : World} {B : Nat} {a : Option Addr} {n cap : Nat} {zs : List Int} (h : OwnB W B 5 (.slice a n cap) zs) (hl : zs.length = n) : a = none → n = 0 ∧ cap = 0 := by
  obtain ⟨a', c', hv, h1, _⟩ := h.sliceN hl
  simp only [Value.slice.injEq] at hv
  obtain ⟨rfl, _, rfl⟩ := hv
  exact h1
theorem HNI {W : World} {B : Nat} {e : TypeId} {a : Option Addr} {n cap : Nat} {xs : List Value} (h : W.ownsRow B e 1 (.slice a n cap) n xs) : a = none → n = 0 ∧ cap = 0 := by
  obtain ⟨a', c', hv, h1, _⟩ := slice_of_owns2 h
  simp only [Value.slice.injEq] at hv
  obtain ⟨rfl, _, rfl⟩ := hv
  exact h1

theorem own_setI {w : World} {base g n cap : Nat} {e : TypeId} {t : List Int} (h : w.ownsRow base e 1 (.slice (some ⟨g, 0, none⟩) n cap) n (t.map (Value.int .i64))) (j : Nat) (x : Int) :
    (w.setCell ⟨g, j, none⟩ (.int .i64 x)).ownsRow base e 1 (.slice (some ⟨g, 0, none⟩) n cap) n ((t.set j x).map (Value.int .i64)) := by
  refine ⟨by rw [List.length_map, List.length_set, ← List.length_map (f := Value.int .i64)]; exact h.1, ?_⟩
  rcases h.2 with ⟨hv, _⟩ | ⟨g', cap', cur, hv, hb, hh, h1, h2, h3, h4⟩
  · cases hv
  · cases hv
    refine .inr ⟨g, cap, cur.setIfInBounds j (.int .i64 x), rfl, hb, block_setCell hh j _, h1, h2, by rw [Array.size_setIfInBounds]; exact h3, ?_⟩
    rw [List.map_set, ← h4, Array.toList_setIfInBounds, List.take_set]

set_option maxRecDepth 100000 in
set_option maxHeartbeats 3200000 in
theorem source_any (ab ag : Option Addr) (lb cb lg cg : Nat) (zs gs : List Int) (fail : Int) (eager : Bool) (w : World) (hlb : zs.length = lb) (hlg : gs.length = lg) (hm : lb ≤ 140737488355328) (hm8 : lg * 8 ≤ 140737488355328)
    (nb : ab = none → lb = 0 ∧ cb = 0) (ng : ag = none → lg = 0 ∧ cg = 0) (rb : Row w .u8 ab zs) (rg : Row w .i64 ag gs) :
    Calls Try.prog 10 #[.agg #[.slice ab lb cb, .slice ag lg cg, .int .i64 fail, .bool eager]] w fun e w' => SourcePost zs gs fail eager (.slice ab lb cb) (.slice ag lg cg) w e w' := by
  obtain ⟨i0, hi0, hz0, hz1, hz2⟩ := info_parts' infoByte'
  obtain ⟨j0, hj0, hy0, hy1, hy2⟩ := info_parts' infoInt'
  have HRB := hide rb
  have HRG := hide rg
  have HNB := hide nb
  have HNG := hide ng
  clear rb rg nb ng
  go_enter Try.func10, Try.ntmps10
  have hf1 : ((w.alloc (.cells #[.slice ab lb cb, .slice ag lg cg, .int .i64 fail, .bool eager] 26)).alloc (.cells #[.slice ab lb cb, .slice ag lg cg, .int .i64 fail, .bool eager] 26)).heap[w.heap.size]? = some (.cells #[.slice ab lb cb, .slice ag lg cg, .int .i64 fail, .bool eager] 26 (0, 0)) := heap_alloc2_old _ _ _
  have hf2 : ((w.alloc (.cells #[.slice ab lb cb, .slice ag lg cg, .int .i64 fail, .bool eager] 26)).alloc (.cells #[.slice ab lb cb, .slice ag lg cg, .int .i64 fail, .bool eager] 26)).heap[w.heap.size + 1]? = some (.cells #[.slice ab lb cb, .slice ag lg cg, .int .i64 fail, .bool eager] 26 (0, 0)) := heap_alloc2_new _ _ _
  replace hf1 := hide hf1
  replace hf2 := hide hf2
  have hbA : Below w.heap.size w ((w.alloc (.cells #[.slice ab lb cb, .slice ag lg cg, .int .i64 fail, .bool eager] 26)).alloc (.cells #[.slice ab lb cb, .slice ag lg cg, .int .i64 fail, .bool eager] 26)) := ((Below.refl _ _).alloc (Nat.le_refl _) _).alloc (by simp) _
  have hzA : ((w.alloc (.cells #[.slice ab lb cb, .slice ag lg cg, .int .i64 fail, .bool eager] 26)).alloc (.cells #[.slice ab lb cb, .slice ag lg cg, .int .i64 fail, .bool eager] 26)).heap.size = w.heap.size + 2 := by simp
  go_upto_region 2 with fail
  generalize (w.alloc (.cells #[.slice ab lb cb, .slice ag lg cg, .int .i64 fail, .bool eager] 26)).alloc (.cells #[.slice ab lb cb, .slice ag lg cg, .int .i64 fail, .bool eager] 26) = wA at *
  obtain ⟨N, hN⟩ : ∃ N, N = w.heap.size := ⟨_, rfl⟩
  rw [← hN] at hf1 hf2 hbA hzA ⊢
  replace hN := hide hN
  have HZA := hide hzA
  have x0 := (feed_cells hf1.out).1
  have x1 := (feed_cells hf1.out).2.1
  have y0 := (feed_cells hf2.out).1
  have yf := (feed_cells hf2.out).2.2.2.2 0
  have HRB1 := hide ((HRB.out.below2 (hN.out ▸ hbA)).alloc (.cells #[] 5))
  have hfe := (Below.heap_alloc wA (.cells #[] 5) N (by omega)).trans hf1.out
  have hge := (Below.heap_alloc wA (.cells #[] 5) (N + 1) (by omega)).trans hf2.out
  have x0' := (feed_cells hfe).1
  clear hzA hfe hge
  go_upto_region 3 with (first
    | (at_builtin; refine append_b rfl (.tmp 8) (.tmp 10) 23 rfl wA.heap.size 5 i0 Try.underlying23 hi0 hz0 hz1 hz2 (.slice (some ⟨wA.heap.size, 0, none⟩) 0 0) [] rfl (OwnB.made #[] 0 (Nat.le_refl _) (by unfold maxLen; omega) rfl (by intro u hu; cases hu)) ab lb cb zs rfl hlb HNB.out HRB1.out (by simp; omega) (by simp) ?_; intro v4 w4 ho4 hg4; simp only [List.nil_append] at ho4; obtain ⟨a4, k4, hv4, hn4, hk4, hq4⟩ := ho4.sliceN hlb; have hb4 := (hg4.block (N + 1) (by have := HZA.out; simp; omega) (fun e => by have e' : N + 1 = wA.heap.size := Option.some.inj e; have := HZA.out; omega)).trans ((Below.heap_alloc wA (.cells #[] 5) (N + 1) (by have := HZA.out; omega)).trans hf2.out); have z0 := (feed_cells hb4).1; have zf := (feed_cells hb4).2.2.2.2 0; replace ho4 := hide ho4; replace hg4 := hide hg4; replace hn4 := hide hn4; replace hq4 := hide hq4; replace hb4 := hide hb4; subst hv4)
    | fail)
  have hga4 := (hg4.out.block N (by have := HZA.out; simp; omega) (fun e => by have e' : N = wA.heap.size := Option.some.inj e; have := HZA.out; omega)).trans ((Below.heap_alloc wA (.cells #[] 5) N (by have := HZA.out; omega)).trans hf1.out)
  have hz4 : N + 3 ≤ w4.heap.size := by have h1 := hg4.out.size; rw [World.size_alloc] at h1; have h2 := HZA.out; omega
  have hb04 : Below N w w4 := (hbA.alloc (by have := HZA.out; omega) _).grown hg4.out (by have := HZA.out; simp; omega) (fun k hk => by have e' : wA.heap.size = k := Option.some.inj hk; have := HZA.out; omega)
  have hfA5 : (w4.setCell ⟨N + 1, 0, none⟩ (.slice a4 lb k4)).heap[N]? = _ := (Below.heap_setCell _ _ _ _ (by simp)).trans hga4
  have hfB5 := block_setCell hb4.out 0 (.slice a4 lb k4)
  have hob5 : OwnB (w4.setCell ⟨N + 1, 0, none⟩ (.slice a4 lb k4)) (N + 2) 5 (.slice a4 lb k4) zs := (ho4.out.mono (by have := HZA.out; omega)).blk (fun k hk => Below.heap_setCell _ _ _ _ (fun e => by have h1 := hq4.out k hk; have := HZA.out; simp only at e; omega))
  have hb05 : Below N w (w4.setCell ⟨N + 1, 0, none⟩ (.slice a4 lb k4)) := hb04.setCell (by simp) _
  have hz5 : N + 3 ≤ (w4.setCell ⟨N + 1, 0, none⟩ (.slice a4 lb k4)).heap.size := by simp [World.setCell]; exact hz4
  generalize w4.setCell ⟨N + 1, 0, none⟩ (.slice a4 lb k4) = w5 at *
  have hfB5' : w5.heap[N + 1]? = some (.cells #[.slice a4 lb k4, .slice ag lg cg, .int .i64 fail, .bool eager] 26 (0, 0)) := hfB5
  have HF5 := hide hfA5
  have HG5 := hide hfB5'
  have HO5 := hide hob5
  have HB05 := hide hb05
  have HRG5 := hide ((HRG.out.below2 (hN.out ▸ hb05)).alloc (.cells #[] 3))
  have hfe := (Below.heap_alloc w5 (.cells #[] 3) N (by omega)).trans hfA5
  have x1' := (feed_cells hfe).2.1
  clear hga4 hz4 hb04 hfA5 hfB5 hfB5' hob5 hb05 hfe hb4 z0 zf ho4 hg4 hn4 hq4 hf1 hf2 x0 x0' x1 y0 yf hbA HZA HRB1 HRB
  go_upto_region 4 with (first
    | (at_builtin; refine append_own_any rfl (.tmp 13) (.tmp 15) 24 rfl w5.heap.size 3 j0 (.int .i64 0) 1 8 Try.underlying24 hj0 hy0 hy1 hy2 rfl (by decide) (.slice (some ⟨w5.heap.size, 0, none⟩) 0 0) 0 [] rfl (World.ownsRow_made w5 #[] 0 (Nat.le_refl _) (by unfold maxLen; omega) rfl) ag lg cg (gs.map (Value.int .i64)) rfl (by simp [hlg]) HNG.out HRG5.out.cells (ints_oneCell _ _) (by unfold maxLen; omega) (by omega) (by simp) ?_; intro v6 w6 ho6 hg6; simp only [Nat.zero_add, List.nil_append] at ho6; obtain ⟨a6, k6, hv6, hn6, hq6⟩ := slice_of_owns2 ho6; have hb6 := (hg6.block (N + 1) (by simp; omega) (fun e => by have e' : N + 1 = w5.heap.size := Option.some.inj e; omega)).trans ((Below.heap_alloc w5 (.cells #[] 3) (N + 1) (by omega)).trans HG5.out); have z1 := (feed_cells hb6).2.1; have zf1 := (feed_cells hb6).2.2.2.2 1; replace ho6 := hide ho6; replace hg6 := hide hg6; replace hn6 := hide hn6; replace hq6 := hide hq6; replace hb6 := hide hb6; subst hv6)
    | fail)
  have hga6 := (hg6.out.block N (by simp; omega) (fun e => by have e' : N = w5.heap.size := Option.some.inj e; omega)).trans ((Below.heap_alloc w5 (.cells #[] 3) N (by omega)).trans HF5.out)
  have hz6 : N + 4 ≤ w6.heap.size := by have h1 := hg6.out.size; rw [World.size_alloc] at h1; omega
  have hb06 : Below N w w6 := (HB05.out.alloc (by omega) _).grown hg6.out (by simp; omega) (fun k hk => by have e' : w5.heap.size = k := Option.some.inj hk; omega)
  have hfA7 : (w6.setCell ⟨N + 1, 1, none⟩ (.slice a6 lg k6)).heap[N]? = _ := (Below.heap_setCell _ _ _ _ (by simp)).trans hga6
  have hfB7 : (w6.setCell ⟨N + 1, 1, none⟩ (.slice a6 lg k6)).heap[N + 1]? = some (.cells #[.slice a4 lb k4, .slice a6 lg k6, .int .i64 fail, .bool eager] 26 (0, 0)) := block_setCell hb6.out 1 (.slice a6 lg k6)
  have hq4' := HO5.out.owns.lt
  have hob7 : OwnB (w6.setCell ⟨N + 1, 1, none⟩ (.slice a6 lg k6)) (N + 2) 5 (.slice a4 lb k4) zs := HO5.out.blk (fun k hk => (Below.heap_setCell _ _ _ _ (fun e => by have h1 := hq4' k hk; simp only at e; omega)).trans ((hg6.out.block k (by have h1 := hq4' k hk; simp; omega) (fun e => by have e' : k = w5.heap.size := Option.some.inj e; have h1 := hq4' k hk; omega)).trans (Below.heap_alloc w5 _ k (by have h1 := hq4' k hk; omega))))
  have hoi7 : (w6.setCell ⟨N + 1, 1, none⟩ (.slice a6 lg k6)).ownsRow (N + 3) 3 1 (.slice a6 lg k6) lg (gs.map (Value.int .i64)) := owns_blk (owns_mono ho6.out (by omega)) (fun k hk => Below.heap_setCell _ _ _ _ (fun e => by have h1 := ho6.out.lt k hk; simp only at e; omega))
  have hdis7 : ∀ k, (Value.slice a6 lg k6).ownBlock = some k → (Value.slice a4 lb k4).ownBlock ≠ some k := fun k hk e => by have h1 := ho6.out.lt k hk; have h2 := hq4' k e; omega
  have hb07 : Below N w (w6.setCell ⟨N + 1, 1, none⟩ (.slice a6 lg k6)) := hb06.setCell (by simp) _
  have hz7 : N + 4 ≤ (w6.setCell ⟨N + 1, 1, none⟩ (.slice a6 lg k6)).heap.size := by simp [World.setCell]; exact hz6
  generalize w6.setCell ⟨N + 1, 1, none⟩ (.slice a6 lg k6) = w7 at *
  have HF7 := hide hfA7
  have HG7 := hide hfB7
  have HO7 := hide hob7
  have HI7 := hide hoi7
  have HD7 := hide hdis7
  have HB07 := hide hb07
  have hcel := feed_cells hfB7
  have d0 := hcel.1
  have d1 := hcel.2.1
  have d2 := hcel.2.2.1
  have d3 := hcel.2.2.2.1
  clear hga6 hz6 hb06 hfA7 hfB7 hq4' hob7 hoi7 hdis7 hb07 hcel z1 zf1 ho6 hg6 hn6 hq6 hb6 HF5 HG5 HO5 HB05 HRG5 x1' hz5
  go_wp2_with fail
  have hsl := HO7.out.slice
  refine (newSource_any a4 a6 lb k4 lg k6 zs gs fail eager w7 hlb hlg hm hm8 (HNN HO7.out hlb) (HNI HI7.out) HO7.out.row (row_of_owns2 HI7.out)).mono ?_
  rintro e w8 ⟨g, M, rfl, hS8, hM8, hb8⟩
  have HS8 := hide hS8
  have HM8 := hide hM8
  have HF8 := hide ((hb8.block N (by omega)).trans HF7.out)
  have HG8 := hide ((hb8.block (N + 1) (by omega)).trans HG7.out)
  have HO8 := hide (HO7.out.below hb8)
  have HI8 := hide (owns_below HI7.out hb8)
  have HB08 := hide (HB07.out.trans (hb8.mono (by omega)))
  have hz8 : N + 4 ≤ w8.heap.size := by have := hb8.size; omega
  have e0 := (feed_cells HG8.out).1
  have hq7 := HO7.out.owns.lt
  have hq7i := HI7.out.lt
  clear hS8 hM8 hb8 d0 d1 d2 d3 HF7 HG7 HB07 hsl
  go_wp2_with fail
  refine (spoil_any HO8.out).mono ?_
  rintro e w9 ⟨rfl, hg9⟩
  have hu9 : Upd (fun k => (Value.slice a4 lb k4).ownBlock = some k) w8 w9 := Upd.of_grown hg9 (fun k hk _ => hk)
  have HS9 := hide (HS8.out.upd hu9 (fun i hi e => by have h1 := HM8.out i hi; have h2 := hq7 i e; omega))
  have HF9 := hide (hu9.heap HF8.out (fun e => by have h2 := hq7 _ e; omega))
  have HG9 := hide (hu9.heap HG8.out (fun e => by have h2 := hq7 _ e; omega))
  have HI9 := hide (owns_upd HI8.out hu9 (fun k hk e => HD7.out k hk e))
  have HB09 : Hid (Below N w w9) := hide (HB08.out.trans (hu9.below (by omega) (fun k hk e => by have h2 := hq7 k e; omega)))
  have hz9 : N + 4 ≤ w9.heap.size := by have := hu9.size; omega
  have HQI := hide hq7i
  clear hu9 hg9 HS8 HF8 HG8 HI8 HB08 HO8 e0 hq7 hq7i HO7 HI7 HD7
  go_wp2_with fail
  go_loopw [6] (fun q wr => ∃ (j : Nat) (gs' : List Int), j ≤ lg ∧ q = .int .i64 (j : Int) ∧ Hid (Upd (fun k => (Value.slice a6 lg k6).ownBlock = some k) w9 wr) ∧ Hid (gs'.length = lg) ∧ Hid (wr.ownsRow (N + 3) 3 1 (.slice a6 lg k6) lg (gs'.map (Value.int .i64)))) (fun q _ => lg - (intOf q).toNat)
  case atStart => exact ⟨0, gs, by omega, rfl, Upd.refl _ _, hlg, HI9⟩
  case round =>
    obtain ⟨j, gs', hj, rfl, HU, HL, HOW⟩ := hrel
    have HGr := hide (HU.out.heap HG9.out (fun e => by have h1 := (HQI.out _ e).1; omega))
    have f1 := (feed_cells HGr.out).2.1
    by_cases hlt : j < lg
    · obtain ⟨g6, c6, hv6, _⟩ := slice_of_owns HOW.out (by omega)
      simp only [Value.slice.injEq] at hv6
      obtain ⟨rfl, _, _⟩ := hv6
      have hcell := row_of_owns2 HOW.out j (by have := HL.out; omega)
      obtain ⟨b', o', hb', hcell⟩ := hcell
      cases hb'
      rw [Nat.zero_add] at hcell
      have hfr := own_frozen HOW.out j
      have hi1 : (j : Int) < (lg : Int) := by omega
      have hi0' : (0 : Int) ≤ (j : Int) := by omega
      have HOW' := hide (own_setI HOW.out j 1)
      have HU' : Hid (Upd (fun k => (Value.slice (some ⟨g6, 0, none⟩) lg k6).ownBlock = some k) w9 (wr.setCell ⟨g6, j, none⟩ (.int .i64 1))) := hide (HU.out.setCell ⟨g6, j, none⟩ _ (fun _ => rfl))
      generalize gs'.getD j 0 = c at *
      go_wp2_with fail
      go_roundw
      case rel => exact ⟨j + 1, gs'.set j 1, by omega, by go_num, HU', by show _ = _; rw [List.length_set]; exact HL.out, HOW'⟩
      case measure => simp [intOf]; omega
    · have hge : ¬ (j : Int) < (lg : Int) := by omega
      have hNS : ¬ (Value.slice a6 lg k6).ownBlock = some N := fun e => by have h1 := (HQI.out _ e).1; omega
      have HF10 := hide (HU.out.heap HF9.out hNS)
      have hS10 := HS9.out.upd HU.out (fun i hi e => by have h1 := HM8.out i hi; have h2 := (HQI.out _ e).2; omega)
      have HS10 := hide hS10
      have HB10 : Hid (Below N w wr) := hide (HB09.out.trans (HU.out.below (by omega) (fun k hk e => by have h1 := (HQI.out _ e).1; omega)))
      have hz10 : N + 4 ≤ wr.heap.size := by have := HU.out.size; omega
      have c0 := (feed_cells HF10.out).1
      have c1 := (feed_cells HF10.out).2.1
      have c2 := (feed_cells HF10.out).2.2.1
      have c3 := (feed_cells HF10.out).2.2.2.1
      have HMN : Hid (∀ i, M i → N ≤ i ∧ i < wr.heap.size) := hide (fun i hi => ⟨by have h1 := HM8.out i hi; omega, hS10.lt.1 i hi⟩)
      clear hS10 hNS
      go_wp2_with fail
      go_region_held3 (fun W => W.cell? ⟨N, 0, none⟩ = some (.slice ab lb cb) ∧ W.cell? ⟨N, 1, none⟩ = some (.slice ag lg cg) ∧ W.cell? ⟨N, 2, none⟩ = some (.int .i64 fail) ∧ W.cell? ⟨N, 3, none⟩ = some (.bool eager)) (go_keep) (fail)
      all_goals go_wp2_with fail
      all_goals go_ret2
      all_goals (
        refine ⟨g, M, wr.heap.size, rfl, HS10.out.upd (((Upd.refl Noth _).drew).alloc _) (fun _ _ e => e), fun i hi => ?_, heap_alloc_new wr.drew _, ?_, ?_⟩
        · have h1 := HMN.out i hi
          have h2 := hN.out
          omega
        · have h2 := hN.out
          omega
        · rw [← hN.out]
          exact HB10.out.drew.alloc (by simp only [World.drew]; omega) _)


def SinkPost (ts : List Int) (fail : Int) (x : Value) (w : World) (e : Ending) (w' : World) : Prop :=
  ∃ g M g2, e = .returned (.tuple #[.pointer (some ⟨g, 0, none⟩), .pointer (some ⟨g2, 0, none⟩)]) ∧ SnkAt w' w.heap.size M ts fail g 0 [] ∧ (∀ i, M i → i ≠ g2) ∧ RSnk0 w' g2 x fail 0 (.slice none 0 0) ∧ w.heap.size ≤ g2 ∧ Below w.heap.size w w'

set_option maxRecDepth 100000 in
set_option maxHeartbeats 1600000 in
theorem sink_any (at' : Option Addr) (lt ct : Nat) (ts : List Int) (fail : Int) (w : World) (hlt : ts.length = lt) (hm8 : lt * 8 ≤ 140737488355328) (nt : at' = none → lt = 0 ∧ ct = 0) (rt : Row w .i64 at' ts) :
    Calls Try.prog 11 #[.slice at' lt ct, .int .i64 fail] w fun e w' => SinkPost ts fail (.slice at' lt ct) w e w' := by
  obtain ⟨j0, hj0, hy0, hy1, hy2⟩ := info_parts' infoInt'
  have HNT := hide nt
  have HRT := hide (rt.alloc (.cells #[] 3))
  clear nt rt
  go_enter Try.func11, Try.ntmps11
  go_wp2_with (first
    | (at_builtin; refine append_own_any rfl (.tmp 9) (.tmp 10) 24 rfl w.heap.size 3 j0 (.int .i64 0) 1 8 Try.underlying24 hj0 hy0 hy1 hy2 rfl (by decide) (.slice (some ⟨w.heap.size, 0, none⟩) 0 0) 0 [] rfl (World.ownsRow_made w #[] 0 (Nat.le_refl _) (by unfold maxLen; omega) rfl) at' lt ct (ts.map (Value.int .i64)) rfl (by simp [hlt]) HNT.out HRT.out.cells (ints_oneCell _ _) (by unfold maxLen; omega) (by omega) (by simp) ?_; intro v6 w6 ho6 hg6; simp only [Nat.zero_add, List.nil_append] at ho6; obtain ⟨a6, k6, hv6, hn6, hq6⟩ := slice_of_owns2 ho6; replace ho6 := hide ho6; replace hg6 := hide hg6; replace hn6 := hide hn6; replace hq6 := hide hq6; subst hv6)
    | fail)
  have hb6 : Below w.heap.size w w6 := ((Below.refl _ _).alloc (Nat.le_refl _) _).grown hg6.out (by simp) (fun k hk => by have e' : w.heap.size = k := Option.some.inj hk; omega)
  have hq6' := ho6.out.lt
  refine (newSink_any a6 lt k6 ts fail w6 hlt hm8 hn6.out (row_of_owns2 ho6.out)).mono ?_
  rintro e w7 ⟨g, M, rfl, hK7, hb7⟩
  have HK7 := hide hK7
  have HI7 := hide (owns_below ho6.out hb7)
  have HB7 := hide (hb6.trans (hb7.mono hb6.size))
  have HQI := hide hq6'
  have hz7 := hb7.size
  have hz6 := hb6.size
  clear hK7 hb7 hb6 hq6' ho6 hg6 hn6 hq6
  go_wp2_with fail
  go_loopw [8] (fun q wr => ∃ (j : Nat) (gs' : List Int), j ≤ lt ∧ q = .int .i64 (j : Int) ∧ Hid (Upd (fun k => (Value.slice a6 lt k6).ownBlock = some k) w7 wr) ∧ Hid (gs'.length = lt) ∧ Hid (wr.ownsRow w.heap.size 3 1 (.slice a6 lt k6) lt (gs'.map (Value.int .i64)))) (fun q _ => lt - (intOf q).toNat)
  case atStart => exact ⟨0, ts, by omega, rfl, Upd.refl _ _, hlt, HI7⟩
  case round =>
    obtain ⟨j, gs', hj, rfl, HU, HL, HOW⟩ := hrel
    by_cases hjl : j < lt
    · obtain ⟨g6, c6, hv6, _⟩ := slice_of_owns HOW.out (by omega)
      simp only [Value.slice.injEq] at hv6
      obtain ⟨rfl, _, _⟩ := hv6
      have hcell := row_of_owns2 HOW.out j (by have := HL.out; omega)
      obtain ⟨b', o', hb', hcell⟩ := hcell
      cases hb'
      rw [Nat.zero_add] at hcell
      have hfr := own_frozen HOW.out j
      have hi1 : (j : Int) < (lt : Int) := by omega
      have hi0' : (0 : Int) ≤ (j : Int) := by omega
      have HOW' := hide (own_setI HOW.out j 1)
      have HU' : Hid (Upd (fun k => (Value.slice (some ⟨g6, 0, none⟩) lt k6).ownBlock = some k) w7 (wr.setCell ⟨g6, j, none⟩ (.int .i64 1))) := hide (HU.out.setCell ⟨g6, j, none⟩ _ (fun _ => rfl))
      generalize gs'.getD j 0 = c at *
      go_wp2_with fail
      go_roundw
      case rel => exact ⟨j + 1, gs'.set j 1, by omega, by go_num, HU', by show _ = _; rw [List.length_set]; exact HL.out, HOW'⟩
      case measure => simp [intOf]; omega
    · have hge : ¬ (j : Int) < (lt : Int) := by omega
      have hS10 := HK7.out.upd HU.out (fun i hi e => by have h1 := HK7.out.lt i hi; have h2 := (HQI.out _ e).2; omega)
      have HS10 := hide hS10
      have HB10 : Hid (Below w.heap.size w wr) := hide (HB7.out.trans (HU.out.below (by omega) (fun k hk e => by have h1 := (HQI.out _ e).1; omega)))
      have hz10 := HU.out.size
      clear hS10
      go_wp2_with fail
      go_ret2
      refine ⟨g, M, wr.heap.size, rfl, (HS10.out.upd ((Upd.refl Noth _).alloc _) (fun _ _ e => e)).mono (by omega), fun i hi e => ?_, heap_alloc_new wr _, by omega, HB10.out.alloc (by omega) _⟩
      have := (HS10.out.lt i hi).2
      omega

end Go.Proofs.Ytcffekhlnidjnaa
