/- Items: what came in; what vint.Bytes gives. -/
import Derived.Test.YteindoemdonagaaG34
import Derived.Test.YteindoemdonagaaG33
import Derived.Test.YteindoemdonagaaG32
namespace Go.Proofs.Yteindoemdonagaa
open Go.RowKit

set_option maxHeartbeats 400000 in
theorem vbytesQ (n : Nat) (w : World) (hn : n ≤ 18446744073709551615) :
    Calls Try.prog 7 #[.int .u64 (n : Int)] w fun e w' => e = .returned (.slice (some ⟨w.heap.size + 1, 0, none⟩) (enc n).length (enc n).length) ∧ Row w' .u8 (some ⟨w.heap.size + 1, 0, none⟩) (enc n) ∧ Below w.heap.size w w' := by
  have hrow : Row (w.alloc (.cells #[.int .u64 (n : Int)] 31)) .u64 (some ⟨w.heap.size, 0, none⟩) [(n : Int)] := by
    intro i hi
    refine ⟨w.heap.size, 0, rfl, ?_⟩
    rw [Nat.zero_add, cell_of_row _ _ _ _ _ _ (heap_alloc_new w _)]
    match i, hi with
    | 0, _ => rfl
  have h64 : Fits64 [(n : Int)] := by
    intro i
    match i with
    | 0 => simp; omega
    | i + 1 => simp
  have HJ := hide (join_any (some ⟨w.heap.size, 0, none⟩) 1 1 [(n : Int)] (w.alloc (.cells #[.int .u64 (n : Int)] 31)) rfl (by omega) hrow h64)
  rw [encs_one, Int.toNat_natCast, World.size_alloc] at HJ
  clear hrow h64
  go_enter Try.func7, Try.ntmps7
  go_wp2_with fail
  refine HJ.out.mono ?_
  rintro e w1 ⟨rfl, ho, hb⟩
  replace ho := hide (row_of_owns2 ho)
  replace hb := hide hb
  go_wp2_with fail
  go_ret
  exact ⟨rfl, ho.out, ((Below.refl _ _).alloc (Nat.le_refl _) _).trans (hb.out.mono (by omega))⟩

/-- Items, as they came in: a row of bytes, or a number. -/
structure IsItems (w : World) (a : Option Addr) (len : Nat) (Rf : Nat → Bool) (Nf : Nat → Nat) (Af : Nat → Option Addr) (Lf Cf : Nat → Nat) (Zf : Nat → List Int) : Prop where
  cells : ∀ i, i < len → ∃ b o, a = some ⟨b, o, none⟩ ∧ w.rangeAt b (o + i * 3) [.bool (Rf i), .int .u64 (Nf i : Int), .slice (Af i) (Lf i) (Cf i)]
  nle : ∀ i, i < len → Nf i ≤ 18446744073709551615
  none : ∀ i, i < len → Af i = none → Lf i = 0 ∧ Cf i = 0
  zlen : ∀ i, i < len → (Zf i).length = Lf i
  row : ∀ i, i < len → Row w .u8 (Af i) (Zf i)
  z8 : ∀ i, i < len → B8 (Zf i)
/-- An item's bytes; those of the first k. -/
def itB (Rf : Nat → Bool) (Nf : Nat → Nat) (Zf : Nat → List Int) (i : Nat) : List Int := if Rf i = true then Zf i else enc (Nf i)
def catB (Rf : Nat → Bool) (Nf : Nat → Nat) (Zf : Nat → List Int) : Nat → List Int
  | 0 => []
  | k + 1 => catB Rf Nf Zf k ++ itB Rf Nf Zf k
theorem catB_len (Rf : Nat → Bool) (Nf : Nat → Nat) (Zf : Nat → List Int) (Lf : Nat → Nat) : ∀ (k n : Nat), k ≤ n → (∀ i, i < n → (Zf i).length = Lf i ∧ Nf i ≤ 18446744073709551615) → (catB Rf Nf Zf k).length ≤ tot Lf k + 10 * k
  | 0, _, _, _ => by simp [catB, tot]
  | k + 1, n, hk, h => by
    have h1 := catB_len Rf Nf Zf Lf k n (by omega) h
    have h2 := h k (by omega)
    have h3 := enc_len_le (Nf k) h2.2
    have h4 : (itB Rf Nf Zf k).length ≤ Lf k + 10 := by
      unfold itB
      split
      · rw [h2.1]; omega
      · omega
    simp only [catB, tot, List.length_append]
    omega
theorem catB_pre (Rf : Nat → Bool) (Nf : Nat → Nat) (Zf : Nat → List Int) {k n : Nat} (h : k ≤ n) : ∃ r, catB Rf Nf Zf n = catB Rf Nf Zf k ++ r := by
  induction n with
  | zero => obtain rfl : k = 0 := by omega
            exact ⟨[], by simp⟩
  | succ n ih =>
    by_cases hk : k = n + 1
    · subst hk; exact ⟨[], by simp⟩
    · obtain ⟨r, hr⟩ := ih (by omega)
      exact ⟨r ++ itB Rf Nf Zf n, by rw [catB, hr, List.append_assoc]⟩
/-- Where an item's bytes lie among all. -/
theorem catB_at (Rf : Nat → Bool) (Nf : Nat → Nat) (Zf : Nat → List Int) {k n : Nat} (h : k < n) : ((catB Rf Nf Zf n).drop (catB Rf Nf Zf k).length).take (itB Rf Nf Zf k).length = itB Rf Nf Zf k ∧ (catB Rf Nf Zf k).length + (itB Rf Nf Zf k).length ≤ (catB Rf Nf Zf n).length := by
  obtain ⟨r, hr⟩ := catB_pre Rf Nf Zf (show k + 1 ≤ n by omega)
  rw [hr, catB]
  refine ⟨?_, by simp only [List.length_append]; omega⟩
  rw [List.append_assoc, List.drop_left' rfl, List.take_left' rfl]

end Go.Proofs.Yteindoemdonagaa

namespace Go.Proofs.Yteindoemdonagaa
open Go.RowKit

theorem trip_cells {W : World} {g : Nat} {a b c d e f : Value} (h : W.heap[g]? = some (.cells #[a, b, c, d, e, f] 25 (0, 0))) : W.cell? ⟨g, 0, none⟩ = some a ∧ W.cell? ⟨g, 1, none⟩ = some b ∧ W.cell? ⟨g, 2, none⟩ = some c ∧ W.cell? ⟨g, 3, none⟩ = some d ∧ W.cell? ⟨g, 4, none⟩ = some e ∧ W.cell? ⟨g, 5, none⟩ = some f := by
  refine ⟨?_, ?_, ?_, ?_, ?_, ?_⟩ <;> (rw [cell_of_row _ _ _ _ _ _ h]; rfl)

theorem catB_b8 (Rf : Nat → Bool) (Nf : Nat → Nat) (Zf : Nat → List Int) : ∀ (k n : Nat), k ≤ n → (∀ i, i < n → B8 (Zf i) ∧ Nf i ≤ 18446744073709551615) → B8 (catB Rf Nf Zf k)
  | 0, _, _, _ => fun c hc => by simp [catB] at hc
  | k + 1, n, hk, h => fun c hc => by
    rw [catB, List.mem_append] at hc
    rcases hc with hc | hc
    · exact catB_b8 Rf Nf Zf k n (by omega) h c hc
    · unfold itB at hc
      split at hc
      · exact (h k hk).1 c hc
      · exact enc_mem8 _ (h k hk).2 c hc

set_option maxRecDepth 100000 in
set_option maxHeartbeats 6400000 in
theorem cursorTrips_any (al at' ag : Option Addr) (ll cl lt ct lg cg : Nat) (ts gs : List Int) (fail brk : Int) (eager : Bool) (Rf : Nat → Bool) (Nf : Nat → Nat) (Af : Nat → Option Addr) (Lf Cf : Nat → Nat) (Zf : Nat → List Int) (w : World)
    (hlt : ts.length = lt) (hlg : gs.length = lg) (hmt : lt ≤ 1048576) (hmg : lg ≤ 1048576) (nt : at' = none → lt = 0 ∧ ct = 0) (ng : ag = none → lg = 0 ∧ cg = 0) (rt : Row w .i64 at' ts) (rg : Row w .i64 ag gs) (hI : IsItems w al ll Rf Nf Af Lf Cf Zf) (hll : ll ≤ 1048576) (htot : tot Lf ll ≤ 1048576) :
    Calls Try.prog 3 #[.agg #[.slice al ll cl, .slice at' lt ct, .int .i64 fail, .slice ag lg cg, .int .i64 brk, .bool eager]] w fun e w' => e = .returned (.bool true) ∧ Below w.heap.size w w' := by
  have HRT := hide rt
  have HRG := hide rg
  have HNT := hide nt
  have HNG := hide ng
  have HI := hide hI
  have hf1 := heap_alloc_new w (.cells #[.slice al ll cl, .slice at' lt ct, .int .i64 fail, .slice ag lg cg, .int .i64 brk, .bool eager] 25)
  have hbA : Below w.heap.size w (w.alloc (.cells #[.slice al ll cl, .slice at' lt ct, .int .i64 fail, .slice ag lg cg, .int .i64 brk, .bool eager] 25)) := (Below.refl _ _).alloc (Nat.le_refl _) _
  have hzA : (w.alloc (.cells #[.slice al ll cl, .slice at' lt ct, .int .i64 fail, .slice ag lg cg, .int .i64 brk, .bool eager] 25)).heap.size = w.heap.size + 1 := by simp
  clear rt rg nt ng hI
  go_enter Try.func3, Try.ntmps3
  go_wp2_with fail
  generalize w.alloc (.cells #[.slice al ll cl, .slice at' lt ct, .int .i64 fail, .slice ag lg cg, .int .i64 brk, .bool eager] 25) = wA at *
  obtain ⟨gA, hgA⟩ : ∃ gA, gA = w.heap.size := ⟨_, rfl⟩
  rw [← hgA] at hf1 hbA hzA ⊢
  replace hgA := hide hgA
  refine (lives_any wA).mono ?_
  rintro e w1 ⟨rfl, hb1⟩
  have hF := (hb1.block gA (by omega)).trans hf1
  have hb01 : Below gA w w1 := hbA.trans (hb1.mono (by omega))
  have hz1 : gA + 1 ≤ w1.heap.size := by have := hb1.size; omega
  clear hf1 hbA hb1 hzA
  have c1 := (trip_cells hF).2.1
  have c2 := (trip_cells hF).2.2.1
  have HF := hide hF
  have HB01 := hide hb01
  have HNS := hide (newSink_any at' lt ct ts fail w1 hlt (by omega) HNT.out (HRT.out.below2 (hgA.out ▸ hb01)))
  clear hF hb01
  go_wp2_with fail
  refine HNS.out.mono ?_
  rintro e w2 ⟨g, M, rfl, hS, hb2⟩
  obtain ⟨B, hB⟩ : ∃ B, B = w1.heap.size := ⟨_, rfl⟩
  rw [← hB] at hS hb2 hz1
  have hF2 := (hb2.block gA (by omega)).trans HF.out
  have hb02 : Below gA w w2 := HB01.out.trans (hb2.mono (by omega))
  have hz2 : B ≤ w2.heap.size := by have := hb2.size; omega
  have HS := hide hS
  have HF2 := hide hF2
  have HB02 := hide hb02
  clear hS hb2 hF2 hb02 HB01 HF HNS hB c1 c2
  have HNO := hide (newOut_any 27 (.pointer (some ⟨g, 0, none⟩)) w2)
  go_wp2_with fail
  refine HNO.out.mono ?_
  rintro e w3 ⟨rfl, hw3⟩
  have hU : Upd Noth w2 w3 := by rw [hw3]; exact (Upd.refl _ _).alloc _
  have hblk : w3.heap[w2.heap.size]? = some (.cells #[.int .i64 0, .int .i64 0, .int .i64 0, .iface 27 (.pointer (some ⟨g, 0, none⟩)), .slice none 0 0] 45 (0, 0)) := by rw [hw3]; exact World.alloc_heap_new _ _
  obtain ⟨gc, hgc⟩ : ∃ gc, gc = w2.heap.size := ⟨_, rfl⟩
  rw [← hgc] at hblk ⊢
  have hMl := HS.out.lt
  have H0 : Hid (IsOut (SnkWd ts fail g B) B gc (.iface 27 (.pointer (some ⟨g, 0, none⟩))) w3 ⟨(0, []), [], 0, 0, 0⟩ (fun j => M j ∨ j = gc)) := hide ⟨.slice none 0 0, 0, M, hblk, HS.out.upd hU (fun _ _ e => e), .inl ⟨rfl, rfl⟩, fun e => by have := (hMl _ e).2; omega, by omega, (fun j hj => by cases hj), fun j => ⟨fun h => h.elim .inl (fun h => .inr (.inl h)), fun h => h.elim .inl (fun h => h.elim .inr (fun h => by cases h))⟩⟩
  have HMB : Hid (∀ j, (M j ∨ j = gc) → B ≤ j) := hide fun j hj => hj.elim (fun h => (hMl j h).1) (fun h => by omega)
  have hs3 : B ≤ w3.heap.size := by have := hU.size; omega
  have HF3 := hide (hU.heap HF2.out (fun e => e))
  have HB03 : Hid (Below gA w w3) := hide (HB02.out.trans (hU.toBelow.mono (by omega)))
  have HX := hide (snk_writer ts fail g B)
  have HCL := hide (catB_len Rf Nf Zf Lf)
  have a3 := (trip_cells HF3.out).1
  clear hw3 hU hblk hMl HF2 HB02 HS HNO hgc
  go_wp2_with fail
  go_loopw [6, 7, 8] (fun q6 q7 _ wr => ∃ (i : Nat) (F : Nat → Prop), i ≤ ll ∧ q7 = .int .i64 i ∧ q6 = .int .i64 ((catB Rf Nf Zf i).length : Nat) ∧ Hid (IsOut (SnkWd ts fail g B) B gc (.iface 27 (.pointer (some ⟨g, 0, none⟩))) wr ⟨(0, []), catB Rf Nf Zf i, 0, 0, 0⟩ F) ∧ Hid (Upd (fun j => M j ∨ j = gc) w3 wr ∧ ∀ j, F j → (M j ∨ j = gc) ∨ w3.heap.size ≤ j)) (fun _ q7 _ _ => ll - (intOf q7).toNat)
  case atStart => exact ⟨0, _, by omega, rfl, rfl, H0, hide ⟨Upd.refl _ _, fun _ h => .inl h⟩⟩
  case round =>
    clear H0 a3
    obtain ⟨i, F, hi, rfl, rfl, HO, HU⟩ := hrel
    have hFW := HU.out.1.heap HF3.out (fun e => by have := HMB.out _ e; omega)
    have HBW : Hid (Below gA w wr) := hide (HB03.out.trans (HU.out.1.below (n := gA) (by omega) (fun k hk e => by have := HMB.out k e; omega)))
    have hBW : B ≤ wr.heap.size := by have := HU.out.1.size; omega
    have a0 := (trip_cells hFW).1
    have HFW := hide hFW
    clear hFW
    by_cases hlti : i < ll
    · obtain ⟨b, o, ha, hrg⟩ := HI.out.cells i hlti
      subst ha
      have hbw : b < w.heap.size := World.block_lt_of_cell? w ⟨b, o + i * 3 + 0, none⟩ (hrg 0 _ rfl)
      have hrW := range_below HBW.out (hgA.out.symm ▸ hbw) hrg
      have r0 := hrW 0 _ rfl
      have r1 := hrW 1 _ rfl
      have r2 := hrW 2 _ rfl
      have hidx : (i : Int) < (ll : Int) := by omega
      have hcl := HCL.out i ll hi (fun k hk => ⟨HI.out.zlen k hk, HI.out.nle k hk⟩)
      have htl := tot_le Lf hi
      have hcl1 := HCL.out (i + 1) ll hlti (fun k hk => ⟨HI.out.zlen k hk, HI.out.nle k hk⟩)
      have htl1 := tot_le Lf (show i + 1 ≤ ll from hlti)
      obtain ⟨n1, hn1⟩ : ∃ n1, n1 = (catB Rf Nf Zf i).length := ⟨_, rfl⟩
      rw [← hn1] at hcl ⊢
      cases hRf : Rf i with
      | true =>
        rw [hRf] at r0
        replace r0 : wr.cell? ⟨b, o + i * 3, none⟩ = some (.bool true) := r0
        have hz := HI.out.zlen i hlti
        have hit : catB Rf Nf Zf (i + 1) = catB Rf Nf Zf i ++ Zf i := by simp [catB, itB, hRf]
        have hnl : ((catB Rf Nf Zf (i + 1)).length : Int) = (n1 : Int) + (Lf i : Int) := by rw [hit, List.length_append, hz, ← hn1]; omega
        have hlay : layP (⟨(0, []), catB Rf Nf Zf i, 0, 0, 0⟩ : OutS (Nat × List Int)) (Zf i) = ⟨(0, []), catB Rf Nf Zf (i + 1), 0, 0, 0⟩ := by rw [hit]; simp [layP]
        have hlb : n1 + Lf i ≤ 20000000 := by have := congrArg List.length hit; rw [List.length_append, hz, ← hn1] at this; omega
        have HLAY := hide (lay_any HX.out wr gc _ F (Af i) (Lf i) (Cf i) (Zf i) hz (HI.out.none i hlti) ((HI.out.row i hlti).below2 (hgA.out ▸ HBW.out)) HO.out hBW (by simp only; rw [← hn1]; omega))
        rw [hlay] at HLAY
        have HNL := hide hnl
        replace hn1 := hide hn1
        clear hrg hbw hrW hz hit hnl hlay hcl hcl1 htl htl1 HO
        go_wp2_with (first
          | (go_at_call 8; refine HLAY.out.mono ?_; rintro e w6 ⟨F', rfl, ho6, hu6, hs6⟩; have HO6 := hide ho6; have HU6 : Hid (Upd (fun j => M j ∨ j = gc) w3 w6 ∧ ∀ j, F' j → (M j ∨ j = gc) ∨ w3.heap.size ≤ j) := hide ⟨HU.out.1.then hu6 (fun j hj e => (HU.out.2 j e).elim id (fun h => by omega)), fun j hj => (hs6 j hj).elim (fun h => HU.out.2 j h) (fun h => .inr (by have := HU.out.1.size; omega))⟩; clear ho6 hu6 hs6)
          | fail)
        go_roundw
        case rel => exact ⟨i + 1, F', by omega, by go_num, by rw [HNL.out], HO6, HU6⟩
        case measure => simp [intOf]; omega
      | false =>
        rw [hRf] at r0
        replace r0 : wr.cell? ⟨b, o + i * 3, none⟩ = some (.bool false) := r0
        have hnle := HI.out.nle i hlti
        have hit : catB Rf Nf Zf (i + 1) = catB Rf Nf Zf i ++ enc (Nf i) := by simp [catB, itB, hRf]
        obtain ⟨le, hle⟩ : ∃ le, le = (enc (Nf i)).length := ⟨_, rfl⟩
        have hnl : ((catB Rf Nf Zf (i + 1)).length : Int) = (n1 : Int) + (le : Int) := by rw [hit, List.length_append, ← hle, ← hn1]; omega
        have hlay : layP (⟨(0, []), catB Rf Nf Zf i, 0, 0, 0⟩ : OutS (Nat × List Int)) (enc (Nf i)) = ⟨(0, []), catB Rf Nf Zf (i + 1), 0, 0, 0⟩ := by rw [hit]; simp [layP]
        have hlb : n1 + le ≤ 20000000 := by have := congrArg List.length hit; rw [List.length_append, ← hle, ← hn1] at this; omega
        have HVB := hide (vbytesQ (Nf i) wr hnle)
        rw [← hle] at HVB
        have HOL := hide (HO.out.lt HX.out)
        have HLY : Hid (∀ w4, Row w4 .u8 (some ⟨wr.heap.size + 1, 0, none⟩) (enc (Nf i)) → Below wr.heap.size wr w4 → Calls Try.prog 8 #[.pointer (some ⟨gc, 0, none⟩), .slice (some ⟨wr.heap.size + 1, 0, none⟩) le le] w4 fun e W' => OutPost (SnkWd ts fail g B) B gc (.iface 27 (.pointer (some ⟨g, 0, none⟩))) (.int .i64 0) ⟨(0, []), catB Rf Nf Zf (i + 1), 0, 0, 0⟩ F w4 e W') := hide fun w4 hr4 hb4 => by
          have := lay_any HX.out w4 gc _ F (some ⟨wr.heap.size + 1, 0, none⟩) le le (enc (Nf i)) hle.symm (fun e => by cases e) hr4 (HO.out.upd HX.out (Upd.of_below hb4 Noth) (fun _ e => e.elim)) (by have := hb4.size; omega) (by simp only; rw [← hn1]; omega)
          rw [hlay] at this
          exact this
        have HNL := hide hnl
        replace hn1 := hide hn1
        replace hle := hide hle
        clear hrg hbw hrW hit hnl hlay hcl hcl1 htl htl1 HO hnle
        go_wp2_with (first
          | (go_at_call 7; refine HVB.out.mono ?_; rintro e w4 ⟨rfl, hr4, hb4⟩; have HLAY := hide (HLY.out w4 hr4 hb4); have HB4 := hide hb4; clear hr4 hb4)
          | (go_at_call 8; refine HLAY.out.mono ?_; rintro e w6 ⟨F', rfl, ho6, hu6, hs6⟩; have HO6 := hide ho6; have HU6 : Hid (Upd (fun j => M j ∨ j = gc) w3 w6 ∧ ∀ j, F' j → (M j ∨ j = gc) ∨ w3.heap.size ≤ j) := hide ⟨(HU.out.1.trans (Upd.of_below HB4.out _)).then hu6 (fun j hj e => (HU.out.2 j e).elim id (fun h => by omega)), fun j hj => (hs6 j hj).elim (fun h => HU.out.2 j h) (fun h => .inr (by have := HU.out.1.size; have := HB4.out.size; omega))⟩; clear ho6 hu6 hs6)
          | fail)
        go_roundw
        case rel => exact ⟨i + 1, F', by omega, by go_num, by rw [HNL.out], HO6, HU6⟩
        case measure => simp [intOf]; omega
    · obtain rfl : i = ll := by omega
      have hidx : ¬ ((i : Nat) : Int) < (i : Int) := by omega
      have hcl := HCL.out i i (Nat.le_refl _) (fun k hk => ⟨HI.out.zlen k hk, HI.out.nle k hk⟩)
      have HA8 := hide (catB_b8 Rf Nf Zf i i (Nat.le_refl _) (fun k hk => ⟨HI.out.z8 k hk, HI.out.nle k hk⟩))
      have HAT : Hid (∀ k, k < i → ((catB Rf Nf Zf i).drop (catB Rf Nf Zf k).length).take (itB Rf Nf Zf k).length = itB Rf Nf Zf k ∧ (catB Rf Nf Zf k).length + (itB Rf Nf Zf k).length ≤ (catB Rf Nf Zf i).length) := hide fun k hk => catB_at Rf Nf Zf hk
      have HEND : Hid (∀ p, p = (catB Rf Nf Zf i).length → p = (catB Rf Nf Zf i).length) := hide fun _ h => h
      obtain ⟨all, hall⟩ : ∃ all, all = catB Rf Nf Zf i := ⟨_, rfl⟩
      rw [← hall] at HO hcl HA8 HAT HEND ⊢
      obtain ⟨nA, hnA⟩ : ∃ nA, nA = all.length := ⟨_, rfl⟩
      rw [← hnA] at hcl ⊢
      have hnAb : nA ≤ 20000000 := by omega
      have HFL := hide (flush_any (snk_leads g) HX.out wr gc _ F (17 * nA + 16) nA HO.out ⟨fun _ => by simp, fun _ => by simp only; omega, fun _ => by simp only [List.length_nil]; omega, by simp only; omega⟩ (by omega) (by omega) hBW)
      have HT := hide (trip_flush ts fail all)
      generalize flushA (snkWf ts fail) ⟨(0, []), all, 0, 0, 0⟩ = y at HT HFL
      replace hall := hide hall
      replace hnA := hide hnA
      clear hcl HO
      go_wp2_with fail
      refine HFL.out.mono ?_
      rintro e w6 ⟨F6, rfl, ho6, hu6, hs6⟩
      have HU6 : Hid (Upd (fun j => M j ∨ j = gc) w3 w6) := hide (HU.out.1.then hu6 (fun j hj e => (HU.out.2 j e).elim id (fun h => by omega)))
      have hF6 := HU6.out.heap HF3.out (fun e => by have := HMB.out _ e; omega)
      have HB06 : Hid (Below gA w w6) := hide (HB03.out.trans (HU6.out.below (n := gA) (by omega) (fun k hk e => by have := HMB.out k e; omega)))
      have hz6 : B ≤ w6.heap.size := by have := HU6.out.size; omega
      obtain ⟨_, _, p0, _, a4, k4, p4⟩ := ho6.at0
      obtain ⟨M6, hsn⟩ := ho6.snk
      have hcat := congrArg List.length HT.out.1.cat
      rw [List.length_append, ← HT.out.1.at0, ← hnA.out] at hcat
      have hat0 := HT.out.1.at0
      have HBY := hide (sbytes_any hsn (by omega))
      obtain ⟨yl, hyl⟩ : ∃ yl, yl = y.at' := ⟨_, rfl⟩
      obtain ⟨nb, hnb⟩ : ∃ nb, nb = y.b.length := ⟨_, rfl⟩
      obtain ⟨er, her⟩ : ∃ er, er = y.err := ⟨_, rfl⟩
      rw [← hyl] at p0 hcat hat0
      rw [← hnb] at p4 hcat
      rw [← her]
      have HYL := hide hat0
      have HSUM : Hid ((yl : Int) + (nb : Int) = (nA : Int)) := hide (by omega)
      have hylb : yl ≤ 20000000 := by omega
      have hnbb : nb ≤ 20000000 := by omega
      have HNB := hide hnb
      have HER := hide her
      have HF6 := hide hF6
      clear hF6 hcat hat0 hyl hnb her hsn ho6 hu6 hs6 HFL HU a0 HFW HBW
      go_wp2_with (first
        | (go_at_call 10; refine keep (sat_any gc _ _ p0) ?_)
        | (go_at_call 11; refine keep (oleft_any gc _ _ _ _ p4) ?_)
        | fail)
      refine HBY.out.mono ?_
      rintro e w7 ⟨v7, rfl, ho7, hb7⟩
      obtain ⟨a7, c7, rfl, hn7, _, _⟩ := ho7.sliceN HYL.out.symm
      have hF7 := (hb7.block gA (by omega)).trans HF6.out
      have HB07 : Hid (Below gA w w7) := hide (HB06.out.trans (hb7.mono (by omega)))
      have HO7 := hide ho7
      have HN7 := hide hn7
      have hz7 : gA < w7.heap.size := lt_of_block hF7
      have HF7 := hide hF7
      have g1 := (trip_cells hF7).2.1
      have g2' := (trip_cells hF7).2.2.1
      have e1 : ((yl : Int) != (yl : Int)) = false := by simp
      have e2' : IntKind.i64.wrap ((yl : Int) + (nb : Int)) = (nA : Int) := by rw [HSUM.out, IntKind.wrap_i64]; omega
      have e2 : ((nA : Int) != (nA : Int)) = false := by simp
      clear ho7 hb7 hF7 hn7 HBY HF6 HB06 p0 p4
      by_cases her0 : er = 0
      · subst her0
        have hy := HT.out.2 HER.out.symm
        have hnb0 : nb = 0 := by rw [HNB.out, hy.1]; rfl
        subst hnb0
        obtain rfl : yl = nA := by have := HSUM.out; omega
        rw [hy.2] at HO7
        clear HNB HSUM hy g1 g2' HT HER
        have g3 := (trip_cells HF7.out).2.2.2.1
        have g4 := (trip_cells HF7.out).2.2.2.2.1
        have g5 := (trip_cells HF7.out).2.2.2.2.2
        have e3 : ((0 : Int) == 0) = true := by simp
        have HNSR := hide (newSource_any a7 ag yl c7 lg cg all gs brk eager w7 hnA.out.symm hlg (by omega) (by omega) HN7.out HNG.out HO7.out.row (HRG.out.below2 (hgA.out ▸ HB07.out)))
        clear HO7 HN7
        go_wp2_with fail
        refine HNSR.out.mono ?_
        rintro e w8 ⟨gs8, M8, rfl, hS8, hM8, hb8⟩
        obtain ⟨B8', hB8⟩ : ∃ B8', B8' = w7.heap.size := ⟨_, rfl⟩
        rw [← hB8] at hM8 hb8
        have hB8A : gA < B8' := by omega
        have hF8 := (hb8.block gA (by omega)).trans HF7.out
        have HB08 : Hid (Below gA w w8) := hide (HB07.out.trans (hb8.mono (by omega)))
        have hz8 : B8' ≤ w8.heap.size := by have := hb8.size; omega
        have HM8 := hide hM8
        have HNI := hide (newIn_any 49 (.pointer (some ⟨gs8, 0, none⟩)) (yl : Int) yl w8 (by omega))
        have HI0 := hide (newIn_src HA8.out hS8 hM8 hz8 yl (.iface 49 (.pointer (some ⟨gs8, 0, none⟩))))
        have hU : Upd Noth w8 (w8.alloc (.cells #[.int .i64 0, .int .i64 0, .int .i64 0, .iface 49 (.pointer (some ⟨gs8, 0, none⟩)), .int .i64 (yl : Int), .slice none 0 0] 63)) := (Upd.refl _ _).alloc _
        have HF9 := hide (hU.heap hF8 (fun e => e))
        have HB09 := hide (HB08.out.trans (hU.toBelow.mono (by omega)))
        have hz9 : w8.heap.size < (w8.alloc (.cells #[.int .i64 0, .int .i64 0, .int .i64 0, .iface 49 (.pointer (some ⟨gs8, 0, none⟩)), .int .i64 (yl : Int), .slice none 0 0] 63)).heap.size := by simp
        clear hS8 hM8 hb8 HF7 HNSR hF8 hU HB08 HB07 hB8 g3 g4 g5
        go_wp2_with fail
        refine HNI.out.mono ?_
        rintro e w9 ⟨rfl, rfl⟩
        generalize w8.alloc (.cells #[.int .i64 0, .int .i64 0, .int .i64 0, .iface 49 (.pointer (some ⟨gs8, 0, none⟩)), .int .i64 (yl : Int), .slice none 0 0] 63) = w9 at *
        obtain ⟨gi, hgi⟩ : ∃ gi, gi = w8.heap.size := ⟨_, rfl⟩
        rw [← hgi] at HI0 hz8 hz9 ⊢
        have HY := hide (src_fam all gs brk eager gs8 B8' M8 HA8.out)
        have HMB8 : Hid (∀ k, k < B8' → ¬ (M8 k ∨ k = gi)) := hide (fun k hk e => e.elim (fun e => by have := HM8.out k e; omega) (fun e => by omega))
        have g3 := (trip_cells HF9.out).2.2.2.1
        have g4 := (trip_cells HF9.out).2.2.2.2.1
        have HOK0 := hide (new_ok all yl (17 * all.length + 16 + 300 * 0) (by omega) (by have := hnA.out; omega))
        have HRT0 : Hid (RT all gs (catB Rf Nf Zf 0).length ⟨(0, 0), 0, 0, 0, yl, []⟩ ∧ (⟨(0, 0), 0, 0, 0, yl, []⟩ : InS (Nat × Nat)).at' = (catB Rf Nf Zf 0).length) := hide ⟨⟨rfl, rfl, rfl, by simp only [catB, List.length_nil]; rw [← hnA.out]; rfl, Nat.zero_le _, ⟨by simp, Nat.zero_le _, fun h => by simp at h⟩⟩, rfl⟩
        clear HNI hgi HM8
        go_upto_region 28 with fail
        go_cut [14] (fun s14 wx => ∃ mb : Bool, s14 = .bool mb ∧ Hid (1 ≤ brk ∨ 16 ≤ lg → mb = true) ∧ Hid (wx = w9))
        case first =>
          by_cases hb1 : 1 ≤ brk
          · go_wp2_with fail
            go_meet
            exact ⟨true, rfl, hide fun _ => rfl, hide rfl⟩
          · by_cases hl16 : (16 : Int) ≤ (lg : Int)
            · go_wp2_with fail
              go_meet
              exact ⟨true, rfl, hide fun _ => rfl, hide rfl⟩
            · go_wp2_with fail
              go_meet
              exact ⟨false, rfl, hide fun h => absurd h (by omega), hide rfl⟩
        case rest =>
        obtain ⟨mb, rfl, HMAY, hwc⟩ := hcut
        obtain rfl := hwc.out
        clear g3 g4 hwc
        have a0 := (trip_cells HF9.out).1
        go_wp2_with fail
        go_loopw [15, 16, 17, 18, 19, 20, 21] (fun q15 _ _ _ _ _ _ wr => ∃ (k : Nat) (x : InS (Nat × Nat)) (F : Nat → Prop), k ≤ i ∧ q15 = .int .i64 (k : Int) ∧ Hid (IsIn (SrcRd all gs brk eager gs8 B8' M8) B8' gi (.iface 49 (.pointer (some ⟨gs8, 0, none⟩))) wr x F) ∧ Hid (RT all gs (catB Rf Nf Zf k).length x ∧ x.at' = (catB Rf Nf Zf k).length) ∧ Hid (InOk Prod.fst (fun s : Nat × Nat => all.length - s.2) (fun s : Nat × Nat => all.length - s.2) (17 * all.length + 16 + 300 * k) yl x) ∧ Hid (Upd (fun j => M8 j ∨ j = gi) wc wr ∧ ∀ j, F j → (M8 j ∨ j = gi) ∨ wc.heap.size ≤ j)) (fun q15 _ _ _ _ _ _ _ => i - (intOf q15).toNat)
        case atStart => exact ⟨0, _, _, by omega, rfl, HI0, HRT0, HOK0, hide ⟨Upd.refl _ _, fun _ h => .inl h⟩⟩
        case round =>
          clear HI0 HRT0 HOK0 a0
          rename World => wq
          obtain ⟨k, x, Fx, hk, rfl, HIN, HRX, HOK, HUX⟩ := hrel
          have HBQ : Hid (Below gA w wq) := hide (HB09.out.trans (HUX.out.1.below (n := gA) (by omega) (fun k hk e => HMB8.out k (by omega) e)))
          have hFQ := HUX.out.1.heap HF9.out (HMB8.out gA hB8A)
          have a0 := (trip_cells hFQ).1
          have hBQ : B8' ≤ wq.heap.size := by have := HUX.out.1.size; omega
          have hal : all.length ≤ 20000000 := by have := hnA.out; omega
          by_cases hki : k < i
          · obtain ⟨b, o, ha, hrg⟩ := HI.out.cells k hki
            subst ha
            have hbw : b < w.heap.size := World.block_lt_of_cell? w ⟨b, o + k * 3 + 0, none⟩ (hrg 0 _ rfl)
            have HRW : Hid (∀ w6, Below gA w w6 → w6.cell? ⟨b, o + k * 3, none⟩ = some (.bool (Rf k)) ∧ w6.cell? ⟨b, o + k * 3 + 1, none⟩ = some (.int .u64 (Nf k : Int)) ∧ w6.cell? ⟨b, o + k * 3 + 2, none⟩ = some (.slice (Af k) (Lf k) (Cf k))) := hide fun w6 h6 => ⟨(range_below h6 (hgA.out.symm ▸ hbw) hrg) 0 _ rfl, (range_below h6 (hgA.out.symm ▸ hbw) hrg) 1 _ rfl, (range_below h6 (hgA.out.symm ▸ hbw) hrg) 2 _ rfl⟩
            have HAFT : Hid (∀ (w6 : World) (F' : Nat → Prop), Upd Fx wq w6 → Upd (fun j => M8 j ∨ j = gi) wc w6 ∧ Below gA w w6 ∧ w6.cell? ⟨gA, 0, none⟩ = some (.slice (some ⟨b, o, none⟩) i cl)) := hide fun w6 F' hu => by
              have hup : Upd (fun j => M8 j ∨ j = gi) wc w6 := HUX.out.1.then hu (fun j hj e => (HUX.out.2 j e).elim id (fun e => by omega))
              exact ⟨hup, HB09.out.trans (hup.below (n := gA) (by omega) (fun k hk e => HMB8.out k (by omega) e)), (trip_cells (hup.heap HF9.out (HMB8.out gA hB8A))).1⟩
            have s0 := (HRW.out wq HBQ.out).1
            have s1 := (HRW.out wq HBQ.out).2.1
            have s2 := (HRW.out wq HBQ.out).2.2
            have hidx2 : (k : Int) < (i : Int) := by omega
            have hat := HAT.out k hki
            have htl := tot_le Lf (show k + 1 ≤ i from hki)
            have htl2 : tot Lf (k + 1) = tot Lf k + Lf k := rfl
            have hzk := HI.out.zlen k hki
            have hcons : catB Rf Nf Zf (k + 1) = catB Rf Nf Zf k ++ itB Rf Nf Zf k := rfl
            have HLF := hide (HIN.out.lt0 HY.out)
            have hok' : 17 * all.length + 16 + 300 * k ≤ 4611686018427386000 := by omega
            cases hRf : Rf k with
            | true =>
              rw [hRf] at s0
              have hit : itB Rf Nf Zf k = Zf k := by simp [itB, hRf]
              rw [hit, hzk] at hat
              have HBY := hide (bytes_any (src_leads gs8) HY.out wq gi x Fx _ yl (Lf k : Int) (by omega) HIN.out HOK.out (by omega) (by omega) hBQ)
              have HOK1 := hide (bytes_ok HY.out (Lf k : Int) x _ yl HOK.out)
              have HRT1 := hide (bytes_rt brk eager HRX.out.1 (Lf k) hat.2 HRX.out.2)
              have HRT1' : Hid (((bytesP (fun k => srcRd all gs brk eager k) (Lf k : Int) x).2.1 = 0 → (bytesP (fun k => srcRd all gs brk eager k) (Lf k : Int) x).1 = Zf k ∧ RT all gs (catB Rf Nf Zf (k + 1)).length (bytesP (fun k => srcRd all gs brk eager k) (Lf k : Int) x).2.2 ∧ (bytesP (fun k => srcRd all gs brk eager k) (Lf k : Int) x).2.2.at' = (catB Rf Nf Zf (k + 1)).length) ∧ ((bytesP (fun k => srcRd all gs brk eager k) (Lf k : Int) x).2.1 ≠ 0 → 1 ≤ brk ∨ 16 ≤ gs.length)) := hide ⟨fun h0 => by
                have := HRT1.out.1 h0
                rw [hat.1] at this
                rw [hcons, hit, List.length_append, hzk]
                exact this, HRT1.out.2⟩
              clear HRT1
              generalize bytesP (fun k => srcRd all gs brk eager k) (Lf k : Int) x = q at *
              obtain ⟨qb, qe, qx⟩ := q
              simp only at HBY HOK1 HRT1'
              obtain ⟨nq, hnq⟩ : ∃ nq, nq = qb.length := ⟨_, rfl⟩
              replace hnq := hide hnq
              have HZK := hide hzk
              have HNK := hide (HI.out.row k hki)
              clear hrg hbw hat htl htl2 hzk hcons hit HIN HOK
              go_wp2_with fail
              refine HBY.out.mono ?_
              rintro e w10 ⟨v10, F10, rfl, ho10, hi10, hu10, hs10, hd10⟩
              obtain ⟨a10, c10, rfl, _, _, _⟩ := ho10.sliceN hnq.out.symm
              have hA10 := HAFT.out w10 F10 hu10
              have t0 := (HRW.out w10 hA10.2.1).1
              have t2 := (HRW.out w10 hA10.2.1).2.2
              have d0 := hA10.2.2
              have HSQ := hide (same_any a10 (Af k) nq c10 (Lf k) (Cf k) qb (Zf k) w10 (by have := ho10.max; rw [hnq.out]; exact this) hnq.out.symm HZK.out ho10.row (HNK.out.below2 (hgA.out ▸ hA10.2.1)))
              have HA10 := hide hA10
              have HI10 := hide hi10
              have HS10 : Hid (∀ j, F10 j → (M8 j ∨ j = gi) ∨ wc.heap.size ≤ j) := hide fun j hj => (hs10 j hj).elim (fun h => HUX.out.2 j h) (fun h => .inr (by have := HUX.out.1.size; omega))
              obtain ⟨bq, hbq⟩ : ∃ bq, bq = decide (qb = Zf k) := ⟨_, rfl⟩
              rw [← hbq] at HSQ
              replace hbq := hide hbq
              clear ho10 hi10 hu10 hs10 hd10 hA10 HBY s0 s1 s2
              go_wp2_with fail
              refine HSQ.out.mono ?_
              rintro e w11 ⟨rfl, hst⟩
              have HST := hide hst
              clear hst
              by_cases hqe : qe = 0
              · subst hqe
                obtain ⟨hq1, hq2, hq3⟩ := HRT1'.out.1 rfl
                obtain rfl : bq = true := by rw [hbq.out, hq1]; simp
                have HR11 := hide (show RT all gs (catB Rf Nf Zf (k + 1)).length qx ∧ qx.at' = (catB Rf Nf Zf (k + 1)).length from ⟨hq2, hq3⟩)
                clear hq1 hq2 hq3 HRT1' hbq
                go_wp2_with fail
                go_roundw
                case rel => exact ⟨k + 1, qx, F10, by omega, by go_num, hide (HI10.out.upd HY.out (HST.out.upd Noth) (fun _ e => e.elim)), HR11, hide (HOK1.out.mono (by omega)), hide ⟨HA10.out.1.trans (HST.out.upd _), HS10.out⟩⟩
                case measure => simp [intOf]; omega
              · have hmb : mb = true := HMAY.out ((HRT1'.out.2 hqe).imp id (fun h => by omega))
                subst hmb
                have hqe' : (qe != 0) = true := by simp [hqe]
                go_wp2_with fail
                go_ret
                exact ⟨rfl, hgA.out ▸ HA10.out.2.1.trans (HST.out.below _)⟩
            | false =>
              rw [hRf] at s0
              have hit : itB Rf Nf Zf k = enc (Nf k) := by simp [itB, hRf]
              rw [hit] at hat
              have hnk := HI.out.nle k hki
              have HNM := hide (num_any (src_leads gs8) HY.out wq gi x Fx _ yl HIN.out HOK.out (by omega) (by omega) hBQ (fun j hj => (HLF.out j hj).2))
              have HOK1 := hide (num_ok HY.out x _ yl HOK.out)
              have HRT1 := hide (num_rt brk eager HRX.out.1 (enc_num (Nf k) hnk) hat.1 hat.2 HRX.out.2)
              have HRT1' : Hid (((numP (fun k => srcRd all gs brk eager k) x).2.1 = 0 → (numP (fun k => srcRd all gs brk eager k) x).1 = (Nf k : Int) ∧ RT all gs (catB Rf Nf Zf (k + 1)).length (numP (fun k => srcRd all gs brk eager k) x).2.2 ∧ (numP (fun k => srcRd all gs brk eager k) x).2.2.at' = (catB Rf Nf Zf (k + 1)).length) ∧ ((numP (fun k => srcRd all gs brk eager k) x).2.1 ≠ 0 → 1 ≤ brk ∨ 16 ≤ gs.length)) := hide ⟨fun h0 => by
                have := HRT1.out.1 h0
                rw [hcons, hit, List.length_append]
                exact this, HRT1.out.2⟩
              clear HRT1
              generalize numP (fun k => srcRd all gs brk eager k) x = q at *
              obtain ⟨qn, qe, qx⟩ := q
              simp only at HNM HOK1 HRT1'
              clear hrg hbw hat htl htl2 hzk hcons hit HIN HOK hnk
              go_wp2_with fail
              refine HNM.out.mono ?_
              rintro e w10 ⟨F10, rfl, hi10, hu10, hs10⟩
              have hA10 := HAFT.out w10 F10 hu10
              have t1 := (HRW.out w10 hA10.2.1).2.1
              have d0 := hA10.2.2
              have HA10 := hide hA10
              have HI10 := hide hi10
              have HS10 : Hid (∀ j, F10 j → (M8 j ∨ j = gi) ∨ wc.heap.size ≤ j) := hide fun j hj => (hs10 j hj).elim (fun h => HUX.out.2 j h) (fun h => .inr (by have := HUX.out.1.size; omega))
              clear hi10 hu10 hs10 hA10 HNM s0 s1 s2
              by_cases hqe : qe = 0
              · subst hqe
                obtain ⟨hq1, hq2, hq3⟩ := HRT1'.out.1 rfl
                subst hq1
                have HR11 := hide (show RT all gs (catB Rf Nf Zf (k + 1)).length qx ∧ qx.at' = (catB Rf Nf Zf (k + 1)).length from ⟨hq2, hq3⟩)
                clear hq2 hq3 HRT1'
                go_wp2_with fail
                go_roundw
                case rel => exact ⟨k + 1, qx, F10, by omega, by go_num, HI10, HR11, hide (HOK1.out.mono (by omega)), hide ⟨HA10.out.1, HS10.out⟩⟩
                case measure => simp [intOf]; omega
              · have hmb : mb = true := HMAY.out ((HRT1'.out.2 hqe).imp id (fun h => by omega))
                subst hmb
                have hqe' : (qe != 0) = true := by simp [hqe]
                go_wp2_with fail
                go_ret
                exact ⟨rfl, hgA.out ▸ HA10.out.2.1⟩
          · obtain rfl : k = i := by omega
            have hidx2 : ¬ ((k : Nat) : Int) < (k : Int) := by omega
            have HEN := hide (inend_any (src_leads gs8) HY.out wq gi x Fx _ yl HIN.out HOK.out (by omega) hBQ)
            have HRT1 : Hid (((endP (fun k => srcRd all gs brk eager k) x).2.1 = 0 → (endP (fun k => srcRd all gs brk eager k) x).1 = true ∧ (endP (fun k => srcRd all gs brk eager k) x).2.2.at' = yl) ∧ ((endP (fun k => srcRd all gs brk eager k) x).2.1 ≠ 0 → 1 ≤ brk ∨ 16 ≤ gs.length)) := hide (by
              have h1 := HRX.out.1
              have h2 := HRX.out.2
              rw [← hall.out] at h1 h2
              have h3 := end_rt brk eager h1
              rw [h2, ← hnA.out] at h3
              exact h3)
            generalize endP (fun k => srcRd all gs brk eager k) x = q at *
            obtain ⟨qb, qe, qx⟩ := q
            simp only at HEN HRT1
            clear HIN HOK
            go_wp2_with fail
            refine HEN.out.mono ?_
            rintro e w10 ⟨F10, rfl, hi10, hu10, hs10⟩
            have HB10 : Hid (Below gA w w10) := hide (by
              have hup : Upd (fun j => M8 j ∨ j = gi) wc w10 := HUX.out.1.then hu10 (fun j hj e => (HUX.out.2 j e).elim id (fun e => by omega))
              exact HB09.out.trans (hup.below (n := gA) (by omega) (fun k hk e => HMB8.out k (by omega) e)))
            have p0 := hi10.g.2.2.1
            clear hi10 hu10 hs10 HEN
            by_cases hqe : qe = 0
            · subst hqe
              obtain ⟨hq1, hq2⟩ := HRT1.out.1 rfl
              subst hq1
              rw [hq2] at p0
              clear hq2 HRT1
              have e9 : ((yl : Int) == (yl : Int)) = true := by simp
              go_wp2_with (first
                | (go_at_call 10; refine keep (sat_any gi _ _ p0) ?_)
                | fail)
              go_ret
              exact ⟨rfl, hgA.out ▸ HB10.out⟩
            · have hmb : mb = true := HMAY.out ((HRT1.out.2 hqe).imp id (fun h => by omega))
              subst hmb
              have hqe' : (qe != 0) = true := by simp [hqe]
              go_wp2_with (first
                | (go_at_call 10; refine keep (sat_any gi _ _ p0) ?_)
                | fail)
              go_ret
              exact ⟨rfl, hgA.out ▸ HB10.out⟩
      · have e3 : (er == 0) = false := by simp [her0]
        have hbad := HT.out.1.bad (by rw [← HER.out]; exact her0)
        clear HT HER HNB HSUM HO7 HN7
        by_cases hn0 : nb = 0
        · have e4 : ((nb : Int) == 0) = true := by simp [hn0]
          replace hn0 := hide hn0
          have k1 : ((false : Bool) != true) = true := rfl
          by_cases hf1 : 1 ≤ fail
          · go_wp2_with fail
            go_ret
            exact ⟨rfl, hgA.out ▸ HB07.out⟩
          · have hlt16 : (16 : Int) ≤ (lt : Int) := by omega
            go_wp2_with fail
            go_ret
            exact ⟨rfl, hgA.out ▸ HB07.out⟩
        · have e4 : ((nb : Int) == 0) = false := by rw [beq_eq_false_iff_ne]; omega
          have k1 : ((false : Bool) != false) = false := rfl
          by_cases hf1 : 1 ≤ fail
          · go_wp2_with fail
            go_ret
            exact ⟨rfl, hgA.out ▸ HB07.out⟩
          · have hlt16 : (16 : Int) ≤ (lt : Int) := by omega
            go_wp2_with fail
            go_ret
            exact ⟨rfl, hgA.out ▸ HB07.out⟩

end Go.Proofs.Yteindoemdonagaa
