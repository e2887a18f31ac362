/- CursorOdd: the walk. -/
import Derived.Test.YtjcanghffhpncaaG35
namespace Go.Proofs.Ytjcanghffhpncaa
open Go.RowKit

theorem arg_cells {W : World} {g : Nat} {a b c d : Value} (h : W.heap[g]? = some (.cells #[a, b, c, d] 80 (0, 0))) : W.cell? ⟨g, 0, none⟩ = some a ∧ W.cell? ⟨g, 1, none⟩ = some b ∧ W.cell? ⟨g, 2, none⟩ = some c ∧ W.cell? ⟨g, 3, none⟩ = some d := by
  refine ⟨?_, ?_, ?_, ?_⟩ <;> (rw [cell_of_row _ _ _ _ _ _ h]; rfl)

set_option maxRecDepth 100000 in
set_option maxHeartbeats 6400000 in
theorem cursorOdd_any (an ae as' al : Option Addr) (ln cn le ce ls cs ll cl : Nat) (ns es : List Int) (Kf Nf : Nat → Int) (Kl : Nat → Int) (Af : Nat → Option Addr) (Lf Cf : Nat → Nat) (Zf : Nat → List Int) (w : World)
    (hln : ns.length = ln) (hle : es.length = le) (hmn : ln ≤ 1048576) (rn : Row w .i64 an ns) (re : Row w .i64 ae es) (hms : ls ≤ 1048576) (hA : IsAsks w as' ls Kf Nf) (hml : ll ≤ 1048576) (hL : IsLays w al ll Kl Af Lf Cf Zf) (htot : tot Lf ll ≤ 1048576) :
    Calls Try.prog 6 #[.agg #[.slice an ln cn, .slice ae le ce, .slice as' ls cs, .slice al ll cl]] w fun e w' => e = .returned (.bool true) ∧ Below w.heap.size w w' := by
  have HRN := hide rn
  have HRE := hide re
  have HA := hide hA
  have HLL := hide hL
  have hf1 := heap_alloc_new w (.cells #[.slice an ln cn, .slice ae le ce, .slice as' ls cs, .slice al ll cl] 80)
  have hbA : Below w.heap.size w (w.alloc (.cells #[.slice an ln cn, .slice ae le ce, .slice as' ls cs, .slice al ll cl] 80)) := (Below.refl _ _).alloc (Nat.le_refl _) _
  have hzA : (w.alloc (.cells #[.slice an ln cn, .slice ae le ce, .slice as' ls cs, .slice al ll cl] 80)).heap.size = w.heap.size + 1 := by simp
  clear rn re hA hL
  go_enter Try.func6, Try.ntmps6
  go_wp2_with fail
  generalize w.alloc (.cells #[.slice an ln cn, .slice ae le ce, .slice as' ls cs, .slice al ll cl] 80) = wA at *
  obtain ⟨gA, hgA⟩ : ∃ gA, gA = w.heap.size := ⟨_, rfl⟩
  rw [← hgA] at hf1 hbA hzA ⊢
  replace hgA := hide hgA
  refine (lives_any wA).mono ?_
  rintro e w1 ⟨rfl, hb1⟩
  have hF := (hb1.block gA (by omega)).trans hf1
  have hb01 : Below gA w w1 := hbA.trans (hb1.mono (by omega))
  have hz1' : gA + 1 ≤ w1.heap.size := by have := hb1.size; omega
  clear hf1 hbA hb1 hzA
  have c0 := (arg_cells hF).1
  have c1 := (arg_cells hF).2.1
  have e0 := (arg_cells ((Below.heap_alloc w1 (.cells #[.slice an ln cn, .slice ae le ce, .int .i64 0, .slice none 0 0, .int .u8 0, .slice none 0 0] 83) gA (by omega)).trans hF)).1
  have e1 := (arg_cells ((Below.heap_alloc w1 (.cells #[.slice an ln cn, .slice ae le ce, .int .i64 0, .slice none 0 0, .int .u8 0, .slice none 0 0] 83) gA (by omega)).trans hF)).2.1
  have HF := hide hF
  have HB01 := hide hb01
  clear hF hb01
  have HNI := hide (newIn_any 81 (.pointer (some ⟨w1.heap.size, 0, none⟩)) 1048576 1048576 ((w1.alloc (.cells #[.slice an ln cn, .slice ae le ce, .int .i64 0, .slice none 0 0, .int .u8 0, .slice none 0 0] 83)).alloc (.cells #[.slice none 0 0, .slice none 0 0, .int .i64 0, .bool false, .int .i64 0, .int .i64 0, .bool true, .slice an ln cn, .slice ae le ce, .int .u8 37, .int .u8 0, .slice none 0 0] 59)) (by decide))
  go_wp2_with fail
  refine HNI.out.mono ?_
  rintro e w3 ⟨rfl, rfl⟩
  go_upto_region 8 with fail
  have hne := four_newQ w1 (.cells #[.slice an ln cn, .slice ae le ce, .int .i64 0, .slice none 0 0, .int .u8 0, .slice none 0 0] 83) (.cells #[.slice none 0 0, .slice none 0 0, .int .i64 0, .bool false, .int .i64 0, .int .i64 0, .bool true, .slice an ln cn, .slice ae le ce, .int .u8 37, .int .u8 0, .slice none 0 0] 59) (.cells #[.int .i64 0, .int .i64 0, .int .i64 0, .iface 81 (.pointer (some ⟨w1.heap.size, 0, none⟩)), .int .i64 1048576, .slice none 0 0] 47) (.cells #[.pointer (some ⟨w1.heap.size + 1, 0, none⟩), .int .i64 1048576, .int .i64 0, .int .i64 0, .slice none 0 0, .int .i64 0] 62)
  have hU : Upd Noth w1 ((((w1.alloc (.cells #[.slice an ln cn, .slice ae le ce, .int .i64 0, .slice none 0 0, .int .u8 0, .slice none 0 0] 83)).alloc (.cells #[.slice none 0 0, .slice none 0 0, .int .i64 0, .bool false, .int .i64 0, .int .i64 0, .bool true, .slice an ln cn, .slice ae le ce, .int .u8 37, .int .u8 0, .slice none 0 0] 59)).alloc (.cells #[.int .i64 0, .int .i64 0, .int .i64 0, .iface 81 (.pointer (some ⟨w1.heap.size, 0, none⟩)), .int .i64 1048576, .slice none 0 0] 47)).alloc (.cells #[.pointer (some ⟨w1.heap.size + 1, 0, none⟩), .int .i64 1048576, .int .i64 0, .int .i64 0, .slice none 0 0, .int .i64 0] 62)) := ((((Upd.refl _ _).alloc _).alloc _).alloc _).alloc _
  generalize ((((w1.alloc (.cells #[.slice an ln cn, .slice ae le ce, .int .i64 0, .slice none 0 0, .int .u8 0, .slice none 0 0] 83)).alloc (.cells #[.slice none 0 0, .slice none 0 0, .int .i64 0, .bool false, .int .i64 0, .int .i64 0, .bool true, .slice an ln cn, .slice ae le ce, .int .u8 37, .int .u8 0, .slice none 0 0] 59)).alloc (.cells #[.int .i64 0, .int .i64 0, .int .i64 0, .iface 81 (.pointer (some ⟨w1.heap.size, 0, none⟩)), .int .i64 1048576, .slice none 0 0] 47)).alloc (.cells #[.pointer (some ⟨w1.heap.size + 1, 0, none⟩), .int .i64 1048576, .int .i64 0, .int .i64 0, .slice none 0 0, .int .i64 0] 62)) = w5 at hne hU ⊢
  obtain ⟨B, hB⟩ : ∃ B, B = w1.heap.size := ⟨_, rfl⟩
  rw [← hB] at hne hz1' ⊢
  obtain ⟨g2, hg2⟩ : ∃ g2, g2 = B + 1 := ⟨_, rfl⟩
  obtain ⟨gc, hgc⟩ : ∃ gc, gc = B + 1 + 1 := ⟨_, rfl⟩
  obtain ⟨gd, hgd⟩ : ∃ gd, gd = B + 1 + 1 + 1 := ⟨_, rfl⟩
  rw [← hgd, ← hgc, ← hg2]
  rw [← hg2, show B + 2 = gc by omega, show B + 3 = gd by omega] at hne
  have hz5 : w1.heap.size ≤ w5.heap.size := hU.size
  have hgd5 : gd < w5.heap.size := lt_of_block hne.2.2.2
  have hgA' := hgA.out
  have hnB : ∀ x : Addr, an = some x → 0 < ns.length → x.block < B := fun x hx h0 => by have := row_ltL HRN.out hx h0; omega
  have heB : ∀ x : Addr, ae = some x → 0 < es.length → x.block < B := fun x hx h0 => by have := row_ltL HRE.out hx h0; omega
  have HX := hide (lo_fam ns es an ln cn ae le ce B B hln hle)
  have HY := hide (ro_fam ns es an ln cn ae le ce g2 B hln hle)
  have hb05 : Below gA w w5 := HB01.out.trans (hU.toBelow.mono (by omega))
  have hrn5 : Row w5 .i64 an ns := HRN.out.below2 (hgA.out ▸ hb05)
  have hre5 : Row w5 .i64 ae es := HRE.out.below2 (hgA.out ▸ hb05)
  have H0 : Hid (AP (LRd ns es an ln cn ae le ce B B) (ORd ns es an ln cn ae le ce 37 g2 B) B gc gd g2 1048576 (.iface 81 (.pointer (some ⟨B, 0, none⟩))) w5 (fun j => j = B ∨ j = gc) (fun j => j = g2 ∨ j = gd) w5 ⟨⟨0, 0, []⟩, 0, 0, 0, 1048576, []⟩ (fun j => j = B ∨ j = gc) (fun j => j = g2 ∨ j = gd)) := hide (by
    refine ⟨⟨.slice none 0 0, (fun j => j = B), hne.2.2.1, ⟨none, 0, ⟨hne.1, hrn5, hre5, hnB, heB, World.ownsRow_nil _ _ _ _, (fun h => by cases h), Nat.le_refl _, rfl⟩, fun i => ⟨.inl, fun h => h.elim id (fun h => by cases h)⟩, by decide⟩, OwnB.nil _ _ _, by omega, by omega, (fun j hj => by cases hj), fun j => ⟨fun h => h.elim .inl (fun h => .inr (.inl h)), fun h => h.elim .inl (fun h => h.elim .inr (fun h => by cases h))⟩⟩, ⟨.slice none 0 0, [], 0, (fun j => j = g2), hne.2.2.2, ⟨none, 0, ⟨hne.2.1, hrn5, hre5, hnB, heB, World.ownsRow_nil _ _ _ _, (fun i h => by cases h), rfl, fun i hi => ?_, rfl, by decide⟩⟩, OwnB.nil _ _ _, by omega, by omega, (fun j hj => by cases hj), fun _ => ⟨rfl, rfl, by simp⟩, fun j => ⟨fun h => h.elim .inl (fun h => .inr (.inl h)), fun h => h.elim .inl (fun h => h.elim .inr (fun h => by cases h))⟩⟩, fun _ h => .inl h, fun _ h => .inl h, fun j h e => by omega, Upd.refl _ _⟩
    have e' : i = g2 := hi
    omega)
  have HOK0 := hide (o_new_ok ns (by omega))
  have HF5 := hide (hU.heap HF.out (fun e => e))
  have HB05 := hide hb05
  have HLS : Hid (∀ (wr : World) (x : InS OSt) (F G : Nat → Prop), AP (LRd ns es an ln cn ae le ce B B) (ORd ns es an ln cn ae le ce 37 g2 B) B gc gd g2 1048576 (.iface 81 (.pointer (some ⟨B, 0, none⟩))) w5 (fun j => j = B ∨ j = gc) (fun j => j = g2 ∨ j = gd) wr x F G → Below gA w wr ∧ wr.heap[gA]? = some (.cells #[.slice an ln cn, .slice ae le ce, .slice as' ls cs, .slice al ll cl] 80 (0, 0)) ∧ B ≤ wr.heap.size) := hide fun wr x F G h =>
    ⟨HB05.out.trans (h.up.below (n := gA) (by omega) (fun k hk e => by omega)), h.up.heap HF5.out (fun e => by omega), by have := h.up.size; omega⟩
  clear hne hU hb05 hz5 HNI hnB heB hgc hgd hg2 hrn5 hre5 e0 e1 c0 c1 HF HB01 hgA' hB HB05 HF5
  have hgAB : gA < B := by omega
  have a5 := (arg_cells (HLS.out _ _ _ _ H0.out).2.1).2.2.1
  go_wp2_with fail
  go_loopw [8, 9] (fun q _ wr => ∃ (i : Nat) (x : InS OSt) (F G : Nat → Prop), i ≤ ls ∧ q = .int .i64 i ∧ Hid (AP (LRd ns es an ln cn ae le ce B B) (ORd ns es an ln cn ae le ce 37 g2 B) B gc gd g2 1048576 (.iface 81 (.pointer (some ⟨B, 0, none⟩))) w5 (fun j => j = B ∨ j = gc) (fun j => j = g2 ∨ j = gd) wr x F G) ∧ Hid (InOk oCnt (fun s : OSt => ns.length - s.c) (fun s : OSt => 4096 * (ns.length - s.c)) (4611684918915760128 + 17 * ns.length + 16 + 200 * i) 1048576 x)) (fun q _ _ => ls - (intOf q).toNat)
  case atStart => exact ⟨0, _, _, _, by omega, rfl, H0, HOK0⟩
  case round =>
    clear H0 HOK0 a5
    obtain ⟨i, x, F, G, hi, rfl, HAP, HOK⟩ := hrel
    have hls := HLS.out _ _ _ _ HAP.out
    have HBW := hide hls.1
    have HFW := hide hls.2.1
    have hBW := hls.2.2
    have a2 := (arg_cells HFW.out).2.2.1
    clear hls
    by_cases hlt : i < ls
    · obtain ⟨b, o, ha, hrg⟩ := HA.out.cells i hlt
      subst ha
      have hbw : b < w.heap.size := World.block_lt_of_cell? w ⟨b, o + i * 2 + 0, none⟩ (hrg 0 _ rfl)
      have hrW := range_below HBW.out (hgA.out.symm ▸ hbw) hrg
      have hidx : (i : Int) < (ls : Int) := by omega
      have HASK := hide (asked_any (lo_rleads B) HX.out HY.out (Kf i) (Nf i) wr x F G _ 1048576 (HA.out.top i hlt) HAP.out.a HAP.out.b HAP.out.dis HOK.out (by omega) (by omega) (by omega) hBW)
      have HOK1 := hide (op_ok HX.out (Kf i) (Nf i) x _ 1048576 HOK.out)
      clear hrg hbw
      go_wp2_with (first
        | (refine wpList_load_mid rfl 65 (.tmp 52) rfl b (o + i * 2) rfl _ _ hrW Try.underlying65 rfl infoAsk ?_)
        | (go_at_call 23; refine HASK.out.mono ?_; rintro e w6 ⟨rfl, F', G', hap⟩; have HAP1 := hide hap; clear hap)
        | fail)
      have HAP2 := hide (HAP.out.trans HAP1.out)
      go_roundw
      case rel => exact ⟨i + 1, _, F', G', by omega, by go_num, HAP2, by
        have := HOK1
        rwa [Nat.mul_add, ← Nat.add_assoc]⟩
      case measure => simp [intOf]; omega
    · obtain rfl : i = ls := by omega
      have hidx : ¬ ((i : Nat) : Int) < (i : Int) := by omega
      obtain ⟨ax, cx, hq⟩ := HAP.out.a.szs
      have q3 := hq.1
      have r3 := hq.2.1
      clear hq
      obtain ⟨ay, cy, q11, r11⟩ := HAP.out.b.szs
      have hmx := HAP.out.b.max
      generalize hszl : x.s.szs.length = sl at *
      have HAL : Hid (∀ a, Calls Try.prog 29 #[.slice ax sl cx, .slice ay sl cy] (wr.drewN a) fun e w'' => e = .returned (.bool true) ∧ ∃ n, w'' = wr.drewN n) := hide fun a => by
        have hst := (Still.refl wr).drewN a
        exact (alikeq ax ay sl cx cy x.s.szs _ hmx hszl (r3.upd (hst.upd Noth) (fun _ _ _ e => e)) (r11.upd (hst.upd Noth) (fun _ _ _ e => e))).mono fun e w' ⟨h1, m, h2⟩ => ⟨h1, a + m, by rw [h2, World.drewN_drewN]⟩
      replace hszl := hide hszl
      clear r3 r11 hmx
      go_wp2_with fail
      go_quiet ((go_at_call 29; with_reducible exact HAL.out _))
      have HBW6 : Hid (Below gA w (wr.drewN nq)) := hide (HBW.out.trans ((((Still.refl wr).drewN nq).upd Noth).toBelow.mono (by omega)))
      have HF6 : Hid ((wr.drewN nq).heap[gA]? = some (.cells #[.slice an ln cn, .slice ae le ce, .slice as' i cs, .slice al ll cl] 80 (0, 0))) := hide HFW.out
      have hB6 : B ≤ (wr.drewN nq).heap.size := hBW
      generalize wr.drewN nq = w6 at *
      clear q3 q11 HAL HAP HOK HBW HFW hBW a2 HX HY HLS hszl HA
      have c0 := (arg_cells HF6.out).1
      have c1 := (arg_cells HF6.out).2.1
      have e0 := (arg_cells ((Below.heap_alloc w6 (.cells #[.slice an ln cn, .slice ae le ce, .int .i64 0, .slice none 0 0, .int .u8 0, .slice none 0 0] 83) gA (by omega)).trans HF6.out)).1
      have e1 := (arg_cells ((Below.heap_alloc w6 (.cells #[.slice an ln cn, .slice ae le ce, .int .i64 0, .slice none 0 0, .int .u8 0, .slice none 0 0] 83) gA (by omega)).trans HF6.out)).2.1
      have HNO := hide (newOut_any 81 (.pointer (some ⟨w6.heap.size, 0, none⟩)) ((w6.alloc (.cells #[.slice an ln cn, .slice ae le ce, .int .i64 0, .slice none 0 0, .int .u8 0, .slice none 0 0] 83)).alloc (.cells #[.slice none 0 0, .int .i64 0, .int .i64 0, .slice none 0 0, .bool true, .slice an ln cn, .slice ae le ce, .slice none 0 0] 70)))
      go_wp2_with fail
      refine HNO.out.mono ?_
      rintro e w3 ⟨rfl, rfl⟩
      go_upto_region 23 with fail
      have hne := four_newQ w6 (.cells #[.slice an ln cn, .slice ae le ce, .int .i64 0, .slice none 0 0, .int .u8 0, .slice none 0 0] 83) (.cells #[.slice none 0 0, .int .i64 0, .int .i64 0, .slice none 0 0, .bool true, .slice an ln cn, .slice ae le ce, .slice none 0 0] 70) (.cells #[.int .i64 0, .int .i64 0, .int .i64 0, .iface 81 (.pointer (some ⟨w6.heap.size, 0, none⟩)), .slice none 0 0] 95) (.cells #[.pointer (some ⟨w6.heap.size + 1, 0, none⟩), .slice none 0 0, .int .i64 0, .int .i64 0, .int .i64 0] 73)
      have hU : Upd Noth w6 ((((w6.alloc (.cells #[.slice an ln cn, .slice ae le ce, .int .i64 0, .slice none 0 0, .int .u8 0, .slice none 0 0] 83)).alloc (.cells #[.slice none 0 0, .int .i64 0, .int .i64 0, .slice none 0 0, .bool true, .slice an ln cn, .slice ae le ce, .slice none 0 0] 70)).alloc (.cells #[.int .i64 0, .int .i64 0, .int .i64 0, .iface 81 (.pointer (some ⟨w6.heap.size, 0, none⟩)), .slice none 0 0] 95)).alloc (.cells #[.pointer (some ⟨w6.heap.size + 1, 0, none⟩), .slice none 0 0, .int .i64 0, .int .i64 0, .int .i64 0] 73)) := ((((Upd.refl _ _).alloc _).alloc _).alloc _).alloc _
      generalize ((((w6.alloc (.cells #[.slice an ln cn, .slice ae le ce, .int .i64 0, .slice none 0 0, .int .u8 0, .slice none 0 0] 83)).alloc (.cells #[.slice none 0 0, .int .i64 0, .int .i64 0, .slice none 0 0, .bool true, .slice an ln cn, .slice ae le ce, .slice none 0 0] 70)).alloc (.cells #[.int .i64 0, .int .i64 0, .int .i64 0, .iface 81 (.pointer (some ⟨w6.heap.size, 0, none⟩)), .slice none 0 0] 95)).alloc (.cells #[.pointer (some ⟨w6.heap.size + 1, 0, none⟩), .slice none 0 0, .int .i64 0, .int .i64 0, .int .i64 0] 73)) = w7 at hne hU ⊢
      obtain ⟨D, hD⟩ : ∃ D, D = w6.heap.size := ⟨_, rfl⟩
      rw [← hD] at hne hB6 ⊢
      obtain ⟨h2, hh2⟩ : ∃ h2, h2 = D + 1 := ⟨_, rfl⟩
      obtain ⟨hc, hhc⟩ : ∃ hc, hc = D + 1 + 1 := ⟨_, rfl⟩
      obtain ⟨hd, hhd⟩ : ∃ hd, hd = D + 1 + 1 + 1 := ⟨_, rfl⟩
      rw [← hhd, ← hhc, ← hh2]
      rw [← hh2, show D + 2 = hc by omega, show D + 3 = hd by omega] at hne
      have hz7 : w6.heap.size ≤ w7.heap.size := hU.size
      have hhd7 : hd < w7.heap.size := lt_of_block hne.2.2.2
      have hgA' := hgA.out
      have hnD : ∀ x : Addr, an = some x → 0 < ns.length → x.block < D := fun x hx h0 => by have := row_ltL HRN.out hx h0; omega
      have heD : ∀ x : Addr, ae = some x → 0 < es.length → x.block < D := fun x hx h0 => by have := row_ltL HRE.out hx h0; omega
      have HX := hide (lo_writer ns es an ln cn ae le ce D D hln hle)
      have HY := hide (ro_writer ns es an ln cn ae le ce h2 D hln hle)
      have hb07 : Below gA w w7 := HBW6.out.trans (hU.toBelow.mono (by omega))
      have hrn7 : Row w7 .i64 an ns := HRN.out.below2 (hgA.out ▸ hb07)
      have hre7 : Row w7 .i64 ae es := HRE.out.below2 (hgA.out ▸ hb07)
      have H0 : Hid (OP (TAt (mkW (.slice an ln cn) (.slice ae le ce)) 83 an ns ae es D D) (TAt (mkS (.slice an ln cn) (.slice ae le ce)) 70 an ns ae es h2 D) D hc hd h2 (.iface 81 (.pointer (some ⟨D, 0, none⟩))) w7 (fun j => j = D ∨ j = hc) (fun j => j = h2 ∨ j = hd) w7 ⟨⟨0, [], []⟩, [], 0, 0, 0⟩ (fun j => j = D ∨ j = hc) (fun j => j = h2 ∨ j = hd)) := hide (by
        refine ⟨⟨.slice none 0 0, 0, (fun j => j = D), hne.2.2.1, ⟨none, 0, none, 0, ⟨hne.1, hrn7, hre7, hnD, heD, World.ownsRow_nil _ _ _ _, (fun h => by cases h), Nat.le_refl _, rfl⟩, World.ownsRow_nil _ _ _ _, (fun h => by cases h), (fun i h => by cases h), fun i => ⟨.inl, fun h => h.elim id (fun h => h.elim (fun h => by cases h) (fun h => by cases h))⟩⟩, .inl ⟨rfl, rfl⟩, by omega, by omega, (fun j hj => by cases hj), fun j => ⟨fun h => h.elim .inl (fun h => .inr (.inl h)), fun h => h.elim .inl (fun h => h.elim .inr (fun h => by cases h))⟩⟩, ⟨.slice none 0 0, 0, 0, (fun j => j = h2), hne.2.2.2, ⟨none, 0, none, 0, ⟨hne.2.1, hrn7, hre7, hnD, heD, World.ownsRow_nil _ _ _ _, (fun h => by cases h), by omega, rfl⟩, World.ownsRow_nil _ _ _ _, (fun h => by cases h), (fun i h => by cases h), fun i => ⟨.inl, fun h => h.elim id (fun h => h.elim (fun h => by cases h) (fun h => by cases h))⟩⟩, .inl ⟨rfl, rfl⟩, by omega, by omega, (fun j hj => by cases hj), fun _ => rfl, fun j => ⟨fun h => h.elim .inl (fun h => .inr (.inl h)), fun h => h.elim .inl (fun h => h.elim .inr (fun h => by cases h))⟩⟩, fun _ h => .inl h, fun _ h => .inl h, fun j h e => by omega, Upd.refl _ _⟩)
      have HOK0 : Hid (OutOk oCntW (fun t : OWt => t.took.length) (4611684918915760128 + 16 + 17 * tot Lf 0) (tot Lf 0) ⟨⟨0, [], []⟩, [], 0, 0, 0⟩) := hide o_new_out
      have HF7 := hide (hU.heap HF6.out (fun e => e))
      have HB07 := hide hb07
      have HLS : Hid (∀ (wr : World) (x : OutS OWt) (F G : Nat → Prop), OP (TAt (mkW (.slice an ln cn) (.slice ae le ce)) 83 an ns ae es D D) (TAt (mkS (.slice an ln cn) (.slice ae le ce)) 70 an ns ae es h2 D) D hc hd h2 (.iface 81 (.pointer (some ⟨D, 0, none⟩))) w7 (fun j => j = D ∨ j = hc) (fun j => j = h2 ∨ j = hd) wr x F G → Below gA w wr ∧ wr.heap[gA]? = some (.cells #[.slice an ln cn, .slice ae le ce, .slice as' i cs, .slice al ll cl] 80 (0, 0)) ∧ D ≤ wr.heap.size) := hide fun wr x F G h =>
        ⟨HB07.out.trans (h.up.below (n := gA) (by omega) (fun k hk e => by omega)), h.up.heap HF7.out (fun e => by omega), by have := h.up.size; omega⟩
      have hgAD : gA < D := by omega
      clear hne hU hb07 hz7 HNO hnD heD hhc hhd hh2 hrn7 hre7 e0 e1 c0 c1 HF6 HBW6 hgA' hD HB07 HF7 hhd7 HRN HRE
      have a7 := (arg_cells (HLS.out _ _ _ _ H0.out).2.1).2.2.2
      go_wp2_with fail
      go_loopw [10, 14] (fun _ q wr => ∃ (k : Nat) (x : OutS OWt) (F G : Nat → Prop), k ≤ ll ∧ q = .int .i64 k ∧ Hid (OP (TAt (mkW (.slice an ln cn) (.slice ae le ce)) 83 an ns ae es D D) (TAt (mkS (.slice an ln cn) (.slice ae le ce)) 70 an ns ae es h2 D) D hc hd h2 (.iface 81 (.pointer (some ⟨D, 0, none⟩))) w7 (fun j => j = D ∨ j = hc) (fun j => j = h2 ∨ j = hd) wr x F G) ∧ Hid (OutOk oCntW (fun t : OWt => t.took.length) (4611684918915760128 + 16 + 17 * tot Lf k) (tot Lf k) x)) (fun _ q _ => ll - (intOf q).toNat)
      case atStart => exact ⟨0, _, _, _, by omega, rfl, H0, HOK0⟩
      case round =>
        clear H0 HOK0 a7
        obtain ⟨k, x, F, G, hk, rfl, HAP, HOK⟩ := hrel
        have hls := HLS.out _ _ _ _ HAP.out
        have HBW := hide hls.1
        have HFW := hide hls.2.1
        have hBW := hls.2.2
        have a3 := (arg_cells HFW.out).2.2.2
        clear hls
        by_cases hlt : k < ll
        · obtain ⟨b, o, ha, hrg⟩ := HLL.out.cells k hlt
          subst ha
          have hbw : b < w.heap.size := World.block_lt_of_cell? w ⟨b, o + k * 2 + 0, none⟩ (hrg 0 _ rfl)
          have hrW := rangeL_below HBW.out (hgA.out.symm ▸ hbw) hrg
          have hidx : (k : Int) < (ll : Int) := by omega
          have htl := tot_le Lf (show k + 1 ≤ ll by omega)
          have htl2 : tot Lf (k + 1) = tot Lf k + Lf k := rfl
          have hzl := HLL.out.zlen k hlt
          have HTLD := hide (told_any (lo_wleads D) HX.out HY.out (Kl k) (Af k) (Lf k) (Cf k) (Zf k) wr x F G _ _ hzl (HLL.out.none k hlt) ((HLL.out.row k hlt).below2 (hgA.out ▸ HBW.out)) (fun y hy h0 => by have := row_ltL (HLL.out.row k hlt) hy (by omega); have := hgA.out; omega) HAP.out.a HAP.out.b HAP.out.dis HOK.out (by omega) (by omega) hBW)
          have HOK1 : Hid (OutOk oCntW (fun t : OWt => t.took.length) (4611684918915760128 + 16 + 17 * tot Lf (k + 1)) (tot Lf (k + 1)) (opO (oWf ns es) (Kl k) (Zf k) x)) := (opO_ok HX.out HOK.out (Kl k) (Zf k)).mono (by rw [hzl, htl2]; omega) (by rw [hzl, htl2]; exact Nat.le_refl _)
          clear hrg hbw htl htl2 hzl
          go_wp2_with (first
            | (refine wpList_load_mid rfl 76 (.tmp 100) rfl b (o + k * 2) rfl _ _ hrW Try.underlying76 rfl infoLay ?_)
            | (go_at_call 26; refine HTLD.out.mono ?_; rintro e w8 ⟨rfl, F', G', hap⟩; have HAP1 := hide hap; clear hap)
            | fail)
          have HAP2 := hide (HAP.out.trans HAP1.out)
          go_roundw
          case rel => exact ⟨k + 1, _, F', G', by omega, by go_num, HAP2, HOK1⟩
          case measure => simp [intOf]; omega
        · obtain rfl : k = ll := by omega
          have hidx2 : ¬ ((k : Nat) : Int) < (k : Int) := by omega
          obtain ⟨ax, cx, ay, cy, hq⟩ := HAP.out.a.all
          obtain ⟨bx, dx, by', dy, hq2⟩ := HAP.out.b.all
          have q3 := hq.1
          have r3 := hq.2.1
          have q5 := hq.2.2.1
          have r5 := hq.2.2.2
          have p7 := hq2.1
          have s7 := hq2.2.1
          have p3 := hq2.2.2.1
          have s3 := hq2.2.2.2.1
          have m1 := hq2.2.2.2.2.1
          have m2 := hq2.2.2.2.2.2
          clear hq hq2
          generalize hszl : x.t.szs.length = sl at *
          generalize htkl : x.t.took.length = tl at *
          have HAL : Hid (∀ a, Calls Try.prog 29 #[.slice ax sl cx, .slice bx sl dx] (wr.drewN a) fun e w'' => e = .returned (.bool true) ∧ ∃ n, w'' = wr.drewN n) := hide fun a => by
            have hst := (Still.refl wr).drewN a
            exact (alikeq ax bx sl cx dx x.t.szs _ m1 hszl (r3.upd (hst.upd Noth) (fun _ _ _ e => e)) (s7.upd (hst.upd Noth) (fun _ _ _ e => e))).mono fun e w' ⟨h1, m, h2⟩ => ⟨h1, a + m, by rw [h2, World.drewN_drewN]⟩
          have HSM : Hid (∀ a, Calls Try.prog 22 #[.slice ay tl cy, .slice by' tl dy] (wr.drewN a) fun e w'' => e = .returned (.bool true) ∧ ∃ n, w'' = wr.drewN n) := hide fun a => by
            have hst := (Still.refl wr).drewN a
            exact (sameq ay by' tl cy dy x.t.took _ m2 htkl (r5.upd (hst.upd Noth) (fun _ _ _ e => e)) (s3.upd (hst.upd Noth) (fun _ _ _ e => e))).mono fun e w' ⟨h1, m, h2⟩ => ⟨h1, a + m, by rw [h2, World.drewN_drewN]⟩
          replace hszl := hide hszl
          replace htkl := hide htkl
          clear r3 r5 s7 s3 m1 m2
          go_wp2_with fail
          go_quiet (first | (go_at_call 29; with_reducible exact HAL.out _) | (go_at_call 22; with_reducible exact HSM.out _))
          go_wp2_with fail
          go_ret
          exact ⟨rfl, hgA.out ▸ (HBW.out.trans ((((Still.refl wr).drewN _).upd Noth).toBelow.mono (by omega)))⟩

end Go.Proofs.Ytjcanghffhpncaa
