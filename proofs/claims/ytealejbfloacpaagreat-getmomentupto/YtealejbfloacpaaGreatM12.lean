/- Texts of one's own. -/
import Derived.Test.YtealejbfloacpaaGreatM11
import Derived.Test.YtealejbfloacpaaGreatM8
namespace Go.Proofs.YtealejbfloacpaaGreat
open Go.RowKit
set_option maxRecDepth 100000
theorem blk_any {W : World} {b : Nat} {T : TypeId} {x0 x1 x2 x3 x4 x5 : Value} (h : W.heap[b]? = some (.cells #[x0, x1, x2, x3, x4, x5] T (0, 0))) (y : Value) :
  (W.setCell ⟨b, 0, none⟩ y).heap[b]? = some (.cells #[y, x1, x2, x3, x4, x5] T (0, 0)) ∧ (W.setCell ⟨b, 1, none⟩ y).heap[b]? = some (.cells #[x0, y, x2, x3, x4, x5] T (0, 0)) ∧ (W.setCell ⟨b, 2, none⟩ y).heap[b]? = some (.cells #[x0, x1, y, x3, x4, x5] T (0, 0)) :=
 ⟨block_setCell h 0 y, block_setCell h 1 y, block_setCell h 2 y⟩
def RcPost (w : World) (n : Nd) (e : Ending) (w' : World) : Prop :=
 ∃ (m : Nd) (N1 N2 : Nat), e = .returned m.v ∧ m.p = n.p ∧ m.Own w' w.heap.size ∧ Below w.heap.size w w' ∧ (∀ k, m.hi.v.ownBlock = some k → k < N1) ∧ m.ks.Own w' N1 ∧ (∀ k, m.ks.v.ownBlock = some k → k < N2) ∧ m.vs.Own w' N2 ∧ N1 ≤ N2
set_option maxRecDepth 100000 in
set_option maxHeartbeats 3200000 in
theorem rclone_any (n : Nd) (w : World) (hn : n.Ok w) :
  Calls Tryz.prog 109 #[n.v] w (RcPost w n) := by
 obtain ⟨i0, hi, hz0, hz1, hz2⟩ := info_parts infoI
 obtain ⟨lv, ⟨ha, hc, hs⟩, ri, ⟨ka, kc, K⟩, ⟨va, vc, V⟩, ⟨ca, cc, C⟩⟩ := n
 have HH : Hid (∀ W, Below w.heap.size w W → Calls Tryz.prog 111 #[.slice ha hs.length hc] W fun e w' => ∃ v, e = .returned v ∧ OwnB w' W.heap.size 5 v hs ∧ Below W.heap.size W w') := fun W h => rbytes_any ha hs.length hc hs W rfl (by have := hn.h.z; simp only at this; omega) hn.h.n (hn.h.below h).r
 have HK : Hid (∀ W, Below w.heap.size w W → Calls Tryz.prog 114 #[.slice ka K.length kc] W (CtP W K K.length)) := fun W h => rtexts_any ka K.length kc K W (hn.k.below h) rfl (by have := hn.kz; simp only at this; omega)
 have HV : Hid (∀ W, Below w.heap.size w W → Calls Tryz.prog 114 #[.slice va V.length vc] W (CtP W V V.length)) := fun W h => rtexts_any va V.length vc V W (hn.v.below h) rfl (by have := hn.vz; simp only at this; omega)
 have HC : Hid (∀ W, Below w.heap.size w W → VOk W ca cc (C.map (Value.int .i64))) := fun W h => (hn.c.below h).vok
 have hcz := hn.cz
 have HKZ := hide hn.kz
 have HVZ := hide hn.vz
 have HB8 : Hid (B8 hs ∧ hs.length ≤ 140737488351232) := ⟨hn.h.b8, hn.h.z⟩
 clear hn
 simp only at hcz HKZ HVZ
 have HCZ := hide hcz
 simp only [Nd.v, Tx.v, TL.v, IL.v]
 obtain ⟨lh, hlh⟩ : ∃ lh, hs.length = lh := ⟨_, rfl⟩
 obtain ⟨lk, hlk⟩ : ∃ lk, K.length = lk := ⟨_, rfl⟩
 obtain ⟨lw, hlw⟩ : ∃ lw, V.length = lw := ⟨_, rfl⟩
 obtain ⟨lc, hlc⟩ : ∃ lc, C.length = lc := ⟨_, rfl⟩
 rw [hlh] at HH
 rw [hlk] at HK
 rw [hlw] at HV
 rw [hlc] at hcz
 rw [hlh, hlk, hlw, hlc]
 replace hlh := hide hlh
 replace hlk := hide hlk
 replace hlw := hide hlw
 replace hlc := hide hlc
 obtain ⟨w0, hw0⟩ : ∃ w0, w0 = ((w.alloc (.cells #[.int .i64 lv, .slice ha lh hc, .int .i64 ri, .slice ka lk kc, .slice va lw vc, .slice ca lc cc] 35)).alloc (.cells #[.int .i64 0, .slice none 0 0, .int .i64 0, .slice none 0 0, .slice none 0 0, .slice none 0 0] 35)).alloc (.cells #[.int .i64 lv, .slice none 0 0, .int .i64 0, .slice none 0 0, .slice none 0 0, .slice none 0 0] 35) := ⟨_, rfl⟩
 have z0 : w0.heap.size = w.heap.size + 3 := by rw [hw0]; simp
 have B0 : Hid (Below w.heap.size w w0) := by show Below _ _ _; rw [hw0]; exact (((Below.refl _ _).alloc (Nat.le_refl _) _).alloc (by simp) _).alloc (by simp; omega) _
 have a0 : w0.heap[w.heap.size]? = some (.cells #[.int .i64 lv, .slice ha lh hc, .int .i64 ri, .slice ka lk kc, .slice va lw vc, .slice ca lc cc] 35 (0, 0)) := by
  rw [hw0, Below.heap_alloc _ _ _ (by simp; omega), Below.heap_alloc _ _ _ (by simp)]; exact heap_alloc_new w _
 have r0 : w0.heap[w.heap.size + 1]? = some (.cells #[.int .i64 0, .slice none 0 0, .int .i64 0, .slice none 0 0, .slice none 0 0, .slice none 0 0] 35 (0, 0)) := by
  rw [hw0, Below.heap_alloc _ _ _ (by simp), show w.heap.size + 1 = (w.alloc (.cells #[.int .i64 lv, .slice ha lh hc, .int .i64 ri, .slice ka lk kc, .slice va lw vc, .slice ca lc cc] 35)).heap.size by simp]; exact heap_alloc_new _ _
 have x0 : w0.heap[w.heap.size + 1 + 1]? = some (.cells #[.int .i64 lv, .slice none 0 0, .int .i64 0, .slice none 0 0, .slice none 0 0, .slice none 0 0] 35 (0, 0)) := by
  rw [hw0, show w.heap.size + 1 + 1 = ((w.alloc (.cells #[.int .i64 lv, .slice ha lh hc, .int .i64 ri, .slice ka lk kc, .slice va lw vc, .slice ca lc cc] 35)).alloc (.cells #[.int .i64 0, .slice none 0 0, .int .i64 0, .slice none 0 0, .slice none 0 0, .slice none 0 0] 35)).heap.size by simp]; exact heap_alloc_new _ _
 have A0 := hide a0
 have R0 := hide r0
 have X0 := hide x0
 have Z0 := hide z0
 have HW0 := hide hw0
 clear hw0 a0 r0 x0 z0
 go_enter Tryz.func109, Tryz.ntmps109
 go_wp2_with fail
 rw [← HW0.out]
 refine (HH.out w0 B0.out).mono ?_
 rintro e w1 ⟨v1, rfl, hv1, b1⟩
 obtain ⟨hna, hnc, hve, _, _, _⟩ := hv1.slice
 rw [hlh.out] at hve
 subst hve
 have V1 := hide hv1
 have B1 := hide (B0.out.trans (b1.mono B0.out.size))
 have A1 : Hid (w1.heap[w.heap.size]? = _) := (b1.block _ (lt_of_block A0.out)).trans A0.out
 have R1 : Hid (w1.heap[w.heap.size + 1]? = _) := (b1.block _ (lt_of_block R0.out)).trans R0.out
 have X1 : Hid (w1.heap[w.heap.size + 1 + 1]? = _) := (b1.block _ (lt_of_block X0.out)).trans X0.out
 have hs1 := b1.size
 have hs0 := Z0.out
 obtain ⟨c0, c1, c2, c3, c4, c5⟩ := Six.of A1.out
 obtain ⟨x0, x1, x2, x3, x4, x5⟩ := Six.of X1.out
 have f1 := fun j => frozen_of X1.out j
 obtain ⟨w2, hw2⟩ : ∃ w2, w2 = (w1.setCell ⟨w.heap.size + 1 + 1, 1, none⟩ (.slice hna lh hnc)).setCell ⟨w.heap.size + 1 + 1, 2, none⟩ (.int .i64 ri) := ⟨_, rfl⟩
 have U2 : Hid (Upd (fun b => b = w.heap.size + 1 ∨ b = w.heap.size + 1 + 1) w1 w2) := by show Upd _ _ _; rw [hw2]; exact ((Upd.refl _ w1).setCell _ _ (fun _ => .inr rfl)).setCell _ _ (fun _ => .inr rfl)
 have X2 : Hid (w2.heap[w.heap.size + 1 + 1]? = some (.cells #[.int .i64 lv, .slice hna lh hnc, .int .i64 ri, .slice none 0 0, .slice none 0 0, .slice none 0 0] 35 (0, 0))) := by show _ = _; rw [hw2]; exact (blk_any (blk_any X1.out _).2.1 _).2.2
 have A2 : Hid (w2.heap[w.heap.size]? = _) := U2.out.heap A1.out (by omega)
 have R2 : Hid (w2.heap[w.heap.size + 1]? = some (.cells #[.int .i64 0, .slice none 0 0, .int .i64 0, .slice none 0 0, .slice none 0 0, .slice none 0 0] 35 (0, 0))) := by show _ = _; rw [hw2]; exact ((Below.heap_setCell _ _ _ _ (by simp)).trans (Below.heap_setCell _ _ _ _ (by simp))).trans R1.out
 have B2 : Hid (Below w.heap.size w w2) := B1.out.trans (U2.out.below B1.out.size (fun k hk e => by omega))
 have hs2 := U2.out.size
 have HW2 := hide hw2
 clear hw2 hv1 b1 HW0 HH
 go_wp2_with fail
 rw [← HW2.out]
 refine (HK.out w2 B2.out).mono ?_
 rintro e w3 ⟨kna, knc, K', rfl, hp3, hl3, ho3, b3⟩
 have O3 := hide ho3
 have P3 := hide hp3
 have L3 := hide hl3
 have B3 := hide (B2.out.trans (b3.mono B2.out.size))
 have A3 : Hid (w3.heap[w.heap.size]? = _) := (b3.block _ (lt_of_block A2.out)).trans A2.out
 have R3 : Hid (w3.heap[w.heap.size + 1]? = _) := (b3.block _ (lt_of_block R2.out)).trans R2.out
 have X3 : Hid (w3.heap[w.heap.size + 1 + 1]? = _) := (b3.block _ (lt_of_block X2.out)).trans X2.out
 have B23 := hide b3
 clear ho3 hp3 hl3 b3 HW2 HK c0 c1 c2 c3 c4 c5 x0 x1 x2 x3 x4 x5 f1
 have hs3 := B23.out.size
 obtain ⟨c0, c1, c2, c3, c4, c5⟩ := Six.of A3.out
 obtain ⟨x0, x1, x2, x3, x4, x5⟩ := Six.of X3.out
 have f3 := fun j => frozen_of X3.out j
 obtain ⟨w4, hw4⟩ : ∃ w4, w4 = w3.setCell ⟨w.heap.size + 1 + 1, 3, none⟩ (.slice kna lk knc) := ⟨_, rfl⟩
 have U4 : Hid (Upd (fun b => b = w.heap.size + 1 ∨ b = w.heap.size + 1 + 1) w3 w4) := by show Upd _ _ _; rw [hw4]; exact (Upd.refl _ w3).setCell _ _ (fun _ => .inr rfl)
 have X4 : Hid (w4.heap[w.heap.size + 1 + 1]? = some (.cells #[.int .i64 lv, .slice hna lh hnc, .int .i64 ri, .slice kna lk knc, .slice none 0 0, .slice none 0 0] 35 (0, 0))) := by show _ = _; rw [hw4]; exact (blk_one X3.out _).1
 have A4 : Hid (w4.heap[w.heap.size]? = _) := U4.out.heap A3.out (by omega)
 have R4 : Hid (w4.heap[w.heap.size + 1]? = some (.cells #[.int .i64 0, .slice none 0 0, .int .i64 0, .slice none 0 0, .slice none 0 0, .slice none 0 0] 35 (0, 0))) := by show _ = _; rw [hw4]; exact (Below.heap_setCell _ _ _ _ (by simp)).trans R3.out
 have B4 : Hid (Below w.heap.size w w4) := B3.out.trans (U4.out.below B3.out.size (fun k hk e => by omega))
 have hs4 := U4.out.size
 have HW4 := hide hw4
 clear hw4
 go_wp2_with fail
 rw [← HW4.out]
 refine (HV.out w4 B4.out).mono ?_
 rintro e w5 ⟨vna, vnc, V', rfl, hp5, hl5, ho5, b5⟩
 have O5 := hide ho5
 have P5 := hide hp5
 have L5 := hide hl5
 have B5 := hide (B4.out.trans (b5.mono B4.out.size))
 have A5 : Hid (w5.heap[w.heap.size]? = _) := (b5.block _ (lt_of_block A4.out)).trans A4.out
 have R5 : Hid (w5.heap[w.heap.size + 1]? = _) := (b5.block _ (lt_of_block R4.out)).trans R4.out
 have X5 : Hid (w5.heap[w.heap.size + 1 + 1]? = _) := (b5.block _ (lt_of_block X4.out)).trans X4.out
 have B45 := hide b5
 clear ho5 hp5 hl5 b5 HW4 HV c0 c1 c2 c3 c4 c5 x0 x1 x2 x3 x4 x5 f3
 have hs5 := B45.out.size
 obtain ⟨c0, c1, c2, c3, c4, c5⟩ := Six.of A5.out
 obtain ⟨x0, x1, x2, x3, x4, x5⟩ := Six.of X5.out
 have f5 := fun j => frozen_of X5.out j
 obtain ⟨w6, hw6⟩ : ∃ w6, w6 = w5.setCell ⟨w.heap.size + 1 + 1, 4, none⟩ (.slice vna lw vnc) := ⟨_, rfl⟩
 have U6 : Hid (Upd (fun b => b = w.heap.size + 1 ∨ b = w.heap.size + 1 + 1) w5 w6) := by show Upd _ _ _; rw [hw6]; exact (Upd.refl _ w5).setCell _ _ (fun _ => .inr rfl)
 have X6 : Hid (w6.heap[w.heap.size + 1 + 1]? = some (.cells #[.int .i64 lv, .slice hna lh hnc, .int .i64 ri, .slice kna lk knc, .slice vna lw vnc, .slice none 0 0] 35 (0, 0))) := by show _ = _; rw [hw6]; exact (blk_one X5.out _).2.1
 have A6 : Hid (w6.heap[w.heap.size]? = _) := U6.out.heap A5.out (by omega)
 have R6 : Hid (w6.heap[w.heap.size + 1]? = some (.cells #[.int .i64 0, .slice none 0 0, .int .i64 0, .slice none 0 0, .slice none 0 0, .slice none 0 0] 35 (0, 0))) := by show _ = _; rw [hw6]; exact (Below.heap_setCell _ _ _ _ (by simp)).trans R5.out
 have B6 : Hid (Below w.heap.size w w6) := B5.out.trans (U6.out.below B5.out.size (fun k hk e => by omega))
 have hs6 := U6.out.size
 have HW6 := hide hw6
 have HC6 := hide (HC.out w6 B6.out)
 clear hw6
 go_wp2_with (first
  | (at_builtin; rw [← HW6.out]; refine append_own_any rfl (.tmp 34) (.tmp 37) 31 rfl w6.heap.size 3 i0 (.int .i64 0) 1 8 Tryz.underlying31 hi hz0 hz1 hz2 rfl (by decide) (.slice none 0 0) 0 [] rfl (World.ownsRow_nil _ _ _ _) ca lc cc (C.map (Value.int .i64)) rfl (by rw [List.length_map, hlc.out]; omega) (fun e => by have := HC6.out.n e; rw [List.length_map, hlc.out] at this; exact this) HC6.out.r.news (i_oneCell C) (by unfold maxLen; omega) (by omega) (Nat.le_refl _) ?_; intro v7 w7 hown7 hg7; obtain ⟨cna, cnc, rfl, _, _⟩ := vok_of_owns hown7; have hg7' : w6.grownBy w7 none := hg7; have X7 : Hid (w7.heap[w.heap.size + 1 + 1]? = _) := (hg7'.block _ (lt_of_block X6.out) (by simp)).trans X6.out; have R7 : Hid (w7.heap[w.heap.size + 1]? = _) := (hg7'.block _ (lt_of_block R6.out) (by simp)).trans R6.out; have HO7 := hide hown7; have HG7 := hide hg7'; clear hown7 hg7 hg7' c0 c1 c2 c3 c4 c5 x0 x1 x2 x3 x4 x5 f5; obtain ⟨x0, x1, x2, x3, x4, x5⟩ := Six.of X7.out; have f7 := fun j => frozen_of X7.out j; obtain ⟨y0, y1, y2, y3, y4, y5⟩ := Six.of R7.out; have f8 := fun j => frozen_of R7.out j)
  | fail)
 (try simp only [Exit.inBlock, Exit.then])
 have hO7 := HO7.out
 simp only [List.nil_append, Nat.zero_add] at hO7
 have hs7 := HG7.out.size
 have B67 : Below w6.heap.size w6 w7 := (Below.refl _ _).grown HG7.out (Nat.le_refl _) (fun k h => by cases h)
 obtain ⟨m, hm⟩ : ∃ m : Nd, m = ⟨lv, ⟨hna, hnc, hs⟩, ri, ⟨kna, knc, K'⟩, ⟨vna, vnc, V'⟩, ⟨cna, cnc, C⟩⟩ := ⟨_, rfl⟩
 obtain ⟨w8, hw8⟩ : ∃ w8, w8 = w7.setCell ⟨w.heap.size + 1 + 1, 5, none⟩ (.slice cna lc cnc) := ⟨_, rfl⟩
 have U78 : Upd (fun b => b = w.heap.size + 1 ∨ b = w.heap.size + 1 + 1) w7 w8 := by rw [hw8]; exact (Upd.refl _ w7).setCell _ _ (fun _ => .inr rfl)
 have R8 : w8.heap[w.heap.size + 1]? = some (.cells #[.int .i64 0, .slice none 0 0, .int .i64 0, .slice none 0 0, .slice none 0 0, .slice none 0 0] 35 (0, 0)) := by rw [hw8]; exact (Below.heap_setCell _ _ _ _ (by simp)).trans R7.out
 have U68 : Upd (fun b => b = w.heap.size + 1 ∨ b = w.heap.size + 1 + 1) w6 w8 := (Upd.of_below B67 _).trans U78
 have U58 := U6.out.trans U68
 have U48 := (Upd.of_below B45.out _).trans U58
 have U38 := U4.out.trans U48
 have U28 := (Upd.of_below B23.out _).trans U38
 have U18 := U2.out.trans U28
 have far : ∀ (N b : Nat) (W : World), w.heap.size + 3 ≤ N → N ≤ b → b < W.heap.size → ¬ (b = w.heap.size + 1 ∨ b = w.heap.size + 1 + 1) := fun N b W h1 h2 _ h3 => by omega
 have OWN : m.Own w8 (w.heap.size + 3) := by
  rw [hm]
  have V1' : OwnB w1 w0.heap.size 5 (.slice hna lh hnc) hs := V1.out
  refine ⟨?_, HB8.out, ?_, ?_, ?_, ?_, ?_, HCZ.out⟩
  ·simp only [Tx.v, hlh.out]
   exact (ownB_upd' V1' U18 (fun b => far _ b _ (by omega))).mono (by omega)
  ·exact ((O3.out).upd U38 (fun b => far _ b _ (by omega))).mono (by omega)
  ·exact ((O5.out).upd U58 (fun b => far _ b _ (by omega))).mono (by omega)
  ·simp only [IL.v, hlc.out]
   exact owns_mono (ownsI_upd hO7 U78 (fun b => far _ b _ (by omega))) (by omega)
  ·have := HKZ.out; rw [hlk.out] at this; simp only [L3.out]; exact this
  ·have := HVZ.out; rw [hlw.out] at this; simp only [L5.out]; exact this
 have HPP : m.p = (⟨lv, ⟨ha, hc, hs⟩, ri, ⟨ka, kc, K⟩, ⟨va, vc, V⟩, ⟨ca, cc, C⟩⟩ : Nd).p := by
  rw [hm]
  simp only [Nd.p, TL.p]
  rw [show K'.map (·.s) = K.map (·.s) from P3.out, show V'.map (·.s) = V.map (·.s) from P5.out]
 have B8 : Below w.heap.size w w8 := B6.out.trans (U68.below B6.out.size (fun k hk e => by omega))
 obtain ⟨hF, q0, q1, q2, q3, q4, q5⟩ := tail_six (w := w) R8 OWN HPP (by omega) (by omega) B8
 rw [hm] at q0 q1 q2 q3 q4 q5 hF
 have U9 : Upd (fun b => b = w.heap.size + 1) w8 (sixN w8 (w.heap.size + 1) ⟨lv, ⟨hna, hnc, hs⟩, ri, ⟨kna, knc, K'⟩, ⟨vna, vnc, V'⟩, ⟨cna, cnc, C⟩⟩) := six_upd _ _ _ _ _ _ _ _ _ rfl
 have hF2 : RcPost w ⟨lv, ⟨ha, hc, hs⟩, ri, ⟨ka, kc, K⟩, ⟨va, vc, V⟩, ⟨ca, cc, C⟩⟩ (.returned (Nd.v ⟨lv, ⟨hna, hnc, hs⟩, ri, ⟨kna, knc, K'⟩, ⟨vna, vnc, V'⟩, ⟨cna, cnc, C⟩⟩)) (sixN w8 (w.heap.size + 1) ⟨lv, ⟨hna, hnc, hs⟩, ri, ⟨kna, knc, K'⟩, ⟨vna, vnc, V'⟩, ⟨cna, cnc, C⟩⟩) := by
  obtain ⟨_, _, _, _, b'⟩ := hF
  refine ⟨⟨lv, ⟨hna, hnc, hs⟩, ri, ⟨kna, knc, K'⟩, ⟨vna, vnc, V'⟩, ⟨cna, cnc, C⟩⟩, w2.heap.size, w4.heap.size, rfl, by rw [← hm]; exact HPP, ?_, b', ?_, ?_, ?_, ?_, by omega⟩
  ·have h1 := OWN.upd (by rw [← hm] at U9; exact U9) (fun i h1 _ e => by omega)
   rw [hm] at h1
   exact h1.mono (by omega)
  ·intro k hk
   have V1' : OwnB w1 w0.heap.size 5 (.slice hna lh hnc) hs := V1.out
   simp only [Tx.v, hlh.out] at hk
   have := (V1'.owns.lt k hk).2
   omega
  ·exact ((O3.out).upd U38 (fun b => far _ b _ (by omega))).upd U9 (fun b h1 _ e => by omega)
  ·intro k hk
   have := (O3.out.row.lt k hk).2
   omega
  ·exact ((O5.out).upd U58 (fun b => far _ b _ (by omega))).upd U9 (fun b h1 _ e => by omega)
 clear hF
 have hF := hF2
 simp only [Nd.v, Tx.v, TL.v, IL.v, hlh.out, L3.out, L5.out, hlc.out] at q0 q1 q2 q3 q4 q5 hF
 have HW : Hid (sixN w8 (w.heap.size + 1) ⟨lv, ⟨hna, hnc, hs⟩, ri, ⟨kna, knc, K'⟩, ⟨vna, vnc, V'⟩, ⟨cna, cnc, C⟩⟩ = (((((w8.setCell ⟨w.heap.size + 1, 0, none⟩ (.int .i64 lv)).setCell ⟨w.heap.size + 1, 1, none⟩ (.slice hna lh hnc)).setCell ⟨w.heap.size + 1, 2, none⟩ (.int .i64 ri)).setCell ⟨w.heap.size + 1, 3, none⟩ (.slice kna lk knc)).setCell ⟨w.heap.size + 1, 4, none⟩ (.slice vna lw vnc)).setCell ⟨w.heap.size + 1, 5, none⟩ (.slice cna lc cnc)) := by
  show _ = _
  simp only [sixN, six6, Tx.v, TL.v, IL.v, hlh.out, L3.out, L5.out, hlc.out]
 rw [← hw8, ← HW.out]
 exact bodyPost_ret (v := .agg #[.int .i64 lv, .slice hna lh hnc, .int .i64 ri, .slice kna lk knc, .slice vna lw vnc, .slice cna lc cnc]) (by simp [results, Tryz.results109, go_sem, q0, q1, q2, q3, q4, q5]) rfl hF
end Go.Proofs.YtealejbfloacpaaGreat
namespace Go.Proofs.YtealejbfloacpaaGreat
open Go.RowKit
set_option maxRecDepth 100000
structure MkI (w W : World) (v : Value) (C : List Tx) (D : List (List Int)) : Prop where
 row : W.ownsRow w.heap.size 23 1 v C.length (C.map Tx.v)
 each : ∀ x ∈ C, OwnB W w.heap.size 5 x.v x.s
 s : C.map (·.s) = D
 b : Below w.heap.size w W
 z : ∀ x ∈ D, B8 x ∧ x.length ≤ 140737488351232
theorem MkI.own {w W : World} {a : Option Addr} {c : Nat} {C : List Tx} {D : List (List Int)} {l : Nat} (h : MkI w W (.slice a l c) C D) (hl : C.length = l) : (⟨a, c, C⟩ : TL).Own W w.heap.size := by
 have hr := h.row
 rw [← hl] at hr
 refine ⟨hr, h.each, fun x hx => h.z _ ?_⟩
 rw [← h.s]
 exact List.mem_map.2 ⟨x, hx, rfl⟩
theorem MkI.more {w wr w2 w5 : World} {v v5 : Value} {C : List Tx} {D : List (List Int)} {x : Tx} {na : Option Addr} {nc nk : Nat} (h : MkI w wr v C D) (hnk : x.s.length = nk) (V2 : OwnB w2 wr.heap.size 5 (.slice na nk nc) x.s) (B2 : Below wr.heap.size wr w2)
  (HO5 : w5.ownsRow w.heap.size 23 1 v5 (C.length + 1) (C.map Tx.v ++ [.slice na nk nc])) (HG5 : (w2.alloc (.cells #[.slice na nk nc] 23)).grownBy w5 v.ownBlock) (hz : B8 x.s ∧ x.s.length ≤ 140737488351232) : MkI w w5 v5 (C ++ [⟨na, nc, x.s⟩]) (D ++ [x.s]) := by
 have hnv : (⟨na, nc, x.s⟩ : Tx).v = .slice na nk nc := by simp only [Tx.v, hnk]
 have bA : Below w2.heap.size w2 (w2.alloc (.cells #[.slice na nk nc] 23)) := (Below.refl _ _).alloc (Nat.le_refl _) _
 have RA := owns_below (owns_below h.row B2) bA
 have hs1 := h.b.size
 have hs2 := B2.size
 refine ⟨?_, ?_, ?_, ?_, ?_⟩
 ·rw [List.length_append, List.length_singleton, List.map_append, List.map_singleton, hnv]
  exact HO5
 ·intro y hy
  rcases List.mem_append.1 hy with hy | hy
  ·exact ownB_grown (((h.each y hy).below B2).below bA) RA HG5
  ·obtain rfl : y = ⟨na, nc, x.s⟩ := by simpa using hy
   have h1 : OwnB w2 w.heap.size 5 (⟨na, nc, x.s⟩ : Tx).v x.s := by rw [hnv]; exact V2.mono h.b.size
   exact ownB_grown (h1.below bA) RA HG5
 ·rw [List.map_append, h.s]; rfl
 ·exact ((h.b.trans (B2.mono h.b.size)).trans (bA.mono (by omega))).grown HG5 (by simp; omega) (fun k hk => (RA.lt k hk).1)
 ·intro y hy
  rcases List.mem_append.1 hy with hy | hy
  ·exact h.z y hy
  ·obtain rfl : y = x.s := by simpa using hy
   exact hz
theorem MkI.nil (w W : World) (h : Below w.heap.size w W) : MkI w W (.slice none 0 0) [] [] := ⟨World.ownsRow_nil _ _ _ _, fun x hx => (by cases hx), rfl, h, fun x hx => (by cases hx)⟩
def MkP (w : World) (D : List (List Int)) (l : Nat) (e : Ending) (w' : World) : Prop :=
 ∃ a c C, e = .returned (.slice a l c) ∧ C.map (·.s) = D ∧ C.length = l ∧ (⟨a, c, C⟩ : TL).Own w' w.heap.size ∧ Below w.heap.size w w'
set_option maxRecDepth 100000 in
set_option maxHeartbeats 3200000 in
theorem rput_any (a : Option Addr) (l c at' : Nat) (L : List Tx) (x : Tx) (w : World) (ht : (⟨a, c, L⟩ : TL).Ok w) (hx : x.Ok w) (hl : L.length = l) (hm : l * 24 ≤ 140737488352000) (ha : at' ≤ l) :
  Calls Tryz.prog 112 #[.slice a l c, .int .i64 (at' : Int), .slice x.a x.s.length x.c] w (MkP w (insL (L.map (·.s)) at' x.s) (l + 1)) := by
 obtain ⟨i0, hi, hz0, hz1, hz2⟩ := info_parts infoT
 have HT : Hid (∀ W, Below w.heap.size w W → (⟨a, c, L⟩ : TL).Ok W) := fun W h => ht.below h
 have HX : Hid (∀ W, Below w.heap.size w W → x.Ok W) := fun W h => hx.below h
 replace hl := hide hl
 clear ht hx
 obtain ⟨lx, hlx⟩ : ∃ lx, x.s.length = lx := ⟨_, rfl⟩
 rw [hlx]
 replace hlx := hide hlx
 have HLP : Hid ((L.map (·.s)).length = l) := by show _ = _; rw [List.length_map, hl.out]
 have HGE : Hid (∀ i (h : i < L.length), (L.map (·.s))[i]? = some L[i].s) := fun i h => by simp [h]
 go_enter Tryz.func112, Tryz.ntmps112
 go_wp2_with fail
 go_loopw [7, 8] (fun q3 q4 wr => ∃ (v : Value) (C : List Tx), q3 = v ∧ q4 = .int .i64 (C.length : Nat) ∧ C.length ≤ at' ∧ Hid (MkI w wr v C ((L.map (·.s)).take C.length))) (fun _ q4 _ => at' - (intOf q4).toNat)
 case atStart => exact ⟨_, [], rfl, rfl, Nat.zero_le _, MkI.nil w w (Below.refl _ _)⟩
 case round =>
  obtain ⟨v, C, rfl, rfl, hle, HI⟩ := hrel
  rename World => wr
  obtain ⟨i, hic⟩ : ∃ i, C.length = i := ⟨_, rfl⟩
  rw [hic] at hle HI ⊢
  replace hic := hide hic
  obtain ⟨va, vc, hve, _, _⟩ := vok_of_owns HI.out.row
  rw [hic.out] at hve
  subst hve
  by_cases hlt : i < at'
  ·have j1 : (i : Int) < (at' : Int) := by omega
   have j0 : (i : Int) < (l : Int) := by omega
   have hiL : i < L.length := by rw [hl.out]; omega
   have hT := HT.out wr HI.out.b
   obtain ⟨b, o, hae, s0⟩ := hT.r i hiL
   simp only at hae
   subst hae
   have OK := hide (hT.ok L[i] (List.getElem_mem hiL))
   have HG := hide (HGE.out i hiL)
   obtain ⟨t, hx⟩ : ∃ t, t = L[i] := ⟨_, rfl⟩
   simp only [← hx] at s0 OK HG
   unfold Tx.v at s0
   obtain ⟨nk, hnk⟩ : ∃ nk, t.s.length = nk := ⟨_, rfl⟩
   rw [hnk] at s0
   have HBY := hide (rbytes_any t.a nk t.c t.s wr hnk (by have := OK.out.z; omega) (by have := OK.out.n; rw [hnk] at this; exact this) OK.out.r)
   replace hnk := hide hnk
   have HRW : Hid (wr.ownsRow w.heap.size 23 1 (.slice va i vc) i (C.map Tx.v)) := by have := HI.out.row; rw [hic.out] at this; exact this
   clear hT hx
   go_wp2_with fail
   refine HBY.out.mono ?_
   rintro e w2 ⟨v2, rfl, hv2, hb2⟩
   obtain ⟨na, nc, hve, _, _, _⟩ := hv2.slice
   rw [hnk.out] at hve
   subst hve
   have V2 := hide hv2
   have B2 := hide hb2
   have R2 := hide (owns_below HRW.out hb2)
   clear hv2 hb2 HBY s0
   have hsz := B2.out.size
   have hsw := HI.out.b.size
   go_wp2_with (first
    | (at_builtin; refine append_own_any rfl (.tmp 15) (.tmp 21) 30 rfl w.heap.size 23 i0 (.slice none 0 0) 1 24 Tryz.underlying30 hi hz0 hz1 hz2 rfl (by decide) (.slice va i vc) i (C.map Tx.v) rfl (owns_below R2.out ((Below.refl _ _).alloc (Nat.le_refl _) _)) (some ⟨w2.heap.size, 0, none⟩) 1 1 [.slice na nk nc] rfl rfl (by intro h; cases h) (by intro ad had; cases had; exact one_new _ _ _) (by intro u hu; simp at hu; subst hu; rfl) (by unfold maxLen; omega) (by omega) (by simp; omega) ?_; intro v5 w5 hown5 hg5; have HO5 := hide hown5; have HG5 := hide hg5; clear hown5 hg5)
    | fail)
   have HNEW : Hid (MkI w w5 v5 (C ++ [⟨na, nc, t.s⟩]) ((L.map (·.s)).take (i + 1))) := by
    have h1 := HI.out.more hnk.out V2.out B2.out (by rw [hic.out]; exact HO5.out) HG5.out ⟨OK.out.b8, OK.out.z⟩
    have h2 : (L.map (·.s)).take (i + 1) = (L.map (·.s)).take i ++ [t.s] := by rw [List.take_add_one, HG.out]; rfl
    rw [h2]; exact h1
   clear V2 B2 R2 HO5 HG5
   go_wp2_with fail
   go_roundw
   case rel => exact ⟨_, C ++ [⟨na, nc, t.s⟩], rfl, by rw [List.length_append, List.length_singleton, hic.out]; go_num, by rw [List.length_append, List.length_singleton, hic.out]; omega, by rw [List.length_append, List.length_singleton, hic.out]; exact HNEW⟩
   case measure => simp [intOf]; omega
  ·have j1 : ¬ (i : Int) < (at' : Int) := by omega
   obtain rfl : i = at' := by omega
   have OX := hide (HX.out wr HI.out.b)
   have HBY := hide (rbytes_any x.a lx x.c x.s wr hlx.out (by have := OX.out.z; have := hlx.out; omega) (by have := OX.out.n; rw [hlx.out] at this; exact this) OX.out.r)
   have HRW : Hid (wr.ownsRow w.heap.size 23 1 (.slice va i vc) i (C.map Tx.v)) := by have := HI.out.row; rw [hic.out] at this; exact this
   go_wp2_with fail
   refine HBY.out.mono ?_
   rintro e w2 ⟨v2, rfl, hv2, hb2⟩
   obtain ⟨na, nc, hve, _, _, _⟩ := hv2.slice
   rw [hlx.out] at hve
   subst hve
   have V2 := hide hv2
   have B2 := hide hb2
   have R2 := hide (owns_below HRW.out hb2)
   clear hv2 hb2 HBY
   have hsz := B2.out.size
   have hsw := HI.out.b.size
   go_wp2_with (first
    | (at_builtin; refine append_own_any rfl (.tmp 23) (.tmp 26) 30 rfl w.heap.size 23 i0 (.slice none 0 0) 1 24 Tryz.underlying30 hi hz0 hz1 hz2 rfl (by decide) (.slice va i vc) i (C.map Tx.v) rfl (owns_below R2.out ((Below.refl _ _).alloc (Nat.le_refl _) _)) (some ⟨w2.heap.size, 0, none⟩) 1 1 [.slice na lx nc] rfl rfl (by intro h; cases h) (by intro ad had; cases had; exact one_new _ _ _) (by intro u hu; simp at hu; subst hu; rfl) (by unfold maxLen; omega) (by omega) (by simp; omega) ?_; intro v5 w5 hown5 hg5; have HO5 := hide hown5; have HG5 := hide hg5; clear hown5 hg5)
    | fail)
   have HM : Hid (MkI w w5 v5 (C ++ [⟨na, nc, x.s⟩]) ((L.map (·.s)).take i ++ x.s :: ((L.map (·.s)).drop i).take 0)) := by
    have h1 := HI.out.more hlx.out V2.out B2.out (by rw [hic.out]; exact HO5.out) HG5.out ⟨OX.out.b8, OX.out.z⟩
    rw [List.take_zero]; exact h1
   have HCL : Hid ((C ++ [(⟨na, nc, x.s⟩ : Tx)]).length = i + 1) := by show _ = _; rw [List.length_append, List.length_singleton, hic.out]
   clear V2 B2 R2 HO5 HG5 HI hsz hsw
   obtain ⟨D, hD⟩ : ∃ D, D = C ++ [(⟨na, nc, x.s⟩ : Tx)] := ⟨_, rfl⟩
   rw [← hD] at HM HCL
   clear hD HRW OX hle j1 hlt
   go_wp2_with fail
   go_loopw [7, 9] (fun q3 q4 wr => ∃ (v : Value) (C : List Tx) (k : Nat), q3 = v ∧ q4 = .int .i64 (k : Int) ∧ i ≤ k ∧ k ≤ l ∧ Hid (C.length = k + 1) ∧ Hid (MkI w wr v C ((L.map (·.s)).take i ++ x.s :: ((L.map (·.s)).drop i).take (k - i)))) (fun _ q4 _ => l - (intOf q4).toNat)
   case atStart => exact ⟨_, D, i, rfl, rfl, Nat.le_refl _, ha, HCL, by rw [Nat.sub_self]; exact HM⟩
   case round =>
    clear HM HCL
    obtain ⟨v, C, k, rfl, rfl, hik, hkl, HCL, HI⟩ := hrel
    rename World => wr
    obtain ⟨va, vc, hve, _, _⟩ := vok_of_owns HI.out.row
    rw [HCL.out] at hve
    subst hve
    by_cases hlt : k < l
    ·have j1 : (k : Int) < (l : Int) := by omega
     have hiL : k < L.length := by rw [hl.out]; omega
     have hT := HT.out wr HI.out.b
     obtain ⟨b, o, hae, s0⟩ := hT.r k hiL
     simp only at hae
     subst hae
     have OK := hide (hT.ok L[k] (List.getElem_mem hiL))
     have HG := hide (HGE.out k hiL)
     obtain ⟨t, hx⟩ : ∃ t, t = L[k] := ⟨_, rfl⟩
     simp only [← hx] at s0 OK HG
     unfold Tx.v at s0
     obtain ⟨nk, hnk⟩ : ∃ nk, t.s.length = nk := ⟨_, rfl⟩
     rw [hnk] at s0
     have HBY := hide (rbytes_any t.a nk t.c t.s wr hnk (by have := OK.out.z; omega) (by have := OK.out.n; rw [hnk] at this; exact this) OK.out.r)
     replace hnk := hide hnk
     have HRW : Hid (wr.ownsRow w.heap.size 23 1 (.slice va (k + 1) vc) (k + 1) (C.map Tx.v)) := by have := HI.out.row; rw [HCL.out] at this; exact this
     clear hT hx
     go_wp2_with fail
     refine HBY.out.mono ?_
     rintro e w2 ⟨v2, rfl, hv2, hb2⟩
     obtain ⟨na, nc, hve, _, _, _⟩ := hv2.slice
     rw [hnk.out] at hve
     subst hve
     have V2 := hide hv2
     have B2 := hide hb2
     have R2 := hide (owns_below HRW.out hb2)
     clear hv2 hb2 HBY s0
     have hsz := B2.out.size
     have hsw := HI.out.b.size
     go_wp2_with (first
      | (at_builtin; refine append_own_any rfl (.tmp 35) (.tmp 41) 30 rfl w.heap.size 23 i0 (.slice none 0 0) 1 24 Tryz.underlying30 hi hz0 hz1 hz2 rfl (by decide) (.slice va (k + 1) vc) (k + 1) (C.map Tx.v) rfl (owns_below R2.out ((Below.refl _ _).alloc (Nat.le_refl _) _)) (some ⟨w2.heap.size, 0, none⟩) 1 1 [.slice na nk nc] rfl rfl (by intro h; cases h) (by intro ad had; cases had; exact one_new _ _ _) (by intro u hu; simp at hu; subst hu; rfl) (by unfold maxLen; omega) (by omega) (by simp; omega) ?_; intro v5 w5 hown5 hg5; have HO5 := hide hown5; have HG5 := hide hg5; clear hown5 hg5)
      | fail)
     have HNEW : Hid (MkI w w5 v5 (C ++ [⟨na, nc, t.s⟩]) ((L.map (·.s)).take i ++ x.s :: ((L.map (·.s)).drop i).take (k + 1 - i))) := by
      have h1 := HI.out.more hnk.out V2.out B2.out (by rw [HCL.out]; exact HO5.out) HG5.out ⟨OK.out.b8, OK.out.z⟩
      have h2 : ((L.map (·.s)).drop i).take (k + 1 - i) = ((L.map (·.s)).drop i).take (k - i) ++ [t.s] := by
       rw [show k + 1 - i = k - i + 1 by omega, List.take_add_one, List.getElem?_drop, show i + (k - i) = k by omega, HG.out]; rfl
      rw [h2, ← List.cons_append, ← List.append_assoc]; exact h1
     have HCL2 : Hid ((C ++ [(⟨na, nc, t.s⟩ : Tx)]).length = k + 1 + 1) := by show _ = _; rw [List.length_append, List.length_singleton, HCL.out]
     clear V2 B2 R2 HO5 HG5
     go_wp2_with fail
     go_roundw
     case rel => exact ⟨_, _, k + 1, rfl, by go_num, by omega, by omega, HCL2, HNEW⟩
     case measure => simp [intOf]; omega
    ·have j1 : ¬ (k : Int) < (l : Int) := by omega
     obtain rfl : k = l := by omega
     have HF : Hid (MkP w (insL (L.map (·.s)) i x.s) (k + 1) (.returned (.slice va (k + 1) vc)) wr) := by
      have hs := HI.out.s
      have ht : ((L.map (·.s)).drop i).take (k - i) = (L.map (·.s)).drop i := List.take_of_length_le (by rw [List.length_drop, HLP.out]; exact Nat.le_refl _)
      rw [ht] at hs
      exact ⟨va, vc, C, rfl, hs, HCL.out, HI.out.own HCL.out, HI.out.b⟩
     go_wp2_with fail
     go_ret
     exact HF.out
def cutK (l : List (List Int)) (at' k : Nat) : List (List Int) := if k ≤ at' then l.take k else l.take at' ++ (l.drop (at' + 1)).take (k - at' - 1)
theorem cutK_end {l : List (List Int)} {at' : Nat} (h : at' < l.length) : cutK l at' l.length = remL l at' := by
 unfold cutK remL
 rw [if_neg (by omega), List.take_of_length_le (i := l.length - at' - 1) (by rw [List.length_drop]; omega)]
theorem cutK_same {l : List (List Int)} {at' : Nat} : cutK l at' (at' + 1) = cutK l at' at' := by
 unfold cutK
 rw [if_neg (by omega), if_pos (Nat.le_refl _), show at' + 1 - at' - 1 = 0 by omega, List.take_zero, List.append_nil]
theorem cutK_next {l : List (List Int)} {at' k : Nat} {x : List Int} (hx : l[k]? = some x) (hk : k ≠ at') : cutK l at' (k + 1) = cutK l at' k ++ [x] := by
 unfold cutK
 by_cases h : k < at'
 ·rw [if_pos (by omega), if_pos (by omega), List.take_add_one, hx]; rfl
 ·rw [if_neg (by omega), if_neg (by omega), show k + 1 - at' - 1 = k - at' - 1 + 1 by omega, List.take_add_one, List.getElem?_drop, show at' + 1 + (k - at' - 1) = k by omega, hx, List.append_assoc]; rfl
theorem cutK_len {l : List (List Int)} {at' k : Nat} (h : at' < l.length) (hk : k ≤ l.length) : (cutK l at' k).length = if k ≤ at' then k else k - 1 := by
 unfold cutK
 split
 ·rw [List.length_take]; omega
 ·rw [List.length_append, List.length_take, List.length_take, List.length_drop]; omega
set_option maxRecDepth 100000 in
set_option maxHeartbeats 3200000 in
theorem rcut_any (a : Option Addr) (l c at' : Nat) (L : List Tx) (w : World) (ht : (⟨a, c, L⟩ : TL).Ok w) (hl : L.length = l) (hm : l * 24 ≤ 140737488352000) (ha : at' < l) :
  Calls Tryz.prog 113 #[.slice a l c, .int .i64 (at' : Int)] w (MkP w (remL (L.map (·.s)) at') (l - 1)) := by
 obtain ⟨i0, hi, hz0, hz1, hz2⟩ := info_parts infoT
 have HT : Hid (∀ W, Below w.heap.size w W → (⟨a, c, L⟩ : TL).Ok W) := fun W h => ht.below h
 replace hl := hide hl
 clear ht
 have HLP : Hid ((L.map (·.s)).length = l) := by show _ = _; rw [List.length_map, hl.out]
 have HGE : Hid (∀ i (h : i < L.length), (L.map (·.s))[i]? = some L[i].s) := fun i h => by simp [h]
 have HCK : Hid (∀ k, k ≤ l → ∀ C : List Tx, C.map (·.s) = cutK (L.map (·.s)) at' k → C.length = if k ≤ at' then k else k - 1) := fun k hk C hC => by
  rw [← cutK_len (l := L.map (·.s)) (by rw [HLP.out]; exact ha) (by rw [HLP.out]; exact hk), ← hC, List.length_map]
 go_enter Tryz.func113, Tryz.ntmps113
 go_wp2_with fail
 go_loopw [5, 6] (fun q3 q4 wr => ∃ (v : Value) (C : List Tx) (k : Nat), q3 = v ∧ q4 = .int .i64 (k : Int) ∧ k ≤ l ∧ Hid (MkI w wr v C (cutK (L.map (·.s)) at' k))) (fun _ q4 _ => l - (intOf q4).toNat)
 case atStart => exact ⟨_, [], 0, rfl, rfl, Nat.zero_le _, by unfold cutK; rw [if_pos (Nat.zero_le _), List.take_zero]; exact MkI.nil w w (Below.refl _ _)⟩
 case round =>
  obtain ⟨v, C, k, rfl, rfl, hle, HI⟩ := hrel
  rename World => wr
  obtain ⟨i, hic⟩ : ∃ i, C.length = i := ⟨_, rfl⟩
  have hi2 := HCK.out k hle C HI.out.s
  rw [hic] at hi2
  have hil : i ≤ l := by split at hi2 <;> omega
  replace hi2 := hide hi2
  replace hic := hide hic
  obtain ⟨va, vc, hve, _, _⟩ := vok_of_owns HI.out.row
  rw [hic.out] at hve
  subst hve
  by_cases hlt : k < l
  ·have j1 : (k : Int) < (l : Int) := by omega
   have hiL : k < L.length := by rw [hl.out]; omega
   by_cases hka : k = at'
   ·subst hka
    have HNEW : Hid (MkI w wr (.slice va i vc) C (cutK (L.map (·.s)) k (k + 1))) := by show MkI _ _ _ _ _; rw [cutK_same]; exact HI.out
    go_wp2_with fail
    go_roundw
    case rel => exact ⟨_, C, k + 1, rfl, by go_num, by omega, HNEW⟩
    case measure => simp [intOf]; omega
   ·have hne : ((k : Int) != (at' : Int)) = true := by rw [bne_iff_ne]; omega
    have hT := HT.out wr HI.out.b
    obtain ⟨b, o, hae, s0⟩ := hT.r k hiL
    simp only at hae
    subst hae
    have OK := hide (hT.ok L[k] (List.getElem_mem hiL))
    have HG := hide (HGE.out k hiL)
    obtain ⟨t, hx⟩ : ∃ t, t = L[k] := ⟨_, rfl⟩
    simp only [← hx] at s0 OK HG
    unfold Tx.v at s0
    obtain ⟨nk, hnk⟩ : ∃ nk, t.s.length = nk := ⟨_, rfl⟩
    rw [hnk] at s0
    have HBY := hide (rbytes_any t.a nk t.c t.s wr hnk (by have := OK.out.z; omega) (by have := OK.out.n; rw [hnk] at this; exact this) OK.out.r)
    replace hnk := hide hnk
    have HRW : Hid (wr.ownsRow w.heap.size 23 1 (.slice va i vc) i (C.map Tx.v)) := by have := HI.out.row; rw [hic.out] at this; exact this
    have HKA : Hid (k ≠ at') := hka
    clear hT hx hka
    go_wp2_with fail
    refine HBY.out.mono ?_
    rintro e w2 ⟨v2, rfl, hv2, hb2⟩
    obtain ⟨na, nc, hve, _, _, _⟩ := hv2.slice
    rw [hnk.out] at hve
    subst hve
    have V2 := hide hv2
    have B2 := hide hb2
    have R2 := hide (owns_below HRW.out hb2)
    clear hv2 hb2 HBY s0
    have hsz := B2.out.size
    have hsw := HI.out.b.size
    go_wp2_with (first
     | (at_builtin; refine append_own_any rfl (.tmp 16) (.tmp 22) 30 rfl w.heap.size 23 i0 (.slice none 0 0) 1 24 Tryz.underlying30 hi hz0 hz1 hz2 rfl (by decide) (.slice va i vc) i (C.map Tx.v) rfl (owns_below R2.out ((Below.refl _ _).alloc (Nat.le_refl _) _)) (some ⟨w2.heap.size, 0, none⟩) 1 1 [.slice na nk nc] rfl rfl (by intro h; cases h) (by intro ad had; cases had; exact one_new _ _ _) (by intro u hu; simp at hu; subst hu; rfl) (by unfold maxLen; omega) (by omega) (by simp; omega) ?_; intro v5 w5 hown5 hg5; have HO5 := hide hown5; have HG5 := hide hg5; clear hown5 hg5)
     | fail)
    have HNEW : Hid (MkI w w5 v5 (C ++ [⟨na, nc, t.s⟩]) (cutK (L.map (·.s)) at' (k + 1))) := by
     show MkI _ _ _ _ _
     rw [cutK_next HG.out HKA.out]
     exact HI.out.more hnk.out V2.out B2.out (by rw [hic.out]; exact HO5.out) HG5.out ⟨OK.out.b8, OK.out.z⟩
    clear V2 B2 R2 HO5 HG5
    go_wp2_with fail
    go_roundw
    case rel => exact ⟨_, C ++ [⟨na, nc, t.s⟩], k + 1, rfl, by go_num, by omega, HNEW⟩
    case measure => simp [intOf]; omega
  ·have j1 : ¬ (k : Int) < (l : Int) := by omega
   obtain rfl : k = l := by omega
   have HF : Hid (MkP w (remL (L.map (·.s)) at') (k - 1) (.returned (.slice va i vc)) wr) := by
    have hs := HI.out.s
    have he := cutK_end (l := L.map (·.s)) (at' := at') (by rw [HLP.out]; exact ha)
    rw [HLP.out] at he
    rw [he] at hs
    have h3 := hi2.out
    rw [if_neg (by omega)] at h3
    subst h3
    exact ⟨va, vc, C, rfl, hs, hic.out, HI.out.own hic.out, HI.out.b⟩
   go_wp2_with fail
   go_ret
   exact HF.out
end Go.Proofs.YtealejbfloacpaaGreat
namespace Go.Proofs.YtealejbfloacpaaGreat
open Go.RowKit
set_option maxRecDepth 100000
theorem TCells.takeN {W : World} {a : Option Addr} {L : List Tx} (h : TCells W a L) (n : Nat) : TCells W a (L.take n) := by
 intro i hi
 have hi' : i < n ∧ i < L.length := by rw [List.length_take] at hi; omega
 obtain ⟨b, o, ha, hc⟩ := h i hi'.2
 refine ⟨b, o, ha, ?_⟩
 rw [List.getElem_take]; exact hc
theorem TCells.dropN {W : World} {a : Option Addr} {L : List Tx} (h : TCells W a L) (n m : Nat) (hm : L.length ≤ m) : TCells W (cutAt a n m) (L.drop n) := by
 intro i hi
 have hi' : n + i < L.length := by rw [List.length_drop] at hi; omega
 obtain ⟨b, o, rfl, hc⟩ := h (n + i) hi'
 refine ⟨b, o + n, ?_, ?_⟩
 ·unfold cutAt; rw [if_neg (by omega)]; simp [Addr.add_lit]
 ·rw [List.getElem_drop, Nat.add_assoc]; exact hc
theorem row_takeN {W : World} {k : IntKind} {a : Option Addr} {s : List Int} (h : Row W k a s) (n : Nat) : Row W k a (s.take n) := by
 intro i hi
 have hi' : i < n ∧ i < s.length := by rw [List.length_take] at hi; omega
 obtain ⟨b, o, ha, hc⟩ := h i hi'.2
 refine ⟨b, o, ha, ?_⟩
 rw [List.getD_eq_getElem?_getD, List.getElem?_take_of_lt hi'.1, ← List.getD_eq_getElem?_getD]; exact hc
theorem row_dropN {W : World} {k : IntKind} {a : Option Addr} {s : List Int} (h : Row W k a s) (n m : Nat) (hm : s.length ≤ m) : Row W k (cutAt a n m) (s.drop n) := by
 intro i hi
 have hi' : n + i < s.length := by rw [List.length_drop] at hi; omega
 obtain ⟨b, o, rfl, hc⟩ := h (n + i) hi'
 refine ⟨b, o + n, ?_, ?_⟩
 ·unfold cutAt; rw [if_neg (by omega)]; simp [Addr.add_lit]
 ·rw [List.getD_eq_getElem?_getD, List.getElem?_drop, ← List.getD_eq_getElem?_getD, Nat.add_assoc]; exact hc
def NP.wd (p : NP) : Nat := if p.lv = 0 then p.ks.length else p.cs.length
def NP.half (p : NP) : Nat := (p.wd + 1) / 2
def NP.cutK (p : NP) : Nat := if p.lv = 0 then p.half else p.half - 1
def NP.bet (p : NP) : List Int := (p.ks.drop p.cutK).headD []
def NP.restK (p : NP) : List (List Int) := if p.lv = 0 then p.ks.drop p.cutK else (p.ks.drop p.cutK).drop 1
def NP.one (p : NP) (right : Int) : NP := ⟨p.lv, p.bet, right, p.ks.take p.cutK, p.vs.take p.half, p.cs.take p.half⟩
def NP.two (p : NP) : NP := ⟨p.lv, p.hi, p.ri, p.restK, p.vs.drop p.half, p.cs.drop p.half⟩
end Go.Proofs.YtealejbfloacpaaGreat
namespace Go.Proofs.YtealejbfloacpaaGreat
open Go.RowKit
set_option maxRecDepth 100000
theorem NP.bet_at (p : NP) : p.bet = p.ks.getD p.cutK [] := by
 unfold NP.bet
 generalize p.cutK = c
 rw [List.headD_eq_head?_getD, List.head?_drop, List.getD_eq_getElem?_getD]
theorem wd_few {p : NP} (h : RtP p) : p.wd = if 0 < p.lv then p.cs.length else p.ks.length := by
 unfold NP.wd
 rcases h.2 with h1 | h1
 ·rw [if_pos h1.1, if_neg (by omega)]
 ·rw [if_neg (by omega), if_pos h1.1]
theorem cutK_lt {p : NP} (h : RtP p) (hw : 2 ≤ p.wd) : p.cutK < p.ks.length := by
 have e := wd_few h
 unfold NP.cutK NP.half
 rcases h.2 with h1 | h1
 ·rw [if_pos h1.1]; rw [if_neg (by omega)] at e; omega
 ·rw [if_neg (by omega)]; rw [if_pos h1.1] at e; omega
end Go.Proofs.YtealejbfloacpaaGreat
