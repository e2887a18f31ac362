/- The document's Clone. -/
import Derived.Test.YtpljbgcofmlhbaaGreatG20
namespace Go.Proofs.YtpljbgcofmlhbaaGreat
open Go.RowKit
set_option maxRecDepth 100000
theorem blk_any {W : World} {b : Nat} {T : TypeId} {x0 x1 x2 x3 x4 x5 : Value} (h : W.heap[b]? = some (.cells #[x0, x1, x2, x3, x4, x5] T (0, 0))) (y : Value) :
  (W.setCell ⟨b, 0, none⟩ y).heap[b]? = some (.cells #[y, x1, x2, x3, x4, x5] T (0, 0)) ∧ (W.setCell ⟨b, 1, none⟩ y).heap[b]? = some (.cells #[x0, y, x2, x3, x4, x5] T (0, 0)) ∧ (W.setCell ⟨b, 2, none⟩ y).heap[b]? = some (.cells #[x0, x1, y, x3, x4, x5] T (0, 0)) :=
 ⟨block_setCell h 0 y, block_setCell h 1 y, block_setCell h 2 y⟩
def RcPost (w : World) (n : Nd) (e : Ending) (w' : World) : Prop :=
 ∃ (m : Nd) (N1 N2 : Nat), e = .returned m.v ∧ m.p = n.p ∧ m.Own w' w.heap.size ∧ Below w.heap.size w w' ∧ (∀ k, m.hi.v.ownBlock = some k → k < N1) ∧ m.ks.Own w' N1 ∧ (∀ k, m.ks.v.ownBlock = some k → k < N2) ∧ m.vs.Own w' N2 ∧ N1 ≤ N2
set_option maxRecDepth 100000 in
set_option maxHeartbeats 3200000 in
theorem rclone_any (n : Nd) (w : World) (hn : n.Ok w) :
  Calls Tryz.prog 107 #[n.v] w (RcPost w n) := by
 obtain ⟨i0, hi, hz0, hz1, hz2⟩ := info_parts infoI
 obtain ⟨lv, ⟨ha, hc, hs⟩, ri, ⟨ka, kc, K⟩, ⟨va, vc, V⟩, ⟨ca, cc, C⟩⟩ := n
 have HH : Hid (∀ W, Below w.heap.size w W → Calls Tryz.prog 108 #[.slice ha hs.length hc] W fun e w' => ∃ v, e = .returned v ∧ OwnB w' W.heap.size 5 v hs ∧ Below W.heap.size W w') := fun W h => rbytes_any ha hs.length hc hs W rfl (by have := hn.h.z; simp only at this; omega) hn.h.n (hn.h.below h).r
 have HK : Hid (∀ W, Below w.heap.size w W → Calls Tryz.prog 111 #[.slice ka K.length kc] W (CtP W K K.length)) := fun W h => rtexts_any ka K.length kc K W (hn.k.below h) rfl (by have := hn.kz; simp only at this; omega)
 have HV : Hid (∀ W, Below w.heap.size w W → Calls Tryz.prog 111 #[.slice va V.length vc] W (CtP W V V.length)) := fun W h => rtexts_any va V.length vc V W (hn.v.below h) rfl (by have := hn.vz; simp only at this; omega)
 have HC : Hid (∀ W, Below w.heap.size w W → VOk W ca cc (C.map (Value.int .i64))) := fun W h => (hn.c.below h).vok
 have hcz := hn.cz
 have HKZ := hide hn.kz
 have HVZ := hide hn.vz
 have HB8 : Hid (B8 hs ∧ hs.length ≤ 140737488351232) := ⟨hn.h.b8, hn.h.z⟩
 clear hn
 simp only at hcz HKZ HVZ
 have HCZ := hide hcz
 simp only [Nd.v, Tx.v, TL.v, IL.v]
 obtain ⟨lh, hlh⟩ : ∃ lh, hs.length = lh := ⟨_, rfl⟩
 obtain ⟨lk, hlk⟩ : ∃ lk, K.length = lk := ⟨_, rfl⟩
 obtain ⟨lw, hlw⟩ : ∃ lw, V.length = lw := ⟨_, rfl⟩
 obtain ⟨lc, hlc⟩ : ∃ lc, C.length = lc := ⟨_, rfl⟩
 rw [hlh] at HH
 rw [hlk] at HK
 rw [hlw] at HV
 rw [hlc] at hcz
 rw [hlh, hlk, hlw, hlc]
 replace hlh := hide hlh
 replace hlk := hide hlk
 replace hlw := hide hlw
 replace hlc := hide hlc
 obtain ⟨w0, hw0⟩ : ∃ w0, w0 = ((w.alloc (.cells #[.int .i64 lv, .slice ha lh hc, .int .i64 ri, .slice ka lk kc, .slice va lw vc, .slice ca lc cc] 36)).alloc (.cells #[.int .i64 0, .slice none 0 0, .int .i64 0, .slice none 0 0, .slice none 0 0, .slice none 0 0] 36)).alloc (.cells #[.int .i64 lv, .slice none 0 0, .int .i64 0, .slice none 0 0, .slice none 0 0, .slice none 0 0] 36) := ⟨_, rfl⟩
 have z0 : w0.heap.size = w.heap.size + 3 := by rw [hw0]; simp
 have B0 : Hid (Below w.heap.size w w0) := by show Below _ _ _; rw [hw0]; exact (((Below.refl _ _).alloc (Nat.le_refl _) _).alloc (by simp) _).alloc (by simp; omega) _
 have a0 : w0.heap[w.heap.size]? = some (.cells #[.int .i64 lv, .slice ha lh hc, .int .i64 ri, .slice ka lk kc, .slice va lw vc, .slice ca lc cc] 36 (0, 0)) := by
  rw [hw0, Below.heap_alloc _ _ _ (by simp; omega), Below.heap_alloc _ _ _ (by simp)]; exact heap_alloc_new w _
 have r0 : w0.heap[w.heap.size + 1]? = some (.cells #[.int .i64 0, .slice none 0 0, .int .i64 0, .slice none 0 0, .slice none 0 0, .slice none 0 0] 36 (0, 0)) := by
  rw [hw0, Below.heap_alloc _ _ _ (by simp), show w.heap.size + 1 = (w.alloc (.cells #[.int .i64 lv, .slice ha lh hc, .int .i64 ri, .slice ka lk kc, .slice va lw vc, .slice ca lc cc] 36)).heap.size by simp]; exact heap_alloc_new _ _
 have x0 : w0.heap[w.heap.size + 1 + 1]? = some (.cells #[.int .i64 lv, .slice none 0 0, .int .i64 0, .slice none 0 0, .slice none 0 0, .slice none 0 0] 36 (0, 0)) := by
  rw [hw0, show w.heap.size + 1 + 1 = ((w.alloc (.cells #[.int .i64 lv, .slice ha lh hc, .int .i64 ri, .slice ka lk kc, .slice va lw vc, .slice ca lc cc] 36)).alloc (.cells #[.int .i64 0, .slice none 0 0, .int .i64 0, .slice none 0 0, .slice none 0 0, .slice none 0 0] 36)).heap.size by simp]; exact heap_alloc_new _ _
 have A0 := hide a0
 have R0 := hide r0
 have X0 := hide x0
 have Z0 := hide z0
 have HW0 := hide hw0
 clear hw0 a0 r0 x0 z0
 go_enter Tryz.func107, Tryz.ntmps107
 go_wp2_with fail
 rw [← HW0.out]
 refine (HH.out w0 B0.out).mono ?_
 rintro e w1 ⟨v1, rfl, hv1, b1⟩
 obtain ⟨hna, hnc, hve, _, _, _⟩ := hv1.slice
 rw [hlh.out] at hve
 subst hve
 have V1 := hide hv1
 have B1 := hide (B0.out.trans (b1.mono B0.out.size))
 have A1 : Hid (w1.heap[w.heap.size]? = _) := (b1.block _ (lt_of_block A0.out)).trans A0.out
 have R1 : Hid (w1.heap[w.heap.size + 1]? = _) := (b1.block _ (lt_of_block R0.out)).trans R0.out
 have X1 : Hid (w1.heap[w.heap.size + 1 + 1]? = _) := (b1.block _ (lt_of_block X0.out)).trans X0.out
 have hs1 := b1.size
 have hs0 := Z0.out
 obtain ⟨c0, c1, c2, c3, c4, c5⟩ := Six.of A1.out
 obtain ⟨x0, x1, x2, x3, x4, x5⟩ := Six.of X1.out
 have f1 := fun j => frozen_of X1.out j
 obtain ⟨w2, hw2⟩ : ∃ w2, w2 = (w1.setCell ⟨w.heap.size + 1 + 1, 1, none⟩ (.slice hna lh hnc)).setCell ⟨w.heap.size + 1 + 1, 2, none⟩ (.int .i64 ri) := ⟨_, rfl⟩
 have U2 : Hid (Upd (fun b => b = w.heap.size + 1 ∨ b = w.heap.size + 1 + 1) w1 w2) := by show Upd _ _ _; rw [hw2]; exact ((Upd.refl _ w1).setCell _ _ (fun _ => .inr rfl)).setCell _ _ (fun _ => .inr rfl)
 have X2 : Hid (w2.heap[w.heap.size + 1 + 1]? = some (.cells #[.int .i64 lv, .slice hna lh hnc, .int .i64 ri, .slice none 0 0, .slice none 0 0, .slice none 0 0] 36 (0, 0))) := by show _ = _; rw [hw2]; exact (blk_any (blk_any X1.out _).2.1 _).2.2
 have A2 : Hid (w2.heap[w.heap.size]? = _) := U2.out.heap A1.out (by omega)
 have R2 : Hid (w2.heap[w.heap.size + 1]? = some (.cells #[.int .i64 0, .slice none 0 0, .int .i64 0, .slice none 0 0, .slice none 0 0, .slice none 0 0] 36 (0, 0))) := by show _ = _; rw [hw2]; exact ((Below.heap_setCell _ _ _ _ (by simp)).trans (Below.heap_setCell _ _ _ _ (by simp))).trans R1.out
 have B2 : Hid (Below w.heap.size w w2) := B1.out.trans (U2.out.below B1.out.size (fun k hk e => by omega))
 have hs2 := U2.out.size
 have HW2 := hide hw2
 clear hw2 hv1 b1 HW0 HH
 go_wp2_with fail
 rw [← HW2.out]
 refine (HK.out w2 B2.out).mono ?_
 rintro e w3 ⟨kna, knc, K', rfl, hp3, hl3, ho3, b3⟩
 have O3 := hide ho3
 have P3 := hide hp3
 have L3 := hide hl3
 have B3 := hide (B2.out.trans (b3.mono B2.out.size))
 have A3 : Hid (w3.heap[w.heap.size]? = _) := (b3.block _ (lt_of_block A2.out)).trans A2.out
 have R3 : Hid (w3.heap[w.heap.size + 1]? = _) := (b3.block _ (lt_of_block R2.out)).trans R2.out
 have X3 : Hid (w3.heap[w.heap.size + 1 + 1]? = _) := (b3.block _ (lt_of_block X2.out)).trans X2.out
 have B23 := hide b3
 clear ho3 hp3 hl3 b3 HW2 HK c0 c1 c2 c3 c4 c5 x0 x1 x2 x3 x4 x5 f1
 have hs3 := B23.out.size
 obtain ⟨c0, c1, c2, c3, c4, c5⟩ := Six.of A3.out
 obtain ⟨x0, x1, x2, x3, x4, x5⟩ := Six.of X3.out
 have f3 := fun j => frozen_of X3.out j
 obtain ⟨w4, hw4⟩ : ∃ w4, w4 = w3.setCell ⟨w.heap.size + 1 + 1, 3, none⟩ (.slice kna lk knc) := ⟨_, rfl⟩
 have U4 : Hid (Upd (fun b => b = w.heap.size + 1 ∨ b = w.heap.size + 1 + 1) w3 w4) := by show Upd _ _ _; rw [hw4]; exact (Upd.refl _ w3).setCell _ _ (fun _ => .inr rfl)
 have X4 : Hid (w4.heap[w.heap.size + 1 + 1]? = some (.cells #[.int .i64 lv, .slice hna lh hnc, .int .i64 ri, .slice kna lk knc, .slice none 0 0, .slice none 0 0] 36 (0, 0))) := by show _ = _; rw [hw4]; exact (blk_one X3.out _).1
 have A4 : Hid (w4.heap[w.heap.size]? = _) := U4.out.heap A3.out (by omega)
 have R4 : Hid (w4.heap[w.heap.size + 1]? = some (.cells #[.int .i64 0, .slice none 0 0, .int .i64 0, .slice none 0 0, .slice none 0 0, .slice none 0 0] 36 (0, 0))) := by show _ = _; rw [hw4]; exact (Below.heap_setCell _ _ _ _ (by simp)).trans R3.out
 have B4 : Hid (Below w.heap.size w w4) := B3.out.trans (U4.out.below B3.out.size (fun k hk e => by omega))
 have hs4 := U4.out.size
 have HW4 := hide hw4
 clear hw4
 go_wp2_with fail
 rw [← HW4.out]
 refine (HV.out w4 B4.out).mono ?_
 rintro e w5 ⟨vna, vnc, V', rfl, hp5, hl5, ho5, b5⟩
 have O5 := hide ho5
 have P5 := hide hp5
 have L5 := hide hl5
 have B5 := hide (B4.out.trans (b5.mono B4.out.size))
 have A5 : Hid (w5.heap[w.heap.size]? = _) := (b5.block _ (lt_of_block A4.out)).trans A4.out
 have R5 : Hid (w5.heap[w.heap.size + 1]? = _) := (b5.block _ (lt_of_block R4.out)).trans R4.out
 have X5 : Hid (w5.heap[w.heap.size + 1 + 1]? = _) := (b5.block _ (lt_of_block X4.out)).trans X4.out
 have B45 := hide b5
 clear ho5 hp5 hl5 b5 HW4 HV c0 c1 c2 c3 c4 c5 x0 x1 x2 x3 x4 x5 f3
 have hs5 := B45.out.size
 obtain ⟨c0, c1, c2, c3, c4, c5⟩ := Six.of A5.out
 obtain ⟨x0, x1, x2, x3, x4, x5⟩ := Six.of X5.out
 have f5 := fun j => frozen_of X5.out j
 obtain ⟨w6, hw6⟩ : ∃ w6, w6 = w5.setCell ⟨w.heap.size + 1 + 1, 4, none⟩ (.slice vna lw vnc) := ⟨_, rfl⟩
 have U6 : Hid (Upd (fun b => b = w.heap.size + 1 ∨ b = w.heap.size + 1 + 1) w5 w6) := by show Upd _ _ _; rw [hw6]; exact (Upd.refl _ w5).setCell _ _ (fun _ => .inr rfl)
 have X6 : Hid (w6.heap[w.heap.size + 1 + 1]? = some (.cells #[.int .i64 lv, .slice hna lh hnc, .int .i64 ri, .slice kna lk knc, .slice vna lw vnc, .slice none 0 0] 36 (0, 0))) := by show _ = _; rw [hw6]; exact (blk_one X5.out _).2.1
 have A6 : Hid (w6.heap[w.heap.size]? = _) := U6.out.heap A5.out (by omega)
 have R6 : Hid (w6.heap[w.heap.size + 1]? = some (.cells #[.int .i64 0, .slice none 0 0, .int .i64 0, .slice none 0 0, .slice none 0 0, .slice none 0 0] 36 (0, 0))) := by show _ = _; rw [hw6]; exact (Below.heap_setCell _ _ _ _ (by simp)).trans R5.out
 have B6 : Hid (Below w.heap.size w w6) := B5.out.trans (U6.out.below B5.out.size (fun k hk e => by omega))
 have hs6 := U6.out.size
 have HW6 := hide hw6
 have HC6 := hide (HC.out w6 B6.out)
 clear hw6
 go_wp2_with (first
  | (at_builtin; rw [← HW6.out]; refine append_own_any rfl (.tmp 34) (.tmp 37) 32 rfl w6.heap.size 3 i0 (.int .i64 0) 1 8 Tryz.underlying32 hi hz0 hz1 hz2 rfl (by decide) (.slice none 0 0) 0 [] rfl (World.ownsRow_nil _ _ _ _) ca lc cc (C.map (Value.int .i64)) rfl (by rw [List.length_map, hlc.out]; omega) (fun e => by have := HC6.out.n e; rw [List.length_map, hlc.out] at this; exact this) HC6.out.r.news (i_oneCell C) (by unfold maxLen; omega) (by omega) (Nat.le_refl _) ?_; intro v7 w7 hown7 hg7; obtain ⟨cna, cnc, rfl, _, _⟩ := vok_of_owns hown7; have hg7' : w6.grownBy w7 none := hg7; have X7 : Hid (w7.heap[w.heap.size + 1 + 1]? = _) := (hg7'.block _ (lt_of_block X6.out) (by simp)).trans X6.out; have R7 : Hid (w7.heap[w.heap.size + 1]? = _) := (hg7'.block _ (lt_of_block R6.out) (by simp)).trans R6.out; have HO7 := hide hown7; have HG7 := hide hg7'; clear hown7 hg7 hg7' c0 c1 c2 c3 c4 c5 x0 x1 x2 x3 x4 x5 f5; obtain ⟨x0, x1, x2, x3, x4, x5⟩ := Six.of X7.out; have f7 := fun j => frozen_of X7.out j; obtain ⟨y0, y1, y2, y3, y4, y5⟩ := Six.of R7.out; have f8 := fun j => frozen_of R7.out j)
  | fail)
 (try simp only [Exit.inBlock, Exit.then])
 have hO7 := HO7.out
 simp only [List.nil_append, Nat.zero_add] at hO7
 have hs7 := HG7.out.size
 have B67 : Below w6.heap.size w6 w7 := (Below.refl _ _).grown HG7.out (Nat.le_refl _) (fun k h => by cases h)
 obtain ⟨m, hm⟩ : ∃ m : Nd, m = ⟨lv, ⟨hna, hnc, hs⟩, ri, ⟨kna, knc, K'⟩, ⟨vna, vnc, V'⟩, ⟨cna, cnc, C⟩⟩ := ⟨_, rfl⟩
 obtain ⟨w8, hw8⟩ : ∃ w8, w8 = w7.setCell ⟨w.heap.size + 1 + 1, 5, none⟩ (.slice cna lc cnc) := ⟨_, rfl⟩
 have U78 : Upd (fun b => b = w.heap.size + 1 ∨ b = w.heap.size + 1 + 1) w7 w8 := by rw [hw8]; exact (Upd.refl _ w7).setCell _ _ (fun _ => .inr rfl)
 have R8 : w8.heap[w.heap.size + 1]? = some (.cells #[.int .i64 0, .slice none 0 0, .int .i64 0, .slice none 0 0, .slice none 0 0, .slice none 0 0] 36 (0, 0)) := by rw [hw8]; exact (Below.heap_setCell _ _ _ _ (by simp)).trans R7.out
 have U68 : Upd (fun b => b = w.heap.size + 1 ∨ b = w.heap.size + 1 + 1) w6 w8 := (Upd.of_below B67 _).trans U78
 have U58 := U6.out.trans U68
 have U48 := (Upd.of_below B45.out _).trans U58
 have U38 := U4.out.trans U48
 have U28 := (Upd.of_below B23.out _).trans U38
 have U18 := U2.out.trans U28
 have far : ∀ (N b : Nat) (W : World), w.heap.size + 3 ≤ N → N ≤ b → b < W.heap.size → ¬ (b = w.heap.size + 1 ∨ b = w.heap.size + 1 + 1) := fun N b W h1 h2 _ h3 => by omega
 have OWN : m.Own w8 (w.heap.size + 3) := by
  rw [hm]
  have V1' : OwnB w1 w0.heap.size 5 (.slice hna lh hnc) hs := V1.out
  refine ⟨?_, HB8.out, ?_, ?_, ?_, ?_, ?_, HCZ.out⟩
  ·simp only [Tx.v, hlh.out]
   exact (ownB_upd' V1' U18 (fun b => far _ b _ (by omega))).mono (by omega)
  ·exact ((O3.out).upd U38 (fun b => far _ b _ (by omega))).mono (by omega)
  ·exact ((O5.out).upd U58 (fun b => far _ b _ (by omega))).mono (by omega)
  ·simp only [IL.v, hlc.out]
   exact owns_mono (ownsI_upd hO7 U78 (fun b => far _ b _ (by omega))) (by omega)
  ·have := HKZ.out; rw [hlk.out] at this; simp only [L3.out]; exact this
  ·have := HVZ.out; rw [hlw.out] at this; simp only [L5.out]; exact this
 have HPP : m.p = (⟨lv, ⟨ha, hc, hs⟩, ri, ⟨ka, kc, K⟩, ⟨va, vc, V⟩, ⟨ca, cc, C⟩⟩ : Nd).p := by
  rw [hm]
  simp only [Nd.p, TL.p]
  rw [show K'.map (·.s) = K.map (·.s) from P3.out, show V'.map (·.s) = V.map (·.s) from P5.out]
 have B8 : Below w.heap.size w w8 := B6.out.trans (U68.below B6.out.size (fun k hk e => by omega))
 obtain ⟨hF, q0, q1, q2, q3, q4, q5⟩ := tail_six (w := w) R8 OWN HPP (by omega) (by omega) B8
 rw [hm] at q0 q1 q2 q3 q4 q5 hF
 have U9 : Upd (fun b => b = w.heap.size + 1) w8 (sixN w8 (w.heap.size + 1) ⟨lv, ⟨hna, hnc, hs⟩, ri, ⟨kna, knc, K'⟩, ⟨vna, vnc, V'⟩, ⟨cna, cnc, C⟩⟩) := six_upd _ _ _ _ _ _ _ _ _ rfl
 have hF2 : RcPost w ⟨lv, ⟨ha, hc, hs⟩, ri, ⟨ka, kc, K⟩, ⟨va, vc, V⟩, ⟨ca, cc, C⟩⟩ (.returned (Nd.v ⟨lv, ⟨hna, hnc, hs⟩, ri, ⟨kna, knc, K'⟩, ⟨vna, vnc, V'⟩, ⟨cna, cnc, C⟩⟩)) (sixN w8 (w.heap.size + 1) ⟨lv, ⟨hna, hnc, hs⟩, ri, ⟨kna, knc, K'⟩, ⟨vna, vnc, V'⟩, ⟨cna, cnc, C⟩⟩) := by
  obtain ⟨_, _, _, _, b'⟩ := hF
  refine ⟨⟨lv, ⟨hna, hnc, hs⟩, ri, ⟨kna, knc, K'⟩, ⟨vna, vnc, V'⟩, ⟨cna, cnc, C⟩⟩, w2.heap.size, w4.heap.size, rfl, by rw [← hm]; exact HPP, ?_, b', ?_, ?_, ?_, ?_, by omega⟩
  ·have h1 := OWN.upd (by rw [← hm] at U9; exact U9) (fun i h1 _ e => by omega)
   rw [hm] at h1
   exact h1.mono (by omega)
  ·intro k hk
   have V1' : OwnB w1 w0.heap.size 5 (.slice hna lh hnc) hs := V1.out
   simp only [Tx.v, hlh.out] at hk
   have := (V1'.owns.lt k hk).2
   omega
  ·exact ((O3.out).upd U38 (fun b => far _ b _ (by omega))).upd U9 (fun b h1 _ e => by omega)
  ·intro k hk
   have := (O3.out.row.lt k hk).2
   omega
  ·exact ((O5.out).upd U58 (fun b => far _ b _ (by omega))).upd U9 (fun b h1 _ e => by omega)
 clear hF
 have hF := hF2
 simp only [Nd.v, Tx.v, TL.v, IL.v, hlh.out, L3.out, L5.out, hlc.out] at q0 q1 q2 q3 q4 q5 hF
 have HW : Hid (sixN w8 (w.heap.size + 1) ⟨lv, ⟨hna, hnc, hs⟩, ri, ⟨kna, knc, K'⟩, ⟨vna, vnc, V'⟩, ⟨cna, cnc, C⟩⟩ = (((((w8.setCell ⟨w.heap.size + 1, 0, none⟩ (.int .i64 lv)).setCell ⟨w.heap.size + 1, 1, none⟩ (.slice hna lh hnc)).setCell ⟨w.heap.size + 1, 2, none⟩ (.int .i64 ri)).setCell ⟨w.heap.size + 1, 3, none⟩ (.slice kna lk knc)).setCell ⟨w.heap.size + 1, 4, none⟩ (.slice vna lw vnc)).setCell ⟨w.heap.size + 1, 5, none⟩ (.slice cna lc cnc)) := by
  show _ = _
  simp only [sixN, six6, Tx.v, TL.v, IL.v, hlh.out, L3.out, L5.out, hlc.out]
 rw [← hw8, ← HW.out]
 exact bodyPost_ret (v := .agg #[.int .i64 lv, .slice hna lh hnc, .int .i64 ri, .slice kna lk knc, .slice vna lw vnc, .slice cna lc cnc]) (by simp [results, Tryz.results107, go_sem, q0, q1, q2, q3, q4, q5]) rfl hF
end Go.Proofs.YtpljbgcofmlhbaaGreat
