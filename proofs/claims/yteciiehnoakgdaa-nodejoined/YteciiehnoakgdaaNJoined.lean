/- NodeJoined: the walk. Written by mkj.py. -/
import Derived.Test.YteciiehnoakgdaaNLent2
import Derived.Test.YteciiehnoakgdaaNWhole
import Derived.Test.YteciiehnoakgdaaNSpoil2
import Derived.Test.YteciiehnoakgdaaNRJoin
import Derived.Test.YteciiehnoakgdaaNLeaf
namespace Go.Proofs.Yteciiehnoakgdaa
open Go.RowKit

set_option maxRecDepth 100000 in
set_option maxHeartbeats 6400000 in
theorem nodeJoined_any (n : Nd) (k : Tx) (kid : Int) (w : World) (hn : n.Ok w) (hk : k.Ok w) (hz1 : n.ks.L.length * 24 ≤ 140737488351300) (hz2 : n.vs.L.length * 24 ≤ 140737488351300) (hz3 : n.cs.s.length * 8 ≤ 140737488351300) :
    Calls Try.prog 7 #[n.v, k.v, .int .i64 kid] w fun e w' => e = .returned (.bool true) ∧ Below w.heap.size w w' := by
  have HN : Hid (∀ W, Below w.heap.size w W → n.Ok W) := fun W h => hn.below h
  have HK : Hid (∀ W, Below w.heap.size w W → k.Ok W) := fun W h => hk.below h
  clear hn hk
  obtain ⟨lf, hlf⟩ : ∃ lf, lf = decide (RtP n.p ∧ 0 < n.lv) := ⟨_, rfl⟩
  obtain ⟨ib, hib⟩ : ∃ ib, ib = (!isIn n.ks.p k.s) := ⟨_, rfl⟩
  have HLF : Hid (∀ W, Below w.heap.size w W → Calls Try.prog 28 #[n.v] W fun e w' => e = .returned (.bool lf) ∧ Below W.heap.size W w') := fun W h => by rw [hlf]; exact inner_any n W (HN.out W h)
  have HLE : Hid (∀ W, Below w.heap.size w W → Calls Try.prog 10 #[n.v] W (LePost W n)) := fun W h => lent_any n W (HN.out W h) (by omega) (by omega) (by omega)
  have HWH : Hid (∀ x : Nd, x.p = n.p → ∀ W, Below w.heap.size w W → x.Ok W → SpN W x → Calls Try.prog 12 #[x.v, n.v] W fun e w' => e = .returned (.bool true) ∧ Below W.heap.size W w') := fun x hx W h ho hs => whole_any x n W ho hs (HN.out W h) hx
  have HXL : Hid (∀ x : Nd, x.p = n.p → x.ks.L.length * 24 ≤ 140737488351900 ∧ x.cs.s.length * 8 ≤ 140737488351900) := fun x hx => by
    have e1 : x.ks.L.length = n.ks.L.length := by rw [← TL.p_len, ← TL.p_len, show x.ks.p = n.ks.p from congrArg NP.ks hx]
    have e2 : x.cs.s.length = n.cs.s.length := by rw [show x.cs.s = n.cs.s from congrArg NP.cs hx]
    omega
  have HWO : Hid (∀ x : Nd, x.p = n.p → ∀ W, Below w.heap.size w W → x.Ok W → Calls Try.prog 29 #[x.v, k.v, .int .i64 kid] W (NdBPost W (n.p.joined k.s kid) ib)) := fun x hx W h ho => by
    have h1 := joined_any x k kid W ho (HK.out W h) (HXL.out x hx).1 (HXL.out x hx).2
    rw [hx, show x.ks.p = n.ks.p from congrArg NP.ks hx, ← hib] at h1; exact h1
  have HRO : Hid (lf = true → ∀ W, Below w.heap.size w W → Calls Try.prog 30 #[n.v, k.v, .int .i64 kid] W (NdBPost W (n.p.joined k.s kid) ib)) := fun hl W h => by
    have h2 : RtP n.p ∧ 0 < n.lv := of_decide_eq_true (hlf.symm.trans hl)
    rw [hib]
    exact rjoined_any n k kid W (HN.out W h) (HK.out W h) h2.1 h2.2 (by omega) (by omega)
  clear hlf hib
  obtain ⟨P, hP⟩ : ∃ P, P = n.p := ⟨_, rfl⟩
  obtain ⟨P2, hP2⟩ : ∃ P2, P2 = n.p.joined k.s kid := ⟨_, rfl⟩
  unfold LePost at HLE
  rw [← hP2] at HWO HRO
  rw [← hP] at HLE HWH HWO
  clear hP hP2 HXL
  obtain ⟨lv, ⟨ha, hc, hs⟩, ri, ⟨ka, kc, K⟩, ⟨va, vc, V⟩, ⟨ca, cc, C⟩⟩ := n
  obtain ⟨xa, xc, xs⟩ := k
  unfold NdBPost NdPost at HWO HRO
  simp only [Nd.v, Tx.v, TL.v, IL.v] at HLF HLE HWH HWO HRO ⊢
  clear HN HK hz1 hz2 hz3
  generalize hs.length = lh at *
  generalize K.length = lk at *
  generalize V.length = lw at *
  generalize C.length = lc at *
  generalize xs.length = lx at *
  obtain ⟨w0, hw0⟩ : ∃ w0, w0 = w.alloc (.cells #[.int .i64 lv, .slice ha lh hc, .int .i64 ri, .slice ka lk kc, .slice va lw vc, .slice ca lc cc] 30) := ⟨_, rfl⟩
  have B0 : Hid (Below w.heap.size w w0) := by show Below _ _ _; rw [hw0]; exact (Below.refl _ _).alloc (Nat.le_refl _) _
  have G0 : Hid (w0.heap[w.heap.size]? = some (.cells #[.int .i64 lv, .slice ha lh hc, .int .i64 ri, .slice ka lk kc, .slice va lw vc, .slice ca lc cc] 30 (0, 0))) := by show _ = _; rw [hw0]; exact heap_alloc_new w _
  have HW0 := hide hw0
  clear hw0
  go_enter Try.func7, Try.ntmps7
  go_wp2_with fail
  rw [← HW0.out]
  refine (head_any w0).mono ?_
  rintro e w1 ⟨rfl, b⟩
  have B1 := hide (B0.out.trans (b.mono B0.out.size))
  have G1 : Hid (w1.heap[w.heap.size]? = _) := (b.block _ (lt_of_block G0.out)).trans G0.out
  clear b HW0
  obtain ⟨c0, c1, c2, c3, c4, c5⟩ := Six.of G1.out
  go_wp2_with fail
  refine (HLF.out w1 B1.out).mono ?_
  rintro e w2 ⟨rfl, b⟩
  have B2 := hide (B1.out.trans (b.mono B1.out.size))
  have G2 : Hid (w2.heap[w.heap.size]? = _) := (b.block _ (lt_of_block G1.out)).trans G1.out
  clear b HLF
  clear c0 c1 c2 c3 c4 c5
  obtain ⟨c0, c1, c2, c3, c4, c5⟩ := Six.of G2.out
  go_wp2_with fail
  refine (HLE.out w2 B2.out).mono ?_
  rintro e w3 ⟨x, rfl, hxp, hxo, hxs, b⟩
  have B3 := hide (B2.out.trans (b.mono B2.out.size))
  have G3 : Hid (w3.heap[w.heap.size]? = _) := (b.block _ (lt_of_block G2.out)).trans G2.out
  have HXO : Hid (∀ W, Below w3.heap.size w3 W → x.Ok W) := fun W h => hxo.below h
  have HXS : Hid (∀ W, Below w3.heap.size w3 W → SpN W x) := fun W h => hxs.below h
  have HQ2 := hide (fun W h h' => HWO.out x hxp W h' (HXO.out W h))
  have HQ4 := hide (fun W h h' => HWH.out x hxp W h' (HXO.out W h) (HXS.out W h))
  clear b hxp hxo hxs HWH HLE HWO HXO HXS
  clear c0 c1 c2 c3 c4 c5
  have Bx3 : Hid (Below w3.heap.size w3 w3) := Below.refl _ _
  obtain ⟨lv6, ⟨ha6, hc6, hs6⟩, ri6, ⟨ka6, kc6, K6⟩, ⟨va6, vc6, V6⟩, ⟨ca6, cc6, C6⟩⟩ := x
  simp only at HQ2 HQ4 ⊢
  generalize hs6.length = lh6 at *
  generalize K6.length = lk6 at *
  generalize V6.length = lw6 at *
  generalize C6.length = lc6 at *
  obtain ⟨w4, hw4⟩ : ∃ w4, w4 = w3.alloc (.cells #[.int .i64 lv6, .slice ha6 lh6 hc6, .int .i64 ri6, .slice ka6 lk6 kc6, .slice va6 lw6 vc6, .slice ca6 lc6 cc6] 30) := ⟨_, rfl⟩
  have bb4 : Below w3.heap.size w3 w4 := by rw [hw4]; exact (Below.refl _ _).alloc (Nat.le_refl _) _
  have B4 := hide (B3.out.trans (bb4.mono B3.out.size))
  have Bx4 := hide (Bx3.out.trans (bb4.mono Bx3.out.size))
  have G4 : Hid (w4.heap[w.heap.size]? = _) := (bb4.block _ (lt_of_block G3.out)).trans G3.out
  have A4 : Hid (w4.heap[w3.heap.size]? = some (.cells #[.int .i64 lv6, .slice ha6 lh6 hc6, .int .i64 ri6, .slice ka6 lk6 kc6, .slice va6 lw6 vc6, .slice ca6 lc6 cc6] 30 (0, 0))) := by show _ = _; rw [hw4]; exact heap_alloc_new w3 _
  have HW4 := hide hw4
  clear hw4 bb4
  go_wp2_with fail
  rw [← HW4.out]
  refine (HQ2.out w4 Bx4.out B4.out).mono ?_
  rintro e w5 ⟨v5, rfl, bq, hvq, hbp, hbo, b⟩
  have B5 := hide (B4.out.trans (b.mono B4.out.size))
  have Bx5 := hide (Bx4.out.trans (b.mono Bx4.out.size))
  have G5 : Hid (w5.heap[w.heap.size]? = _) := (b.block _ (lt_of_block G4.out)).trans G4.out
  have A5 : Hid (w5.heap[w3.heap.size]? = _) := (b.block _ (lt_of_block A4.out)).trans A4.out
  have HBO := hide hbo
  have HBP := hide hbp
  have hv5' : v5 = Nd.v bq := by (injection hvq)
  have HSPB : Hid (∀ W, Below w5.heap.size w5 W → Calls Try.prog 22 #[bq.v] W fun e w' => e = .returned (.tuple #[]) ∧ Upd (fun b => w4.heap.size ≤ b ∧ b < w5.heap.size) W w') := fun W h => spoilN_any bq _ _ W (hbo.spo.below (Nat.le_refl _) h) h.size
  have hb45 := hide b.size
  clear b hbp hbo HW4 HQ2 hvq
  have Bb5 : Hid (Below w5.heap.size w5 w5) := Below.refl _ _
  obtain rfl := hv5'
  obtain ⟨bn, hbn⟩ : ∃ bn, bn = bq := ⟨_, rfl⟩
  rw [← hbn] at HBO HBP
  have HBN : Hid (bn.v = bq.v) := by show _ = _; rw [hbn]
  clear hbn
  obtain ⟨lv7, ⟨ha7, hc7, hs7⟩, ri7, ⟨ka7, kc7, K7⟩, ⟨va7, vc7, V7⟩, ⟨ca7, cc7, C7⟩⟩ := bq
  simp only [Nd.v, Tx.v, TL.v, IL.v] at HSPB HBN ⊢
  generalize hs7.length = lh7 at *
  generalize K7.length = lk7 at *
  generalize V7.length = lw7 at *
  generalize C7.length = lc7 at *
  obtain ⟨w6, hw6⟩ : ∃ w6, w6 = w5.alloc (.cells #[.int .i64 lv7, .slice ha7 lh7 hc7, .int .i64 ri7, .slice ka7 lk7 kc7, .slice va7 lw7 vc7, .slice ca7 lc7 cc7] 30) := ⟨_, rfl⟩
  have bb6 : Below w5.heap.size w5 w6 := by rw [hw6]; exact (Below.refl _ _).alloc (Nat.le_refl _) _
  have B6 := hide (B5.out.trans (bb6.mono B5.out.size))
  have Bx6 := hide (Bx5.out.trans (bb6.mono Bx5.out.size))
  have Bb6 := hide (Bb5.out.trans (bb6.mono Bb5.out.size))
  have G6 : Hid (w6.heap[w.heap.size]? = _) := (bb6.block _ (lt_of_block G5.out)).trans G5.out
  have A6 : Hid (w6.heap[w3.heap.size]? = _) := (bb6.block _ (lt_of_block A5.out)).trans A5.out
  have E6 : Hid (w6.heap[w5.heap.size]? = some (.cells #[.int .i64 lv7, .slice ha7 lh7 hc7, .int .i64 ri7, .slice ka7 lk7 kc7, .slice va7 lw7 vc7, .slice ca7 lc7 cc7] 30 (0, 0))) := by show _ = _; rw [hw6]; exact heap_alloc_new w5 _
  have HW6 := hide hw6
  clear hw6 bb6
  obtain ⟨c0, c1, c2, c3, c4, c5⟩ := Six.of A6.out
  obtain ⟨d0, d1, d2, d3, d4, d5⟩ := Six.of G6.out
  rw [HW6.out] at c0 c1 c2 c3 c4 c5 d0 d1 d2 d3 d4 d5
  go_wp2_with fail
  rw [← HW6.out]
  refine (HQ4.out w6 Bx6.out B6.out).mono ?_
  rintro e w7 ⟨rfl, b⟩
  have B7 := hide (B6.out.trans (b.mono B6.out.size))
  have Bx7 := hide (Bx6.out.trans (b.mono Bx6.out.size))
  have Bb7 := hide (Bb6.out.trans (b.mono Bb6.out.size))
  have G7 : Hid (w7.heap[w.heap.size]? = _) := (b.block _ (lt_of_block G6.out)).trans G6.out
  have A7 : Hid (w7.heap[w3.heap.size]? = _) := (b.block _ (lt_of_block A6.out)).trans A6.out
  have E7 : Hid (w7.heap[w5.heap.size]? = _) := (b.block _ (lt_of_block E6.out)).trans E6.out
  clear b HW6
  clear c0 c1 c2 c3 c4 c5 d0 d1 d2 d3 d4 d5
  cases lf with
  | false =>
    go_wp2_with fail
    go_ret
    exact ⟨rfl, B7.out⟩
  | true =>
    have HRO2 := hide (HRO.out rfl)
    clear HRO
    obtain ⟨c0, c1, c2, c3, c4, c5⟩ := Six.of G7.out
    go_wp2_with fail
    refine (HRO2.out w7 B7.out).mono ?_
    rintro e w8 ⟨v8, rfl, dq, hvq, hdp, hdo, b⟩
    have B8 := hide (B7.out.trans (b.mono B7.out.size))
    have Bx8 := hide (Bx7.out.trans (b.mono Bx7.out.size))
    have Bb8 := hide (Bb7.out.trans (b.mono Bb7.out.size))
    have G8 : Hid (w8.heap[w.heap.size]? = _) := (b.block _ (lt_of_block G7.out)).trans G7.out
    have A8 : Hid (w8.heap[w3.heap.size]? = _) := (b.block _ (lt_of_block A7.out)).trans A7.out
    have E8 : Hid (w8.heap[w5.heap.size]? = _) := (b.block _ (lt_of_block E7.out)).trans E7.out
    have HDO := hide hdo
    have HDP := hide hdp
    have hv8' : v8 = Nd.v dq := by (injection hvq)
    clear b hdp hdo HRO2 hvq
    clear c0 c1 c2 c3 c4 c5
    have Bd8 : Hid (Below w8.heap.size w8 w8) := Below.refl _ _
    obtain rfl := hv8'
    obtain ⟨dn, hdn⟩ : ∃ dn, dn = dq := ⟨_, rfl⟩
    rw [← hdn] at HDO HDP
    have HDN : Hid (dn.v = dq.v) := by show _ = _; rw [hdn]
    clear hdn
    obtain ⟨lv10, ⟨ha10, hc10, hs10⟩, ri10, ⟨ka10, kc10, K10⟩, ⟨va10, vc10, V10⟩, ⟨ca10, cc10, C10⟩⟩ := dq
    simp only [Nd.v, Tx.v, TL.v, IL.v] at HDN ⊢
    generalize hs10.length = lh10 at *
    generalize K10.length = lk10 at *
    generalize V10.length = lw10 at *
    generalize C10.length = lc10 at *
    obtain ⟨w9, hw9⟩ : ∃ w9, w9 = w8.alloc (.cells #[.int .i64 lv10, .slice ha10 lh10 hc10, .int .i64 ri10, .slice ka10 lk10 kc10, .slice va10 lw10 vc10, .slice ca10 lc10 cc10] 30) := ⟨_, rfl⟩
    have bb9 : Below w8.heap.size w8 w9 := by rw [hw9]; exact (Below.refl _ _).alloc (Nat.le_refl _) _
    have B9 := hide (B8.out.trans (bb9.mono B8.out.size))
    have Bx9 := hide (Bx8.out.trans (bb9.mono Bx8.out.size))
    have Bb9 := hide (Bb8.out.trans (bb9.mono Bb8.out.size))
    have Bd9 := hide (Bd8.out.trans (bb9.mono Bd8.out.size))
    have G9 : Hid (w9.heap[w.heap.size]? = _) := (bb9.block _ (lt_of_block G8.out)).trans G8.out
    have A9 : Hid (w9.heap[w3.heap.size]? = _) := (bb9.block _ (lt_of_block A8.out)).trans A8.out
    have E9 : Hid (w9.heap[w5.heap.size]? = _) := (bb9.block _ (lt_of_block E8.out)).trans E8.out
    have H9 : Hid (w9.heap[w8.heap.size]? = some (.cells #[.int .i64 lv10, .slice ha10 lh10 hc10, .int .i64 ri10, .slice ka10 lk10 kc10, .slice va10 lw10 vc10, .slice ca10 lc10 cc10] 30 (0, 0))) := by show _ = _; rw [hw9]; exact heap_alloc_new w8 _
    have HW9 := hide hw9
    clear hw9 bb9
    have HS1 : Hid (Calls Try.prog 21 #[_, _] w9 fun e w' => e = .returned (.bool true) ∧ Below w9.heap.size w9 w') := sameNode_any bn dn w9 (HBO.out.ok.below Bb9.out) (HDO.out.ok.below Bd9.out) (HBP.out.trans HDP.out.symm)
    rw [show bn.v = _ from HBN.out, show dn.v = _ from HDN.out] at HS1
    obtain ⟨c0, c1, c2, c3, c4, c5⟩ := Six.of E9.out
    obtain ⟨d0, d1, d2, d3, d4, d5⟩ := Six.of H9.out
    rw [HW9.out] at c0 c1 c2 c3 c4 c5 d0 d1 d2 d3 d4 d5
    go_wp2_with fail
    rw [← HW9.out]
    refine (HS1.out).mono ?_
    rintro e w10 ⟨rfl, b⟩
    have B10 := hide (B9.out.trans (b.mono B9.out.size))
    have Bx10 := hide (Bx9.out.trans (b.mono Bx9.out.size))
    have Bb10 := hide (Bb9.out.trans (b.mono Bb9.out.size))
    have Bd10 := hide (Bd9.out.trans (b.mono Bd9.out.size))
    have G10 : Hid (w10.heap[w.heap.size]? = _) := (b.block _ (lt_of_block G9.out)).trans G9.out
    have A10 : Hid (w10.heap[w3.heap.size]? = _) := (b.block _ (lt_of_block A9.out)).trans A9.out
    have E10 : Hid (w10.heap[w5.heap.size]? = _) := (b.block _ (lt_of_block E9.out)).trans E9.out
    have H10 : Hid (w10.heap[w8.heap.size]? = _) := (b.block _ (lt_of_block H9.out)).trans H9.out
    clear b HS1 HW9
    clear c0 c1 c2 c3 c4 c5 d0 d1 d2 d3 d4 d5
    obtain ⟨c0, c1, c2, c3, c4, c5⟩ := Six.of E10.out
    go_wp2_with fail
    refine (HSPB.out w10 Bb10.out).mono ?_
    rintro e w11 ⟨rfl, u⟩
    have hx4 : w3.heap.size < w4.heap.size := lt_of_block A4.out
    have hs3 := B3.out.size
    have h45 := hb45.out
    have B11 : Hid (Below w.heap.size w w11) := B10.out.trans (u.below B10.out.size (fun k hk e => by omega))
    have Bx11 : Hid (Below w3.heap.size w3 w11) := Bx10.out.trans (u.below Bx10.out.size (fun k hk e => by omega))
    have G11 : Hid (w11.heap[w.heap.size]? = _) := u.heap G10.out (by have := lt_of_block G0.out; have := lt_of_block G3.out; omega)
    have A11 : Hid (w11.heap[w3.heap.size]? = _) := u.heap A10.out (by omega)
    clear u HSPB
    clear c0 c1 c2 c3 c4 c5
    obtain ⟨c0, c1, c2, c3, c4, c5⟩ := Six.of A11.out
    obtain ⟨d0, d1, d2, d3, d4, d5⟩ := Six.of G11.out
    go_wp2_with fail
    refine (HQ4.out w11 Bx11.out B11.out).mono ?_
    rintro e w12 ⟨rfl, b⟩
    have B12 := hide (B11.out.trans (b.mono B11.out.size))
    have Bx12 := hide (Bx11.out.trans (b.mono Bx11.out.size))
    have G12 : Hid (w12.heap[w.heap.size]? = _) := (b.block _ (lt_of_block G11.out)).trans G11.out
    have A12 : Hid (w12.heap[w3.heap.size]? = _) := (b.block _ (lt_of_block A11.out)).trans A11.out
    clear b HQ4
    clear c0 c1 c2 c3 c4 c5 d0 d1 d2 d3 d4 d5
    have t1 : (ib == ib) = true := by simp
    go_wp2_with fail
    go_ret
    exact ⟨by simp, B12.out⟩

end Go.Proofs.Yteciiehnoakgdaa
