/- NodeWith: the walk. -/
import Derived.Test.YteciiehnoakgdaaNLent2
import Derived.Test.YteciiehnoakgdaaNWhole
import Derived.Test.YteciiehnoakgdaaNSpoil2
import Derived.Test.YteciiehnoakgdaaNRWith
import Derived.Test.YteciiehnoakgdaaNLeaf
namespace Go.Proofs.Yteciiehnoakgdaa
open Go.RowKit

set_option maxRecDepth 100000 in
set_option maxHeartbeats 6400000 in
theorem nodeWith_any (n : Nd) (k v : Tx) (w : World) (hn : n.Ok w) (hk : k.Ok w) (hv : v.Ok w) (hz1 : n.ks.L.length * 24 ≤ 140737488351300) (hz2 : n.vs.L.length * 24 ≤ 140737488351300) (hz3 : n.cs.s.length * 8 ≤ 140737488351300) :
    Calls Try.prog 6 #[n.v, k.v, v.v] w fun e w' => e = .returned (.bool true) ∧ Below w.heap.size w w' := by
  have HN : Hid (∀ W, Below w.heap.size w W → n.Ok W) := fun W h => hn.below h
  have HK : Hid (∀ W, Below w.heap.size w W → k.Ok W) := fun W h => hk.below h
  have HV : Hid (∀ W, Below w.heap.size w W → v.Ok W) := fun W h => hv.below h
  clear hn hk hv
  obtain ⟨lf, hlf⟩ : ∃ lf, lf = decide (RtP n.p ∧ n.lv = 0) := ⟨_, rfl⟩
  obtain ⟨ib, hib⟩ : ∃ ib, ib = isIn n.ks.p k.s := ⟨_, rfl⟩
  have HLF : Hid (∀ W, Below w.heap.size w W → Calls Try.prog 23 #[n.v] W fun e w' => e = .returned (.bool lf) ∧ Below W.heap.size W w') := fun W h => by rw [hlf]; exact leaf_any n W (HN.out W h)
  have HLE : Hid (∀ W, Below w.heap.size w W → Calls Try.prog 10 #[n.v] W (LePost W n)) := fun W h => lent_any n W (HN.out W h) (by omega) (by omega) (by omega)
  have HWH : Hid (∀ x : Nd, x.p = n.p → ∀ W, Below w.heap.size w W → x.Ok W → SpN W x → Calls Try.prog 12 #[x.v, n.v] W fun e w' => e = .returned (.bool true) ∧ Below W.heap.size W w') := fun x hx W h ho hs => whole_any x n W ho hs (HN.out W h) hx
  have HXL : Hid (∀ x : Nd, x.p = n.p → x.ks.L.length * 24 ≤ 140737488351900 ∧ x.vs.L.length * 24 ≤ 140737488351900) := fun x hx => by
    have e1 : x.ks.L.length = n.ks.L.length := by rw [← TL.p_len, ← TL.p_len, show x.ks.p = n.ks.p from congrArg NP.ks hx]
    have e2 : x.vs.L.length = n.vs.L.length := by rw [← TL.p_len, ← TL.p_len, show x.vs.p = n.vs.p from congrArg NP.vs hx]
    omega
  have HWI : Hid (∀ x : Nd, x.p = n.p → ∀ W, Below w.heap.size w W → x.Ok W → Calls Try.prog 24 #[x.v, k.v, v.v] W (NdPost W (n.p.with_ k.s v.s))) := fun x hx W h ho => by
    have h1 := with_any x k v W ho (HK.out W h) (HV.out W h) (HXL.out x hx).1 (HXL.out x hx).2
    rw [hx] at h1; exact h1
  have HWO : Hid (∀ x : Nd, x.p = n.p → ∀ W, Below w.heap.size w W → x.Ok W → Calls Try.prog 25 #[x.v, k.v] W (NdBPost W (n.p.without k.s) ib)) := fun x hx W h ho => by
    have h1 := without_any x k W ho (HK.out W h) (HXL.out x hx).1 (HXL.out x hx).2
    rw [hx, show x.ks.p = n.ks.p from congrArg NP.ks hx, ← hib] at h1; exact h1
  have HRW : Hid (lf = true → ∀ W, Below w.heap.size w W → Calls Try.prog 26 #[n.v, k.v, v.v] W (NdPost W (n.p.with_ k.s v.s))) := fun hl W h => by
    have h2 : RtP n.p ∧ n.lv = 0 := of_decide_eq_true (hlf.symm.trans hl)
    exact rwith_any n k v W (HN.out W h) (HK.out W h) (HV.out W h) h2.1 h2.2 (by omega) (by omega)
  have HRO : Hid (lf = true → ∀ W, Below w.heap.size w W → Calls Try.prog 27 #[n.v, k.v] W (NdBPost W (n.p.without k.s) ib)) := fun hl W h => by
    have h2 : RtP n.p ∧ n.lv = 0 := of_decide_eq_true (hlf.symm.trans hl)
    rw [hib]
    exact rwithout_any n k W (HN.out W h) (HK.out W h) h2.1 h2.2 (by omega) (by omega)
  clear hlf hib
  obtain ⟨P, hP⟩ : ∃ P, P = n.p := ⟨_, rfl⟩
  obtain ⟨P1, hP1⟩ : ∃ P1, P1 = n.p.with_ k.s v.s := ⟨_, rfl⟩
  obtain ⟨P2, hP2⟩ : ∃ P2, P2 = n.p.without k.s := ⟨_, rfl⟩
  unfold LePost at HLE
  rw [← hP1] at HWI HRW
  rw [← hP2] at HWO HRO
  rw [← hP] at HLE HWH HWI HWO
  clear hP hP1 hP2 HXL
  obtain ⟨lv, ⟨ha, hc, hs⟩, ri, ⟨ka, kc, K⟩, ⟨va, vc, V⟩, ⟨ca, cc, C⟩⟩ := n
  obtain ⟨xa, xc, xs⟩ := k
  obtain ⟨ya, yc, ys⟩ := v
  unfold NdBPost NdPost at HWO HRO
  unfold NdPost at HWI HRW
  simp only [Nd.v, Tx.v, TL.v, IL.v] at HLF HLE HWH HWI HWO HRW HRO ⊢
  clear HN HK HV hz1 hz2 hz3
  generalize hs.length = lh at *
  generalize K.length = lk at *
  generalize V.length = lw at *
  generalize C.length = lc at *
  generalize xs.length = lx at *
  generalize ys.length = ly at *
  obtain ⟨w0, hw0⟩ : ∃ w0, w0 = w.alloc (.cells #[.int .i64 lv, .slice ha lh hc, .int .i64 ri, .slice ka lk kc, .slice va lw vc, .slice ca lc cc] 30) := ⟨_, rfl⟩
  have B0 : Hid (Below w.heap.size w w0) := by show Below _ _ _; rw [hw0]; exact (Below.refl _ _).alloc (Nat.le_refl _) _
  have G0 : Hid (w0.heap[w.heap.size]? = some (.cells #[.int .i64 lv, .slice ha lh hc, .int .i64 ri, .slice ka lk kc, .slice va lw vc, .slice ca lc cc] 30 (0, 0))) := by show _ = _; rw [hw0]; exact heap_alloc_new w _
  have HW0 := hide hw0
  clear hw0
  go_enter Try.func6, Try.ntmps6
  go_wp2_with fail
  rw [← HW0.out]
  refine (head_any w0).mono ?_
  rintro e w1 ⟨rfl, b⟩
  have B1 := hide (B0.out.trans (b.mono B0.out.size))
  have G1 : Hid (w1.heap[w.heap.size]? = _) := (b.block _ (lt_of_block G0.out)).trans G0.out
  clear b HW0
  obtain ⟨c0, c1, c2, c3, c4, c5⟩ := Six.of G1.out
  go_wp2_with fail
  refine (HLF.out w1 B1.out).mono ?_
  rintro e w2 ⟨rfl, b⟩
  have B2 := hide (B1.out.trans (b.mono B1.out.size))
  have G2 : Hid (w2.heap[w.heap.size]? = _) := (b.block _ (lt_of_block G1.out)).trans G1.out
  clear b HLF
  clear c0 c1 c2 c3 c4 c5
  obtain ⟨c0, c1, c2, c3, c4, c5⟩ := Six.of G2.out
  go_wp2_with fail
  refine (HLE.out w2 B2.out).mono ?_
  rintro e w3 ⟨x, rfl, hxp, hxo, hxs, b⟩
  have B3 := hide (B2.out.trans (b.mono B2.out.size))
  have G3 : Hid (w3.heap[w.heap.size]? = _) := (b.block _ (lt_of_block G2.out)).trans G2.out
  have HXO : Hid (∀ W, Below w3.heap.size w3 W → x.Ok W) := fun W h => hxo.below h
  have HXS : Hid (∀ W, Below w3.heap.size w3 W → SpN W x) := fun W h => hxs.below h
  have HQ1 := hide (fun W h h' => HWI.out x hxp W h' (HXO.out W h))
  have HQ2 := hide (fun W h h' => HWO.out x hxp W h' (HXO.out W h))
  have HQ4 := hide (fun W h h' => HWH.out x hxp W h' (HXO.out W h) (HXS.out W h))
  clear b hxp hxo hxs HWH HLE HWI HWO HXO HXS
  clear c0 c1 c2 c3 c4 c5
  have Bx3 : Hid (Below w3.heap.size w3 w3) := Below.refl _ _
  obtain ⟨lv6, ⟨ha6, hc6, hs6⟩, ri6, ⟨ka6, kc6, K6⟩, ⟨va6, vc6, V6⟩, ⟨ca6, cc6, C6⟩⟩ := x
  simp only at HQ1 HQ2 HQ4 ⊢
  generalize hs6.length = lh6 at *
  generalize K6.length = lk6 at *
  generalize V6.length = lw6 at *
  generalize C6.length = lc6 at *
  obtain ⟨w4, hw4⟩ : ∃ w4, w4 = w3.alloc (.cells #[.int .i64 lv6, .slice ha6 lh6 hc6, .int .i64 ri6, .slice ka6 lk6 kc6, .slice va6 lw6 vc6, .slice ca6 lc6 cc6] 30) := ⟨_, rfl⟩
  have bb4 : Below w3.heap.size w3 w4 := by rw [hw4]; exact (Below.refl _ _).alloc (Nat.le_refl _) _
  have B4 := hide (B3.out.trans (bb4.mono B3.out.size))
  have Bx4 := hide (Bx3.out.trans (bb4.mono Bx3.out.size))
  have G4 : Hid (w4.heap[w.heap.size]? = _) := (bb4.block _ (lt_of_block G3.out)).trans G3.out
  have A4 : Hid (w4.heap[w3.heap.size]? = some (.cells #[.int .i64 lv6, .slice ha6 lh6 hc6, .int .i64 ri6, .slice ka6 lk6 kc6, .slice va6 lw6 vc6, .slice ca6 lc6 cc6] 30 (0, 0))) := by show _ = _; rw [hw4]; exact heap_alloc_new w3 _
  have HW4 := hide hw4
  clear hw4 bb4
  go_wp2_with fail
  rw [← HW4.out]
  refine (HQ1.out w4 Bx4.out B4.out).mono ?_
  rintro e w5 ⟨a, rfl, hap, hao, b⟩
  have B5 := hide (B4.out.trans (b.mono B4.out.size))
  have Bx5 := hide (Bx4.out.trans (b.mono Bx4.out.size))
  have G5 : Hid (w5.heap[w.heap.size]? = _) := (b.block _ (lt_of_block G4.out)).trans G4.out
  have A5 : Hid (w5.heap[w3.heap.size]? = _) := (b.block _ (lt_of_block A4.out)).trans A4.out
  have HAO := hide hao
  have HAP := hide hap
  have HSPA : Hid (∀ W, Below w5.heap.size w5 W → Calls Try.prog 22 #[a.v] W fun e w' => e = .returned (.tuple #[]) ∧ Upd (fun b => w4.heap.size ≤ b ∧ b < w5.heap.size) W w') := fun W h => spoilN_any a _ _ W (hao.spo.below (Nat.le_refl _) h) h.size
  have ha45 := hide b.size
  clear b hap hao HW4 HQ1
  have Ba5 : Hid (Below w5.heap.size w5 w5) := Below.refl _ _
  obtain ⟨an, han⟩ : ∃ an, an = a := ⟨_, rfl⟩
  rw [← han] at HAO HAP
  have HAN : Hid (an.v = a.v) := by show _ = _; rw [han]
  clear han
  obtain ⟨lv7, ⟨ha7, hc7, hs7⟩, ri7, ⟨ka7, kc7, K7⟩, ⟨va7, vc7, V7⟩, ⟨ca7, cc7, C7⟩⟩ := a
  simp only [Nd.v, Tx.v, TL.v, IL.v] at HSPA HAN ⊢
  generalize hs7.length = lh7 at *
  generalize K7.length = lk7 at *
  generalize V7.length = lw7 at *
  generalize C7.length = lc7 at *
  obtain ⟨w6, hw6⟩ : ∃ w6, w6 = w5.alloc (.cells #[.int .i64 lv7, .slice ha7 lh7 hc7, .int .i64 ri7, .slice ka7 lk7 kc7, .slice va7 lw7 vc7, .slice ca7 lc7 cc7] 30) := ⟨_, rfl⟩
  have bb6 : Below w5.heap.size w5 w6 := by rw [hw6]; exact (Below.refl _ _).alloc (Nat.le_refl _) _
  have B6 := hide (B5.out.trans (bb6.mono B5.out.size))
  have Bx6 := hide (Bx5.out.trans (bb6.mono Bx5.out.size))
  have Ba6 := hide (Ba5.out.trans (bb6.mono Ba5.out.size))
  have G6 : Hid (w6.heap[w.heap.size]? = _) := (bb6.block _ (lt_of_block G5.out)).trans G5.out
  have A6 : Hid (w6.heap[w3.heap.size]? = _) := (bb6.block _ (lt_of_block A5.out)).trans A5.out
  have D6 : Hid (w6.heap[w5.heap.size]? = some (.cells #[.int .i64 lv7, .slice ha7 lh7 hc7, .int .i64 ri7, .slice ka7 lk7 kc7, .slice va7 lw7 vc7, .slice ca7 lc7 cc7] 30 (0, 0))) := by show _ = _; rw [hw6]; exact heap_alloc_new w5 _
  have HW6 := hide hw6
  clear hw6 bb6
  obtain ⟨c0, c1, c2, c3, c4, c5⟩ := Six.of A6.out
  rw [HW6.out] at c0 c1 c2 c3 c4 c5
  go_wp2_with fail
  rw [← HW6.out]
  refine (HQ2.out w6 Bx6.out B6.out).mono ?_
  rintro e w7 ⟨v7, rfl, bq, hvq, hbp, hbo, b⟩
  have B7 := hide (B6.out.trans (b.mono B6.out.size))
  have Bx7 := hide (Bx6.out.trans (b.mono Bx6.out.size))
  have Ba7 := hide (Ba6.out.trans (b.mono Ba6.out.size))
  have G7 : Hid (w7.heap[w.heap.size]? = _) := (b.block _ (lt_of_block G6.out)).trans G6.out
  have A7 : Hid (w7.heap[w3.heap.size]? = _) := (b.block _ (lt_of_block A6.out)).trans A6.out
  have D7 : Hid (w7.heap[w5.heap.size]? = _) := (b.block _ (lt_of_block D6.out)).trans D6.out
  have HBO := hide hbo
  have HBP := hide hbp
  have hv7' : v7 = Nd.v bq := by (injection hvq)
  have HSPB : Hid (∀ W, Spo W w6.heap.size w7.heap.size bq → w7.heap.size ≤ W.heap.size → Calls Try.prog 22 #[bq.v] W fun e w' => e = .returned (.tuple #[]) ∧ Upd (fun b => w6.heap.size ≤ b ∧ b < w7.heap.size) W w') := fun W h h' => spoilN_any bq _ _ W h h'
  have HBS : Hid (Spo w7 w6.heap.size w7.heap.size bq) := hbo.spo
  have hb67 := hide b.size
  clear b hbp hbo HW6 HQ2 hvq
  clear c0 c1 c2 c3 c4 c5
  have Bb7 : Hid (Below w7.heap.size w7 w7) := Below.refl _ _
  obtain rfl := hv7'
  obtain ⟨bn, hbn⟩ : ∃ bn, bn = bq := ⟨_, rfl⟩
  rw [← hbn] at HBO HBP HBS
  have HBN : Hid (bn.v = bq.v) := by show _ = _; rw [hbn]
  have HSPB2 : Hid (∀ W, Spo W w6.heap.size w7.heap.size bn → w7.heap.size ≤ W.heap.size → Calls Try.prog 22 #[bq.v] W fun e w' => e = .returned (.tuple #[]) ∧ Upd (fun b => w6.heap.size ≤ b ∧ b < w7.heap.size) W w') := by rw [hbn]; exact HSPB.out
  clear hbn HSPB
  obtain ⟨lv8, ⟨ha8, hc8, hs8⟩, ri8, ⟨ka8, kc8, K8⟩, ⟨va8, vc8, V8⟩, ⟨ca8, cc8, C8⟩⟩ := bq
  simp only [Nd.v, Tx.v, TL.v, IL.v] at HSPB2 HBN ⊢
  generalize hs8.length = lh8 at *
  generalize K8.length = lk8 at *
  generalize V8.length = lw8 at *
  generalize C8.length = lc8 at *
  obtain ⟨w8, hw8⟩ : ∃ w8, w8 = w7.alloc (.cells #[.int .i64 lv8, .slice ha8 lh8 hc8, .int .i64 ri8, .slice ka8 lk8 kc8, .slice va8 lw8 vc8, .slice ca8 lc8 cc8] 30) := ⟨_, rfl⟩
  have bb8 : Below w7.heap.size w7 w8 := by rw [hw8]; exact (Below.refl _ _).alloc (Nat.le_refl _) _
  have B8 := hide (B7.out.trans (bb8.mono B7.out.size))
  have Bx8 := hide (Bx7.out.trans (bb8.mono Bx7.out.size))
  have Ba8 := hide (Ba7.out.trans (bb8.mono Ba7.out.size))
  have Bb8 := hide (Bb7.out.trans (bb8.mono Bb7.out.size))
  have G8 : Hid (w8.heap[w.heap.size]? = _) := (bb8.block _ (lt_of_block G7.out)).trans G7.out
  have A8 : Hid (w8.heap[w3.heap.size]? = _) := (bb8.block _ (lt_of_block A7.out)).trans A7.out
  have D8 : Hid (w8.heap[w5.heap.size]? = _) := (bb8.block _ (lt_of_block D7.out)).trans D7.out
  have E8 : Hid (w8.heap[w7.heap.size]? = some (.cells #[.int .i64 lv8, .slice ha8 lh8 hc8, .int .i64 ri8, .slice ka8 lk8 kc8, .slice va8 lw8 vc8, .slice ca8 lc8 cc8] 30 (0, 0))) := by show _ = _; rw [hw8]; exact heap_alloc_new w7 _
  have HW8 := hide hw8
  clear hw8 bb8
  obtain ⟨c0, c1, c2, c3, c4, c5⟩ := Six.of A8.out
  obtain ⟨d0, d1, d2, d3, d4, d5⟩ := Six.of G8.out
  rw [HW8.out] at c0 c1 c2 c3 c4 c5 d0 d1 d2 d3 d4 d5
  go_wp2_with fail
  rw [← HW8.out]
  refine (HQ4.out w8 Bx8.out B8.out).mono ?_
  rintro e w9 ⟨rfl, b⟩
  have B9 := hide (B8.out.trans (b.mono B8.out.size))
  have Bx9 := hide (Bx8.out.trans (b.mono Bx8.out.size))
  have Ba9 := hide (Ba8.out.trans (b.mono Ba8.out.size))
  have Bb9 := hide (Bb8.out.trans (b.mono Bb8.out.size))
  have G9 : Hid (w9.heap[w.heap.size]? = _) := (b.block _ (lt_of_block G8.out)).trans G8.out
  have A9 : Hid (w9.heap[w3.heap.size]? = _) := (b.block _ (lt_of_block A8.out)).trans A8.out
  have D9 : Hid (w9.heap[w5.heap.size]? = _) := (b.block _ (lt_of_block D8.out)).trans D8.out
  have E9 : Hid (w9.heap[w7.heap.size]? = _) := (b.block _ (lt_of_block E8.out)).trans E8.out
  clear b HW8
  clear c0 c1 c2 c3 c4 c5 d0 d1 d2 d3 d4 d5
  cases lf with
  | false =>
    go_wp2_with fail
    go_ret
    exact ⟨rfl, B9.out⟩
  | true =>
    have HRW2 := hide (HRW.out rfl)
    have HRO2 := hide (HRO.out rfl)
    clear HRW HRO
    obtain ⟨c0, c1, c2, c3, c4, c5⟩ := Six.of G9.out
    go_wp2_with fail
    refine (HRW2.out w9 B9.out).mono ?_
    rintro e w10 ⟨cq, rfl, hcp, hco, b⟩
    have B10 := hide (B9.out.trans (b.mono B9.out.size))
    have Bx10 := hide (Bx9.out.trans (b.mono Bx9.out.size))
    have Ba10 := hide (Ba9.out.trans (b.mono Ba9.out.size))
    have Bb10 := hide (Bb9.out.trans (b.mono Bb9.out.size))
    have G10 : Hid (w10.heap[w.heap.size]? = _) := (b.block _ (lt_of_block G9.out)).trans G9.out
    have A10 : Hid (w10.heap[w3.heap.size]? = _) := (b.block _ (lt_of_block A9.out)).trans A9.out
    have D10 : Hid (w10.heap[w5.heap.size]? = _) := (b.block _ (lt_of_block D9.out)).trans D9.out
    have E10 : Hid (w10.heap[w7.heap.size]? = _) := (b.block _ (lt_of_block E9.out)).trans E9.out
    have HCO := hide hco
    have HCP := hide hcp
    clear b hcp hco HRW2
    clear c0 c1 c2 c3 c4 c5
    have Bc10 : Hid (Below w10.heap.size w10 w10) := Below.refl _ _
    obtain ⟨cn, hcn⟩ : ∃ cn, cn = cq := ⟨_, rfl⟩
    rw [← hcn] at HCO HCP
    have HCN : Hid (cn.v = cq.v) := by show _ = _; rw [hcn]
    clear hcn
    obtain ⟨lv9, ⟨ha9, hc9, hs9⟩, ri9, ⟨ka9, kc9, K9⟩, ⟨va9, vc9, V9⟩, ⟨ca9, cc9, C9⟩⟩ := cq
    simp only [Nd.v, Tx.v, TL.v, IL.v] at HCN ⊢
    generalize hs9.length = lh9 at *
    generalize K9.length = lk9 at *
    generalize V9.length = lw9 at *
    generalize C9.length = lc9 at *
    obtain ⟨w11, hw11⟩ : ∃ w11, w11 = w10.alloc (.cells #[.int .i64 lv9, .slice ha9 lh9 hc9, .int .i64 ri9, .slice ka9 lk9 kc9, .slice va9 lw9 vc9, .slice ca9 lc9 cc9] 30) := ⟨_, rfl⟩
    have bb11 : Below w10.heap.size w10 w11 := by rw [hw11]; exact (Below.refl _ _).alloc (Nat.le_refl _) _
    have B11 := hide (B10.out.trans (bb11.mono B10.out.size))
    have Bx11 := hide (Bx10.out.trans (bb11.mono Bx10.out.size))
    have Ba11 := hide (Ba10.out.trans (bb11.mono Ba10.out.size))
    have Bb11 := hide (Bb10.out.trans (bb11.mono Bb10.out.size))
    have Bc11 := hide (Bc10.out.trans (bb11.mono Bc10.out.size))
    have G11 : Hid (w11.heap[w.heap.size]? = _) := (bb11.block _ (lt_of_block G10.out)).trans G10.out
    have A11 : Hid (w11.heap[w3.heap.size]? = _) := (bb11.block _ (lt_of_block A10.out)).trans A10.out
    have D11 : Hid (w11.heap[w5.heap.size]? = _) := (bb11.block _ (lt_of_block D10.out)).trans D10.out
    have E11 : Hid (w11.heap[w7.heap.size]? = _) := (bb11.block _ (lt_of_block E10.out)).trans E10.out
    have F11 : Hid (w11.heap[w10.heap.size]? = some (.cells #[.int .i64 lv9, .slice ha9 lh9 hc9, .int .i64 ri9, .slice ka9 lk9 kc9, .slice va9 lw9 vc9, .slice ca9 lc9 cc9] 30 (0, 0))) := by show _ = _; rw [hw11]; exact heap_alloc_new w10 _
    have HW11 := hide hw11
    clear hw11 bb11
    obtain ⟨c0, c1, c2, c3, c4, c5⟩ := Six.of G11.out
    rw [HW11.out] at c0 c1 c2 c3 c4 c5
    go_wp2_with fail
    rw [← HW11.out]
    refine (HRO2.out w11 B11.out).mono ?_
    rintro e w12 ⟨v12, rfl, dq, hvq, hdp, hdo, b⟩
    have B12 := hide (B11.out.trans (b.mono B11.out.size))
    have Bx12 := hide (Bx11.out.trans (b.mono Bx11.out.size))
    have Ba12 := hide (Ba11.out.trans (b.mono Ba11.out.size))
    have Bb12 := hide (Bb11.out.trans (b.mono Bb11.out.size))
    have Bc12 := hide (Bc11.out.trans (b.mono Bc11.out.size))
    have G12 : Hid (w12.heap[w.heap.size]? = _) := (b.block _ (lt_of_block G11.out)).trans G11.out
    have A12 : Hid (w12.heap[w3.heap.size]? = _) := (b.block _ (lt_of_block A11.out)).trans A11.out
    have D12 : Hid (w12.heap[w5.heap.size]? = _) := (b.block _ (lt_of_block D11.out)).trans D11.out
    have E12 : Hid (w12.heap[w7.heap.size]? = _) := (b.block _ (lt_of_block E11.out)).trans E11.out
    have F12 : Hid (w12.heap[w10.heap.size]? = _) := (b.block _ (lt_of_block F11.out)).trans F11.out
    have HDO := hide hdo
    have HDP := hide hdp
    have hv12' : v12 = Nd.v dq := by (injection hvq)
    clear b hdp hdo HW11 HRO2 hvq
    clear c0 c1 c2 c3 c4 c5
    have Bd12 : Hid (Below w12.heap.size w12 w12) := Below.refl _ _
    obtain rfl := hv12'
    obtain ⟨dn, hdn⟩ : ∃ dn, dn = dq := ⟨_, rfl⟩
    rw [← hdn] at HDO HDP
    have HDN : Hid (dn.v = dq.v) := by show _ = _; rw [hdn]
    clear hdn
    obtain ⟨lv10, ⟨ha10, hc10, hs10⟩, ri10, ⟨ka10, kc10, K10⟩, ⟨va10, vc10, V10⟩, ⟨ca10, cc10, C10⟩⟩ := dq
    simp only [Nd.v, Tx.v, TL.v, IL.v] at HDN ⊢
    generalize hs10.length = lh10 at *
    generalize K10.length = lk10 at *
    generalize V10.length = lw10 at *
    generalize C10.length = lc10 at *
    obtain ⟨w13, hw13⟩ : ∃ w13, w13 = w12.alloc (.cells #[.int .i64 lv10, .slice ha10 lh10 hc10, .int .i64 ri10, .slice ka10 lk10 kc10, .slice va10 lw10 vc10, .slice ca10 lc10 cc10] 30) := ⟨_, rfl⟩
    have bb13 : Below w12.heap.size w12 w13 := by rw [hw13]; exact (Below.refl _ _).alloc (Nat.le_refl _) _
    have B13 := hide (B12.out.trans (bb13.mono B12.out.size))
    have Bx13 := hide (Bx12.out.trans (bb13.mono Bx12.out.size))
    have Ba13 := hide (Ba12.out.trans (bb13.mono Ba12.out.size))
    have Bb13 := hide (Bb12.out.trans (bb13.mono Bb12.out.size))
    have Bc13 := hide (Bc12.out.trans (bb13.mono Bc12.out.size))
    have Bd13 := hide (Bd12.out.trans (bb13.mono Bd12.out.size))
    have G13 : Hid (w13.heap[w.heap.size]? = _) := (bb13.block _ (lt_of_block G12.out)).trans G12.out
    have A13 : Hid (w13.heap[w3.heap.size]? = _) := (bb13.block _ (lt_of_block A12.out)).trans A12.out
    have D13 : Hid (w13.heap[w5.heap.size]? = _) := (bb13.block _ (lt_of_block D12.out)).trans D12.out
    have E13 : Hid (w13.heap[w7.heap.size]? = _) := (bb13.block _ (lt_of_block E12.out)).trans E12.out
    have F13 : Hid (w13.heap[w10.heap.size]? = _) := (bb13.block _ (lt_of_block F12.out)).trans F12.out
    have H13 : Hid (w13.heap[w12.heap.size]? = some (.cells #[.int .i64 lv10, .slice ha10 lh10 hc10, .int .i64 ri10, .slice ka10 lk10 kc10, .slice va10 lw10 vc10, .slice ca10 lc10 cc10] 30 (0, 0))) := by show _ = _; rw [hw13]; exact heap_alloc_new w12 _
    have HW13 := hide hw13
    clear hw13 bb13
    have HS1 : Hid (Calls Try.prog 21 #[_, _] w13 fun e w' => e = .returned (.bool true) ∧ Below w13.heap.size w13 w') := sameNode_any an cn w13 (HAO.out.ok.below Ba13.out) (HCO.out.ok.below Bc13.out) (HAP.out.trans HCP.out.symm)
    have HS2 : Hid (∀ W, Below w13.heap.size w13 W → Calls Try.prog 21 #[_, _] W fun e w' => e = .returned (.bool true) ∧ Below W.heap.size W w') := fun W h => sameNode_any bn dn W (HBO.out.ok.below (Bb13.out.trans (h.mono Bb13.out.size))) (HDO.out.ok.below (Bd13.out.trans (h.mono Bd13.out.size))) (HBP.out.trans HDP.out.symm)
    rw [show an.v = _ from HAN.out, show cn.v = _ from HCN.out] at HS1
    rw [show bn.v = _ from HBN.out, show dn.v = _ from HDN.out] at HS2
    obtain ⟨c0, c1, c2, c3, c4, c5⟩ := Six.of D13.out
    obtain ⟨d0, d1, d2, d3, d4, d5⟩ := Six.of F13.out
    rw [HW13.out] at c0 c1 c2 c3 c4 c5 d0 d1 d2 d3 d4 d5
    go_wp2_with fail
    rw [← HW13.out]
    refine (HS1.out).mono ?_
    rintro e w14 ⟨rfl, b⟩
    have B14 := hide (B13.out.trans (b.mono B13.out.size))
    have Bx14 := hide (Bx13.out.trans (b.mono Bx13.out.size))
    have Ba14 := hide (Ba13.out.trans (b.mono Ba13.out.size))
    have Bb14 := hide (Bb13.out.trans (b.mono Bb13.out.size))
    have Bc14 := hide (Bc13.out.trans (b.mono Bc13.out.size))
    have Bd14 := hide (Bd13.out.trans (b.mono Bd13.out.size))
    have G14 : Hid (w14.heap[w.heap.size]? = _) := (b.block _ (lt_of_block G13.out)).trans G13.out
    have A14 : Hid (w14.heap[w3.heap.size]? = _) := (b.block _ (lt_of_block A13.out)).trans A13.out
    have D14 : Hid (w14.heap[w5.heap.size]? = _) := (b.block _ (lt_of_block D13.out)).trans D13.out
    have E14 : Hid (w14.heap[w7.heap.size]? = _) := (b.block _ (lt_of_block E13.out)).trans E13.out
    have F14 : Hid (w14.heap[w10.heap.size]? = _) := (b.block _ (lt_of_block F13.out)).trans F13.out
    have H14 : Hid (w14.heap[w12.heap.size]? = _) := (b.block _ (lt_of_block H13.out)).trans H13.out
    have b1314 := hide b
    clear b HS1 HW13
    clear c0 c1 c2 c3 c4 c5 d0 d1 d2 d3 d4 d5
    obtain ⟨c0, c1, c2, c3, c4, c5⟩ := Six.of E14.out
    obtain ⟨d0, d1, d2, d3, d4, d5⟩ := Six.of H14.out
    go_wp2_with fail
    refine (HS2.out w14 b1314.out).mono ?_
    rintro e w15 ⟨rfl, b⟩
    have B15 := hide (B14.out.trans (b.mono B14.out.size))
    have Bx15 := hide (Bx14.out.trans (b.mono Bx14.out.size))
    have Ba15 := hide (Ba14.out.trans (b.mono Ba14.out.size))
    have Bb15 := hide (Bb14.out.trans (b.mono Bb14.out.size))
    have Bc15 := hide (Bc14.out.trans (b.mono Bc14.out.size))
    have Bd15 := hide (Bd14.out.trans (b.mono Bd14.out.size))
    have G15 : Hid (w15.heap[w.heap.size]? = _) := (b.block _ (lt_of_block G14.out)).trans G14.out
    have A15 : Hid (w15.heap[w3.heap.size]? = _) := (b.block _ (lt_of_block A14.out)).trans A14.out
    have D15 : Hid (w15.heap[w5.heap.size]? = _) := (b.block _ (lt_of_block D14.out)).trans D14.out
    have E15 : Hid (w15.heap[w7.heap.size]? = _) := (b.block _ (lt_of_block E14.out)).trans E14.out
    have F15 : Hid (w15.heap[w10.heap.size]? = _) := (b.block _ (lt_of_block F14.out)).trans F14.out
    have H15 : Hid (w15.heap[w12.heap.size]? = _) := (b.block _ (lt_of_block H14.out)).trans H14.out
    clear b HS2
    clear c0 c1 c2 c3 c4 c5 d0 d1 d2 d3 d4 d5
    obtain ⟨c0, c1, c2, c3, c4, c5⟩ := Six.of D15.out
    go_wp2_with fail
    refine (HSPA.out w15 Ba15.out).mono ?_
    rintro e w16 ⟨rfl, u⟩
    have hx4 : w3.heap.size < w4.heap.size := lt_of_block A4.out
    have hx6 : w5.heap.size < w6.heap.size := lt_of_block D6.out
    have hx8 : w7.heap.size < w8.heap.size := lt_of_block E8.out
    have hs3 := B3.out.size
    have h45 := ha45.out
    have h67 := hb67.out
    have B16 : Hid (Below w.heap.size w w16) := B15.out.trans (u.below B15.out.size (fun k hk e => by omega))
    have Bx16 : Hid (Below w3.heap.size w3 w16) := Bx15.out.trans (u.below Bx15.out.size (fun k hk e => by omega))
    have G16 : Hid (w16.heap[w.heap.size]? = _) := u.heap G15.out (by omega)
    have A16 : Hid (w16.heap[w3.heap.size]? = _) := u.heap A15.out (by omega)
    have E16 : Hid (w16.heap[w7.heap.size]? = _) := u.heap E15.out (by omega)
    have hz16 : w7.heap.size ≤ w16.heap.size := Nat.le_trans Bb15.out.size u.size
    have HBS2 : Hid (Spo w16 w6.heap.size w7.heap.size bn) := (HBS.out.below (Nat.le_refl _) Bb15.out).move (fun b h1 h2 => u.block b (by have := Bb15.out.size; omega) (fun e => by omega))
    clear u HSPA
    clear c0 c1 c2 c3 c4 c5
    obtain ⟨c0, c1, c2, c3, c4, c5⟩ := Six.of E16.out
    go_wp2_with fail
    refine (HSPB2.out w16 HBS2.out hz16).mono ?_
    rintro e w17 ⟨rfl, u⟩
    have B17 : Hid (Below w.heap.size w w17) := B16.out.trans (u.below B16.out.size (fun k hk e => by omega))
    have Bx17 : Hid (Below w3.heap.size w3 w17) := Bx16.out.trans (u.below Bx16.out.size (fun k hk e => by omega))
    have G17 : Hid (w17.heap[w.heap.size]? = _) := u.heap G16.out (by omega)
    have A17 : Hid (w17.heap[w3.heap.size]? = _) := u.heap A16.out (by omega)
    clear u HSPB2
    clear c0 c1 c2 c3 c4 c5
    obtain ⟨c0, c1, c2, c3, c4, c5⟩ := Six.of A17.out
    obtain ⟨d0, d1, d2, d3, d4, d5⟩ := Six.of G17.out
    go_wp2_with fail
    refine (HQ4.out w17 Bx17.out B17.out).mono ?_
    rintro e w18 ⟨rfl, b⟩
    have B18 := hide (B17.out.trans (b.mono B17.out.size))
    have Bx18 := hide (Bx17.out.trans (b.mono Bx17.out.size))
    have G18 : Hid (w18.heap[w.heap.size]? = _) := (b.block _ (lt_of_block G17.out)).trans G17.out
    have A18 : Hid (w18.heap[w3.heap.size]? = _) := (b.block _ (lt_of_block A17.out)).trans A17.out
    clear b HQ4
    clear c0 c1 c2 c3 c4 c5 d0 d1 d2 d3 d4 d5
    have t1 : (ib == ib) = true := by simp
    go_wp2_with fail
    go_ret
    exact ⟨by simp, B18.out⟩

end Go.Proofs.Yteciiehnoakgdaa
