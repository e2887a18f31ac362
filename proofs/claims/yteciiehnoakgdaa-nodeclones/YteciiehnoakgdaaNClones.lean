/- NodeClones: the walk. -/
import Derived.Test.YteciiehnoakgdaaNLent2
import Derived.Test.YteciiehnoakgdaaNWhole
import Derived.Test.YteciiehnoakgdaaNSpoil2
namespace Go.Proofs.Yteciiehnoakgdaa
open Go.RowKit

set_option maxRecDepth 100000 in
set_option maxHeartbeats 3200000 in
theorem nodeClones_any (n : Nd) (w : World) (hn : n.Ok w) (hz1 : n.ks.L.length * 24 ≤ 140737488351300) (hz2 : n.vs.L.length * 24 ≤ 140737488351300) (hz3 : n.cs.s.length * 8 ≤ 140737488351300) :
    Calls Try.prog 5 #[n.v] w fun e w' => e = .returned (.bool true) ∧ Below w.heap.size w w' := by
  have HN : Hid (∀ W, Below w.heap.size w W → n.Ok W) := fun W h => hn.below h
  clear hn
  have HLE : Hid (∀ W, Below w.heap.size w W → Calls Try.prog 10 #[n.v] W (LePost W n)) := fun W h => lent_any n W (HN.out W h) (by omega) (by omega) (by omega)
  have HSN : Hid (∀ x : Nd, x.p = n.p → ∀ W, Below w.heap.size w W → x.Ok W → Calls Try.prog 21 #[x.v, n.v] W fun e w' => e = .returned (.bool true) ∧ Below W.heap.size W w') := fun x hx W h ho => sameNode_any x n W ho (HN.out W h) hx
  have HWH : Hid (∀ x : Nd, x.p = n.p → ∀ W, Below w.heap.size w W → x.Ok W → SpN W x → Calls Try.prog 12 #[x.v, n.v] W fun e w' => e = .returned (.bool true) ∧ Below W.heap.size W w') := fun x hx W h ho hs => whole_any x n W ho hs (HN.out W h) hx
  obtain ⟨P, hP⟩ : ∃ P, P = n.p := ⟨_, rfl⟩
  unfold LePost at HLE
  rw [← hP] at HLE HSN HWH
  clear hP
  obtain ⟨lv, ⟨ha, hc, hs⟩, ri, ⟨ka, kc, K⟩, ⟨va, vc, V⟩, ⟨ca, cc, C⟩⟩ := n
  simp only [Nd.v, Tx.v, TL.v, IL.v] at HLE HSN HWH ⊢
  clear HN hz1 hz2 hz3
  generalize hs.length = lh at *
  generalize K.length = lk at *
  generalize V.length = lw at *
  generalize C.length = lc at *
  obtain ⟨w0, hw0⟩ : ∃ w0, w0 = w.alloc (.cells #[.int .i64 lv, .slice ha lh hc, .int .i64 ri, .slice ka lk kc, .slice va lw vc, .slice ca lc cc] 30) := ⟨_, rfl⟩
  have B0 : Hid (Below w.heap.size w w0) := by show Below _ _ _; rw [hw0]; exact (Below.refl _ _).alloc (Nat.le_refl _) _
  have G0 : Hid (w0.heap[w.heap.size]? = some (.cells #[.int .i64 lv, .slice ha lh hc, .int .i64 ri, .slice ka lk kc, .slice va lw vc, .slice ca lc cc] 30 (0, 0))) := by show _ = _; rw [hw0]; exact heap_alloc_new w _
  have HW0 := hide hw0
  clear hw0
  go_enter Try.func5, Try.ntmps5
  go_wp2_with fail
  rw [← HW0.out]
  refine (head_any w0).mono ?_
  rintro e w1 ⟨rfl, b⟩
  have B1 := hide (B0.out.trans (b.mono B0.out.size))
  have G1 : Hid (w1.heap[w.heap.size]? = _) := (b.block _ (lt_of_block G0.out)).trans G0.out
  clear b HW0
  obtain ⟨c0, c1, c2, c3, c4, c5⟩ := Six.of G1.out
  go_wp2_with fail
  refine (HLE.out w1 B1.out).mono ?_
  rintro e w2 ⟨x, rfl, hxp, hxo, hxs, b⟩
  have B2 := hide (B1.out.trans (b.mono B1.out.size))
  have G2 : Hid (w2.heap[w.heap.size]? = _) := (b.block _ (lt_of_block G1.out)).trans G1.out
  have HXO : Hid (∀ W, Below w2.heap.size w2 W → x.Ok W) := fun W h => hxo.below h
  have HXS : Hid (∀ W, Below w2.heap.size w2 W → SpN W x) := fun W h => hxs.below h
  have HCX : Hid (∀ W, Below w2.heap.size w2 W → Calls Try.prog 20 #[x.v] W (ClPost W x)) := fun W h => clone_any x W (HXO.out W h)
  have HQ4 := hide (fun W h h' => HWH.out x hxp W h' (HXO.out W h) (HXS.out W h))
  unfold ClPost at HCX
  rw [hxp] at HCX
  clear b hxp hxo hxs HWH HLE HXO HXS
  clear c0 c1 c2 c3 c4 c5
  have Bx2 : Hid (Below w2.heap.size w2 w2) := Below.refl _ _
  obtain ⟨lv6, ⟨ha6, hc6, hs6⟩, ri6, ⟨ka6, kc6, K6⟩, ⟨va6, vc6, V6⟩, ⟨ca6, cc6, C6⟩⟩ := x
  simp only [Nd.v, Tx.v, TL.v, IL.v] at HCX HQ4 ⊢
  generalize hs6.length = lh6 at *
  generalize K6.length = lk6 at *
  generalize V6.length = lw6 at *
  generalize C6.length = lc6 at *
  obtain ⟨w3, hw3⟩ : ∃ w3, w3 = w2.alloc (.cells #[.int .i64 lv6, .slice ha6 lh6 hc6, .int .i64 ri6, .slice ka6 lk6 kc6, .slice va6 lw6 vc6, .slice ca6 lc6 cc6] 30) := ⟨_, rfl⟩
  have bb3 : Below w2.heap.size w2 w3 := by rw [hw3]; exact (Below.refl _ _).alloc (Nat.le_refl _) _
  have B3 := hide (B2.out.trans (bb3.mono B2.out.size))
  have Bx3 := hide (Bx2.out.trans (bb3.mono Bx2.out.size))
  have G3 : Hid (w3.heap[w.heap.size]? = _) := (bb3.block _ (lt_of_block G2.out)).trans G2.out
  have A3 : Hid (w3.heap[w2.heap.size]? = some (.cells #[.int .i64 lv6, .slice ha6 lh6 hc6, .int .i64 ri6, .slice ka6 lk6 kc6, .slice va6 lw6 vc6, .slice ca6 lc6 cc6] 30 (0, 0))) := by show _ = _; rw [hw3]; exact heap_alloc_new w2 _
  have HW3 := hide hw3
  clear hw3 bb3
  go_wp2_with fail
  rw [← HW3.out]
  refine (HCX.out w3 Bx3.out).mono ?_
  rintro e w4 ⟨a, rfl, hap, hao, b⟩
  have B4 := hide (B3.out.trans (b.mono B3.out.size))
  have Bx4 := hide (Bx3.out.trans (b.mono Bx3.out.size))
  have G4 : Hid (w4.heap[w.heap.size]? = _) := (b.block _ (lt_of_block G3.out)).trans G3.out
  have A4 : Hid (w4.heap[w2.heap.size]? = _) := (b.block _ (lt_of_block A3.out)).trans A3.out
  have HSA : Hid (∀ W, Below w4.heap.size w4 W → Below w.heap.size w W → Calls Try.prog 21 #[a.v, _] W fun e w' => e = .returned (.bool true) ∧ Below W.heap.size W w') := fun W h h' => HSN.out a hap W h' (hao.ok.below h)
  have HSP : Hid (Spo w4 w3.heap.size w4.heap.size a) := hao.spo
  have hz34 := b.size
  clear b hap hao HW3
  have Ba4 : Hid (Below w4.heap.size w4 w4) := Below.refl _ _
  obtain ⟨lv7, ⟨ha7, hc7, hs7⟩, ri7, ⟨ka7, kc7, K7⟩, ⟨va7, vc7, V7⟩, ⟨ca7, cc7, C7⟩⟩ := a
  have HSPC : Hid (∀ W, Spo W w3.heap.size w4.heap.size ⟨lv7, ⟨ha7, hc7, hs7⟩, ri7, ⟨ka7, kc7, K7⟩, ⟨va7, vc7, V7⟩, ⟨ca7, cc7, C7⟩⟩ → w4.heap.size ≤ W.heap.size → Calls Try.prog 22 #[Nd.v ⟨lv7, ⟨ha7, hc7, hs7⟩, ri7, ⟨ka7, kc7, K7⟩, ⟨va7, vc7, V7⟩, ⟨ca7, cc7, C7⟩⟩] W fun e w' => e = .returned (.tuple #[]) ∧ Upd (fun b => w3.heap.size ≤ b ∧ b < w4.heap.size) W w') := fun W h h' => spoilN_any _ _ _ W h h'
  simp only [Nd.v, Tx.v, TL.v, IL.v] at HSA HSPC ⊢
  have HSPM : Hid (∀ W, Below w4.heap.size w4 W → Spo W w3.heap.size w4.heap.size ⟨lv7, ⟨ha7, hc7, hs7⟩, ri7, ⟨ka7, kc7, K7⟩, ⟨va7, vc7, V7⟩, ⟨ca7, cc7, C7⟩⟩) := fun W h => HSP.out.below (Nat.le_refl _) h
  have HSPD := hide (fun W h => HSPC.out W (HSPM.out W h) h.size)
  clear HSP HSPC HSPM
  generalize hs7.length = lh7 at *
  generalize K7.length = lk7 at *
  generalize V7.length = lw7 at *
  generalize C7.length = lc7 at *
  obtain ⟨w5, hw5⟩ : ∃ w5, w5 = w4.alloc (.cells #[.int .i64 lv7, .slice ha7 lh7 hc7, .int .i64 ri7, .slice ka7 lk7 kc7, .slice va7 lw7 vc7, .slice ca7 lc7 cc7] 30) := ⟨_, rfl⟩
  have bb5 : Below w4.heap.size w4 w5 := by rw [hw5]; exact (Below.refl _ _).alloc (Nat.le_refl _) _
  have B5 := hide (B4.out.trans (bb5.mono B4.out.size))
  have Bx5 := hide (Bx4.out.trans (bb5.mono Bx4.out.size))
  have Ba5 := hide (Ba4.out.trans (bb5.mono Ba4.out.size))
  have G5 : Hid (w5.heap[w.heap.size]? = _) := (bb5.block _ (lt_of_block G4.out)).trans G4.out
  have A5 : Hid (w5.heap[w2.heap.size]? = _) := (bb5.block _ (lt_of_block A4.out)).trans A4.out
  have D5 : Hid (w5.heap[w4.heap.size]? = some (.cells #[.int .i64 lv7, .slice ha7 lh7 hc7, .int .i64 ri7, .slice ka7 lk7 kc7, .slice va7 lw7 vc7, .slice ca7 lc7 cc7] 30 (0, 0))) := by show _ = _; rw [hw5]; exact heap_alloc_new w4 _
  have HW5 := hide hw5
  clear hw5 bb5
  obtain ⟨c0, c1, c2, c3, c4, c5⟩ := Six.of A5.out
  rw [HW5.out] at c0 c1 c2 c3 c4 c5
  go_wp2_with fail
  rw [← HW5.out]
  refine (HCX.out w5 Bx5.out).mono ?_
  rintro e w6 ⟨c, rfl, hcp, hco, b⟩
  have B6 := hide (B5.out.trans (b.mono B5.out.size))
  have Bx6 := hide (Bx5.out.trans (b.mono Bx5.out.size))
  have Ba6 := hide (Ba5.out.trans (b.mono Ba5.out.size))
  have G6 : Hid (w6.heap[w.heap.size]? = _) := (b.block _ (lt_of_block G5.out)).trans G5.out
  have A6 : Hid (w6.heap[w2.heap.size]? = _) := (b.block _ (lt_of_block A5.out)).trans A5.out
  have D6 : Hid (w6.heap[w4.heap.size]? = _) := (b.block _ (lt_of_block D5.out)).trans D5.out
  have HCO := hide hco
  have HSZ : Hid (w5.heap.size ≤ w6.heap.size) := b.size
  have HSB : Hid (∀ W, Below w.heap.size w W → c.Ok W → Calls Try.prog 21 #[c.v, _] W fun e w' => e = .returned (.bool true) ∧ Below W.heap.size W w') := fun W h ho => HSN.out c hcp W h ho
  clear b hcp hco HW5 HCX HSN
  clear c0 c1 c2 c3 c4 c5
  have Bc6 : Hid (Below w6.heap.size w6 w6) := Below.refl _ _
  obtain ⟨cn, hcn⟩ : ∃ cn, cn = c := ⟨_, rfl⟩
  rw [← hcn] at HCO
  have HSB2 : Hid (∀ W, Below w.heap.size w W → cn.Ok W → Calls Try.prog 21 #[c.v, .agg #[.int .i64 lv, .slice ha lh hc, .int .i64 ri, .slice ka lk kc, .slice va lw vc, .slice ca lc cc]] W fun e w' => e = .returned (.bool true) ∧ Below W.heap.size W w') := by rw [hcn]; exact HSB.out
  clear HSB hcn
  obtain ⟨lv8, ⟨ha8, hc8, hs8⟩, ri8, ⟨ka8, kc8, K8⟩, ⟨va8, vc8, V8⟩, ⟨ca8, cc8, C8⟩⟩ := c
  simp only [Nd.v, Tx.v, TL.v, IL.v] at HSB2 ⊢
  generalize hs8.length = lh8 at *
  generalize K8.length = lk8 at *
  generalize V8.length = lw8 at *
  generalize C8.length = lc8 at *
  obtain ⟨w7, hw7⟩ : ∃ w7, w7 = w6.alloc (.cells #[.int .i64 lv8, .slice ha8 lh8 hc8, .int .i64 ri8, .slice ka8 lk8 kc8, .slice va8 lw8 vc8, .slice ca8 lc8 cc8] 30) := ⟨_, rfl⟩
  have bb7 : Below w6.heap.size w6 w7 := by rw [hw7]; exact (Below.refl _ _).alloc (Nat.le_refl _) _
  have B7 := hide (B6.out.trans (bb7.mono B6.out.size))
  have Bx7 := hide (Bx6.out.trans (bb7.mono Bx6.out.size))
  have Ba7 := hide (Ba6.out.trans (bb7.mono Ba6.out.size))
  have Bc7 := hide (Bc6.out.trans (bb7.mono Bc6.out.size))
  have G7 : Hid (w7.heap[w.heap.size]? = _) := (bb7.block _ (lt_of_block G6.out)).trans G6.out
  have A7 : Hid (w7.heap[w2.heap.size]? = _) := (bb7.block _ (lt_of_block A6.out)).trans A6.out
  have D7 : Hid (w7.heap[w4.heap.size]? = _) := (bb7.block _ (lt_of_block D6.out)).trans D6.out
  have E7 : Hid (w7.heap[w6.heap.size]? = some (.cells #[.int .i64 lv8, .slice ha8 lh8 hc8, .int .i64 ri8, .slice ka8 lk8 kc8, .slice va8 lw8 vc8, .slice ca8 lc8 cc8] 30 (0, 0))) := by show _ = _; rw [hw7]; exact heap_alloc_new w6 _
  have HW7 := hide hw7
  clear hw7 bb7
  obtain ⟨c0, c1, c2, c3, c4, c5⟩ := Six.of D7.out
  obtain ⟨d0, d1, d2, d3, d4, d5⟩ := Six.of G7.out
  rw [HW7.out] at c0 c1 c2 c3 c4 c5 d0 d1 d2 d3 d4 d5
  go_wp2_with fail
  rw [← HW7.out]
  refine (HSA.out w7 Ba7.out B7.out).mono ?_
  rintro e w8 ⟨rfl, b⟩
  have B8 := hide (B7.out.trans (b.mono B7.out.size))
  have Bx8 := hide (Bx7.out.trans (b.mono Bx7.out.size))
  have Ba8 := hide (Ba7.out.trans (b.mono Ba7.out.size))
  have Bc8 := hide (Bc7.out.trans (b.mono Bc7.out.size))
  have G8 : Hid (w8.heap[w.heap.size]? = _) := (b.block _ (lt_of_block G7.out)).trans G7.out
  have A8 : Hid (w8.heap[w2.heap.size]? = _) := (b.block _ (lt_of_block A7.out)).trans A7.out
  have D8 : Hid (w8.heap[w4.heap.size]? = _) := (b.block _ (lt_of_block D7.out)).trans D7.out
  have E8 : Hid (w8.heap[w6.heap.size]? = _) := (b.block _ (lt_of_block E7.out)).trans E7.out
  clear b HW7 HSA
  clear c0 c1 c2 c3 c4 c5 d0 d1 d2 d3 d4 d5
  obtain ⟨c0, c1, c2, c3, c4, c5⟩ := Six.of D8.out
  go_wp2_with fail
  refine (HSPD.out w8 Ba8.out).mono ?_
  rintro e w9 ⟨rfl, u⟩
  have hx3 : w2.heap.size < w3.heap.size := lt_of_block A3.out
  have hz4 : w4.heap.size < w5.heap.size := lt_of_block D5.out
  have hs0 := B2.out.size
  have h56 := HSZ.out
  have B9 : Hid (Below w.heap.size w w9) := B8.out.trans (u.below B8.out.size (fun k hk e => by omega))
  have Bx9 : Hid (Below w2.heap.size w2 w9) := Bx8.out.trans (u.below Bx8.out.size (fun k hk e => by omega))
  have G9 : Hid (w9.heap[w.heap.size]? = _) := u.heap G8.out (by omega)
  have A9 : Hid (w9.heap[w2.heap.size]? = _) := u.heap A8.out (by omega)
  have E9 : Hid (w9.heap[w6.heap.size]? = _) := u.heap E8.out (by omega)
  have HCK : Hid (cn.Ok w9) := ((HCO.out.below Bc8.out).upd u (fun b h1 _ e => by omega)).ok
  clear u HSPD
  clear c0 c1 c2 c3 c4 c5
  obtain ⟨c0, c1, c2, c3, c4, c5⟩ := Six.of E9.out
  obtain ⟨d0, d1, d2, d3, d4, d5⟩ := Six.of G9.out
  go_wp2_with fail
  refine (HSB2.out w9 B9.out HCK.out).mono ?_
  rintro e w10 ⟨rfl, b⟩
  have B10 := hide (B9.out.trans (b.mono B9.out.size))
  have Bx10 := hide (Bx9.out.trans (b.mono Bx9.out.size))
  have G10 : Hid (w10.heap[w.heap.size]? = _) := (b.block _ (lt_of_block G9.out)).trans G9.out
  have A10 : Hid (w10.heap[w2.heap.size]? = _) := (b.block _ (lt_of_block A9.out)).trans A9.out
  have E10 : Hid (w10.heap[w6.heap.size]? = _) := (b.block _ (lt_of_block E9.out)).trans E9.out
  clear b HSB2
  clear c0 c1 c2 c3 c4 c5 d0 d1 d2 d3 d4 d5
  obtain ⟨c0, c1, c2, c3, c4, c5⟩ := Six.of A10.out
  obtain ⟨d0, d1, d2, d3, d4, d5⟩ := Six.of G10.out
  go_wp2_with fail
  refine (HQ4.out w10 Bx10.out B10.out).mono ?_
  rintro e w11 ⟨rfl, b⟩
  have B11 := hide (B10.out.trans (b.mono B10.out.size))
  have Bx11 := hide (Bx10.out.trans (b.mono Bx10.out.size))
  have G11 : Hid (w11.heap[w.heap.size]? = _) := (b.block _ (lt_of_block G10.out)).trans G10.out
  have A11 : Hid (w11.heap[w2.heap.size]? = _) := (b.block _ (lt_of_block A10.out)).trans A10.out
  have E11 : Hid (w11.heap[w6.heap.size]? = _) := (b.block _ (lt_of_block E10.out)).trans E10.out
  clear b HQ4
  clear c0 c1 c2 c3 c4 c5 d0 d1 d2 d3 d4 d5
  go_wp2_with fail
  go_ret
  exact ⟨rfl, B11.out⟩

end Go.Proofs.Yteciiehnoakgdaa
