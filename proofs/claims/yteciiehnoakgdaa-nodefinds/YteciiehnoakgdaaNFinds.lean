/- NodeFinds: the walk. -/
import Derived.Test.YteciiehnoakgdaaNLent2
import Derived.Test.YteciiehnoakgdaaNWhole
import Derived.Test.YteciiehnoakgdaaNRFind
namespace Go.Proofs.Yteciiehnoakgdaa
open Go.RowKit

set_option maxRecDepth 100000 in
set_option maxHeartbeats 3200000 in
theorem nodeFinds_any (n : Nd) (k : Tx) (w : World) (hn : n.Ok w) (hk : k.Ok w) (hz1 : n.ks.L.length * 24 ≤ 140737488351300) (hz2 : n.vs.L.length * 24 ≤ 140737488351300) (hz3 : n.cs.s.length * 8 ≤ 140737488351300) :
    Calls Try.prog 4 #[n.v, k.v] w fun e w' => e = .returned (.bool true) ∧ Below w.heap.size w w' := by
  have HN : Hid (∀ W, Below w.heap.size w W → n.Ok W) := fun W h => hn.below h
  have HK : Hid (∀ W, Below w.heap.size w W → k.Ok W) := fun W h => hk.below h
  clear hn hk
  have HLE : Hid (∀ W, Below w.heap.size w W → Calls Try.prog 10 #[n.v] W (LePost W n)) := fun W h => lent_any n W (HN.out W h) (by omega) (by omega) (by omega)
  obtain ⟨cb, hcb⟩ : ∃ cb, cb = cntB n.ks.p k.s := ⟨_, rfl⟩
  obtain ⟨ib, hib⟩ : ∃ ib, ib = isIn n.ks.p k.s := ⟨_, rfl⟩
  obtain ⟨bb, hbb⟩ : ∃ bb, bb = beyB n.hi.s k.s := ⟨_, rfl⟩
  obtain ⟨ch, hch⟩ : ∃ ch, ch = chiN n.ks.p n.cs.s k.s := ⟨_, rfl⟩
  have HRF : Hid (∀ W, Below w.heap.size w W → Calls Try.prog 17 #[n.v, k.v] W fun e w' => e = .returned (.tuple #[.int .i64 (cb : Nat), .bool ib]) ∧ Below W.heap.size W w') := fun W h => by rw [hcb, hib]; exact rfind_any n k W (HN.out W h) (HK.out W h)
  have HRB : Hid (∀ W, Below w.heap.size w W → Calls Try.prog 18 #[n.v, k.v] W fun e w' => e = .returned (.bool bb) ∧ Below W.heap.size W w') := fun W h => by rw [hbb]; exact rbeyond_any n k W (HN.out W h) (HK.out W h)
  have HRC : Hid (∀ W, Below w.heap.size w W → Calls Try.prog 19 #[n.v, k.v] W fun e w' => e = .returned (.int .i64 ch) ∧ Below W.heap.size W w') := fun W h => by rw [hch]; exact rchild_any n k W (HN.out W h) (HK.out W h)
  have HP1 : Hid (∀ x : Nd, x.p = n.p → ∀ W, Below w.heap.size w W → x.Ok W → Calls Try.prog 14 #[x.v, k.v] W fun e w' => e = .returned (.bool bb) ∧ Below W.heap.size W w') := fun x hx W h ho => by
    have h1 := beyond_any x k W ho (HK.out W h)
    rw [show x.hi.s = n.hi.s from congrArg NP.hi hx, ← hbb] at h1
    exact h1
  have HP2 : Hid (∀ x : Nd, x.p = n.p → ∀ W, Below w.heap.size w W → x.Ok W → Calls Try.prog 15 #[x.v, k.v] W fun e w' => e = .returned (.tuple #[.int .i64 (cb : Nat), .bool ib]) ∧ Below W.heap.size W w') := fun x hx W h ho => by
    have h1 := find_any x k W ho (HK.out W h)
    rw [show x.ks.p = n.ks.p from congrArg NP.ks hx, ← hcb, ← hib] at h1
    exact h1
  have HP3 : Hid (∀ x : Nd, x.p = n.p → ∀ W, Below w.heap.size w W → x.Ok W → Calls Try.prog 16 #[x.v, k.v] W fun e w' => e = .returned (.int .i64 ch) ∧ Below W.heap.size W w') := fun x hx W h ho => by
    have h1 := child_any x k W ho (HK.out W h)
    rw [show x.ks.p = n.ks.p from congrArg NP.ks hx, show x.cs.s = n.cs.s from congrArg NP.cs hx, ← hch] at h1
    exact h1
  have HWH : Hid (∀ x : Nd, x.p = n.p → ∀ W, Below w.heap.size w W → x.Ok W → SpN W x → Calls Try.prog 12 #[x.v, n.v] W fun e w' => e = .returned (.bool true) ∧ Below W.heap.size W w') := fun x hx W h ho hs => whole_any x n W ho hs (HN.out W h) hx
  clear hcb hib hbb hch
  obtain ⟨P, hP⟩ : ∃ P, P = n.p := ⟨_, rfl⟩
  unfold LePost at HLE
  rw [← hP] at HLE HP1 HP2 HP3 HWH
  clear hP
  obtain ⟨lv, ⟨ha, hc, hs⟩, ri, ⟨ka, kc, K⟩, ⟨va, vc, V⟩, ⟨ca, cc, C⟩⟩ := n
  obtain ⟨xa, xc, xs⟩ := k
  simp only [Nd.v, Tx.v, TL.v, IL.v] at HLE HRF HRB HRC HP1 HP2 HP3 HWH ⊢
  clear HN HK hz1 hz2 hz3
  generalize hs.length = lh at *
  generalize K.length = lk at *
  generalize V.length = lw at *
  generalize C.length = lc at *
  generalize xs.length = lx at *
  obtain ⟨w0, hw0⟩ : ∃ w0, w0 = w.alloc (.cells #[.int .i64 lv, .slice ha lh hc, .int .i64 ri, .slice ka lk kc, .slice va lw vc, .slice ca lc cc] 30) := ⟨_, rfl⟩
  have B0 : Hid (Below w.heap.size w w0) := by show Below _ _ _; rw [hw0]; exact (Below.refl _ _).alloc (Nat.le_refl _) _
  have G0 : Hid (w0.heap[w.heap.size]? = some (.cells #[.int .i64 lv, .slice ha lh hc, .int .i64 ri, .slice ka lk kc, .slice va lw vc, .slice ca lc cc] 30 (0, 0))) := by show _ = _; rw [hw0]; exact heap_alloc_new w _
  have HW0 := hide hw0
  clear hw0
  go_enter Try.func4, Try.ntmps4
  go_wp2_with fail
  rw [← HW0.out]
  refine (head_any w0).mono ?_
  rintro e w1 ⟨rfl, b1⟩
  have B1 := hide (B0.out.trans (b1.mono B0.out.size))
  have G1 : Hid (w1.heap[w.heap.size]? = _) := (b1.block _ (lt_of_block G0.out)).trans G0.out
  obtain ⟨c0, c1, c2, c3, c4, c5⟩ := Six.of G1.out
  clear b1 HW0
  go_wp2_with fail
  refine (HLE.out w1 B1.out).mono ?_
  rintro e w2 ⟨x, rfl, hxp, hxo, hxs, b2⟩
  have HXO : Hid (∀ W, Below w2.heap.size w2 W → x.Ok W) := fun W h => hxo.below h
  have HXS : Hid (∀ W, Below w2.heap.size w2 W → SpN W x) := fun W h => hxs.below h
  have HQ1 := hide (fun W h h' => HP1.out x hxp W h' (HXO.out W h))
  have HQ2 := hide (fun W h h' => HP2.out x hxp W h' (HXO.out W h))
  have HQ3 := hide (fun W h h' => HP3.out x hxp W h' (HXO.out W h))
  have HQ4 := hide (fun W h h' => HWH.out x hxp W h' (HXO.out W h) (HXS.out W h))
  have B2 := hide (B1.out.trans (b2.mono B1.out.size))
  have G2 : Hid (w2.heap[w.heap.size]? = _) := (b2.block _ (lt_of_block G1.out)).trans G1.out
  clear hxp hxo hxs b2 HP1 HP2 HP3 HWH HLE c0 c1 c2 c3 c4 c5 HXO HXS
  obtain ⟨lv6, ⟨ha6, hc6, hs6⟩, ri6, ⟨ka6, kc6, K6⟩, ⟨va6, vc6, V6⟩, ⟨ca6, cc6, C6⟩⟩ := x
  simp only at HQ1 HQ2 HQ3 HQ4 ⊢
  generalize hs6.length = lh6 at *
  generalize K6.length = lk6 at *
  generalize V6.length = lw6 at *
  generalize C6.length = lc6 at *
  obtain ⟨w3, hw3⟩ : ∃ w3, w3 = w2.alloc (.cells #[.int .i64 lv6, .slice ha6 lh6 hc6, .int .i64 ri6, .slice ka6 lk6 kc6, .slice va6 lw6 vc6, .slice ca6 lc6 cc6] 30) := ⟨_, rfl⟩
  have B23 : Hid (Below w2.heap.size w2 w3) := by show Below _ _ _; rw [hw3]; exact (Below.refl _ _).alloc (Nat.le_refl _) _
  have B3 := hide (B2.out.trans (B23.out.mono B2.out.size))
  have A3 : Hid (w3.heap[w2.heap.size]? = some (.cells #[.int .i64 lv6, .slice ha6 lh6 hc6, .int .i64 ri6, .slice ka6 lk6 kc6, .slice va6 lw6 vc6, .slice ca6 lc6 cc6] 30 (0, 0))) := by show _ = _; rw [hw3]; exact heap_alloc_new w2 _
  have G3 : Hid (w3.heap[w.heap.size]? = _) := (B23.out.block _ (lt_of_block G2.out)).trans G2.out
  have HW3 := hide hw3
  clear hw3
  go_wp2_with fail
  rw [← HW3.out]
  refine (HQ1.out w3 B23.out B3.out).mono ?_
  rintro e w4 ⟨rfl, b4⟩
  have B24 := hide (B23.out.trans (b4.mono B23.out.size))
  have B4 := hide (B3.out.trans (b4.mono B3.out.size))
  have A4 : Hid (w4.heap[w2.heap.size]? = _) := (b4.block _ (lt_of_block A3.out)).trans A3.out
  have G4 : Hid (w4.heap[w.heap.size]? = _) := (b4.block _ (lt_of_block G3.out)).trans G3.out
  obtain ⟨d0, d1, d2, d3, d4, d5⟩ := Six.of A4.out
  clear b4 HW3 HQ1
  go_wp2_with fail
  refine (HQ2.out w4 B24.out B4.out).mono ?_
  rintro e w5 ⟨rfl, b5⟩
  have B25 := hide (B24.out.trans (b5.mono B24.out.size))
  have B5 := hide (B4.out.trans (b5.mono B4.out.size))
  have A5 : Hid (w5.heap[w2.heap.size]? = _) := (b5.block _ (lt_of_block A4.out)).trans A4.out
  have G5 : Hid (w5.heap[w.heap.size]? = _) := (b5.block _ (lt_of_block G4.out)).trans G4.out
  clear b5 HQ2 d0 d1 d2 d3 d4 d5
  obtain ⟨d0, d1, d2, d3, d4, d5⟩ := Six.of A5.out
  go_wp2_with fail
  refine (HQ3.out w5 B25.out B5.out).mono ?_
  rintro e w6 ⟨rfl, b6⟩
  have B26 := hide (B25.out.trans (b6.mono B25.out.size))
  have B6 := hide (B5.out.trans (b6.mono B5.out.size))
  have A6 : Hid (w6.heap[w2.heap.size]? = _) := (b6.block _ (lt_of_block A5.out)).trans A5.out
  have G6 : Hid (w6.heap[w.heap.size]? = _) := (b6.block _ (lt_of_block G5.out)).trans G5.out
  clear b6 HQ3 d0 d1 d2 d3 d4 d5
  obtain ⟨d0, d1, d2, d3, d4, d5⟩ := Six.of G6.out
  go_wp2_with fail
  refine (HRF.out w6 B6.out).mono ?_
  rintro e w7 ⟨rfl, b7⟩
  have B27 := hide (B26.out.trans (b7.mono B26.out.size))
  have B7 := hide (B6.out.trans (b7.mono B6.out.size))
  have A7 : Hid (w7.heap[w2.heap.size]? = _) := (b7.block _ (lt_of_block A6.out)).trans A6.out
  have G7 : Hid (w7.heap[w.heap.size]? = _) := (b7.block _ (lt_of_block G6.out)).trans G6.out
  clear b7 HRF d0 d1 d2 d3 d4 d5
  obtain ⟨d0, d1, d2, d3, d4, d5⟩ := Six.of A7.out
  obtain ⟨c0, c1, c2, c3, c4, c5⟩ := Six.of G7.out
  go_wp2_with fail
  refine (HQ4.out w7 B27.out B7.out).mono ?_
  rintro e w8 ⟨rfl, b8⟩
  have B8 := hide (B7.out.trans (b8.mono B7.out.size))
  have G8 : Hid (w8.heap[w.heap.size]? = _) := (b8.block _ (lt_of_block G7.out)).trans G7.out
  clear b8 HQ4 d0 d1 d2 d3 d4 d5 c0 c1 c2 c3 c4 c5
  obtain ⟨c0, c1, c2, c3, c4, c5⟩ := Six.of G8.out
  go_wp2_with fail
  refine (HRB.out w8 B8.out).mono ?_
  rintro e w9 ⟨rfl, b9⟩
  have B9 := hide (B8.out.trans (b9.mono B8.out.size))
  have G9 : Hid (w9.heap[w.heap.size]? = _) := (b9.block _ (lt_of_block G8.out)).trans G8.out
  clear b9 HRB c0 c1 c2 c3 c4 c5
  obtain ⟨c0, c1, c2, c3, c4, c5⟩ := Six.of G9.out
  have t1 : (bb == bb) = true := by simp
  have t2 : (ib == ib) = true := by simp
  go_wp2_with fail
  refine (HRC.out w9 B9.out).mono ?_
  rintro e w10 ⟨rfl, b10⟩
  have B10 := hide (B9.out.trans (b10.mono B9.out.size))
  clear b10 HRC
  go_wp2_with fail
  go_ret
  exact ⟨by simp, B10.out⟩

end Go.Proofs.Yteciiehnoakgdaa
