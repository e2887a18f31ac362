/- NodeSplits: the walk. -/
import Derived.Test.YtclgimklfejohaaNSplits0
import Derived.Test.YtclgimklfejohaaNLent2
import Derived.Test.YtclgimklfejohaaNWhole
import Derived.Deep.CutBlock
import Derived.Deep.DeepCutAuto
namespace Go.Proofs.Ytclgimklfejohaa
open Go.RowKit

set_option maxRecDepth 100000 in
set_option maxHeartbeats 6400000 in
theorem nodeSplits_any (n : Nd) (nd lf inn fl bk right : Int) (w : World) (hn : n.Ok w) (hz1 : n.ks.L.length * 24 ≤ 140737488351300) (hz2 : n.vs.L.length * 24 ≤ 140737488351300) (hz3 : n.cs.s.length * 8 ≤ 140737488351300) :
    Calls Try.prog 3 #[n.v, .agg #[.int .i64 nd, .int .i64 lf, .int .i64 inn, .int .i64 fl, .int .i64 bk], .int .i64 right] w fun e w' => e = .returned (.bool true) ∧ Below w.heap.size w w' := by
  have HHD : Hid (∀ W, Calls Try.prog 6 #[] W fun e w' => e = .returned (.bool true) ∧ Below W.heap.size W w') := fun W => head_any W
  have HNO : Hid (∀ W, Below w.heap.size w W → n.Ok W) := fun W hb => hn.below hb
  have HRT : Hid (∀ W, Below w.heap.size w W → Calls Try.prog 7 #[n.v] W fun e w' => e = .returned (.bool (decide (RtP n.p))) ∧ Below W.heap.size W w') := fun W hb => right_any n W (hn.below hb)
  have HLE : Hid (∀ W, Below w.heap.size w W → Calls Try.prog 8 #[n.v] W (LePost W n)) := fun W hb => lent_any n W (hn.below hb) (by omega) (by omega) (by omega)
  have HRO : Hid (∀ W, Calls Try.prog 12 #[n.v, .agg #[.int .i64 nd, .int .i64 lf, .int .i64 inn, .int .i64 fl, .int .i64 bk]] W fun e w' => e = .returned (.bool (decide (OvP n.lv n.ks.L.length n.cs.s.length lf inn))) ∧ Below W.heap.size W w') := fun W => rover_any n nd lf inn fl bk W
  have HRS : Hid (RtP n.p → ∀ W, Below w.heap.size w W → Calls Try.prog 13 #[n.v, .int .i64 right] W (RspP W (n.p.s1 right) n.p.s2 n.p.s3)) := fun hR W hb => rsplit_all n right W (hn.below hb) hR
  have HWH : Hid (∀ x : Nd, x.p = n.p → ∀ W, Below w.heap.size w W → x.Ok W → SpN W x → Calls Try.prog 11 #[x.v, n.v] W fun e w' => e = .returned (.bool true) ∧ Below W.heap.size W w') := fun x hx W h ho hs => whole_any x n W ho hs (hn.below h) hx
  clear hn hz1 hz2 hz3
  obtain ⟨np, hnp⟩ : ∃ np, np = n.p := ⟨_, rfl⟩
  obtain ⟨ov, hov⟩ : ∃ ov, ov = decide (OvP n.lv n.ks.L.length n.cs.s.length lf inn) := ⟨_, rfl⟩
  have hpk : n.ks.L.length = np.ks.length := by rw [hnp]; exact (TL.p_len _).symm
  have hpc : n.cs.s.length = np.cs.length := by rw [hnp]; rfl
  have hpl : n.lv = np.lv := by rw [hnp]; rfl
  rw [← hov] at HRO
  rw [hpk, hpc, hpl] at hov
  rw [← hnp] at HRT HRS HWH
  have HOV := hide hov
  unfold LePost at HLE
  rw [← hnp] at HLE
  clear hpk hpc hpl hov hnp HNO
  obtain ⟨alv, ⟨aha, ahc, ahs⟩, ari, ⟨aka, akc, aK⟩, ⟨ava, avc, aV⟩, ⟨aca, acc, aC⟩⟩ := n
  have HV : Hid ((⟨alv, ⟨aha, ahc, ahs⟩, ari, ⟨aka, akc, aK⟩, ⟨ava, avc, aV⟩, ⟨aca, acc, aC⟩⟩ : Nd).v = .agg #[.int .i64 alv, .slice aha ahs.length ahc, .int .i64 ari, .slice aka aK.length akc, .slice ava aV.length avc, .slice aca aC.length acc]) := rfl
  rw [HV.out] at HRT HLE HRO HRS HWH ⊢
  clear HV
  generalize ahs.length = alh at *
  generalize aK.length = alk at *
  generalize aV.length = alw at *
  generalize aC.length = alc at *
  obtain ⟨w0, hw0⟩ : ∃ w0, w0 = (w.alloc (.cells #[.int .i64 alv, .slice aha alh ahc, .int .i64 ari, .slice aka alk akc, .slice ava alw avc, .slice aca alc acc] 30)).alloc (.cells #[.int .i64 nd, .int .i64 lf, .int .i64 inn, .int .i64 fl, .int .i64 bk] 32) := ⟨_, rfl⟩
  have b0 : Below w.heap.size w w0 := by rw [hw0]; exact ((Below.refl _ _).alloc (Nat.le_refl _) _).alloc (by simp) _
  have g0 : w0.heap[w.heap.size]? = some (.cells #[.int .i64 alv, .slice aha alh ahc, .int .i64 ari, .slice aka alk akc, .slice ava alw avc, .slice aca alc acc] 30 (0, 0)) := by rw [hw0]; exact old_at (new_at rfl)
  have g1 : w0.heap[w.heap.size + 1]? = some (.cells #[.int .i64 nd, .int .i64 lf, .int .i64 inn, .int .i64 fl, .int .i64 bk] 32 (0, 0)) := by rw [hw0]; exact new_at (by simp)
  have HBX : Hid (∀ W, Below w0.heap.size w0 W → Six W w.heap.size (.int .i64 alv) (.slice aha alh ahc) (.int .i64 ari) (.slice aka alk akc) (.slice ava alw avc) (.slice aca alc acc) ∧ (W.cell? ⟨w.heap.size + 1, 0, none⟩ = some (.int .i64 nd) ∧ W.cell? ⟨w.heap.size + 1, 1, none⟩ = some (.int .i64 lf) ∧ W.cell? ⟨w.heap.size + 1, 2, none⟩ = some (.int .i64 inn) ∧ W.cell? ⟨w.heap.size + 1, 3, none⟩ = some (.int .i64 fl) ∧ W.cell? ⟨w.heap.size + 1, 4, none⟩ = some (.int .i64 bk)) ∧ Below w.heap.size w W) := fun W hb => by
    refine ⟨Six.of ((hb.block _ (lt_of_block g0)).trans g0), ?_, b0.trans (hb.mono b0.size)⟩
    have h := (hb.block _ (lt_of_block g1)).trans g1
    refine ⟨?_, ?_, ?_, ?_, ?_⟩ <;> (rw [cell_of_row _ _ _ _ _ _ h]; rfl)
  have hl0 := lt_of_block g1
  have HL0 := hide hl0
  have HW0 := hide hw0
  have hsz : w0.heap.size = w.heap.size + 2 := by rw [hw0]; simp
  have HSZ0 := hide hsz
  clear hw0 b0 g0 g1 hl0 hsz
  go_enter Try.func3, Try.ntmps3
  go_upto_region 1 with fail
  rw [← HW0.out]
  clear HW0
  go_wp2_with fail
  refine (HHD.out w0).mono ?_
  rintro e w1 ⟨rfl, b1⟩
  have B1 := hide b1
  obtain ⟨c0, c1, c2, c3, c4, c5⟩ := (HBX.out w1 B1.out).1
  have HR1 := hide (HRT.out w1 (HBX.out w1 B1.out).2.2)
  clear b1 HHD HRT
  go_wp2_with fail
  refine HR1.out.mono ?_
  rintro e w2 ⟨rfl, b2⟩
  have B2 := hide (B1.out.trans (b2.mono B1.out.size))
  obtain ⟨d0, d1, d2, d3, d4, d5⟩ := (HBX.out w2 B2.out).1
  have HL2 := hide (HLE.out w2 (HBX.out w2 B2.out).2.2)
  clear b2 HR1 HLE c0 c1 c2 c3 c4 c5
  obtain ⟨rt, hrt⟩ : ∃ rt, rt = decide (RtP np) := ⟨_, rfl⟩
  rw [← hrt]
  have HRTD := hide hrt
  clear hrt
  go_wp2_with fail
  refine HL2.out.mono ?_
  rintro e w3 ⟨⟨xlv, ⟨xha, xhc, xhs⟩, xri, ⟨xka, xkc, xK⟩, ⟨xva, xvc, xV⟩, ⟨xca, xcc, xC⟩⟩, rfl, hxp, hxo, hxs, b3⟩
  have B3 := hide (B2.out.trans (b3.mono B2.out.size))
  obtain ⟨xlh, xh1⟩ : ∃ x, xhs.length = x := ⟨_, rfl⟩
  obtain ⟨xlk, xh2⟩ : ∃ x, xK.length = x := ⟨_, rfl⟩
  obtain ⟨xlw, xh3⟩ : ∃ x, xV.length = x := ⟨_, rfl⟩
  obtain ⟨xlc, xh4⟩ : ∃ x, xC.length = x := ⟨_, rfl⟩
  simp only [Nd.v, Tx.v, TL.v, IL.v]
  rw [xh1, xh2, xh3, xh4]
  have xL := hide (And.intro xh1 (And.intro xh2 (And.intro xh3 xh4)))
  clear xh1 xh2 xh3 xh4
  obtain ⟨w4, hw4⟩ : ∃ x, x = w3.alloc (.cells #[.int .i64 xlv, .slice xha xlh xhc, .int .i64 xri, .slice xka xlk xkc, .slice xva xlw xvc, .slice xca xlc xcc] 30) := ⟨_, rfl⟩
  have b4 : Below w3.heap.size w3 w4 := by rw [hw4]; exact (Below.refl _ _).alloc (Nat.le_refl _) _
  have g4 : w4.heap[w3.heap.size]? = some (.cells #[.int .i64 xlv, .slice xha xlh xhc, .int .i64 xri, .slice xka xlk xkc, .slice xva xlw xvc, .slice xca xlc xcc] 30 (0, 0)) := by rw [hw4]; exact heap_alloc_new w3 _
  have B4 := hide (B3.out.trans (b4.mono B3.out.size))
  have HW4 := hide hw4
  have HX : Hid (∀ W, Below w3.heap.size w3 W → (⟨xlv, ⟨xha, xhc, xhs⟩, xri, ⟨xka, xkc, xK⟩, ⟨xva, xvc, xV⟩, ⟨xca, xcc, xC⟩⟩ : Nd).Ok W ∧ SpN W (⟨xlv, ⟨xha, xhc, xhs⟩, xri, ⟨xka, xkc, xK⟩, ⟨xva, xvc, xV⟩, ⟨xca, xcc, xC⟩⟩ : Nd)) := fun W hb => ⟨hxo.below hb, hxs.below hb⟩
  have HB34 := hide b4
  have HXB : Hid (∀ W, Below w4.heap.size w4 W → Six W w3.heap.size (.int .i64 xlv) (.slice xha xlh xhc) (.int .i64 xri) (.slice xka xlk xkc) (.slice xva xlw xvc) (.slice xca xlc xcc) ∧ Below w3.heap.size w3 W ∧ Below w0.heap.size w0 W) := fun W hb => ⟨Six.of ((hb.block _ (lt_of_block g4)).trans g4), HB34.out.trans (hb.mono HB34.out.size), B4.out.trans (hb.mono B4.out.size)⟩
  have HL4 := hide (lt_of_block g4)
  have HXW : Hid (∀ W, Below w3.heap.size w3 W → Below w.heap.size w W → Calls Try.prog 11 #[.agg #[.int .i64 xlv, .slice xha xlh xhc, .int .i64 xri, .slice xka xlk xkc, .slice xva xlw xvc, .slice xca xlc xcc], .agg #[.int .i64 alv, .slice aha alh ahc, .int .i64 ari, .slice aka alk akc, .slice ava alw avc, .slice aca alc acc]] W fun e w' => e = .returned (.bool true) ∧ Below W.heap.size W w') := fun W h h' => by
    have := HWH.out (⟨xlv, ⟨xha, xhc, xhs⟩, xri, ⟨xka, xkc, xK⟩, ⟨xva, xvc, xV⟩, ⟨xca, xcc, xC⟩⟩ : Nd) hxp W h' (HX.out W h).1 (HX.out W h).2
    simp only [Nd.v, Tx.v, TL.v, IL.v, xL.out.1, xL.out.2.1, xL.out.2.2.1, xL.out.2.2.2] at this
    exact this
  have HXO : Hid (∀ W, Calls Try.prog 9 #[.agg #[.int .i64 xlv, .slice xha xlh xhc, .int .i64 xri, .slice xka xlk xkc, .slice xva xlw xvc, .slice xca xlc xcc], .agg #[.int .i64 nd, .int .i64 lf, .int .i64 inn, .int .i64 fl, .int .i64 bk]] W fun e w' => e = .returned (.bool ov) ∧ Below W.heap.size W w') := fun W => by
    have := over_any (⟨xlv, ⟨xha, xhc, xhs⟩, xri, ⟨xka, xkc, xK⟩, ⟨xva, xvc, xV⟩, ⟨xca, xcc, xC⟩⟩ : Nd) nd lf inn fl bk W
    have e1 : xK.length = np.ks.length := by rw [← hxp]; exact (TL.p_len ⟨xka, xkc, xK⟩).symm
    have e2 : xC.length = np.cs.length := by rw [← hxp]; rfl
    have e3 : xlv = np.lv := by rw [← hxp]; rfl
    rw [HOV.out]
    simp only [e1, e2, e3] at this
    simp only [Nd.v, Tx.v, TL.v, IL.v] at this
    have f1 := xL.out.2.1
    have f2 := xL.out.2.2.2
    rw [e1] at f1
    rw [e2] at f2
    simp only [← e3, xL.out.1, xL.out.2.1, xL.out.2.2.1, xL.out.2.2.2] at this
    rw [← f1, ← f2] at *
    rw [← e3]
    exact this
  have HXS : Hid (∀ W, Below w3.heap.size w3 W → Calls Try.prog 10 #[.agg #[.int .i64 xlv, .slice xha xlh xhc, .int .i64 xri, .slice xka xlk xkc, .slice xva xlw xvc, .slice xca xlc xcc], .int .i64 right] W (SplP W (np.s1 right) np.s2 np.s3)) := fun W h => by
    have := split_all (⟨xlv, ⟨xha, xhc, xhs⟩, xri, ⟨xka, xkc, xK⟩, ⟨xva, xvc, xV⟩, ⟨xca, xcc, xC⟩⟩ : Nd) right W (HX.out W h).1
    rw [hxp] at this
    simp only [Nd.v, Tx.v, TL.v, IL.v, xL.out.1, xL.out.2.1, xL.out.2.2.1, xL.out.2.2.2] at this
    exact this
  clear hw4 b3 b4 g4 hxp hxo hxs HL2 HWH HX HOV
  have c := HBX.out w4 B4.out
  obtain ⟨c0, c1, c2, c3, c4⟩ := c.2.1
  obtain ⟨e0, e1, e2, e3, e4, e5⟩ := (HXB.out w4 (Below.refl _ _)).1
  clear c
  go_upto_region 4 with fail
  rw [← HW4.out]
  clear HW4 d0 d1 d2 d3 d4 d5
  go_wp2_with fail
  refine (HXO.out w4).mono ?_
  rintro e w5 ⟨rfl, b5⟩
  have B5 := hide b5
  obtain ⟨d0, d1, d2, d3, d4, d5⟩ := (HXB.out w5 B5.out).1
  have HS5 := hide (HXS.out w5 (HXB.out w5 B5.out).2.1)
  clear b5 HXO HXS c0 c1 c2 c3 c4 e0 e1 e2 e3 e4 e5
  go_wp2_with fail
  refine HS5.out.mono ?_
  rintro e w6 ⟨⟨llv, ⟨lha, lhc, lhs⟩, lri, ⟨lka, lkc, lK⟩, ⟨lva, lvc, lV⟩, ⟨lca, lcc, lC⟩⟩, ⟨rlv, ⟨rha, rhc, rhs⟩, rri, ⟨rka, rkc, rK⟩, ⟨rva, rvc, rV⟩, ⟨rca, rcc, rC⟩⟩, ⟨ta, tc, ts⟩, N1, N2, rfl, hlp, hrp, hts, hlo, hli, hro, hri, hko, hkk, hN1, hN2, b6⟩
  obtain ⟨llh, lh1⟩ : ∃ x, lhs.length = x := ⟨_, rfl⟩
  obtain ⟨llk, lh2⟩ : ∃ x, lK.length = x := ⟨_, rfl⟩
  obtain ⟨llw, lh3⟩ : ∃ x, lV.length = x := ⟨_, rfl⟩
  obtain ⟨llc, lh4⟩ : ∃ x, lC.length = x := ⟨_, rfl⟩
  simp only [Nd.v, Tx.v, TL.v, IL.v] at hko ⊢
  rw [lh1, lh2, lh3, lh4]
  have lL := hide (And.intro lh1 (And.intro lh2 (And.intro lh3 lh4)))
  clear lh1 lh2 lh3 lh4
  obtain ⟨rlh, rh1⟩ : ∃ x, rhs.length = x := ⟨_, rfl⟩
  obtain ⟨rlk, rh2⟩ : ∃ x, rK.length = x := ⟨_, rfl⟩
  obtain ⟨rlw, rh3⟩ : ∃ x, rV.length = x := ⟨_, rfl⟩
  obtain ⟨rlc, rh4⟩ : ∃ x, rC.length = x := ⟨_, rfl⟩
  skip
  rw [rh1, rh2, rh3, rh4]
  have rL := hide (And.intro rh1 (And.intro rh2 (And.intro rh3 rh4)))
  clear rh1 rh2 rh3 rh4
  obtain ⟨tl, htl⟩ : ∃ x, ts.length = x := ⟨_, rfl⟩
  rw [htl] at hko ⊢
  have HTL := hide htl
  have B6 := hide (B5.out.trans (b6.mono B5.out.size))
  obtain ⟨w7, hw7⟩ : ∃ x, x = (w6.alloc (.cells #[.int .i64 llv, .slice lha llh lhc, .int .i64 lri, .slice lka llk lkc, .slice lva llw lvc, .slice lca llc lcc] 30)).alloc (.cells #[.int .i64 rlv, .slice rha rlh rhc, .int .i64 rri, .slice rka rlk rkc, .slice rva rlw rvc, .slice rca rlc rcc] 30) := ⟨_, rfl⟩
  have b7 : Below w6.heap.size w6 w7 := by rw [hw7]; exact ((Below.refl _ _).alloc (Nat.le_refl _) _).alloc (by simp) _
  have f1 : w7.heap[w6.heap.size]? = some (.cells #[.int .i64 llv, .slice lha llh lhc, .int .i64 lri, .slice lka llk lkc, .slice lva llw lvc, .slice lca llc lcc] 30 (0, 0)) := by rw [hw7]; exact old_at (new_at rfl)
  have f2 : w7.heap[w6.heap.size + 1]? = some (.cells #[.int .i64 rlv, .slice rha rlh rhc, .int .i64 rri, .slice rka rlk rkc, .slice rva rlw rvc, .slice rca rlc rcc] 30 (0, 0)) := by rw [hw7]; exact new_at (by simp)
  have HB67 := hide b7
  have B7 := hide (B6.out.trans (b7.mono B6.out.size))
  have HW7 := hide hw7
  have HLB : Hid (∀ W, Below w7.heap.size w7 W → Six W w6.heap.size (.int .i64 llv) (.slice lha llh lhc) (.int .i64 lri) (.slice lka llk lkc) (.slice lva llw lvc) (.slice lca llc lcc) ∧ Six W (w6.heap.size + 1) (.int .i64 rlv) (.slice rha rlh rhc) (.int .i64 rri) (.slice rka rlk rkc) (.slice rva rlw rvc) (.slice rca rlc rcc) ∧ Below w6.heap.size w6 W ∧ Below w4.heap.size w4 W) := fun W hb => ⟨Six.of ((hb.block _ (lt_of_block f1)).trans f1), Six.of ((hb.block _ (lt_of_block f2)).trans f2), HB67.out.trans (hb.mono HB67.out.size), B7.out.trans (hb.mono B7.out.size)⟩
  have HF2 := hide f2
  have HKO := hide hko
  have HNN : Hid (w5.heap.size ≤ N1 ∧ N1 ≤ N2) := ⟨hN1, hN2⟩
  have HLP := hide hlp
  have HRP := hide hrp
  have HTS := hide hts
  have HLO : Hid ((⟨llv, ⟨lha, lhc, lhs⟩, lri, ⟨lka, lkc, lK⟩, ⟨lva, lvc, lV⟩, ⟨lca, lcc, lC⟩⟩ : Nd).Own w6 w5.heap.size ∧ (⟨llv, ⟨lha, lhc, lhs⟩, lri, ⟨lka, lkc, lK⟩, ⟨lva, lvc, lV⟩, ⟨lca, lcc, lC⟩⟩ : Nd).In (fun x => w5.heap.size ≤ x ∧ x < N1)) := ⟨hlo, hli⟩
  have HRO' : Hid ((⟨rlv, ⟨rha, rhc, rhs⟩, rri, ⟨rka, rkc, rK⟩, ⟨rva, rvc, rV⟩, ⟨rca, rcc, rC⟩⟩ : Nd).Own w6 N1 ∧ (⟨rlv, ⟨rha, rhc, rhs⟩, rri, ⟨rka, rkc, rK⟩, ⟨rva, rvc, rV⟩, ⟨rca, rcc, rC⟩⟩ : Nd).In (fun x => N1 ≤ x ∧ x < N2)) := ⟨hro, hri⟩
  have HTK := hide hkk
  have hN1z : N1 ≤ w6.heap.size ∨ N1 > w6.heap.size := by omega
  obtain ⟨c0, c1, c2, c3, c4, c5⟩ := (HXB.out w7 B7.out).1
  obtain ⟨e0, e1, e2, e3, e4, e5⟩ := (HBX.out w7 (HXB.out w7 B7.out).2.2).1
  have HQ7 := hide (HXW.out w7 (HXB.out w7 B7.out).2.1 (HBX.out w7 (HXB.out w7 B7.out).2.2).2.2)
  clear b6 hw7 b7 f1 f2 htl hlp hrp hts hlo hli hro hri hko hkk hN1 hN2 hN1z HS5
  go_upto_region 6 with fail
  rw [← HW7.out]
  clear HW7 d0 d1 d2 d3 d4 d5
  go_wp2_with fail
  refine HQ7.out.mono ?_
  rintro e w8 ⟨rfl, b8⟩
  have B78 := hide b8
  have B8 := hide (B7.out.trans (b8.mono B7.out.size))
  have hbx := HBX.out w8 (HXB.out w8 B8.out).2.2
  obtain ⟨d0, d1, d2, d3, d4, d5⟩ := hbx.1
  obtain ⟨y0, y1, y2, y3, y4⟩ := hbx.2.1
  clear b8 HQ7 c0 c1 c2 c3 c4 c5 e0 e1 e2 e3 e4 e5 hbx
  go_wp2_with fail
  refine (HRO.out w8).mono ?_
  rintro e w9 ⟨rfl, b9⟩
  have B79 := hide (B78.out.trans (b9.mono B78.out.size))
  have B9 := hide (B8.out.trans (b9.mono B8.out.size))
  clear b9 HRO d0 d1 d2 d3 d4 d5 y0 y1 y2 y3 y4 B78 B8
  cases rt
  · go_wp2_with fail
    go_ret
    exact ⟨rfl, (HBX.out w9 (HXB.out w9 B9.out).2.2).2.2⟩
  · have hR : RtP np := of_decide_eq_true HRTD.out.symm
    have HS9 := hide (HRS.out hR w9 (HBX.out w9 (HXB.out w9 B9.out).2.2).2.2)
    obtain ⟨c0, c1, c2, c3, c4, c5⟩ := (HBX.out w9 (HXB.out w9 B9.out).2.2).1
    clear hR HRTD HRS
    go_wp2_with fail
    refine HS9.out.mono ?_
    rintro e w10 ⟨⟨plv, ⟨pha, phc, phs⟩, pri, ⟨pka, pkc, pK⟩, ⟨pva, pvc, pV⟩, ⟨pca, pcc, pC⟩⟩, ⟨qlv, ⟨qha, qhc, qhs⟩, qri, ⟨qka, qkc, qK⟩, ⟨qva, qvc, qV⟩, ⟨qca, qcc, qC⟩⟩, ⟨ua, uc, us⟩, rfl, hpp, hqp, hus, hpo, hqo, huk, b10⟩
    obtain ⟨plh, ph1⟩ : ∃ x, phs.length = x := ⟨_, rfl⟩
    obtain ⟨plk, ph2⟩ : ∃ x, pK.length = x := ⟨_, rfl⟩
    obtain ⟨plw, ph3⟩ : ∃ x, pV.length = x := ⟨_, rfl⟩
    obtain ⟨plc, ph4⟩ : ∃ x, pC.length = x := ⟨_, rfl⟩
    simp only [Nd.v, Tx.v, TL.v, IL.v]
    rw [ph1, ph2, ph3, ph4]
    have pL := hide (And.intro ph1 (And.intro ph2 (And.intro ph3 ph4)))
    clear ph1 ph2 ph3 ph4
    obtain ⟨qlh, qh1⟩ : ∃ x, qhs.length = x := ⟨_, rfl⟩
    obtain ⟨qlk, qh2⟩ : ∃ x, qK.length = x := ⟨_, rfl⟩
    obtain ⟨qlw, qh3⟩ : ∃ x, qV.length = x := ⟨_, rfl⟩
    obtain ⟨qlc, qh4⟩ : ∃ x, qC.length = x := ⟨_, rfl⟩
    skip
    rw [qh1, qh2, qh3, qh4]
    have qL := hide (And.intro qh1 (And.intro qh2 (And.intro qh3 qh4)))
    clear qh1 qh2 qh3 qh4
    obtain ⟨ul, hul⟩ : ∃ x, us.length = x := ⟨_, rfl⟩
    rw [hul]
    have HUL := hide hul
    have B10 := hide (B79.out.trans (b10.mono B79.out.size))
    obtain ⟨w11, hw11⟩ : ∃ x, x = (w10.alloc (.cells #[.int .i64 plv, .slice pha plh phc, .int .i64 pri, .slice pka plk pkc, .slice pva plw pvc, .slice pca plc pcc] 30)).alloc (.cells #[.int .i64 qlv, .slice qha qlh qhc, .int .i64 qri, .slice qka qlk qkc, .slice qva qlw qvc, .slice qca qlc qcc] 30) := ⟨_, rfl⟩
    have b11 : Below w10.heap.size w10 w11 := by rw [hw11]; exact ((Below.refl _ _).alloc (Nat.le_refl _) _).alloc (by simp) _
    have f1 : w11.heap[w10.heap.size]? = some (.cells #[.int .i64 plv, .slice pha plh phc, .int .i64 pri, .slice pka plk pkc, .slice pva plw pvc, .slice pca plc pcc] 30 (0, 0)) := by rw [hw11]; exact old_at (new_at rfl)
    have f2 : w11.heap[w10.heap.size + 1]? = some (.cells #[.int .i64 qlv, .slice qha qlh qhc, .int .i64 qri, .slice qka qlk qkc, .slice qva qlw qvc, .slice qca qlc qcc] 30 (0, 0)) := by rw [hw11]; exact new_at (by simp)
    have HB1011 := hide b11
    have B11 := hide (B10.out.trans (b11.mono B10.out.size))
    have HPB : Hid (∀ W, Below w11.heap.size w11 W → Six W w10.heap.size (.int .i64 plv) (.slice pha plh phc) (.int .i64 pri) (.slice pka plk pkc) (.slice pva plw pvc) (.slice pca plc pcc) ∧ Six W (w10.heap.size + 1) (.int .i64 qlv) (.slice qha qlh qhc) (.int .i64 qri) (.slice qka qlk qkc) (.slice qva qlw qvc) (.slice qca qlc qcc) ∧ Below w10.heap.size w10 W ∧ Below w7.heap.size w7 W) := fun W hb => ⟨Six.of ((hb.block _ (lt_of_block f1)).trans f1), Six.of ((hb.block _ (lt_of_block f2)).trans f2), HB1011.out.trans (hb.mono HB1011.out.size), B11.out.trans (hb.mono B11.out.size)⟩
    have HF4 := hide f2
    have HW11 := hide hw11
    have hsz := b10.size
    have HSZ := hide hsz
    have HUK := hide huk
    have HQO := hide hqo
    have HSN1 : Hid (∀ W, Below w11.heap.size w11 W → Calls Try.prog 14 #[.agg #[.int .i64 llv, .slice lha llh lhc, .int .i64 lri, .slice lka llk lkc, .slice lva llw lvc, .slice lca llc lcc], .agg #[.int .i64 plv, .slice pha plh phc, .int .i64 pri, .slice pka plk pkc, .slice pva plw pvc, .slice pca plc pcc]] W fun e w' => e = .returned (.bool true) ∧ Below W.heap.size W w') := fun W hb => by
      have := sameNode_any (⟨llv, ⟨lha, lhc, lhs⟩, lri, ⟨lka, lkc, lK⟩, ⟨lva, lvc, lV⟩, ⟨lca, lcc, lC⟩⟩ : Nd) (⟨plv, ⟨pha, phc, phs⟩, pri, ⟨pka, pkc, pK⟩, ⟨pva, pvc, pV⟩, ⟨pca, pcc, pC⟩⟩ : Nd) W (HLO.out.1.below (HLB.out W (HPB.out W hb).2.2.2).2.2.1).ok (hpo.below (HPB.out W hb).2.2.1).ok (HLP.out.trans hpp.symm)
      simp only [Nd.v, Tx.v, TL.v, IL.v, lL.out.1, lL.out.2.1, lL.out.2.2.1, lL.out.2.2.2, pL.out.1, pL.out.2.1, pL.out.2.2.1, pL.out.2.2.2] at this
      exact this
    have HSN2 : Hid (∀ W, (⟨rlv, ⟨rha, rhc, rhs⟩, rri, ⟨rka, rkc, rK⟩, ⟨rva, rvc, rV⟩, ⟨rca, rcc, rC⟩⟩ : Nd).Ok W → (⟨qlv, ⟨qha, qhc, qhs⟩, qri, ⟨qka, qkc, qK⟩, ⟨qva, qvc, qV⟩, ⟨qca, qcc, qC⟩⟩ : Nd).Ok W → Calls Try.prog 14 #[.agg #[.int .i64 rlv, .slice rha rlh rhc, .int .i64 rri, .slice rka rlk rkc, .slice rva rlw rvc, .slice rca rlc rcc], .agg #[.int .i64 qlv, .slice qha qlh qhc, .int .i64 qri, .slice qka qlk qkc, .slice qva qlw qvc, .slice qca qlc qcc]] W fun e w' => e = .returned (.bool true) ∧ Below W.heap.size W w') := fun W h1 h2 => by
      have := sameNode_any (⟨rlv, ⟨rha, rhc, rhs⟩, rri, ⟨rka, rkc, rK⟩, ⟨rva, rvc, rV⟩, ⟨rca, rcc, rC⟩⟩ : Nd) (⟨qlv, ⟨qha, qhc, qhs⟩, qri, ⟨qka, qkc, qK⟩, ⟨qva, qvc, qV⟩, ⟨qca, qcc, qC⟩⟩ : Nd) W h1 h2 (HRP.out.trans hqp.symm)
      simp only [Nd.v, Tx.v, TL.v, IL.v, rL.out.1, rL.out.2.1, rL.out.2.2.1, rL.out.2.2.2, qL.out.1, qL.out.2.1, qL.out.2.2.1, qL.out.2.2.2] at this
      exact this
    obtain ⟨st, hst⟩ : ∃ st, st = strOfNums ts := ⟨_, rfl⟩
    have HK1 : Hid (∀ W, Below w11.heap.size w11 W → (convert 22 9 (.slice ta tl tc)).run Try.prog W = .ok (.string st) W ∧ (convert 22 9 (.slice ua ul uc)).run Try.prog W = .ok (.string st) W) := fun W hb => by
      refine ⟨by rw [hst]; exact nconv_row tc HTL.out (HTK.out.below (HLB.out W (HPB.out W hb).2.2.2).2.2.1).r, ?_⟩
      have e : ts = us := HTS.out.trans hus.symm
      rw [hst, e]
      exact nconv_row uc HUL.out (HUK.out.below (HPB.out W hb).2.2.1).r
    obtain ⟨e0, e1, e2, e3, e4, e5⟩ := (HPB.out w11 (Below.refl _ _)).1
    obtain ⟨y0, y1, y2, y3, y4, y5⟩ := (HLB.out w11 (HPB.out w11 (Below.refl _ _)).2.2.2).1
    clear hw11 b10 b11 f1 f2 hpp hqp hus hpo hqo huk hul hst hsz HS9
    go_upto_region 12 with fail
    rw [← HW11.out]
    clear HW11 c0 c1 c2 c3 c4 c5
    go_wp2_with fail
    refine (HSN1.out w11 (Below.refl _ _)).mono ?_
    rintro e w12 ⟨rfl, b12⟩
    have B12 := hide b12
    obtain ⟨c0, c1, c2, c3, c4, c5⟩ := (HLB.out w12 (HPB.out w12 B12.out).2.2.2).2.1
    obtain ⟨z0, z1, z2, z3, z4, z5⟩ := (HPB.out w12 B12.out).2.1
    have HM2 := hide (HSN2.out w12 (HRO'.out.1.below (HLB.out w12 (HPB.out w12 B12.out).2.2.2).2.2.1).ok (HQO.out.below (HPB.out w12 B12.out).2.2.1).ok)
    clear b12 HSN1 e0 e1 e2 e3 e4 e5 y0 y1 y2 y3 y4 y5
    go_wp2_with fail
    refine HM2.out.mono ?_
    rintro e w13 ⟨rfl, b13⟩
    have B13 := hide (B12.out.trans (b13.mono B12.out.size))
    have hk := HK1.out w13 B13.out
    obtain ⟨k1, k2⟩ := hk
    obtain ⟨y0, y1, y2, y3, y4, y5⟩ := (HLB.out w13 (HPB.out w13 B13.out).2.2.2).1
    obtain ⟨M1, hM1⟩ : ∃ M1, M1 = min N1 w6.heap.size := ⟨_, rfl⟩
    have HM1 := hide hM1
    have B613 := hide (HLB.out w13 (HPB.out w13 B13.out).2.2.2).2.2.1
    have HSPO : Hid (Spo w6 w5.heap.size M1 (⟨llv, ⟨lha, lhc, lhs⟩, lri, ⟨lka, lkc, lK⟩, ⟨lva, lvc, lV⟩, ⟨lca, lcc, lC⟩⟩ : Nd)) := HLO.out.1.spoIn (((HLO.out.2).both HLO.out.1.in_).mono (fun k hk => ⟨hk.1.1, by rw [hM1]; exact Nat.lt_min.2 ⟨hk.1.2, hk.2.2⟩⟩))
    have HSPL : Hid (Calls Try.prog 15 #[.agg #[.int .i64 llv, .slice lha llh lhc, .int .i64 lri, .slice lka llk lkc, .slice lva llw lvc, .slice lca llc lcc]] w13 fun e w' => e = .returned (.tuple #[]) ∧ Upd (fun b => w5.heap.size ≤ b ∧ b < M1) w13 w') := by
      have hm : M1 ≤ w6.heap.size := by rw [hM1]; exact Nat.min_le_right _ _
      have := spoilN_any (⟨llv, ⟨lha, lhc, lhs⟩, lri, ⟨lka, lkc, lK⟩, ⟨lva, lvc, lV⟩, ⟨lca, lcc, lC⟩⟩ : Nd) w5.heap.size M1 w13 (HSPO.out.below hm B613.out) (Nat.le_trans hm B613.out.size)
      simp only [Nd.v, Tx.v, TL.v, IL.v, lL.out.1, lL.out.2.1, lL.out.2.2.1, lL.out.2.2.2] at this
      exact this
    clear b13 HM2 c0 c1 c2 c3 c4 c5 z0 z1 z2 z3 z4 z5 hM1
    go_wp2_with fail
    refine HSPL.out.mono ?_
    rintro e w14 ⟨rfl, u14⟩
    have HU14 := hide u14
    have HBK : Hid (Bk w14 N2 w6.heap.size ta tl ∧ Upd (fun b => N2 ≤ b ∧ b < w6.heap.size) w14 w14) := by
      have h1 := bk_own (x := ⟨ta, tc, ts⟩) (by simp only [Tx.v, HTL.out]; exact HKO.out) (by have := HTK.out.z; exact this)
      simp only [HTL.out] at h1
      refine ⟨(h1.move (fun b h2 h3 => B613.out.block b h3)).move (fun b h2 h3 => HU14.out.block b (Nat.lt_of_lt_of_le h3 B613.out.size) (fun e => ?_)), Upd.refl _ _⟩
      have := HNN.out
      have := HM1.out
      omega
    clear u14 HSPL y0 y1 y2 y3 y4 y5 k1 k2 HK1 HSPO
    go_wp2_with fail
    go_loopw [20] (fun q wt => ∃ k : Nat, k ≤ tl ∧ q = .int .i64 (k : Int) ∧ Hid (Bk wt N2 w6.heap.size ta tl ∧ Upd (fun b => N2 ≤ b ∧ b < w6.heap.size) w14 wt)) (fun q _ => tl - (intOf q).toNat)
    case atStart => exact ⟨0, Nat.zero_le _, rfl, HBK⟩
    case round =>
      clear HBK
      obtain ⟨k, hk, rfl, HJ⟩ := hrel
      rename World => wt
      have htz : tl ≤ 140737488355328 := HJ.out.1.1
      by_cases hlk : k < tl
      · have j4 : (k : Int) < (tl : Int) := by omega
        have j5 : (0 : Int) ≤ (k : Int) := by omega
        obtain ⟨g2, cs, rfl, hN2, hg2, hsz2, hb2⟩ := HJ.out.1.2.resolve_left (by omega)
        obtain ⟨x, hx⟩ := hb2 cs[k] (by simp)
        have hcell : wt.cell? ⟨g2, k, none⟩ = some (.int .u8 x) := by rw [cell_of_row _ _ _ _ _ _ hg2, Array.getElem?_eq_getElem (by omega), hx]
        have hfr : wt.frozen? ⟨g2, k, none⟩ = false := by simp [World.frozen?, hg2]
        have HNX2 : Hid (∀ y : Int, Bk (wt.setCell ⟨g2, k, none⟩ (.int .u8 y)) N2 w6.heap.size (some ⟨g2, 0, none⟩) tl ∧ Upd (fun b => N2 ≤ b ∧ b < w6.heap.size) w14 (wt.setCell ⟨g2, k, none⟩ (.int .u8 y))) := fun y => ⟨HJ.out.1.byte (k := k) hg2 hb2 y, HJ.out.2.trans ((Upd.refl _ wt).setCell _ _ (fun _ => hN2))⟩
        clear hg2 hx hb2 HJ hsz2
        go_wp2_with fail
        go_roundw
        case rel => exact ⟨k + 1, by omega, by go_num, HNX2.out _⟩
        case measure => simp [intOf]; omega
      · have j4 : ¬ (k : Int) < (tl : Int) := by omega
        have US : Hid (Upd (fun b => (w5.heap.size ≤ b ∧ b < M1) ∨ (N2 ≤ b ∧ b < w6.heap.size)) w13 wt) := (HU14.out.mono (fun k _ e => .inl e)).trans (HJ.out.2.mono (fun k _ e => .inr e))
        have hnn := HNN.out
        have hmm := HM1.out
        have hs5 : w4.heap.size ≤ w5.heap.size := B5.out.size
        have BT : Hid (∀ Z : World, Below Z.heap.size Z w13 → Z.heap.size ≤ w5.heap.size → Below Z.heap.size Z wt) := fun Z hb hz => hb.trans (US.out.below hb.size (fun k hk e => by omega))
        have b13x := HXB.out w13 (HLB.out w13 (HPB.out w13 B13.out).2.2.2).2.2.2
        have b13w := HBX.out w13 b13x.2.2
        have hl4 := HL4.out
        have hl0 := HL0.out
        have hz0 := HSZ0.out
        have h34 := HB34.out.size
        have h04 := B4.out.size
        have BT3 := hide (BT.out w3 b13x.2.1 (by omega))
        have BTW := hide (BT.out w b13w.2.2 (by have := b13w.2.2.size; have := B1.out.size; omega))
        have hsz := HSZ.out
        have h67 := HB67.out.size
        have h79 := B79.out.size
        have US6 : Hid (Upd (fun b => (w5.heap.size ≤ b ∧ b < M1) ∨ (N2 ≤ b ∧ b < w6.heap.size)) w6 wt) := (Upd.of_below B613.out _).trans US.out
        have US10 : Hid (Upd (fun b => (w5.heap.size ≤ b ∧ b < M1) ∨ (N2 ≤ b ∧ b < w6.heap.size)) w10 wt) := (Upd.of_below (HPB.out w13 B13.out).2.2.1 _).trans US.out
        have ROK : Hid ((⟨rlv, ⟨rha, rhc, rhs⟩, rri, ⟨rka, rkc, rK⟩, ⟨rva, rvc, rV⟩, ⟨rca, rcc, rC⟩⟩ : Nd).Ok wt) := HRO'.out.1.ok.upd HRO'.out.2 US6.out (fun k hk e => by omega)
        have QOK : Hid ((⟨qlv, ⟨qha, qhc, qhs⟩, qri, ⟨qka, qkc, qK⟩, ⟨qva, qvc, qV⟩, ⟨qca, qcc, qC⟩⟩ : Nd).Ok wt) := (HQO.out.upd US10.out (fun b h1 _ e => by omega)).ok
        have gr : wt.heap[w6.heap.size + 1]? = some (.cells #[.int .i64 rlv, .slice rha rlh rhc, .int .i64 rri, .slice rka rlk rkc, .slice rva rlw rvc, .slice rca rlc rcc] 30 (0, 0)) := US.out.heap (((HPB.out w13 B13.out).2.2.2.block _ (lt_of_block HF2.out)).trans HF2.out) (fun e => by omega)
        have gq : wt.heap[w10.heap.size + 1]? = some (.cells #[.int .i64 qlv, .slice qha qlh qhc, .int .i64 qri, .slice qka qlk qkc, .slice qva qlw qvc, .slice qca qlc qcc] 30 (0, 0)) := US.out.heap ((B13.out.block _ (lt_of_block HF4.out)).trans HF4.out) (fun e => by omega)
        have B04T := hide (BT.out w0 b13x.2.2 (by omega))
        have B4T := hide (BT.out w4 (HLB.out w13 (HPB.out w13 B13.out).2.2.2).2.2.2 (by omega))
        obtain ⟨c0, c1, c2, c3, c4, c5⟩ := Six.of gr
        obtain ⟨z0, z1, z2, z3, z4, z5⟩ := Six.of gq
        have HM3 := hide (HSN2.out wt ROK.out QOK.out)
        clear hnn hmm hs5 b13x b13w hl4 hl0 hz0 h34 h04 hsz h67 h79 gr gq HJ
        go_wp2_with fail
        refine HM3.out.mono ?_
        rintro e wu ⟨rfl, bu⟩
        have BU4 := hide (B4T.out.trans (bu.mono B4T.out.size))
        have hxb := HXB.out wu BU4.out
        obtain ⟨e0, e1, e2, e3, e4, e5⟩ := hxb.1
        have hbx := HBX.out wu hxb.2.2
        obtain ⟨y0, y1, y2, y3, y4, y5⟩ := hbx.1
        have HM4 := hide (HXW.out wu hxb.2.1 hbx.2.2)
        clear bu hxb hbx HM3 c0 c1 c2 c3 c4 c5 z0 z1 z2 z3 z4 z5
        go_wp2_with fail
        refine HM4.out.mono ?_
        rintro e wv ⟨rfl, bv⟩
        have BV : Hid (Below w.heap.size w wv) := by have h1 := HXB.out wu BU4.out; have h2 := (HBX.out wu h1.2.2).2.2; exact h2.trans (bv.mono h2.size)
        clear bv
        go_wp2_with fail
        go_ret
        exact ⟨rfl, BV.out⟩
end Go.Proofs.Ytclgimklfejohaa
