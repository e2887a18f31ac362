/- NodeBack: the walk. -/
import Derived.Test.YtldpcnjabieedaaNHead
import Derived.Test.YtldpcnjabieedaaNPure
import Derived.Test.YtldpcnjabieedaaNLeaf
import Derived.Test.YtldpcnjabieedaaNSame
namespace Go.Proofs.Ytldpcnjabieedaa
open Go.RowKit

theorem six_here {W W' : World} {n : Nd} {T : TypeId} (hb : Below (W.alloc (.cells #[.int .i64 n.lv, n.hi.v, .int .i64 n.ri, n.ks.v, n.vs.v, n.cs.v] T)).heap.size (W.alloc (.cells #[.int .i64 n.lv, n.hi.v, .int .i64 n.ri, n.ks.v, n.vs.v, n.cs.v] T)) W') : Six W' W.heap.size (.int .i64 n.lv) n.hi.v (.int .i64 n.ri) n.ks.v n.vs.v n.cs.v :=
  (Six.of (heap_alloc_new W _)).below hb

set_option maxRecDepth 100000 in
set_option maxHeartbeats 3200000 in
theorem nodeBack_any (n : Nd) (k v : Tx) (w : World) (hn : n.Ok w) (hk : k.Ok w) (hv : v.Ok w) (hz1 : n.ks.L.length * 24 ≤ 140737488351300) (hz2 : n.vs.L.length * 24 ≤ 140737488351300) :
    Calls Try.prog 4 #[n.v, k.v, v.v] w fun e w' => e = .returned (.bool true) ∧ Below w.heap.size w w' := by
  have HN : Hid (∀ W, Below w.heap.size w W → n.Ok W) := fun W h => hn.below h
  have HK : Hid (∀ W, Below w.heap.size w W → k.Ok W) := fun W h => hk.below h
  have HV : Hid (∀ W, Below w.heap.size w W → v.Ok W) := fun W h => hv.below h
  clear hn hk hv
  obtain ⟨w0, hw0⟩ : ∃ w0, w0 = w.alloc (.cells #[.int .i64 n.lv, n.hi.v, .int .i64 n.ri, n.ks.v, n.vs.v, n.cs.v] 36) := ⟨_, rfl⟩
  have B0 : Hid (Below w.heap.size w w0) := by show Below _ _ _; rw [hw0]; exact (Below.refl _ _).alloc (Nat.le_refl _) _
  have G0 : Hid (w0.heap[w.heap.size]? = some (.cells #[.int .i64 n.lv, n.hi.v, .int .i64 n.ri, n.ks.v, n.vs.v, n.cs.v] 36 (0, 0))) := by show _ = _; rw [hw0]; exact heap_alloc_new w _
  have HW0 := hide hw0
  clear hw0
  have HLF : Hid (∀ W, Below w.heap.size w W → Calls Try.prog 10 #[n.v] W fun e w' => e = .returned (.bool (decide (RtP n.p ∧ n.lv = 0))) ∧ Below W.heap.size W w') := fun W h => leaf_any n W (HN.out W h)
  have HF1 : Hid (∀ W, Below w.heap.size w W → Calls Try.prog 11 #[n.v, k.v] W fun e w' => e = .returned (.tuple #[.int .i64 (cntB n.ks.p k.s : Nat), .bool (isIn n.ks.p k.s)]) ∧ Below W.heap.size W w') := fun W h => find_any n k W (HN.out W h) (HK.out W h)
  have HWI : Hid (∀ W, Below w.heap.size w W → Calls Try.prog 12 #[n.v, k.v, v.v] W (NdPost W (n.p.with_ k.s v.s))) := fun W h => with_any n k v W (HN.out W h) (HK.out W h) (HV.out W h) (by omega) (by omega)
  have HWO : Hid (∀ W, Below w.heap.size w W → Calls Try.prog 13 #[n.v, k.v] W (NdBPost W (n.p.without k.s) (isIn n.ks.p k.s))) := fun W h => without_any n k W (HN.out W h) (HK.out W h) (by omega) (by omega)
  obtain ⟨cb, hcb⟩ : ∃ cb, cb = cntB n.ks.p k.s := ⟨_, rfl⟩
  obtain ⟨ib, hib⟩ : ∃ ib, ib = isIn n.ks.p k.s := ⟨_, rfl⟩
  rw [← hcb, ← hib] at HF1
  rw [← hib] at HWO
  have hcl : cb ≤ n.ks.L.length := by rw [hcb, ← TL.p_len]; exact cntB_le _ _
  by_cases hlf : RtP n.p ∧ n.lv = 0
  · rw [decide_eq_true hlf] at HLF
    have BP : Hid (BackP n.p k.s v.s) := back_ok hlf.1 hlf.2
    have HCB : Hid (cntB n.p.ks k.s = cb) := hcb.symm
    clear hlf hib hcb
    have HNV : Hid (n.v = .agg #[.int .i64 n.lv, n.hi.v, .int .i64 n.ri, n.ks.v, n.vs.v, n.cs.v]) := rfl
    obtain ⟨lv, ⟨ha, hc, hs⟩, ri, ⟨ka, kc, K⟩, ⟨va, vc, V⟩, ⟨ca, cc, C⟩⟩ := n
    obtain ⟨xa, xc, xs⟩ := k
    obtain ⟨ya, yc, ys⟩ := v
    simp only [Nd.v, Tx.v, TL.v, IL.v] at HLF HF1 HWI HWO HW0 G0 ⊢
    clear HNV
    go_enter Try.func4, Try.ntmps4
    go_wp2_with fail
    rw [← HW0.out]
    refine (head_any w0).mono ?_
    rintro e w1 ⟨rfl, b1⟩
    have B1 := hide (B0.out.trans (b1.mono B0.out.size))
    have G1 : Hid (w1.heap[w.heap.size]? = _) := (b1.block _ (lt_of_block G0.out)).trans G0.out
    obtain ⟨c0, c1, c2, c3, c4, c5⟩ := Six.of G1.out
    clear b1 HW0
    go_wp2_with fail
    refine (HLF.out w1 B1.out).mono ?_
    rintro e w2 ⟨rfl, b2⟩
    have B2 := hide (B1.out.trans (b2.mono B1.out.size))
    have G2 : Hid (w2.heap[w.heap.size]? = _) := (b2.block _ (lt_of_block G1.out)).trans G1.out
    obtain ⟨d0, d1, d2, d3, d4, d5⟩ := Six.of G2.out
    clear b2 HLF c0 c1 c2 c3 c4 c5
    go_wp2_with fail
    refine (HF1.out w2 B2.out).mono ?_
    rintro e w3 ⟨rfl, b3⟩
    have B3 := hide (B2.out.trans (b3.mono B2.out.size))
    have G3 : Hid (w3.heap[w.heap.size]? = _) := (b3.block _ (lt_of_block G2.out)).trans G2.out
    obtain ⟨e0, e1, e2, e3, e4, e5⟩ := Six.of G3.out
    clear b3 HF1 d0 d1 d2 d3 d4 d5
    go_wp2_with fail
    refine (HWI.out w3 B3.out).mono ?_
    rintro e w4 ⟨m, rfl, hpm, hom, b4⟩
    have B4 := hide (B3.out.trans (b4.mono B3.out.size))
    have G4 : Hid (w4.heap[w.heap.size]? = _) := (b4.block _ (lt_of_block G3.out)).trans G3.out
    have hmk : m.ks.p = (NP.with_ _ xs ys).ks := congrArg NP.ks hpm
    have hmv : m.vs.p = (NP.with_ _ xs ys).vs := congrArg NP.vs hpm
    have MOK : Hid (∀ W, Below w4.heap.size w4 W → m.Ok W) := fun W h => hom.ok.below h
    have HF2 : Hid (∀ W, Below w4.heap.size w4 W → Below w.heap.size w W → Calls Try.prog 11 #[m.v, .slice xa xs.length xc] W fun e w' => e = .returned (.tuple #[.int .i64 (cb : Int), .bool true]) ∧ Below W.heap.size W w') := fun W h h' => by
      have h1 := find_any m ⟨xa, xc, xs⟩ W (MOK.out W h) (HK.out W h')
      rw [hmk, BP.out.now, BP.out.at', HCB.out] at h1
      exact h1
    have hkz : m.ks.L.length * 24 ≤ 140737488351900 ∧ m.vs.L.length * 24 ≤ 140737488351900 := by
      have l1 : m.ks.L.length ≤ K.length + 1 := by
        rw [← TL.p_len, hmk]; unfold NP.with_; split
        · simp only [Nd.p, TL.p, List.length_map]; omega
        · simp only [Nd.p, TL.p, insL_len, List.length_map]; omega
      have l2 : m.vs.L.length ≤ V.length + 1 := by
        rw [← TL.p_len, hmv]; unfold NP.with_; split
        · simp only [insL_len]; have := remL_len ((⟨lv, ⟨ha, hc, hs⟩, ri, ⟨ka, kc, K⟩, ⟨va, vc, V⟩, ⟨ca, cc, C⟩⟩ : Nd).p.vs) (cntB (⟨lv, ⟨ha, hc, hs⟩, ri, ⟨ka, kc, K⟩, ⟨va, vc, V⟩, ⟨ca, cc, C⟩⟩ : Nd).p.ks xs); simp only [Nd.p, TL.p, List.length_map] at this ⊢; omega
        · simp only [Nd.p, TL.p, insL_len, List.length_map]; omega
      omega
    have HWO2 : Hid (∀ W, Below w4.heap.size w4 W → Below w.heap.size w W → Calls Try.prog 13 #[m.v, .slice xa xs.length xc] W (NdBPost W (NP.without (⟨lv, ⟨ha, hc, hs⟩, ri, ⟨ka, kc, K⟩, ⟨va, vc, V⟩, ⟨ca, cc, C⟩⟩ : Nd).p xs) true)) := fun W h h' => by
      have h1 := without_any m ⟨xa, xc, xs⟩ W (MOK.out W h) (HK.out W h') hkz.1 hkz.2
      rw [hpm, BP.out.back, hmk, BP.out.now] at h1
      exact h1
    have mk : m.ks.p[cb]? = some xs := by rw [hmk, ← HCB.out]; exact BP.out.k
    have mv : m.vs.p[cb]? = some ys := by rw [hmv, ← HCB.out]; exact BP.out.v
    obtain ⟨lv6, ⟨ha6, hc6, hs6⟩, ri6, ⟨ka6, kc6, K6⟩, ⟨va6, vc6, V6⟩, ⟨ca6, cc6, C6⟩⟩ := m
    clear hpm hom hmk hmv hkz b4 HWI e0 e1 e2 e3 e4 e5
    simp only [TL.p, List.getElem?_map, Option.map_eq_some_iff] at mk mv
    obtain ⟨tk, htk, rfl⟩ := mk
    obtain ⟨tv, htv, rfl⟩ := mv
    obtain ⟨hik, htk⟩ := List.getElem?_eq_some_iff.1 htk
    obtain ⟨hiv, htv⟩ := List.getElem?_eq_some_iff.1 htv
    have hB4 := B4.out.size
    simp only [Nd.v, Tx.v, TL.v, IL.v] at HF2 HWO2 ⊢
    obtain ⟨w5, hw5⟩ : ∃ w5, w5 = w4.alloc (.cells #[.int .i64 lv6, .slice ha6 hs6.length hc6, .int .i64 ri6, .slice ka6 K6.length kc6, .slice va6 V6.length vc6, .slice ca6 C6.length cc6] 36) := ⟨_, rfl⟩
    have B45 : Hid (Below w4.heap.size w4 w5) := by show Below _ _ _; rw [hw5]; exact (Below.refl _ _).alloc (Nat.le_refl _) _
    have B5 := hide (B4.out.trans (B45.out.mono B4.out.size))
    have A5 : Hid (w5.heap[w4.heap.size]? = some (.cells #[.int .i64 lv6, .slice ha6 hs6.length hc6, .int .i64 ri6, .slice ka6 K6.length kc6, .slice va6 V6.length vc6, .slice ca6 C6.length cc6] 36 (0, 0))) := by show _ = _; rw [hw5]; exact heap_alloc_new w4 _
    have G5 : Hid (w5.heap[w.heap.size]? = _) := (B45.out.block _ (lt_of_block G4.out)).trans G4.out
    have HW5 := hide hw5
    clear hw5
    go_wp2_with fail
    rw [← HW5.out]
    refine (HF2.out w5 B45.out B5.out).mono ?_
    rintro e w6 ⟨rfl, b6⟩
    have B46 := hide (B45.out.trans (b6.mono B45.out.size))
    have B6 := hide (B5.out.trans (b6.mono B5.out.size))
    have A6 : Hid (w6.heap[w4.heap.size]? = _) := (b6.block _ (lt_of_block A5.out)).trans A5.out
    have G6 : Hid (w6.heap[w.heap.size]? = _) := (b6.block _ (lt_of_block G5.out)).trans G5.out
    obtain ⟨f0, f1, f2, f3, f4, f5⟩ := Six.of A6.out
    clear b6 HW5
    have mo6 := MOK.out w6 B46.out
    obtain ⟨bk, ok, hka6, sk⟩ := mo6.k.r cb hik
    obtain ⟨bv, ov, hva6, sv⟩ := mo6.v.r cb hiv
    simp only at hka6 hva6
    subst hka6
    subst hva6
    have OK := hide (mo6.k.ok _ (List.getElem_mem hik))
    have OV := hide (mo6.v.ok _ (List.getElem_mem hiv))
    simp only [htk] at sk OK
    simp only [htv] at sv OV
    unfold Tx.v at sk sv
    clear mo6 htk htv
    obtain ⟨tka, tkc, tks⟩ := tk
    obtain ⟨tva, tvc, tvs⟩ := tv
    simp only at sk sv HF2 HWO2 HWO HK HV BP
    have k1 : ∀ q, (convert 28 9 (.slice tka tks.length tkc)).run Try.prog (w6.drewN q) = .ok (.string (strOfNums tks)) (w6.drewN q) := fun q => nconv_row tkc rfl OK.out.r
    have k2 : ∀ q, (convert 28 9 (.slice xa tks.length xc)).run Try.prog (w6.drewN q) = .ok (.string (strOfNums tks)) (w6.drewN q) := fun q => nconv_row xc rfl (HK.out w6 B6.out).r
    have k3 : ∀ q, (convert 28 9 (.slice tva tvs.length tvc)).run Try.prog (w6.drewN q) = .ok (.string (strOfNums tvs)) (w6.drewN q) := fun q => nconv_row tvc rfl OV.out.r
    have k4 : ∀ q, (convert 28 9 (.slice ya tvs.length yc)).run Try.prog (w6.drewN q) = .ok (.string (strOfNums tvs)) (w6.drewN q) := fun q => nconv_row yc rfl (HV.out w6 B6.out).r
    have HP : Hid (isIn ((NP.with_ (⟨lv, ⟨ha, hc, hs⟩, ri, ⟨ka, kc, K⟩, ⟨va, vc, V⟩, ⟨ca, cc, C⟩⟩ : Nd).p tks tvs).without tks).ks tks = false) := BP.out.still
    rw [BP.out.back] at HP
    generalize strOfNums tks = st1 at *
    generalize strOfNums tvs = st2 at *
    have i1 : (cb : Int) < (K6.length : Int) := by omega
    have i2 : ¬ (K6.length : Int) ≤ (cb : Int) := by omega
    have i3 : (cb : Int) < (V6.length : Int) := by omega
    have i4 : ¬ (V6.length : Int) ≤ (cb : Int) := by omega
    go_wp2_with fail
    go_quiet (fail)
    clear k1 k2 k3 k4 i1 i2 i3 i4 sk sv
    go_wp2_with fail
    refine (HWO2.out _ (below_drewN B46.out _) (below_drewN B6.out _)).mono ?_
    rintro e w7 ⟨v7, rfl, y, hv7, hp7, ho7, b7⟩
    obtain rfl : v7 = y.v := by injection hv7
    rename Nat => qq
    have B7 := hide ((below_drewN B6.out qq).trans (b7.mono B6.out.size))
    have G7 : Hid (w7.heap[w.heap.size]? = _) := (b7.block _ (show w.heap.size < (w6.drewN qq).heap.size from lt_of_block G6.out)).trans G6.out
    have YOK : Hid (∀ W, Below w7.heap.size w7 W → y.Ok W) := fun W h => ho7.ok.below h
    have HYP := hide hp7
    have HF3 : Hid (∀ W, Below w7.heap.size w7 W → Below w.heap.size w W → Calls Try.prog 11 #[y.v, .slice xa tks.length xc] W fun e w' => e = .returned (.tuple #[.int .i64 (cntB y.ks.p tks : Nat), .bool false]) ∧ Below W.heap.size W w') := fun W h h' => by
      have h1 := find_any y ⟨xa, xc, tks⟩ W (YOK.out W h) (HK.out W h')
      rw [show isIn y.ks.p tks = false from by rw [show y.ks.p = _ from congrArg NP.ks HYP.out]; exact HP.out] at h1
      exact h1
    clear hv7 hp7 ho7 b7 f0 f1 f2 f3 f4 f5 HWO2 HF2
    have HYV : Hid (y.v = .agg #[.int .i64 y.lv, y.hi.v, .int .i64 y.ri, y.ks.v, y.vs.v, y.cs.v]) := rfl
    obtain ⟨yn, hyn⟩ : ∃ yn, yn = y := ⟨_, rfl⟩
    rw [← hyn] at HYP YOK
    replace hyn := hide hyn
    generalize cntB y.ks.p tks = cy at *
    obtain ⟨lv7, ⟨ha7, hc7, hs7⟩, ri7, ⟨ka7, kc7, K7⟩, ⟨va7, vc7, V7⟩, ⟨ca7, cc7, C7⟩⟩ := y
    simp only [Nd.v, Tx.v, TL.v, IL.v] at HF3 ⊢
    clear HYV
    obtain ⟨w8, hw8⟩ : ∃ w8, w8 = w7.alloc (.cells #[.int .i64 lv7, .slice ha7 hs7.length hc7, .int .i64 ri7, .slice ka7 K7.length kc7, .slice va7 V7.length vc7, .slice ca7 C7.length cc7] 36) := ⟨_, rfl⟩
    have B78 : Hid (Below w7.heap.size w7 w8) := by show Below _ _ _; rw [hw8]; exact (Below.refl _ _).alloc (Nat.le_refl _) _
    have B8 := hide (B7.out.trans (B78.out.mono B7.out.size))
    have A8 : Hid (w8.heap[w7.heap.size]? = some (.cells #[.int .i64 lv7, .slice ha7 hs7.length hc7, .int .i64 ri7, .slice ka7 K7.length kc7, .slice va7 V7.length vc7, .slice ca7 C7.length cc7] 36 (0, 0))) := by show _ = _; rw [hw8]; exact heap_alloc_new w7 _
    have G8 : Hid (w8.heap[w.heap.size]? = _) := (B78.out.block _ (lt_of_block G7.out)).trans G7.out
    have HW8 := hide hw8
    clear hw8
    go_wp2_with fail
    rw [← HW8.out]
    refine (HF3.out w8 B78.out B8.out).mono ?_
    rintro e w9 ⟨rfl, b9⟩
    have B79 := hide (B78.out.trans (b9.mono B78.out.size))
    have B9 := hide (B8.out.trans (b9.mono B8.out.size))
    have A9 : Hid (w9.heap[w7.heap.size]? = _) := (b9.block _ (lt_of_block A8.out)).trans A8.out
    have G9 : Hid (w9.heap[w.heap.size]? = _) := (b9.block _ (lt_of_block G8.out)).trans G8.out
    obtain ⟨g0, g1, g2, g3, g4, g5⟩ := Six.of G9.out
    clear b9 HW8 HF3
    go_wp2_with fail
    refine (HWO.out w9 B9.out).mono ?_
    rintro e w10 ⟨v10, rfl, z, hv10, hp10, ho10, b10⟩
    obtain rfl : v10 = z.v := by injection hv10
    have B710 := hide (B79.out.trans (b10.mono B79.out.size))
    have B10 := hide (B9.out.trans (b10.mono B9.out.size))
    have A10 : Hid (w10.heap[w7.heap.size]? = _) := (b10.block _ (lt_of_block A9.out)).trans A9.out
    have HSN : Hid (∀ W, Below w10.heap.size w10 W → Calls Try.prog 14 #[yn.v, z.v] W fun e w' => e = .returned (.bool true) ∧ Below W.heap.size W w') := fun W h => sameNode_any yn z W (YOK.out W (B710.out.trans (h.mono B710.out.size))) (ho10.ok.below h) (HYP.out.trans hp10.symm)
    rw [hyn.out] at HSN
    clear hv10 hp10 ho10 b10 g0 g1 g2 g3 g4 g5 HWO
    obtain ⟨lz, ⟨haz, hcz, hsz⟩, riz, ⟨kaz, kcz, Kz⟩, ⟨vaz, vcz, Vz⟩, ⟨caz, ccz, Cz⟩⟩ := z
    simp only [Nd.v, Tx.v, TL.v, IL.v] at HSN ⊢
    obtain ⟨w11, hw11⟩ : ∃ w11, w11 = w10.alloc (.cells #[.int .i64 lz, .slice haz hsz.length hcz, .int .i64 riz, .slice kaz Kz.length kcz, .slice vaz Vz.length vcz, .slice caz Cz.length ccz] 36) := ⟨_, rfl⟩
    have B1011 : Hid (Below w10.heap.size w10 w11) := by show Below _ _ _; rw [hw11]; exact (Below.refl _ _).alloc (Nat.le_refl _) _
    have B11 := hide (B10.out.trans (B1011.out.mono B10.out.size))
    have A11 : Hid (w11.heap[w7.heap.size]? = _) := (B1011.out.block _ (lt_of_block A10.out)).trans A10.out
    have HW11 := hide hw11
    obtain ⟨y0, y1, y2, y3, y4, y5⟩ := Six.of A11.out
    rw [hw11] at y0 y1 y2 y3 y4 y5
    clear hw11
    go_wp2_with fail
    rw [← HW11.out]
    refine (HSN.out w11 B1011.out).mono ?_
    rintro e w12 ⟨rfl, b12⟩
    have B12 := hide (B11.out.trans (b12.mono B11.out.size))
    clear b12 HW11 HSN
    go_wp2_with fail
    go_ret
    exact ⟨by simp, B12.out⟩
  · rw [decide_eq_false hlf] at HLF
    clear hlf hib hcb HF1 HWI HWO
    obtain ⟨lv, ⟨ha, hc, hs⟩, ri, ⟨ka, kc, K⟩, ⟨va, vc, V⟩, ⟨ca, cc, C⟩⟩ := n
    obtain ⟨xa, xc, xs⟩ := k
    obtain ⟨ya, yc, ys⟩ := v
    simp only [Nd.v, Tx.v, TL.v, IL.v] at HLF HW0 G0 ⊢
    go_enter Try.func4, Try.ntmps4
    go_wp2_with fail
    rw [← HW0.out]
    refine (head_any w0).mono ?_
    rintro e w1 ⟨rfl, b1⟩
    have B1 := hide (B0.out.trans (b1.mono B0.out.size))
    have G1 : Hid (w1.heap[w.heap.size]? = _) := (b1.block _ (lt_of_block G0.out)).trans G0.out
    obtain ⟨c0, c1, c2, c3, c4, c5⟩ := Six.of G1.out
    clear b1 HW0
    go_wp2_with fail
    refine (HLF.out w1 B1.out).mono ?_
    rintro e w2 ⟨rfl, b2⟩
    have B2 := hide (B1.out.trans (b2.mono B1.out.size))
    clear b2 HLF c0 c1 c2 c3 c4 c5
    go_wp2_with fail
    go_ret
    exact ⟨rfl, B2.out⟩

end Go.Proofs.Ytldpcnjabieedaa
