/- NodeStays: the walk. -/
import Derived.Test.YtclgimklfejohaaNStayP
import Derived.Test.YtclgimklfejohaaNSplit2
import Derived.Test.YtclgimklfejohaaNMay6
import Derived.Test.YtclgimklfejohaaNRFind
import Derived.Test.YtclgimklfejohaaNHead
import Derived.Deep.CutBlock
namespace Go.Proofs.Ytclgimklfejohaa
open Go.RowKit

theorem not_isAt {C : List Int} {kid : Int} (h : ∀ j, j < C.length → ¬ C.getD j 0 = kid) : kid ∉ C := fun hm => by
  obtain ⟨j, hj, e⟩ := List.getElem_of_mem hm
  refine h j hj ?_
  rw [List.getD_eq_getElem?_getD, List.getElem?_eq_getElem hj, Option.getD_some, e]
set_option maxRecDepth 100000 in
set_option maxHeartbeats 6400000 in
theorem nodeStays_any (n : Nd) (nd lf inn fl bk : Int) (key value : Tx) (kid : Int) (w : World) (hn : n.Ok w) (hk : key.Ok w) (hv : value.Ok w) (hz1 : n.ks.L.length * 24 ≤ 140737488351300) (hz2 : n.vs.L.length * 24 ≤ 140737488351300) (hz3 : n.cs.s.length * 8 ≤ 140737488351300) :
    Calls Try.prog 5 #[.agg #[.int .i64 n.lv, n.hi.v, .int .i64 n.ri, n.ks.v, n.vs.v, n.cs.v, .int .i64 nd, .int .i64 lf, .int .i64 inn, .int .i64 fl, .int .i64 bk, key.v, value.v, .int .i64 kid]] w fun e w' => e = .returned (.bool true) ∧ Below w.heap.size w w' := by
  have HHD : Hid (∀ W, Calls Try.prog 6 #[] W fun e w' => e = .returned (.bool true) ∧ Below W.heap.size W w') := fun W => head_any W
  have HCK : Hid (∀ W, Below w.heap.size w W → Calls Try.prog 19 #[n.v, .agg #[.int .i64 nd, .int .i64 lf, .int .i64 inn, .int .i64 fl, .int .i64 bk]] W fun e w' => e = .returned (.int .i64 (nchkE n.p nd lf inn fl bk)) ∧ Below W.heap.size W w') := fun W hb => ncheck_any n nd lf inn fl bk W (hn.below hb)
  have HKY : Hid (∀ W, Calls Try.prog 20 #[key.v] W fun e w' => e = .returned (.bool (decide (1 ≤ key.s.length ∧ key.s.length ≤ 64))) ∧ w' = W) := fun W => rkey_any _ _ _ W
  have HVL : Hid (∀ W, Calls Try.prog 21 #[value.v] W fun e w' => e = .returned (.bool (decide (value.s.length ≤ 256))) ∧ w' = W) := fun W => rvalue_any _ _ _ W
  have HBY : Hid (∀ W, Below w.heap.size w W → Calls Try.prog 22 #[n.v, key.v] W fun e w' => e = .returned (.bool (beyB n.p.hi key.s)) ∧ Below W.heap.size W w') := fun W hb => rbeyond_any n key W (hn.below hb) (hk.below hb)
  have HWI : Hid (∀ W, Below w.heap.size w W → Calls Try.prog 23 #[n.v, key.v, value.v] W (NdPost W (n.p.with_ key.s value.s))) := fun W hb => with_any n key value W (hn.below hb) (hk.below hb) (hv.below hb) (by omega) (by omega)
  have HJO : Hid (∀ W, Below w.heap.size w W → Calls Try.prog 24 #[n.v, key.v, .int .i64 kid] W (NdBPost W (n.p.joined key.s kid) (!isIn n.ks.p key.s))) := fun W hb => joined_any n key kid W (hn.below hb) (hk.below hb) (by omega) (by omega)
  have HCS : Hid (∀ W, Below w.heap.size w W → n.cs.Ok W) := fun W hb => (hn.below hb).c
  have hcz := hn.cz
  clear hn hk hv hz1 hz2 hz3
  obtain ⟨np, hnp⟩ : ∃ np, np = n.p := ⟨_, rfl⟩
  have hpl : np.lv = n.lv := by rw [hnp]; rfl
  have hpc : np.cs = n.cs.s := by rw [hnp]; rfl
  rw [← hnp] at HCK HBY HWI HJO
  obtain ⟨R, hR⟩ : ∃ R, R = nchkE np nd lf inn fl bk := ⟨_, rfl⟩
  obtain ⟨kb, hkb⟩ : ∃ kb, kb = decide (1 ≤ key.s.length ∧ key.s.length ≤ 64) := ⟨_, rfl⟩
  obtain ⟨vb, hvb⟩ : ∃ vb, vb = decide (value.s.length ≤ 256) := ⟨_, rfl⟩
  obtain ⟨bb, hbb⟩ : ∃ bb, bb = beyB np.hi key.s := ⟨_, rfl⟩
  rw [← hR] at HCK
  rw [← hkb] at HKY
  rw [← hvb] at HVL
  rw [← hbb] at HBY
  obtain ⟨jb, hjb⟩ : ∃ jb, jb = !isIn n.ks.p key.s := ⟨_, rfl⟩
  rw [← hjb] at HJO
  have HALL := hide (And.intro hR (And.intro hkb (And.intro hvb (And.intro hbb (And.intro hpl hpc)))))
  unfold NdPost at HWI
  unfold NdBPost NdPost at HJO
  clear hR hkb hvb hbb hpl hpc hjb hnp
  obtain ⟨alv, ⟨aha, ahc, ahs⟩, ari, ⟨aka, akc, aK⟩, ⟨ava, avc, aV⟩, ⟨aca, acc, aC⟩⟩ := n
  obtain ⟨xa, xc, xs⟩ := key
  obtain ⟨ua, uc, us⟩ := value
  simp only [Nd.v, Tx.v, TL.v, IL.v] at HCK HKY HVL HBY HWI HJO hcz HALL ⊢
  obtain ⟨alc, hlc⟩ : ∃ x, aC.length = x := ⟨_, rfl⟩
  rw [hlc] at HCK HBY HWI HJO hcz ⊢
  have HLC' := hide hlc
  clear hlc
  obtain ⟨lx, hlx⟩ : ∃ x, xs.length = x := ⟨_, rfl⟩
  obtain ⟨ul, hul⟩ : ∃ x, us.length = x := ⟨_, rfl⟩
  rw [hlx] at HKY HBY HWI HJO HALL ⊢
  rw [hul] at HVL HWI HALL ⊢
  have HLX := hide hlx
  have HUL := hide hul
  clear hlx hul
  generalize ahs.length = alh at *
  generalize aK.length = alk at *
  generalize aV.length = alw at *
  obtain ⟨w0, hw0⟩ : ∃ w0, w0 = ((w.alloc (.cells #[.int .i64 alv, .slice aha alh ahc, .int .i64 ari, .slice aka alk akc, .slice ava alw avc, .slice aca alc acc, .int .i64 nd, .int .i64 lf, .int .i64 inn, .int .i64 fl, .int .i64 bk, .slice xa lx xc, .slice ua ul uc, .int .i64 kid] 47)).alloc (.cells #[.int .i64 alv, .slice aha alh ahc, .int .i64 ari, .slice aka alk akc, .slice ava alw avc, .slice aca alc acc] 30)).alloc (.cells #[.int .i64 nd, .int .i64 lf, .int .i64 inn, .int .i64 fl, .int .i64 bk] 32) := ⟨_, rfl⟩
  have b0 : Below w.heap.size w w0 := by rw [hw0]; exact (((Below.refl _ _).alloc (Nat.le_refl _) _).alloc (by simp) _).alloc (by simp; omega) _
  have g0 : w0.heap[w.heap.size + 1]? = some (.cells #[.int .i64 alv, .slice aha alh ahc, .int .i64 ari, .slice aka alk akc, .slice ava alw avc, .slice aca alc acc] 30 (0, 0)) := by rw [hw0]; exact old_at (new_at (by simp))
  have g1 : w0.heap[w.heap.size + 1 + 1]? = some (.cells #[.int .i64 nd, .int .i64 lf, .int .i64 inn, .int .i64 fl, .int .i64 bk] 32 (0, 0)) := by rw [hw0]; exact new_at (by simp)
  have HBX : Hid (∀ W, Below w0.heap.size w0 W → Six W (w.heap.size + 1) (.int .i64 alv) (.slice aha alh ahc) (.int .i64 ari) (.slice aka alk akc) (.slice ava alw avc) (.slice aca alc acc) ∧ (W.cell? ⟨w.heap.size + 1 + 1, 0, none⟩ = some (.int .i64 nd) ∧ W.cell? ⟨w.heap.size + 1 + 1, 1, none⟩ = some (.int .i64 lf) ∧ W.cell? ⟨w.heap.size + 1 + 1, 2, none⟩ = some (.int .i64 inn) ∧ W.cell? ⟨w.heap.size + 1 + 1, 3, none⟩ = some (.int .i64 fl) ∧ W.cell? ⟨w.heap.size + 1 + 1, 4, none⟩ = some (.int .i64 bk)) ∧ Below w.heap.size w W) := fun W hb => by
    refine ⟨Six.of ((hb.block _ (lt_of_block g0)).trans g0), ?_, b0.trans (hb.mono b0.size)⟩
    have h := (hb.block _ (lt_of_block g1)).trans g1
    refine ⟨?_, ?_, ?_, ?_, ?_⟩ <;> (rw [cell_of_row _ _ _ _ _ _ h]; rfl)
  have hl1 := lt_of_block g1
  have HL1 := hide hl1
  have HW0 := hide hw0
  clear hw0 b0 g0 g1 hl1
  go_enter Try.func5, Try.ntmps5
  go_upto_region 6 with fail
  rw [← HW0.out]
  clear HW0
  go_wp2_with fail
  refine (HHD.out w0).mono ?_
  rintro e w1 ⟨rfl, b1⟩
  have B1 := hide b1
  have c := HBX.out w1 B1.out
  obtain ⟨c0, c1, c2, c3, c4, c5⟩ := c.1
  obtain ⟨y0, y1, y2, y3, y4⟩ := c.2.1
  have HR1 := hide (HCK.out w1 c.2.2)
  clear b1 HHD HCK c
  go_wp2_with fail
  refine HR1.out.mono ?_
  rintro e w2 ⟨rfl, b2⟩
  have B2 := hide (B1.out.trans (b2.mono B1.out.size))
  clear b2 HR1 c0 c1 c2 c3 c4 c5 y0 y1 y2 y3 y4
  go_wp2_with fail
  refine keep (HKY.out w2) ?_
  go_wp2_with fail
  refine keep (HVL.out w2) ?_
  have c := HBX.out w2 B2.out
  obtain ⟨c0, c1, c2, c3, c4, c5⟩ := c.1
  have HR2 := hide (HBY.out w2 c.2.2)
  clear c HKY HVL HBY
  go_wp2_with fail
  refine HR2.out.mono ?_
  rintro e w3 ⟨rfl, b3⟩
  have B3 := hide (B2.out.trans (b3.mono B2.out.size))
  have BF3 : Hid (Below w.heap.size w w3) := (HBX.out w3 B3.out).2.2
  clear b3 HR2 c0 c1 c2 c3 c4 c5
  by_cases hR0 : R = 0
  case neg =>
    go_wp2_with fail
    go_ret
    exact ⟨rfl, BF3.out⟩
  subst hR0
  cases kb
  · go_wp2_with fail
    go_ret
    exact ⟨rfl, BF3.out⟩
  cases vb
  · go_wp2_with fail
    go_ret
    exact ⟨rfl, BF3.out⟩
  cases bb
  case true =>
    go_wp2_with fail
    go_ret
    exact ⟨rfl, BF3.out⟩
  have hm := may_of HALL.out.1.symm
  have HCF := hide hm.1
  have HMB := hide hm.2
  have hkl : 1 ≤ lx ∧ lx ≤ 64 := of_decide_eq_true HALL.out.2.1.symm
  have hvl : ul ≤ 256 := of_decide_eq_true HALL.out.2.2.1.symm
  have HKL := hide (And.intro hkl hvl)
  have HBB : Hid (beyB np.hi xs = false) := HALL.out.2.2.2.1.symm
  have HPL : Hid (np.lv = alv) := HALL.out.2.2.2.2.1
  have HPC : Hid (np.cs = aC) := HALL.out.2.2.2.2.2
  clear hm hkl hvl HALL BF3
  obtain ⟨zb, hzb⟩ : ∃ zb, zb = w3.heap.size := ⟨_, rfl⟩
  obtain ⟨w6, hw6⟩ : ∃ w6, w6 = w3.alloc (.cells #[.int .i64 0, .slice none 0 0, .int .i64 0, .slice none 0 0, .slice none 0 0, .slice none 0 0] 30) := ⟨_, rfl⟩
  have b6 : Below w3.heap.size w3 w6 := by rw [hw6]; exact (Below.refl _ _).alloc (Nat.le_refl _) _
  have gb : w6.heap[zb]? = some (.cells #[.int .i64 0, .slice none 0 0, .int .i64 0, .slice none 0 0, .slice none 0 0, .slice none 0 0] 30 (0, 0)) := by rw [hw6, hzb]; exact heap_alloc_new w3 _
  have B6 := hide (B3.out.trans (b6.mono B3.out.size))
  have GB := hide gb
  have HZBL : Hid (w0.heap.size ≤ zb) := by show _ ≤ _; rw [hzb]; exact B3.out.size
  have HZE : Hid (zb = w3.heap.size) := hzb
  have HW6 := hide hw6
  clear b6 gb hw6 hzb
  have c := HBX.out w6 B6.out
  obtain ⟨c0, c1, c2, c3, c4, c5⟩ := c.1
  have HBW6 := hide c.2.2
  clear c
  go_upto_region 14 with fail
  rw [← HW6.out, ← HZE.out]
  clear HW6 HZE
  by_cases hlv : alv = 0
  · have HLV := hide hlv
    subst hlv
    go_wp2_with fail
    refine (HWI.out w6 HBW6.out).mono ?_
    rintro e u1 ⟨⟨zlv, ⟨zha, zhc, zhs⟩, zri, ⟨zka, zkc, zK⟩, ⟨zva, zvc, zV⟩, ⟨zca, zcc, zC⟩⟩, rfl, hzp, hzo, hub⟩
    obtain ⟨zlh, zh1⟩ : ∃ x, zhs.length = x := ⟨_, rfl⟩
    obtain ⟨zlk, zh2⟩ : ∃ x, zK.length = x := ⟨_, rfl⟩
    obtain ⟨zlw, zh3⟩ : ∃ x, zV.length = x := ⟨_, rfl⟩
    obtain ⟨zlc, zh4⟩ : ∃ x, zC.length = x := ⟨_, rfl⟩
    skip
    rw [zh1, zh2, zh3, zh4]
    have zL := hide (And.intro zh1 (And.intro zh2 (And.intro zh3 zh4)))
    clear zh1 zh2 zh3 zh4
    have g1 := (hub.block _ (lt_of_block GB.out)).trans GB.out
    have bu := B6.out.trans (hub.mono B6.out.size)
    obtain ⟨c0, c1, c2, c3, c4, c5⟩ := Six.of g1
    have fz := fun j => frozen_of g1 j
    obtain ⟨wz, hwz⟩ : ∃ wz, wz = six6 u1 zb (.int .i64 zlv) (.slice zha zlh zhc) (.int .i64 zri) (.slice zka zlk zkc) (.slice zva zlw zvc) (.slice zca zlc zcc) := ⟨_, rfl⟩
    have GZ : Hid (wz.heap[zb]? = some (.cells #[.int .i64 zlv, .slice zha zlh zhc, .int .i64 zri, .slice zka zlk zkc, .slice zva zlw zvc, .slice zca zlc zcc] 30 (0, 0))) := by show _ = _; rw [hwz]; exact six_block g1 _ _ _ _ _ _
    have HUZ : Upd (fun k => k = zb) u1 wz := by rw [hwz]; exact six_upd _ _ _ _ _ _ _ _ _ rfl
    have hzb := HZBL.out
    have BZ : Hid (Below w0.heap.size w0 wz) := bu.trans (HUZ.below bu.size (fun k hk e => by omega))
    have ZOK : Hid ((⟨zlv, ⟨zha, zhc, zhs⟩, zri, ⟨zka, zkc, zK⟩, ⟨zva, zvc, zV⟩, ⟨zca, zcc, zC⟩⟩ : Nd).Ok wz) := (hzo.upd HUZ (fun b h1 _ e => by have := lt_of_block GB.out; omega)).ok
    obtain ⟨zp, hzp2⟩ : ∃ zp, zp = np.with_ xs us := ⟨_, rfl⟩
    have HZP : Hid ((⟨zlv, ⟨zha, zhc, zhs⟩, zri, ⟨zka, zkc, zK⟩, ⟨zva, zvc, zV⟩, ⟨zca, zcc, zC⟩⟩ : Nd).p = zp) := by rw [hzp2]; exact hzp
    have HMZ : Hid (MayB zp nd ∧ (zp.lv = 0 → (zp.ks.length : Int) ≤ lf + 1) ∧ (zp.lv ≠ 0 → (zp.cs.length : Int) ≤ inn + 1)) := by rw [hzp2]; exact by have h := HMB.out.1.with_ (key := xs) (value := us) HPL.out (by rw [HLX.out]; exact HKL.out.1) HBB.out (by rw [HUL.out]; exact HKL.out.2); refine ⟨h.1, fun _ => ?_, fun h' => absurd h.2.1 h'⟩; have h3 := HMB.out.2; unfold OvP at h3; rw [if_pos HPL.out] at h3; have h4 := h.2.2; omega
    simp only [six6] at hwz
    have HWZ := hide hwz
    clear hub g1 bu hwz hzb hzp hzo hzp2 HUZ HWI HJO
    go_upto_region 24 with fail
    rw [← HWZ.out]
    clear HWZ c0 c1 c2 c3 c4 c5 fz
    have HZB : Hid (∀ W, Below wz.heap.size wz W → Six W zb (.int .i64 zlv) (.slice zha zlh zhc) (.int .i64 zri) (.slice zka zlk zkc) (.slice zva zlw zvc) (.slice zca zlc zcc) ∧ Below w0.heap.size w0 W ∧ (⟨zlv, ⟨zha, zhc, zhs⟩, zri, ⟨zka, zkc, zK⟩, ⟨zva, zvc, zV⟩, ⟨zca, zcc, zC⟩⟩ : Nd).Ok W) := fun W hb => ⟨Six.of ((hb.block _ (lt_of_block GZ.out)).trans GZ.out), BZ.out.trans (hb.mono BZ.out.size), ZOK.out.below hb⟩
    obtain ⟨z0, z1, z2, z3, z4, z5⟩ := (HZB.out wz (Below.refl _ _)).1
    obtain ⟨y0, y1, y2, y3, y4⟩ := (HBX.out wz BZ.out).2.1
    obtain ⟨ov, hov⟩ : ∃ ov, ov = decide (OvP zp.lv zp.ks.length zp.cs.length lf inn) := ⟨_, rfl⟩
    have HZO : Hid (Calls Try.prog 9 #[.agg #[.int .i64 zlv, .slice zha zlh zhc, .int .i64 zri, .slice zka zlk zkc, .slice zva zlw zvc, .slice zca zlc zcc], .agg #[.int .i64 nd, .int .i64 lf, .int .i64 inn, .int .i64 fl, .int .i64 bk]] wz fun e w' => e = .returned (.bool ov) ∧ Below wz.heap.size wz w') := by
      have := over_any (⟨zlv, ⟨zha, zhc, zhs⟩, zri, ⟨zka, zkc, zK⟩, ⟨zva, zvc, zV⟩, ⟨zca, zcc, zC⟩⟩ : Nd) nd lf inn fl bk wz
      have e1 : zK.length = zp.ks.length := by rw [← HZP.out]; exact (TL.p_len ⟨zka, zkc, zK⟩).symm
      have e2 : zC.length = zp.cs.length := by rw [← HZP.out]; rfl
      have e3 : zlv = zp.lv := by rw [← HZP.out]; rfl
      rw [hov, ← e1, ← e2, ← e3, zL.out.2.1, zL.out.2.2.2]
      simp only [Nd.v, Tx.v, TL.v, IL.v, zL.out.1, zL.out.2.1, zL.out.2.2.1, zL.out.2.2.2] at this
      exact this
    have HOV := hide hov
    clear hov
    go_wp2_with fail
    refine HZO.out.mono ?_
    rintro e v1 ⟨rfl, bv1⟩
    have BV1 := hide bv1
    obtain ⟨p0, p1, p2, p3, p4, p5⟩ := (HZB.out v1 BV1.out).1
    obtain ⟨o0, o1, o2, o3, o4⟩ := (HBX.out v1 (HZB.out v1 BV1.out).2.1).2.1
    clear bv1 HZO z0 z1 z2 z3 z4 z5 y0 y1 y2 y3 y4
    cases ov
    · have hno : ¬ OvP zp.lv zp.ks.length zp.cs.length lf inn := of_decide_eq_false HOV.out.symm
      have HZC : Hid (Calls Try.prog 19 #[.agg #[.int .i64 zlv, .slice zha zlh zhc, .int .i64 zri, .slice zka zlk zkc, .slice zva zlw zvc, .slice zca zlc zcc], .agg #[.int .i64 nd, .int .i64 lf, .int .i64 inn, .int .i64 fl, .int .i64 bk]] v1 fun e w' => e = .returned (.int .i64 0) ∧ Below v1.heap.size v1 w') := by
        have := ncheck_any (⟨zlv, ⟨zha, zhc, zhs⟩, zri, ⟨zka, zkc, zK⟩, ⟨zva, zvc, zV⟩, ⟨zca, zcc, zC⟩⟩ : Nd) nd lf inn fl bk v1 (HZB.out v1 BV1.out).2.2
        rw [HZP.out, may_to HCF.out HMZ.out.1 hno] at this
        simp only [Nd.v, Tx.v, TL.v, IL.v, zL.out.1, zL.out.2.1, zL.out.2.2.1, zL.out.2.2.2] at this
        exact this
      clear hno HOV
      go_wp2_with fail
      refine HZC.out.mono ?_
      rintro e v2 ⟨rfl, bv2⟩
      have BF : Hid (Below w.heap.size w v2) := by have h := (HBX.out v1 (HZB.out v1 BV1.out).2.1).2.2; exact h.trans (bv2.mono h.size)
      clear bv2 HZC
      go_wp2_with fail
      go_ret
      exact ⟨rfl, BF.out⟩
    · have hyo : OvP zp.lv zp.ks.length zp.cs.length lf inn := of_decide_eq_true HOV.out.symm
      have hlf : 2 ≤ lf := HCF.out.2.1.1
      have hin : 3 ≤ inn := HCF.out.2.2.1.1
      have hw2 := over_wd hyo HMZ.out.1 hlf hin
      have HH := hide (HMZ.out.1.halves hw2 HCF.out.1.1)
      have HHN := hide (halves_few HMZ.out.1 hw2 hlf hin HMZ.out.2.1 HMZ.out.2.2)
      have HZS : Hid (Calls Try.prog 10 #[.agg #[.int .i64 zlv, .slice zha zlh zhc, .int .i64 zri, .slice zka zlk zkc, .slice zva zlw zvc, .slice zca zlc zcc], .int .i64 nd] v1 (SplP v1 (zp.one nd) zp.two zp.bet)) := by
        have := split_any (⟨zlv, ⟨zha, zhc, zhs⟩, zri, ⟨zka, zkc, zK⟩, ⟨zva, zvc, zV⟩, ⟨zca, zcc, zC⟩⟩ : Nd) nd v1 (HZB.out v1 BV1.out).2.2 (by rw [HZP.out]; exact hw2)
        rw [HZP.out] at this
        simp only [Nd.v, Tx.v, TL.v, IL.v, zL.out.1, zL.out.2.1, zL.out.2.2.1, zL.out.2.2.2] at this
        exact this
      clear hyo hlf hin hw2 HOV
      go_wp2_with fail
      refine HZS.out.mono ?_
      rintro e v2 ⟨⟨llv, ⟨lha, lhc, lhs⟩, lri, ⟨lka, lkc, lK⟩, ⟨lva, lvc, lV⟩, ⟨lca, lcc, lC⟩⟩, ⟨rlv, ⟨rha, rhc, rhs⟩, rri, ⟨rka, rkc, rK⟩, ⟨rva, rvc, rV⟩, ⟨rca, rcc, rC⟩⟩, ⟨ta, tc, ts⟩, N1, N2, rfl, hlp, hrp, hts, hlo, _, hro, _, _, _, _, _, bv2⟩
      obtain ⟨llh, lh1⟩ : ∃ x, lhs.length = x := ⟨_, rfl⟩
      obtain ⟨llk, lh2⟩ : ∃ x, lK.length = x := ⟨_, rfl⟩
      obtain ⟨llw, lh3⟩ : ∃ x, lV.length = x := ⟨_, rfl⟩
      obtain ⟨llc, lh4⟩ : ∃ x, lC.length = x := ⟨_, rfl⟩
      simp only [Nd.v, Tx.v, TL.v, IL.v]
      rw [lh1, lh2, lh3, lh4]
      have lL := hide (And.intro lh1 (And.intro lh2 (And.intro lh3 lh4)))
      clear lh1 lh2 lh3 lh4
      obtain ⟨rlh, rh1⟩ : ∃ x, rhs.length = x := ⟨_, rfl⟩
      obtain ⟨rlk, rh2⟩ : ∃ x, rK.length = x := ⟨_, rfl⟩
      obtain ⟨rlw, rh3⟩ : ∃ x, rV.length = x := ⟨_, rfl⟩
      obtain ⟨rlc, rh4⟩ : ∃ x, rC.length = x := ⟨_, rfl⟩
      skip
      rw [rh1, rh2, rh3, rh4]
      have rL := hide (And.intro rh1 (And.intro rh2 (And.intro rh3 rh4)))
      clear rh1 rh2 rh3 rh4
      generalize ts.length = tl at *
      have BV2 := hide (BV1.out.trans (bv2.mono BV1.out.size))
      obtain ⟨v3, hv3⟩ : ∃ x, x = (v2.alloc (.cells #[.int .i64 llv, .slice lha llh lhc, .int .i64 lri, .slice lka llk lkc, .slice lva llw lvc, .slice lca llc lcc] 30)).alloc (.cells #[.int .i64 rlv, .slice rha rlh rhc, .int .i64 rri, .slice rka rlk rkc, .slice rva rlw rvc, .slice rca rlc rcc] 30) := ⟨_, rfl⟩
      have b3 : Below v2.heap.size v2 v3 := by rw [hv3]; exact ((Below.refl _ _).alloc (Nat.le_refl _) _).alloc (by simp) _
      have f1 : v3.heap[v2.heap.size]? = some (.cells #[.int .i64 llv, .slice lha llh lhc, .int .i64 lri, .slice lka llk lkc, .slice lva llw lvc, .slice lca llc lcc] 30 (0, 0)) := by rw [hv3]; exact old_at (new_at rfl)
      have f2 : v3.heap[v2.heap.size + 1]? = some (.cells #[.int .i64 rlv, .slice rha rlh rhc, .int .i64 rri, .slice rka rlk rkc, .slice rva rlw rvc, .slice rca rlc rcc] 30 (0, 0)) := by rw [hv3]; exact new_at (by simp)
      have BV3 := hide (BV2.out.trans (b3.mono BV2.out.size))
      have F2 := hide f2
      have HV3 := hide hv3
      have HLC : Hid (Calls Try.prog 19 #[.agg #[.int .i64 llv, .slice lha llh lhc, .int .i64 lri, .slice lka llk lkc, .slice lva llw lvc, .slice lca llc lcc], .agg #[.int .i64 nd, .int .i64 lf, .int .i64 inn, .int .i64 fl, .int .i64 bk]] v3 fun e w' => e = .returned (.int .i64 0) ∧ Below v3.heap.size v3 w') := by
        have := ncheck_any (⟨llv, ⟨lha, lhc, lhs⟩, lri, ⟨lka, lkc, lK⟩, ⟨lva, lvc, lV⟩, ⟨lca, lcc, lC⟩⟩ : Nd) nd lf inn fl bk v3 (hlo.below b3).ok
        rw [hlp, may_to HCF.out HH.out.1 HHN.out.1] at this
        simp only [Nd.v, Tx.v, TL.v, IL.v, lL.out.1, lL.out.2.1, lL.out.2.2.1, lL.out.2.2.2] at this
        exact this
      have HRC : Hid (∀ W, Below v3.heap.size v3 W → Calls Try.prog 19 #[.agg #[.int .i64 rlv, .slice rha rlh rhc, .int .i64 rri, .slice rka rlk rkc, .slice rva rlw rvc, .slice rca rlc rcc], .agg #[.int .i64 nd, .int .i64 lf, .int .i64 inn, .int .i64 fl, .int .i64 bk]] W fun e w' => e = .returned (.int .i64 0) ∧ Below W.heap.size W w') := fun W hb => by
        have := ncheck_any (⟨rlv, ⟨rha, rhc, rhs⟩, rri, ⟨rka, rkc, rK⟩, ⟨rva, rvc, rV⟩, ⟨rca, rcc, rC⟩⟩ : Nd) nd lf inn fl bk W ((hro.below b3).below hb).ok
        rw [hrp, may_to HCF.out HH.out.2 HHN.out.2] at this
        simp only [Nd.v, Tx.v, TL.v, IL.v, rL.out.1, rL.out.2.1, rL.out.2.2.1, rL.out.2.2.2] at this
        exact this
      obtain ⟨z0, z1, z2, z3, z4, z5⟩ := Six.of f1
      obtain ⟨y0, y1, y2, y3, y4⟩ := (HBX.out v3 (HZB.out v3 BV3.out).2.1).2.1
      clear bv2 hv3 b3 f1 f2 hlp hrp hts hlo hro HZS HH HHN
      go_upto_region 28 with fail
      rw [← HV3.out]
      clear HV3 p0 p1 p2 p3 p4 p5 o0 o1 o2 o3 o4
      go_wp2_with fail
      refine HLC.out.mono ?_
      rintro e v4 ⟨rfl, bv4⟩
      have BV34 := hide bv4
      obtain ⟨p0, p1, p2, p3, p4, p5⟩ := Six.of ((bv4.block _ (lt_of_block F2.out)).trans F2.out)
      obtain ⟨o0, o1, o2, o3, o4⟩ := (HBX.out v4 (HZB.out v4 (BV3.out.trans (bv4.mono BV3.out.size))).2.1).2.1
      clear bv4 HLC z0 z1 z2 z3 z4 z5 y0 y1 y2 y3 y4
      go_wp2_with fail
      refine (HRC.out v4 BV34.out).mono ?_
      rintro e v5 ⟨rfl, bv5⟩
      have BF : Hid (Below w.heap.size w v5) := by have h := (HBX.out v4 (HZB.out v4 (BV3.out.trans (BV34.out.mono BV3.out.size))).2.1).2.2; exact h.trans (bv5.mono h.size)
      clear bv5 HRC
      go_wp2_with fail
      go_ret
      exact ⟨rfl, BF.out⟩
  · go_wp2_with fail
    clear c0 c1 c2 c3 c4 c5
    go_loopw [14] (fun q wr => ∃ i : Nat, i ≤ alc ∧ q = .int .i64 (i : Int) ∧ Hid (Below w6.heap.size w6 wr ∧ ∀ j, j < i → ¬ aC.getD j 0 = kid)) (fun q _ => alc - (intOf q).toNat)
    case atStart => exact ⟨0, Nat.zero_le _, rfl, Below.refl _ _, fun j hj => absurd hj (Nat.not_lt_zero j)⟩
    case round =>
      obtain ⟨i, hi, rfl, HI⟩ := hrel
      rename World => wr
      have br := B6.out.trans (HI.out.1.mono B6.out.size)
      have c := HBX.out wr br
      obtain ⟨c0, c1, c2, c3, c4, c5⟩ := c.1
      have BR := hide br
      have HBWR := hide c.2.2
      by_cases hlt : i < alc
      · have j1 : (i : Int) < (alc : Int) := by omega
        have j0 : (0 : Int) ≤ (i : Int) := by omega
        obtain ⟨kb, ko, hka, hkc⟩ := (HCS.out wr c.2.2).r i (by simp only; rw [HLC'.out]; exact hlt)
        simp only at hka hkc
        have HI1 := HI.out.2
        clear c br
        by_cases hek : aC.getD i 0 = kid
        · rw [hek] at hkc
          subst hka
          clear hek HI1
          go_wp2_with fail
          go_ret
          exact ⟨rfl, HBWR.out⟩
        · have HIN : Hid (Below w6.heap.size w6 wr ∧ ∀ j, j < i + 1 → ¬ aC.getD j 0 = kid) := ⟨HI.out.1, fun j hj => by
            by_cases e : j = i
            · rw [e]; exact hek
            · exact HI1 j (by omega)⟩
          generalize aC.getD i 0 = ci at *
          subst hka
          clear HI1 HI
          go_wp2_with fail
          go_roundw
          case rel => exact ⟨i + 1, by omega, by go_num, HIN⟩
          case measure => simp [intOf]; omega
      · have j1 : ¬ (i : Int) < (alc : Int) := by omega
        obtain rfl : i = alc := by omega
        have HNI : Hid (kid ∉ aC) := not_isAt (fun j hj => HI.out.2 j (by rw [HLC'.out] at hj; exact hj))
        obtain ⟨y0, y1, y2, y3, y4⟩ := c.2.1
        have HBR := hide HI.out.1
        clear c br HI
        by_cases hk1 : kid < 1
        · go_wp2_with fail
          go_ret
          exact ⟨rfl, HBWR.out⟩
        · by_cases hk2 : nd < kid
          · go_wp2_with fail
            go_ret
            exact ⟨rfl, HBWR.out⟩
          · have HKR : Hid (1 ≤ kid ∧ kid ≤ nd) := by show _ ∧ _; omega
            have gbr := (HBR.out.block _ (lt_of_block GB.out)).trans GB.out
            replace GB := hide gbr
            replace B6 := BR
            replace HBW6 := HBWR
            clear gbr
            go_wp2_with fail
            refine (HJO.out wr HBWR.out).mono ?_
            rintro e u1 ⟨zv, rfl, ⟨zlv, ⟨zha, zhc, zhs⟩, zri, ⟨zka, zkc, zK⟩, ⟨zva, zvc, zV⟩, ⟨zca, zcc, zC⟩⟩, hzv, hzp, hzo, hub⟩
            obtain rfl : zv = _ := by simpa using hzv
            obtain ⟨zlh, zh1⟩ : ∃ x, zhs.length = x := ⟨_, rfl⟩
            obtain ⟨zlk, zh2⟩ : ∃ x, zK.length = x := ⟨_, rfl⟩
            obtain ⟨zlw, zh3⟩ : ∃ x, zV.length = x := ⟨_, rfl⟩
            obtain ⟨zlc, zh4⟩ : ∃ x, zC.length = x := ⟨_, rfl⟩
            skip
            rw [zh1, zh2, zh3, zh4]
            have zL := hide (And.intro zh1 (And.intro zh2 (And.intro zh3 zh4)))
            clear zh1 zh2 zh3 zh4
            have g1 := (hub.block _ (lt_of_block GB.out)).trans GB.out
            have bu := B6.out.trans (hub.mono B6.out.size)
            obtain ⟨c0, c1, c2, c3, c4, c5⟩ := Six.of g1
            have fz := fun j => frozen_of g1 j
            obtain ⟨wz, hwz⟩ : ∃ wz, wz = six6 u1 zb (.int .i64 zlv) (.slice zha zlh zhc) (.int .i64 zri) (.slice zka zlk zkc) (.slice zva zlw zvc) (.slice zca zlc zcc) := ⟨_, rfl⟩
            have GZ : Hid (wz.heap[zb]? = some (.cells #[.int .i64 zlv, .slice zha zlh zhc, .int .i64 zri, .slice zka zlk zkc, .slice zva zlw zvc, .slice zca zlc zcc] 30 (0, 0))) := by show _ = _; rw [hwz]; exact six_block g1 _ _ _ _ _ _
            have HUZ : Upd (fun k => k = zb) u1 wz := by rw [hwz]; exact six_upd _ _ _ _ _ _ _ _ _ rfl
            have hzb := HZBL.out
            have BZ : Hid (Below w0.heap.size w0 wz) := bu.trans (HUZ.below bu.size (fun k hk e => by omega))
            have ZOK : Hid ((⟨zlv, ⟨zha, zhc, zhs⟩, zri, ⟨zka, zkc, zK⟩, ⟨zva, zvc, zV⟩, ⟨zca, zcc, zC⟩⟩ : Nd).Ok wz) := (hzo.upd HUZ (fun b h1 _ e => by have := lt_of_block GB.out; omega)).ok
            obtain ⟨zp, hzp2⟩ : ∃ zp, zp = np.joined xs kid := ⟨_, rfl⟩
            have HZP : Hid ((⟨zlv, ⟨zha, zhc, zhs⟩, zri, ⟨zka, zkc, zK⟩, ⟨zva, zvc, zV⟩, ⟨zca, zcc, zC⟩⟩ : Nd).p = zp) := by rw [hzp2]; exact hzp
            have HMZ : Hid (MayB zp nd ∧ (zp.lv = 0 → (zp.ks.length : Int) ≤ lf + 1) ∧ (zp.lv ≠ 0 → (zp.cs.length : Int) ≤ inn + 1)) := by rw [hzp2]; exact by have h := HMB.out.1.joined (key := xs) (kid := kid) (by rw [HPL.out]; exact hlv) (by rw [HLX.out]; exact HKL.out.1) HBB.out HKR.out (by rw [HPC.out]; exact HNI.out); refine ⟨h.1, fun h' => absurd h' h.2.1, fun _ => ?_⟩; have h3 := HMB.out.2; unfold OvP at h3; rw [if_neg (by rw [HPL.out]; exact hlv)] at h3; have h4 := h.2.2; omega
            simp only [six6] at hwz
            have HWZ := hide hwz
            clear hub g1 bu hwz hzb hzp hzo hzp2 HUZ HWI HJO y0 y1 y2 y3 y4
            go_upto_region 24 with fail
            rw [← HWZ.out]
            clear HWZ c0 c1 c2 c3 c4 c5 fz
            have HZB : Hid (∀ W, Below wz.heap.size wz W → Six W zb (.int .i64 zlv) (.slice zha zlh zhc) (.int .i64 zri) (.slice zka zlk zkc) (.slice zva zlw zvc) (.slice zca zlc zcc) ∧ Below w0.heap.size w0 W ∧ (⟨zlv, ⟨zha, zhc, zhs⟩, zri, ⟨zka, zkc, zK⟩, ⟨zva, zvc, zV⟩, ⟨zca, zcc, zC⟩⟩ : Nd).Ok W) := fun W hb => ⟨Six.of ((hb.block _ (lt_of_block GZ.out)).trans GZ.out), BZ.out.trans (hb.mono BZ.out.size), ZOK.out.below hb⟩
            obtain ⟨z0, z1, z2, z3, z4, z5⟩ := (HZB.out wz (Below.refl _ _)).1
            obtain ⟨y0, y1, y2, y3, y4⟩ := (HBX.out wz BZ.out).2.1
            obtain ⟨ov, hov⟩ : ∃ ov, ov = decide (OvP zp.lv zp.ks.length zp.cs.length lf inn) := ⟨_, rfl⟩
            have HZO : Hid (Calls Try.prog 9 #[.agg #[.int .i64 zlv, .slice zha zlh zhc, .int .i64 zri, .slice zka zlk zkc, .slice zva zlw zvc, .slice zca zlc zcc], .agg #[.int .i64 nd, .int .i64 lf, .int .i64 inn, .int .i64 fl, .int .i64 bk]] wz fun e w' => e = .returned (.bool ov) ∧ Below wz.heap.size wz w') := by
              have := over_any (⟨zlv, ⟨zha, zhc, zhs⟩, zri, ⟨zka, zkc, zK⟩, ⟨zva, zvc, zV⟩, ⟨zca, zcc, zC⟩⟩ : Nd) nd lf inn fl bk wz
              have e1 : zK.length = zp.ks.length := by rw [← HZP.out]; exact (TL.p_len ⟨zka, zkc, zK⟩).symm
              have e2 : zC.length = zp.cs.length := by rw [← HZP.out]; rfl
              have e3 : zlv = zp.lv := by rw [← HZP.out]; rfl
              rw [hov, ← e1, ← e2, ← e3, zL.out.2.1, zL.out.2.2.2]
              simp only [Nd.v, Tx.v, TL.v, IL.v, zL.out.1, zL.out.2.1, zL.out.2.2.1, zL.out.2.2.2] at this
              exact this
            have HOV := hide hov
            clear hov
            go_wp2_with fail
            refine HZO.out.mono ?_
            rintro e v1 ⟨rfl, bv1⟩
            have BV1 := hide bv1
            obtain ⟨p0, p1, p2, p3, p4, p5⟩ := (HZB.out v1 BV1.out).1
            obtain ⟨o0, o1, o2, o3, o4⟩ := (HBX.out v1 (HZB.out v1 BV1.out).2.1).2.1
            clear bv1 HZO z0 z1 z2 z3 z4 z5 y0 y1 y2 y3 y4
            cases ov
            · have hno : ¬ OvP zp.lv zp.ks.length zp.cs.length lf inn := of_decide_eq_false HOV.out.symm
              have HZC : Hid (Calls Try.prog 19 #[.agg #[.int .i64 zlv, .slice zha zlh zhc, .int .i64 zri, .slice zka zlk zkc, .slice zva zlw zvc, .slice zca zlc zcc], .agg #[.int .i64 nd, .int .i64 lf, .int .i64 inn, .int .i64 fl, .int .i64 bk]] v1 fun e w' => e = .returned (.int .i64 0) ∧ Below v1.heap.size v1 w') := by
                have := ncheck_any (⟨zlv, ⟨zha, zhc, zhs⟩, zri, ⟨zka, zkc, zK⟩, ⟨zva, zvc, zV⟩, ⟨zca, zcc, zC⟩⟩ : Nd) nd lf inn fl bk v1 (HZB.out v1 BV1.out).2.2
                rw [HZP.out, may_to HCF.out HMZ.out.1 hno] at this
                simp only [Nd.v, Tx.v, TL.v, IL.v, zL.out.1, zL.out.2.1, zL.out.2.2.1, zL.out.2.2.2] at this
                exact this
              clear hno HOV
              go_wp2_with fail
              refine HZC.out.mono ?_
              rintro e v2 ⟨rfl, bv2⟩
              have BF : Hid (Below w.heap.size w v2) := by have h := (HBX.out v1 (HZB.out v1 BV1.out).2.1).2.2; exact h.trans (bv2.mono h.size)
              clear bv2 HZC
              go_wp2_with fail
              go_ret
              exact ⟨rfl, BF.out⟩
            · have hyo : OvP zp.lv zp.ks.length zp.cs.length lf inn := of_decide_eq_true HOV.out.symm
              have hlf : 2 ≤ lf := HCF.out.2.1.1
              have hin : 3 ≤ inn := HCF.out.2.2.1.1
              have hw2 := over_wd hyo HMZ.out.1 hlf hin
              have HH := hide (HMZ.out.1.halves hw2 HCF.out.1.1)
              have HHN := hide (halves_few HMZ.out.1 hw2 hlf hin HMZ.out.2.1 HMZ.out.2.2)
              have HZS : Hid (Calls Try.prog 10 #[.agg #[.int .i64 zlv, .slice zha zlh zhc, .int .i64 zri, .slice zka zlk zkc, .slice zva zlw zvc, .slice zca zlc zcc], .int .i64 nd] v1 (SplP v1 (zp.one nd) zp.two zp.bet)) := by
                have := split_any (⟨zlv, ⟨zha, zhc, zhs⟩, zri, ⟨zka, zkc, zK⟩, ⟨zva, zvc, zV⟩, ⟨zca, zcc, zC⟩⟩ : Nd) nd v1 (HZB.out v1 BV1.out).2.2 (by rw [HZP.out]; exact hw2)
                rw [HZP.out] at this
                simp only [Nd.v, Tx.v, TL.v, IL.v, zL.out.1, zL.out.2.1, zL.out.2.2.1, zL.out.2.2.2] at this
                exact this
              clear hyo hlf hin hw2 HOV
              go_wp2_with fail
              refine HZS.out.mono ?_
              rintro e v2 ⟨⟨llv, ⟨lha, lhc, lhs⟩, lri, ⟨lka, lkc, lK⟩, ⟨lva, lvc, lV⟩, ⟨lca, lcc, lC⟩⟩, ⟨rlv, ⟨rha, rhc, rhs⟩, rri, ⟨rka, rkc, rK⟩, ⟨rva, rvc, rV⟩, ⟨rca, rcc, rC⟩⟩, ⟨ta, tc, ts⟩, N1, N2, rfl, hlp, hrp, hts, hlo, _, hro, _, _, _, _, _, bv2⟩
              obtain ⟨llh, lh1⟩ : ∃ x, lhs.length = x := ⟨_, rfl⟩
              obtain ⟨llk, lh2⟩ : ∃ x, lK.length = x := ⟨_, rfl⟩
              obtain ⟨llw, lh3⟩ : ∃ x, lV.length = x := ⟨_, rfl⟩
              obtain ⟨llc, lh4⟩ : ∃ x, lC.length = x := ⟨_, rfl⟩
              simp only [Nd.v, Tx.v, TL.v, IL.v]
              rw [lh1, lh2, lh3, lh4]
              have lL := hide (And.intro lh1 (And.intro lh2 (And.intro lh3 lh4)))
              clear lh1 lh2 lh3 lh4
              obtain ⟨rlh, rh1⟩ : ∃ x, rhs.length = x := ⟨_, rfl⟩
              obtain ⟨rlk, rh2⟩ : ∃ x, rK.length = x := ⟨_, rfl⟩
              obtain ⟨rlw, rh3⟩ : ∃ x, rV.length = x := ⟨_, rfl⟩
              obtain ⟨rlc, rh4⟩ : ∃ x, rC.length = x := ⟨_, rfl⟩
              skip
              rw [rh1, rh2, rh3, rh4]
              have rL := hide (And.intro rh1 (And.intro rh2 (And.intro rh3 rh4)))
              clear rh1 rh2 rh3 rh4
              generalize ts.length = tl at *
              have BV2 := hide (BV1.out.trans (bv2.mono BV1.out.size))
              obtain ⟨v3, hv3⟩ : ∃ x, x = (v2.alloc (.cells #[.int .i64 llv, .slice lha llh lhc, .int .i64 lri, .slice lka llk lkc, .slice lva llw lvc, .slice lca llc lcc] 30)).alloc (.cells #[.int .i64 rlv, .slice rha rlh rhc, .int .i64 rri, .slice rka rlk rkc, .slice rva rlw rvc, .slice rca rlc rcc] 30) := ⟨_, rfl⟩
              have b3 : Below v2.heap.size v2 v3 := by rw [hv3]; exact ((Below.refl _ _).alloc (Nat.le_refl _) _).alloc (by simp) _
              have f1 : v3.heap[v2.heap.size]? = some (.cells #[.int .i64 llv, .slice lha llh lhc, .int .i64 lri, .slice lka llk lkc, .slice lva llw lvc, .slice lca llc lcc] 30 (0, 0)) := by rw [hv3]; exact old_at (new_at rfl)
              have f2 : v3.heap[v2.heap.size + 1]? = some (.cells #[.int .i64 rlv, .slice rha rlh rhc, .int .i64 rri, .slice rka rlk rkc, .slice rva rlw rvc, .slice rca rlc rcc] 30 (0, 0)) := by rw [hv3]; exact new_at (by simp)
              have BV3 := hide (BV2.out.trans (b3.mono BV2.out.size))
              have F2 := hide f2
              have HV3 := hide hv3
              have HLC : Hid (Calls Try.prog 19 #[.agg #[.int .i64 llv, .slice lha llh lhc, .int .i64 lri, .slice lka llk lkc, .slice lva llw lvc, .slice lca llc lcc], .agg #[.int .i64 nd, .int .i64 lf, .int .i64 inn, .int .i64 fl, .int .i64 bk]] v3 fun e w' => e = .returned (.int .i64 0) ∧ Below v3.heap.size v3 w') := by
                have := ncheck_any (⟨llv, ⟨lha, lhc, lhs⟩, lri, ⟨lka, lkc, lK⟩, ⟨lva, lvc, lV⟩, ⟨lca, lcc, lC⟩⟩ : Nd) nd lf inn fl bk v3 (hlo.below b3).ok
                rw [hlp, may_to HCF.out HH.out.1 HHN.out.1] at this
                simp only [Nd.v, Tx.v, TL.v, IL.v, lL.out.1, lL.out.2.1, lL.out.2.2.1, lL.out.2.2.2] at this
                exact this
              have HRC : Hid (∀ W, Below v3.heap.size v3 W → Calls Try.prog 19 #[.agg #[.int .i64 rlv, .slice rha rlh rhc, .int .i64 rri, .slice rka rlk rkc, .slice rva rlw rvc, .slice rca rlc rcc], .agg #[.int .i64 nd, .int .i64 lf, .int .i64 inn, .int .i64 fl, .int .i64 bk]] W fun e w' => e = .returned (.int .i64 0) ∧ Below W.heap.size W w') := fun W hb => by
                have := ncheck_any (⟨rlv, ⟨rha, rhc, rhs⟩, rri, ⟨rka, rkc, rK⟩, ⟨rva, rvc, rV⟩, ⟨rca, rcc, rC⟩⟩ : Nd) nd lf inn fl bk W ((hro.below b3).below hb).ok
                rw [hrp, may_to HCF.out HH.out.2 HHN.out.2] at this
                simp only [Nd.v, Tx.v, TL.v, IL.v, rL.out.1, rL.out.2.1, rL.out.2.2.1, rL.out.2.2.2] at this
                exact this
              obtain ⟨z0, z1, z2, z3, z4, z5⟩ := Six.of f1
              obtain ⟨y0, y1, y2, y3, y4⟩ := (HBX.out v3 (HZB.out v3 BV3.out).2.1).2.1
              clear bv2 hv3 b3 f1 f2 hlp hrp hts hlo hro HZS HH HHN
              go_upto_region 28 with fail
              rw [← HV3.out]
              clear HV3 p0 p1 p2 p3 p4 p5 o0 o1 o2 o3 o4
              go_wp2_with fail
              refine HLC.out.mono ?_
              rintro e v4 ⟨rfl, bv4⟩
              have BV34 := hide bv4
              obtain ⟨p0, p1, p2, p3, p4, p5⟩ := Six.of ((bv4.block _ (lt_of_block F2.out)).trans F2.out)
              obtain ⟨o0, o1, o2, o3, o4⟩ := (HBX.out v4 (HZB.out v4 (BV3.out.trans (bv4.mono BV3.out.size))).2.1).2.1
              clear bv4 HLC z0 z1 z2 z3 z4 z5 y0 y1 y2 y3 y4
              go_wp2_with fail
              refine (HRC.out v4 BV34.out).mono ?_
              rintro e v5 ⟨rfl, bv5⟩
              have BF : Hid (Below w.heap.size w v5) := by have h := (HBX.out v4 (HZB.out v4 (BV3.out.trans (BV34.out.mono BV3.out.size))).2.1).2.2; exact h.trans (bv5.mono h.size)
              clear bv5 HRC
              go_wp2_with fail
              go_ret
              exact ⟨rfl, BF.out⟩
end Go.Proofs.Ytclgimklfejohaa
