/- NodeHalves: the walk. -/
import Derived.Test.YtclgimklfejohaaNSplit2
import Derived.Test.YtclgimklfejohaaNHalfP
import Derived.Test.YtclgimklfejohaaNHead
import Derived.Test.YtclgimklfejohaaNSame
import Derived.Deep.CutBlock
import Derived.Deep.DeepCutAuto
namespace Go.Proofs.Ytclgimklfejohaa
open Go.RowKit

set_option maxRecDepth 100000 in
set_option maxHeartbeats 6400000 in
theorem nodeHalves_any (n : Nd) (right : Int) (kx : Tx) (w : World) (hn : n.Ok w) (hk : kx.Ok w) : Calls Try.prog 4 #[n.v, .int .i64 right, kx.v] w fun e w' => e = .returned (.bool true) ∧ Below w.heap.size w w' := by
  have HHD : Hid (∀ W, Calls Try.prog 6 #[] W fun e w' => e = .returned (.bool true) ∧ Below W.heap.size W w') := fun W => head_any W
  have HRT : Hid (∀ W, Below w.heap.size w W → Calls Try.prog 7 #[n.v] W fun e w' => e = .returned (.bool (decide (RtP n.p))) ∧ Below W.heap.size W w') := fun W hb => right_any n W (hn.below hb)
  have HNO : Hid (∀ W, Below w.heap.size w W → n.Ok W) := fun W hb => hn.below hb
  have HKO : Hid (∀ W, Below w.heap.size w W → kx.Ok W) := fun W hb => hk.below hb
  have hkz := hn.kz
  have hvz := hn.vz
  have hcz := hn.cz
  have HWF : Hid (RtP n.p → n.p.wd = if 0 < n.p.lv then n.p.cs.length else n.p.ks.length) := fun h => wd_few h
  have HSF : Hid (n.p.wd < 2 → ∀ W, Below w.heap.size w W → Calls Try.prog 10 #[n.v, .int .i64 right] W (SplP W n.p NP.zero [])) := fun h W hb => split_few n right W (hn.below hb) h
  have HSA : Hid (2 ≤ n.p.wd → ∀ W, Below w.heap.size w W → Calls Try.prog 10 #[n.v, .int .i64 right] W (SplP W (n.p.one right) n.p.two n.p.bet)) := fun h W hb => split_any n right W (hn.below hb) h
  clear hn hk
  obtain ⟨np, hnp⟩ : ∃ np, np = n.p := ⟨_, rfl⟩
  have hpk : np.ks.length = n.ks.L.length := by rw [hnp]; exact TL.p_len _
  have hpc : np.cs.length = n.cs.s.length := by rw [hnp]; rfl
  have hpl : np.lv = n.lv := by rw [hnp]; rfl
  rw [← hnp] at HRT HWF HSF HSA
  have HNP := hide hnp
  clear hnp
  obtain ⟨an, han⟩ : ∃ an, an = n := ⟨_, rfl⟩
  have HAN := hide han
  rw [← han] at HNO HNP
  clear han
  obtain ⟨alv, ⟨aha, ahc, ahs⟩, ari, ⟨aka, akc, aK⟩, ⟨ava, avc, aV⟩, ⟨aca, acc, aC⟩⟩ := n
  obtain ⟨xa, xc, xs⟩ := kx
  have HV : Hid ((⟨alv, ⟨aha, ahc, ahs⟩, ari, ⟨aka, akc, aK⟩, ⟨ava, avc, aV⟩, ⟨aca, acc, aC⟩⟩ : Nd).v = .agg #[.int .i64 alv, .slice aha ahs.length ahc, .int .i64 ari, .slice aka aK.length akc, .slice ava aV.length avc, .slice aca aC.length acc]) := rfl
  rw [HV.out] at HRT HSF HSA ⊢
  simp only [Tx.v] at *
  obtain ⟨alh, h1⟩ : ∃ x, ahs.length = x := ⟨_, rfl⟩
  obtain ⟨alk, h2⟩ : ∃ x, aK.length = x := ⟨_, rfl⟩
  obtain ⟨alw, h3⟩ : ∃ x, aV.length = x := ⟨_, rfl⟩
  obtain ⟨alc, h4⟩ : ∃ x, aC.length = x := ⟨_, rfl⟩
  rw [h1, h2, h3, h4] at HRT HSF HSA HV ⊢
  rw [h2] at hkz hpk
  rw [h3] at hvz
  rw [h4] at hcz hpc
  have HVA : Hid (an.v = .agg #[.int .i64 alv, .slice aha alh ahc, .int .i64 ari, .slice aka alk akc, .slice ava alw avc, .slice aca alc acc]) := by show _ = _; rw [HAN.out]; exact HV.out
  have HLA := hide (And.intro h1 (And.intro h2 (And.intro h3 h4)))
  clear h1 h2 h3 h4 HV
  obtain ⟨lx, hlx⟩ : ∃ x, xs.length = x := ⟨_, rfl⟩
  rw [hlx]
  have HLX := hide hlx
  clear hlx
  obtain ⟨w0, hw0⟩ : ∃ w0, w0 = w.alloc (.cells #[.int .i64 alv, .slice aha alh ahc, .int .i64 ari, .slice aka alk akc, .slice ava alw avc, .slice aca alc acc] 30) := ⟨_, rfl⟩
  have b0 : Below w.heap.size w w0 := by rw [hw0]; exact (Below.refl _ _).alloc (Nat.le_refl _) _
  have G0 : Hid (w0.heap[w.heap.size]? = some (.cells #[.int .i64 alv, .slice aha alh ahc, .int .i64 ari, .slice aka alk akc, .slice ava alw avc, .slice aca alc acc] 30 (0, 0))) := by show _ = _; rw [hw0]; exact heap_alloc_new w _
  have B0 := hide b0
  have HW0 := hide hw0
  clear b0 hw0
  have HPK := hide (And.intro hpk (And.intro hpc hpl))
  clear hpk hpc hpl
  by_cases hR : RtP np
  case neg =>
    rw [decide_eq_false hR] at HRT
    clear hR HWF HSF HSA
    go_enter Try.func4, Try.ntmps4
    go_upto_region 1 with fail
    rw [← HW0.out]
    clear HW0
    go_wp2_with fail
    refine (HHD.out w0).mono ?_
    rintro e w1 ⟨rfl, b1⟩
    have B1 := hide (B0.out.trans (b1.mono B0.out.size))
    obtain ⟨c0, c1, c2, c3, c4, c5⟩ := Six.of ((b1.block _ (lt_of_block G0.out)).trans G0.out)
    have HR1 := hide (HRT.out w1 B1.out)
    clear b1
    go_wp2_with fail
    refine HR1.out.mono ?_
    rintro e w2 ⟨rfl, b2⟩
    have B2 := hide (B1.out.trans (b2.mono B1.out.size))
    clear b2
    go_wp2_with fail
    go_ret
    exact ⟨rfl, B2.out⟩
  case pos =>
  rw [decide_eq_true hR] at HRT
  have HRR := hide hR
  have hwd := HWF.out hR
  rw [HPK.out.1, HPK.out.2.1, HPK.out.2.2] at hwd

  have HWD := hide hwd
  clear hR HWF hwd
  by_cases hf : np.wd < 2
  · have HS := hide (HSF.out hf)
    clear HSF HSA
    have jm : (if 0 < alv then alc else alk) < 2 := by have := HWD.out; omega
    have HJM := hide jm
    clear jm hf
    go_enter Try.func4, Try.ntmps4
    go_upto_region 1 with fail
    rw [← HW0.out]
    clear HW0
    go_wp2_with fail
    refine (HHD.out w0).mono ?_
    rintro e w1 ⟨rfl, b1⟩
    have B1 := hide (B0.out.trans (b1.mono B0.out.size))
    have G1 := hide ((b1.block _ (lt_of_block G0.out)).trans G0.out)
    obtain ⟨c0, c1, c2, c3, c4, c5⟩ := Six.of G1.out
    have HR1 := hide (HRT.out w1 B1.out)
    clear b1 HRT HHD
    go_wp2_with fail
    refine HR1.out.mono ?_
    rintro e w2 ⟨rfl, b2⟩
    have B2 := hide (B1.out.trans (b2.mono B1.out.size))
    have G2 := hide ((b2.block _ (lt_of_block G1.out)).trans G1.out)
    obtain ⟨d0, d1, d2, d3, d4, d5⟩ := Six.of G2.out
    have HS2 := hide (HS.out w2 B2.out)
    clear b2 c0 c1 c2 c3 c4 c5 HS HR1
    go_wp2_with fail
    refine HS2.out.mono ?_
    rintro e w3 ⟨⟨xlv, ⟨xha, xhc, xhs⟩, xri, ⟨xka, xkc, xK⟩, ⟨xva, xvc, xV⟩, ⟨xca, xcc, xC⟩⟩, ⟨ylv, ⟨yha, yhc, yhs⟩, yri, ⟨yka, ykc, yK⟩, ⟨yva, yvc, yV⟩, ⟨yca, ycc, yC⟩⟩, ⟨ta, tc, ts⟩, N1, N2, rfl, hxp, hyp, hts, hxo, _, hyo, _, _, _, _, _, b3⟩
    have hyk : yK.length = 0 := by have := congrArg (fun p => p.ks.length) hyp; simp only [Nd.p, TL.p_len, NP.zero, List.length_nil] at this; exact this
    have hyc : yC.length = 0 := by have := congrArg (fun p => p.cs.length) hyp; simpa [Nd.p, NP.zero] using this
    have htl : ts.length = 0 := by simp only at hts; rw [hts]; rfl
    obtain ⟨xlh, xh1⟩ : ∃ x, xhs.length = x := ⟨_, rfl⟩
    obtain ⟨xlk, xh2⟩ : ∃ x, xK.length = x := ⟨_, rfl⟩
    obtain ⟨xlw, xh3⟩ : ∃ x, xV.length = x := ⟨_, rfl⟩
    obtain ⟨xlc, xh4⟩ : ∃ x, xC.length = x := ⟨_, rfl⟩
    simp only [Nd.v, Tx.v, TL.v, IL.v]
    rw [xh1, xh2, xh3, xh4]
    have xL := hide (And.intro xh1 (And.intro xh2 (And.intro xh3 xh4)))
    clear xh1 xh2 xh3 xh4
    simp only [hyk, hyc, htl]
    generalize yhs.length = ylh at *
    generalize yV.length = ylw at *
    have B3 := hide (B2.out.trans (b3.mono B2.out.size))
    have G3 := hide ((b3.block _ (lt_of_block G2.out)).trans G2.out)
    obtain ⟨w4, hw4⟩ : ∃ w4, w4 = (w3.alloc (.cells #[.int .i64 xlv, .slice xha xlh xhc, .int .i64 xri, .slice xka xlk xkc, .slice xva xlw xvc, .slice xca xlc xcc] 30)).alloc (.cells #[.int .i64 ylv, .slice yha ylh yhc, .int .i64 yri, .slice yka 0 ykc, .slice yva ylw yvc, .slice yca 0 ycc] 30) := ⟨_, rfl⟩
    have b4 : Below w3.heap.size w3 w4 := by rw [hw4]; exact ((Below.refl _ _).alloc (Nat.le_refl _) _).alloc (by simp) _
    have f1 : w4.heap[w3.heap.size]? = some (.cells #[.int .i64 xlv, .slice xha xlh xhc, .int .i64 xri, .slice xka xlk xkc, .slice xva xlw xvc, .slice xca xlc xcc] 30 (0, 0)) := by rw [hw4]; exact old_at (new_at rfl)
    have f2 : w4.heap[w3.heap.size + 1]? = some (.cells #[.int .i64 ylv, .slice yha ylh yhc, .int .i64 yri, .slice yka 0 ykc, .slice yva ylw yvc, .slice yca 0 ycc] 30 (0, 0)) := by rw [hw4]; exact new_at (by simp)
    have f0 := (b4.block _ (lt_of_block G3.out)).trans G3.out
    have B4 := hide (B3.out.trans (b4.mono B3.out.size))
    have SN := hide (sameNode_any (⟨xlv, ⟨xha, xhc, xhs⟩, xri, ⟨xka, xkc, xK⟩, ⟨xva, xvc, xV⟩, ⟨xca, xcc, xC⟩⟩ : Nd) an w4 (hxo.below b4).ok (HNO.out w4 B4.out) (hxp.trans HNP.out))
    rw [HVA.out] at SN
    simp only [Nd.v, Tx.v, TL.v, IL.v, xL.out.1, xL.out.2.1, xL.out.2.2.1, xL.out.2.2.2] at SN
    obtain ⟨q0, q1, q2, q3, q4, q5⟩ := Six.of f0
    obtain ⟨r0, r1, r2, r3, r4, r5⟩ := Six.of f1
    have F2 := hide f2
    have HW4 := hide hw4
    clear hxp hyp hts hxo hyo hyk hyc htl b3 hw4 b4 f0 f1 f2 d0 d1 d2 d3 d4 d5 HS2 HKO HNO hkz hvz hcz
    go_upto_region 6 with fail
    rw [← HW4.out]
    clear HW4
    by_cases hv0 : 0 < alv
    · have jl : (alc : Int) < 2 := by have := HJM.out; rw [if_pos hv0] at this; omega
      clear HJM
      go_wp2_with fail
      refine SN.out.mono ?_
      rintro e w5 ⟨rfl, b5⟩
      obtain ⟨z0, z1, z2, z3, z4, z5⟩ := Six.of ((b5.block _ (lt_of_block F2.out)).trans F2.out)
      have B5 := hide (B4.out.trans (b5.mono B4.out.size))
      clear b5 SN
      go_wp2_with fail
      go_ret
      exact ⟨rfl, B5.out⟩
    · have jl : (alk : Int) < 2 := by have := HJM.out; rw [if_neg hv0] at this; omega
      clear HJM
      go_wp2_with fail
      refine SN.out.mono ?_
      rintro e w5 ⟨rfl, b5⟩
      obtain ⟨z0, z1, z2, z3, z4, z5⟩ := Six.of ((b5.block _ (lt_of_block F2.out)).trans F2.out)
      have B5 := hide (B4.out.trans (b5.mono B4.out.size))
      clear b5 SN
      go_wp2_with fail
      go_ret
      exact ⟨rfl, B5.out⟩
  · have hf2 : 2 ≤ np.wd := by omega
    have HS := hide (HSA.out hf2)
    have HPU := hide (And.intro (fun i hi => keys_l HRR.out hf2 i hi) (And.intro (fun i hi => keys_r HRR.out hf2 i hi) (keys_all HRR.out hf2)))
    have HLED := hide (led_same HRR.out hf2 xs)
    have jm : ¬ (if 0 < alv then alc else alk) < 2 := by have := HWD.out; omega
    have HJM := hide jm
    clear HSF HSA jm hf hf2
    go_enter Try.func4, Try.ntmps4
    go_upto_region 1 with fail
    rw [← HW0.out]
    clear HW0
    go_wp2_with fail
    refine (HHD.out w0).mono ?_
    rintro e w1 ⟨rfl, b1⟩
    have B1 := hide (B0.out.trans (b1.mono B0.out.size))
    have G1 := hide ((b1.block _ (lt_of_block G0.out)).trans G0.out)
    obtain ⟨c0, c1, c2, c3, c4, c5⟩ := Six.of G1.out
    have HR1 := hide (HRT.out w1 B1.out)
    clear b1 HRT HHD
    go_wp2_with fail
    refine HR1.out.mono ?_
    rintro e w2 ⟨rfl, b2⟩
    have B2 := hide (B1.out.trans (b2.mono B1.out.size))
    have G2 := hide ((b2.block _ (lt_of_block G1.out)).trans G1.out)
    obtain ⟨d0, d1, d2, d3, d4, d5⟩ := Six.of G2.out
    have HS2 := hide (HS.out w2 B2.out)
    clear b2 c0 c1 c2 c3 c4 c5 HS HR1
    go_wp2_with fail
    refine HS2.out.mono ?_
    rintro e w3 ⟨⟨xlv, ⟨xha, xhc, xhs⟩, xri, ⟨xka, xkc, xK⟩, ⟨xva, xvc, xV⟩, ⟨xca, xcc, xC⟩⟩, ⟨ylv, ⟨yha, yhc, yhs⟩, yri, ⟨yka, ykc, yK⟩, ⟨yva, yvc, yV⟩, ⟨yca, ycc, yC⟩⟩, ⟨ta, tc, ts⟩, N1, N2, rfl, hxp, hyp, hts, hxo, _, hyo, _, _, hto, _, _, b3⟩
    obtain ⟨xlh, xh1⟩ : ∃ x, xhs.length = x := ⟨_, rfl⟩
    obtain ⟨xlk, xh2⟩ : ∃ x, xK.length = x := ⟨_, rfl⟩
    obtain ⟨xlw, xh3⟩ : ∃ x, xV.length = x := ⟨_, rfl⟩
    obtain ⟨xlc, xh4⟩ : ∃ x, xC.length = x := ⟨_, rfl⟩
    simp only [Nd.v, Tx.v, TL.v, IL.v]
    rw [xh1, xh2, xh3, xh4]
    have xL := hide (And.intro xh1 (And.intro xh2 (And.intro xh3 xh4)))
    clear xh1 xh2 xh3 xh4
    obtain ⟨ylh, yh1⟩ : ∃ x, yhs.length = x := ⟨_, rfl⟩
    obtain ⟨ylk, yh2⟩ : ∃ x, yK.length = x := ⟨_, rfl⟩
    obtain ⟨ylw, yh3⟩ : ∃ x, yV.length = x := ⟨_, rfl⟩
    obtain ⟨ylc, yh4⟩ : ∃ x, yC.length = x := ⟨_, rfl⟩
    skip
    rw [yh1, yh2, yh3, yh4]
    have yL := hide (And.intro yh1 (And.intro yh2 (And.intro yh3 yh4)))
    clear yh1 yh2 yh3 yh4
    obtain ⟨tl, htl⟩ : ∃ x, ts.length = x := ⟨_, rfl⟩
    rw [htl]
    have HTL := hide htl
    have HPS := hide (And.intro hxp (And.intro hyp hts))
    have B3 := hide (B2.out.trans (b3.mono B2.out.size))
    have G3 := hide ((b3.block _ (lt_of_block G2.out)).trans G2.out)
    obtain ⟨w4, hw4⟩ : ∃ w4, w4 = (w3.alloc (.cells #[.int .i64 xlv, .slice xha xlh xhc, .int .i64 xri, .slice xka xlk xkc, .slice xva xlw xvc, .slice xca xlc xcc] 30)).alloc (.cells #[.int .i64 ylv, .slice yha ylh yhc, .int .i64 yri, .slice yka ylk ykc, .slice yva ylw yvc, .slice yca ylc ycc] 30) := ⟨_, rfl⟩
    have b4 : Below w3.heap.size w3 w4 := by rw [hw4]; exact ((Below.refl _ _).alloc (Nat.le_refl _) _).alloc (by simp) _
    have f1 : w4.heap[w3.heap.size]? = some (.cells #[.int .i64 xlv, .slice xha xlh xhc, .int .i64 xri, .slice xka xlk xkc, .slice xva xlw xvc, .slice xca xlc xcc] 30 (0, 0)) := by rw [hw4]; exact old_at (new_at rfl)
    have f2 : w4.heap[w3.heap.size + 1]? = some (.cells #[.int .i64 ylv, .slice yha ylh yhc, .int .i64 yri, .slice yka ylk ykc, .slice yva ylw yvc, .slice yca ylc ycc] 30 (0, 0)) := by rw [hw4]; exact new_at (by simp)
    have f0 := (b4.block _ (lt_of_block G3.out)).trans G3.out
    have B4 := hide (B3.out.trans (b4.mono B3.out.size))
    have F0 := hide f0
    have F1 := hide f1
    have F2 := hide f2
    have XOK : Hid (∀ W, Below w4.heap.size w4 W → (⟨xlv, ⟨xha, xhc, xhs⟩, xri, ⟨xka, xkc, xK⟩, ⟨xva, xvc, xV⟩, ⟨xca, xcc, xC⟩⟩ : Nd).Ok W) := fun W hb => ((hxo.below b4).ok).below hb
    have YOK : Hid (∀ W, Below w4.heap.size w4 W → (⟨ylv, ⟨yha, yhc, yhs⟩, yri, ⟨yka, ykc, yK⟩, ⟨yva, yvc, yV⟩, ⟨yca, ycc, yC⟩⟩ : Nd).Ok W) := fun W hb => ((hyo.below b4).ok).below hb
    have TOK : Hid (∀ W, Below w4.heap.size w4 W → (⟨ta, tc, ts⟩ : Tx).Ok W) := fun W hb => (hto.below b4).below hb
    have HW4 := hide hw4
    clear hxp hyp hts hxo hyo hto htl b3 hw4 b4 f0 f1 f2 HS2
    obtain ⟨q0, q1, q2, q3, q4, q5⟩ := Six.of F0.out
    go_upto_region 6 with fail
    rw [← HW4.out]
    clear HW4 d0 d1 d2 d3 d4 d5
    obtain ⟨iT, hiT, hT0, hT1, hT2⟩ := info_parts infoT
    obtain ⟨iI, hiI, hI0, hI1, hI2⟩ := info_parts infoI
    have HSZ : Hid (xlk + ylk + 1 ≤ alk + 1 ∧ xlk + ylk + (if 0 < alv then 1 else 0) = alk) := by
      show _ ∧ _
      have h1 : np.ks.length = alk := by rw [HPK.out.1]
      have h2 := congrArg List.length HPU.out.2.2
      have h3 : (np.ks.take np.cutK).length = xlk := by
        have := congrArg (fun p => p.ks.length) HPS.out.1
        simp only [Nd.p, TL.p_len, NP.one, xL.out.2.1] at this
        exact this.symm
      have h4 : np.restK.length = ylk := by
        have := congrArg (fun p => p.ks.length) HPS.out.2.1
        simp only [Nd.p, TL.p_len, NP.two, yL.out.2.1] at this
        exact this.symm
      have h5 : np.lv = alv := HPK.out.2.2
      rw [List.length_append, List.length_append, h1, h3, h4, h5] at h2
      by_cases e : 0 < alv
      · rw [if_pos e] at h2 ⊢; simp only [List.length_singleton] at h2; omega
      · rw [if_neg e] at h2 ⊢; simp only [List.length_nil] at h2; omega
    have hsz := HSZ.out.1
    have X4 := XOK.out w4 (Below.refl _ _)
    have HXN : Hid (xka = none → xlk = 0 ∧ xkc = 0) := fun e => by have := X4.k.n e; simp only [xL.out.2.1] at this; exact this
    have HXC : Hid (∀ W, Below w4.heap.size w4 W → ∀ ad, xka = some ad → ∀ j u, (xK.map Tx.v)[j]? = some u → W.cell? (ad.add j) = some u) := fun W hb => ((XOK.out W hb).k.r).news
    have HYN : Hid (yka = none → ylk = 0 ∧ ykc = 0) := fun e => by have := (YOK.out w4 (Below.refl _ _)).k.n e; simp only [yL.out.2.1] at this; exact this
    have HYC : Hid (∀ W, Below w4.heap.size w4 W → ∀ ad, yka = some ad → ∀ j u, (yK.map Tx.v)[j]? = some u → W.cell? (ad.add j) = some u) := fun W hb => ((YOK.out W hb).k.r).news
    have HXM : Hid ((xK.map Tx.v).length = xlk * 1) := by show _ = _; rw [List.length_map, xL.out.2.1]; omega
    have HYM : Hid ((yK.map Tx.v).length = ylk * 1) := by show _ = _; rw [List.length_map, yL.out.2.1]; omega
    obtain ⟨r0, r1, r2, r3, r4, r5⟩ := Six.of F1.out
    have hl0 := lt_of_block F0.out
    have hl1 := lt_of_block F1.out
    have hl2 := lt_of_block F2.out
    clear X4
    obtain ⟨mm, hmm⟩ : ∃ mm, mm = (if 0 < alv then alc else alk) := ⟨_, rfl⟩
    have jm : ¬ (mm : Int) < 2 := by have := HJM.out; omega
    have HMM := hide hmm
    clear hmm HJM
    have HSTL : Hid (∀ W, Below w4.heap.size w4 W → W.cell? ⟨w.heap.size, 0, none⟩ = some (.int .i64 alv) ∧ W.cell? ⟨w3.heap.size + 1, 3, none⟩ = some (.slice yka ylk ykc)) := fun W hb => ⟨(hb.cell (p := ⟨w.heap.size, 0, none⟩) hl0).trans q0, (hb.cell (p := ⟨w3.heap.size + 1, 3, none⟩) hl2).trans (Six.of F2.out).2.2.2.1⟩
    go_upto_if 45 with fail
    go_cut [12] (fun s12 wx => s12 = .int .i64 (mm : Int) ∧ Hid (wx = w4))
    case first =>
      by_cases hv0 : 0 < alv
      · obtain rfl : mm = alc := by rw [HMM.out, if_pos hv0]
        go_wp2_with fail
        go_meet
        exact ⟨rfl, rfl⟩
      · obtain rfl : mm = alk := by rw [HMM.out, if_neg hv0]
        go_wp2_with fail
        go_meet
        exact ⟨rfl, rfl⟩
    case rest =>
    rename World => wx
    obtain ⟨rfl, hwx⟩ := hcut
    obtain rfl := hwx.out
    go_upto_if 82 with (first
      | (at_builtin; refine append_own_any rfl (.tmp 74) (.tmp 77) 25 rfl wx.heap.size 22 iT (.slice none 0 0) 1 24 Try.underlying25 hiT hT0 hT1 hT2 rfl (by decide) (.slice (some ⟨wx.heap.size, 0, none⟩) 0 0) 0 [] rfl (World.ownsRow_made wx #[] 0 (Nat.le_refl _) (by unfold maxLen; omega) rfl) xka xlk xkc (xK.map Tx.v) rfl HXM.out HXN.out (HXC.out _ ((Below.refl _ _).alloc (Nat.le_refl _) _)) (tx_oneCell xK) (by unfold maxLen; omega) (by omega) (by simp) ?_; intro v5 w5 ho5 hg5; simp only [List.nil_append, Nat.zero_add] at ho5; obtain ⟨a5, c5, rfl, _, _⟩ := vok_of_owns ho5; have HO5 := hide ho5; have B45 : Hid (Below wx.heap.size wx w5) := ((Below.refl _ _).alloc (Nat.le_refl _) _).grown hg5 (by simp) (fun k h => by cases h; exact Nat.le_refl _); have e0 := (HSTL.out w5 B45.out).1; clear ho5 hg5)
      | fail)
    obtain ⟨K6, hK6⟩ : ∃ K6 : List Tx, K6 = xK ++ (if 0 < alv then [⟨ta, tc, ts⟩] else []) := ⟨_, rfl⟩
    obtain ⟨n6, hn6⟩ : ∃ n6, n6 = xlk + (if 0 < alv then 1 else 0) := ⟨_, rfl⟩
    have HK6 := hide hK6
    have HN6 := hide hn6
    clear hK6 hn6
    go_cut [13] (fun s13 wy => ∃ (a6 : Option Addr) (c6 : Nat), s13 = .slice a6 n6 c6 ∧ Hid (wy.ownsRow wx.heap.size 22 1 (.slice a6 n6 c6) n6 (K6.map Tx.v) ∧ Below wx.heap.size wx wy))
    case first =>
      by_cases hv0 : 0 < alv
      · obtain rfl : n6 = xlk + 1 := by rw [HN6.out, if_pos hv0]
        obtain rfl : K6 = xK ++ [⟨ta, tc, ts⟩] := by rw [HK6.out, if_pos hv0]
        have HOA : Hid ((w5.alloc (.cells #[.slice ta tl tc] 22)).ownsRow wx.heap.size 22 1 (.slice a5 xlk c5) xlk (xK.map Tx.v)) := owns_below HO5.out ((Below.refl _ _).alloc (Nat.le_refl _) _)
        have hb5 : wx.heap.size ≤ (w5.alloc (.cells #[.slice ta tl tc] 22)).heap.size := by have := B45.out.size; simp; omega
        have HB5 := hide hb5
        have HTV : Hid ((xK ++ [(⟨ta, tc, ts⟩ : Tx)]).map Tx.v = xK.map Tx.v ++ [.slice ta tl tc]) := by show _ = _; rw [List.map_append]; simp only [List.map_cons, List.map_nil, Tx.v, HTL.out]
        clear hb5
        go_wp2_with (first
          | (at_builtin; refine append_own_any rfl (.tmp 83) (.tmp 85) 25 rfl wx.heap.size 22 iT (.slice none 0 0) 1 24 Try.underlying25 hiT hT0 hT1 hT2 rfl (by decide) (.slice a5 xlk c5) xlk (xK.map Tx.v) rfl HOA.out (some ⟨w5.heap.size, 0, none⟩) 1 1 [.slice ta tl tc] rfl rfl (by intro h; cases h) (by intro ad had; cases had; exact one_new _ _ _) (by intro u hu; simp at hu; subst hu; rfl) (by unfold maxLen; omega) (by omega) HB5.out ?_; intro v6 w6 ho6 hg6; obtain ⟨a6, c6, rfl, _, _⟩ := vok_of_owns ho6; have HO6 := hide ho6; have B56 : Hid (Below wx.heap.size wx w6) := Below.grown (B45.out.trans (((Below.refl _ _).alloc (Nat.le_refl _) _).mono B45.out.size)) hg6 (by have := B45.out.size; simp; omega) (fun k h => (HOA.out.lt k h).1); clear ho6 hg6)
          | fail)
        go_meet
        exact ⟨a6, c6, rfl, by rw [HTV.out]; exact HO6.out, B56.out⟩
      · obtain rfl : n6 = xlk := by rw [HN6.out, if_neg hv0]; rfl
        obtain rfl : K6 = xK := by rw [HK6.out, if_neg hv0]; exact List.append_nil _
        go_wp2_with fail
        go_meet
        exact ⟨a5, c5, rfl, HO5.out, B45.out⟩
    case rest =>
    rename World => wy
    obtain ⟨a6, c6, rfl, HR6⟩ := hcut
    have HO6 : Hid (wy.ownsRow wx.heap.size 22 1 (.slice a6 n6 c6) n6 (K6.map Tx.v)) := HR6.out.1
    have B6 : Hid (Below wx.heap.size wx wy) := HR6.out.2
    have hn6 : n6 + ylk = alk := by
      have h1 := HSZ.out.2
      have h2 := HN6.out
      by_cases e : 0 < alv
      · rw [if_pos e] at h1 h2; omega
      · rw [if_neg e] at h1 h2; omega
    have HN6' := hide hn6
    have hb6 := B6.out.size
    have HX6 : Hid (∀ W, Below wx.heap.size wx W → Six W w3.heap.size (.int .i64 xlv) (.slice xha xlh xhc) (.int .i64 xri) (.slice xka xlk xkc) (.slice xva xlw xvc) (.slice xca xlc xcc)) := fun W hb => Six.of ((hb.block _ hl1).trans F1.out)
    have HY6 : Hid (∀ W, Below wx.heap.size wx W → Six W (w3.heap.size + 1) (.int .i64 ylv) (.slice yha ylh yhc) (.int .i64 yri) (.slice yka ylk ykc) (.slice yva ylw yvc) (.slice yca ylc ycc)) := fun W hb => Six.of ((hb.block _ hl2).trans F2.out)
    have HA6 : Hid (∀ W, Below wx.heap.size wx W → Six W w.heap.size (.int .i64 alv) (.slice aha alh ahc) (.int .i64 ari) (.slice aka alk akc) (.slice ava alw avc) (.slice aca alc acc)) := fun W hb => Six.of ((hb.block _ hl0).trans F0.out)
    have HSC : Hid (xlc + ylc = alc ∧ xlw + ylw = alw) := by
      have h1 := congrArg (fun p => p.cs.length) HPS.out.1
      have h2 := congrArg (fun p => p.cs.length) HPS.out.2.1
      have h3 := congrArg (fun p => p.vs.length) HPS.out.1
      have h4 := congrArg (fun p => p.vs.length) HPS.out.2.1
      simp only [Nd.p, TL.p_len, NP.one, NP.two, xL.out.2.2.1, xL.out.2.2.2, yL.out.2.2.1, yL.out.2.2.2, List.length_take, List.length_drop] at h1 h2 h3 h4
      have h5 : np.cs.length = alc := HPK.out.2.1
      have h6 : np.vs.length = alw := by rw [HNP.out, HAN.out]; exact (TL.p_len _).trans HLA.out.2.2.1
      rw [h5] at h1 h2
      rw [h6] at h3 h4
      show _ ∧ _
      omega
    have hsc1 : xlc + ylc ≤ alc := by have := HSC.out.1; omega
    have hsc2 : xlw + ylw ≤ alw := by have := HSC.out.2; omega
    have HXCN : Hid (xca = none → xlc = 0 ∧ xcc = 0) := fun e => by have := (XOK.out wx (Below.refl _ _)).c.n e; simp only [xL.out.2.2.2] at this; exact this
    have HXCC : Hid (∀ W, Below wx.heap.size wx W → ∀ ad, xca = some ad → ∀ j u, (xC.map (Value.int .i64))[j]? = some u → W.cell? (ad.add j) = some u) := fun W hb => ((XOK.out W hb).c.vok.r).news
    have HYCN : Hid (yca = none → ylc = 0 ∧ ycc = 0) := fun e => by have := (YOK.out wx (Below.refl _ _)).c.n e; simp only [yL.out.2.2.2] at this; exact this
    have HYCC : Hid (∀ W, Below wx.heap.size wx W → ∀ ad, yca = some ad → ∀ j u, (yC.map (Value.int .i64))[j]? = some u → W.cell? (ad.add j) = some u) := fun W hb => ((YOK.out W hb).c.vok.r).news
    have HXCM : Hid ((xC.map (Value.int .i64)).length = xlc * 1) := by show _ = _; rw [List.length_map, xL.out.2.2.2]; omega
    have HYCM : Hid ((yC.map (Value.int .i64)).length = ylc * 1) := by show _ = _; rw [List.length_map, yL.out.2.2.2]; omega
    have HXVN : Hid (xva = none → xlw = 0 ∧ xvc = 0) := fun e => by have := (XOK.out wx (Below.refl _ _)).v.n e; simp only [xL.out.2.2.1] at this; exact this
    have HXVC : Hid (∀ W, Below wx.heap.size wx W → ∀ ad, xva = some ad → ∀ j u, (xV.map Tx.v)[j]? = some u → W.cell? (ad.add j) = some u) := fun W hb => ((XOK.out W hb).v.r).news
    have HYVN : Hid (yva = none → ylw = 0 ∧ yvc = 0) := fun e => by have := (YOK.out wx (Below.refl _ _)).v.n e; simp only [yL.out.2.2.1] at this; exact this
    have HYVC : Hid (∀ W, Below wx.heap.size wx W → ∀ ad, yva = some ad → ∀ j u, (yV.map Tx.v)[j]? = some u → W.cell? (ad.add j) = some u) := fun W hb => ((YOK.out W hb).v.r).news
    have HXVM : Hid ((xV.map Tx.v).length = xlw * 1) := by show _ = _; rw [List.length_map, xL.out.2.2.1]; omega
    have HYVM : Hid ((yV.map Tx.v).length = ylw * 1) := by show _ = _; rw [List.length_map, yL.out.2.2.1]; omega
    obtain ⟨_, _, _, y3, _, _⟩ := HY6.out wy B6.out
    have hxk : xlk ≤ 5864062014805 := by omega
    have hyk : ylk ≤ 5864062014805 := by omega
    clear HR6 hsz hn6 q0 q1 q2 q3 q4 q5 r0 r1 r2 r3 r4 r5 e0 HO5 B45 jm
    have hkz6 : n6 + ylk ≤ 5864062014805 := by have := HN6'.out; omega
    go_upto_region 15 with (first
      | (at_builtin; refine append_own_any rfl (.tmp 87) (.tmp 90) 25 rfl wx.heap.size 22 iT (.slice none 0 0) 1 24 Try.underlying25 hiT hT0 hT1 hT2 rfl (by decide) (.slice a6 n6 c6) n6 (K6.map Tx.v) rfl HO6.out yka ylk ykc (yK.map Tx.v) rfl HYM.out HYN.out (HYC.out _ B6.out) (tx_oneCell yK) (by unfold maxLen; omega) (by omega) hb6 ?_; intro v7 w7 ho7 hg7; obtain ⟨a7, c7, rfl, _, _⟩ := vok_of_owns ho7; have HO7 := hide ho7; have B7 : Hid (Below wx.heap.size wx w7) := B6.out.grown hg7 hb6 (fun k h => (HO6.out.lt k h).1); clear ho7 hg7)
      | fail)
    clear y3 hb6 HO6
    obtain ⟨_, _, _, _, _, x5⟩ := HX6.out w7 B7.out
    have hs7 : w3.heap.size < w7.heap.size := Nat.lt_of_lt_of_le hl1 B7.out.size
    go_upto_region 16 with (first
      | (at_builtin; refine append_own_any rfl (.tmp 92) (.tmp 95) 26 rfl w7.heap.size 3 iI (.int .i64 0) 1 8 Try.underlying26 hiI hI0 hI1 hI2 rfl (by decide) (.slice (some ⟨w7.heap.size, 0, none⟩) 0 0) 0 [] rfl (World.ownsRow_made w7 #[] 0 (Nat.le_refl _) (by unfold maxLen; omega) rfl) xca xlc xcc (xC.map (Value.int .i64)) rfl HXCM.out HXCN.out (HXCC.out _ (B7.out.alloc B7.out.size _)) (i_oneCell xC) (by unfold maxLen; omega) (by omega) (by simp) ?_; intro v8 w8 ho8 hg8; simp only [List.nil_append, Nat.zero_add] at ho8; obtain ⟨a8, c8, rfl, _, _⟩ := vok_of_owns ho8; have HO8 := hide ho8; have B78 : Hid (Below w7.heap.size w7 w8) := ((Below.refl _ _).alloc (Nat.le_refl _) _).grown hg8 (by simp) (fun k h => by cases h; exact Nat.le_refl _); clear ho8 hg8)
      | fail)
    clear x5 hs7
    have B8 : Hid (Below wx.heap.size wx w8) := B7.out.trans (B78.out.mono B7.out.size)
    have hb8 := B78.out.size
    obtain ⟨_, _, _, _, _, y5⟩ := HY6.out w8 B8.out
    go_upto_region 17 with (first
      | (at_builtin; refine append_own_any rfl (.tmp 97) (.tmp 100) 26 rfl w7.heap.size 3 iI (.int .i64 0) 1 8 Try.underlying26 hiI hI0 hI1 hI2 rfl (by decide) (.slice a8 xlc c8) xlc (xC.map (Value.int .i64)) rfl HO8.out yca ylc ycc (yC.map (Value.int .i64)) rfl HYCM.out HYCN.out (HYCC.out _ B8.out) (i_oneCell yC) (by unfold maxLen; omega) (by omega) hb8 ?_; intro v9 w9 ho9 hg9; obtain ⟨a9, c9, rfl, _, _⟩ := vok_of_owns ho9; have HO9 := hide ho9; have B79 : Hid (Below w7.heap.size w7 w9) := B78.out.grown hg9 hb8 (fun k h => (HO8.out.lt k h).1); clear ho9 hg9)
      | fail)
    clear y5 hb8 HO8 B78 B8
    have B9 : Hid (Below wx.heap.size wx w9) := B7.out.trans (B79.out.mono B7.out.size)
    obtain ⟨_, _, _, _, x4, _⟩ := HX6.out w9 B9.out
    have hs9 : w3.heap.size < w9.heap.size := Nat.lt_of_lt_of_le hl1 B9.out.size
    go_upto_region 18 with (first
      | (at_builtin; refine append_own_any rfl (.tmp 102) (.tmp 105) 25 rfl w9.heap.size 22 iT (.slice none 0 0) 1 24 Try.underlying25 hiT hT0 hT1 hT2 rfl (by decide) (.slice (some ⟨w9.heap.size, 0, none⟩) 0 0) 0 [] rfl (World.ownsRow_made w9 #[] 0 (Nat.le_refl _) (by unfold maxLen; omega) rfl) xva xlw xvc (xV.map Tx.v) rfl HXVM.out HXVN.out (HXVC.out _ (B9.out.alloc B9.out.size _)) (tx_oneCell xV) (by unfold maxLen; omega) (by omega) (by simp) ?_; intro v10 w10 ho10 hg10; simp only [List.nil_append, Nat.zero_add] at ho10; obtain ⟨a10, c10, rfl, _, _⟩ := vok_of_owns ho10; have HO10 := hide ho10; have B910 : Hid (Below w9.heap.size w9 w10) := ((Below.refl _ _).alloc (Nat.le_refl _) _).grown hg10 (by simp) (fun k h => by cases h; exact Nat.le_refl _); clear ho10 hg10)
      | fail)
    clear x4 hs9
    have B10 : Hid (Below wx.heap.size wx w10) := B9.out.trans (B910.out.mono B9.out.size)
    have hb10 := B910.out.size
    obtain ⟨_, _, _, _, y4, _⟩ := HY6.out w10 B10.out
    go_upto_region 19 with (first
      | (at_builtin; refine append_own_any rfl (.tmp 107) (.tmp 110) 25 rfl w9.heap.size 22 iT (.slice none 0 0) 1 24 Try.underlying25 hiT hT0 hT1 hT2 rfl (by decide) (.slice a10 xlw c10) xlw (xV.map Tx.v) rfl HO10.out yva ylw yvc (yV.map Tx.v) rfl HYVM.out HYVN.out (HYVC.out _ B10.out) (tx_oneCell yV) (by unfold maxLen; omega) (by omega) hb10 ?_; intro v11 w11 ho11 hg11; obtain ⟨a11, c11, rfl, _, _⟩ := vok_of_owns ho11; have HO11 := hide ho11; have B911 : Hid (Below w9.heap.size w9 w11) := B910.out.grown hg11 hb10 (fun k h => (HO10.out.lt k h).1); clear ho11 hg11)
      | fail)
    clear y4 hb10 HO10 B910 B10
    have B11 : Hid (Below wx.heap.size wx w11) := B9.out.trans (B911.out.mono B9.out.size)
    -- the three lists are the node's
    have HSB : Hid (Calls Try.prog 16 #[.agg #[.slice a7 (n6 + ylk) c7, .slice a11 (xlw + ylw) c11, .slice a9 (xlc + ylc) c9], .agg #[.slice aka alk akc, .slice ava alw avc, .slice aca alc acc]] w11 fun e w' => e = .returned (.bool true) ∧ Below w11.heap.size w11 w') := by
      have hx := XOK.out w11 B11.out
      have hy := YOK.out w11 B11.out
      have ht := TOK.out w11 B11.out
      have o7 := owns_below (owns_below HO7.out B79.out) B911.out
      have o9 := owns_below HO9.out B911.out
      obtain ⟨b7, d7, e7, v7, _⟩ := vok_of_owns o7
      obtain ⟨b9, d9, e9, v9, _⟩ := vok_of_owns o9
      obtain ⟨b11, d11, e11, v11, _⟩ := vok_of_owns HO11.out
      cases e7; cases e9; cases e11
      rw [← List.map_append] at v7 v9 v11
      have k7 : ∀ x ∈ K6 ++ yK, x.Ok w11 := fun x hx' => by
        rcases List.mem_append.1 hx' with h | h
        · rw [HK6.out] at h
          rcases List.mem_append.1 h with h | h
          · exact hx.k.ok x h
          · by_cases e : 0 < alv
            · rw [if_pos e, List.mem_singleton] at h; rw [h]; exact ht
            · rw [if_neg e] at h; cases h
        · exact hy.k.ok x h
      have k11 : ∀ x ∈ xV ++ yV, x.Ok w11 := fun x hx' => by
        rcases List.mem_append.1 hx' with h | h
        · exact hx.v.ok x h
        · exact hy.v.ok x h
      have l7 : (K6 ++ yK).length = n6 + ylk := by
        rw [List.length_append, yL.out.2.1, HK6.out, List.length_append, xL.out.2.1, HN6.out]
        by_cases e : 0 < alv
        · rw [if_pos e, if_pos e]; rfl
        · rw [if_neg e, if_neg e]; rfl
      have l9 : (xC ++ yC).length = xlc + ylc := by rw [List.length_append, xL.out.2.2.2, yL.out.2.2.2]
      have l11 : (xV ++ yV).length = xlw + ylw := by rw [List.length_append, xL.out.2.2.1, yL.out.2.2.1]
      have hao := HNO.out w11 (B4.out.trans (B11.out.mono B4.out.size))
      have hkz' := HN6'.out
      have hok : (⟨0, ⟨none, 0, []⟩, 0, ⟨a7, c7, K6 ++ yK⟩, ⟨a11, c11, xV ++ yV⟩, ⟨a9, c9, xC ++ yC⟩⟩ : Nd).Ok w11 := by
        refine ⟨Tx.nil_ok _, vok_tl v7 k7, vok_tl v11 k11, vok_il v9, ?_, ?_, ?_⟩
        · simp only [l7]; omega
        · simp only [l11]; omega
        · simp only [l9]; omega
      have g1 := congrArg NP.ks HPS.out.1
      have g2 := congrArg NP.ks HPS.out.2.1
      have g3 := congrArg NP.vs HPS.out.1
      have g4 := congrArg NP.vs HPS.out.2.1
      have g5 := congrArg NP.cs HPS.out.1
      have g6 := congrArg NP.cs HPS.out.2.1
      simp only [Nd.p, TL.p, NP.one, NP.two] at g1 g2 g3 g4 g5 g6
      have hts := HPS.out.2.2
      simp only at hts
      have hlv : np.lv = alv := HPK.out.2.2
      have this := sameBody_any _ an w11 hok hao ?_ ?_ ?_
      · rw [HAN.out] at this
        simp only [TL.v, IL.v, l7, l9, l11, HLA.out.2.1, HLA.out.2.2.1, HLA.out.2.2.2] at this
        exact this
      · have h1 : an.ks.p = np.ks := by rw [HNP.out]; rfl
        rw [h1, HPU.out.2.2]
        simp only [TL.p, List.map_append, g2, HK6.out, g1, hlv]
        congr 2
        by_cases e : 0 < alv
        · rw [if_pos e, if_pos e]; simp [hts]
        · rw [if_neg e, if_neg e]; rfl
      · have h1 : an.vs.p = np.vs := by rw [HNP.out]; rfl
        rw [h1]
        simp only [TL.p, List.map_append, g3, g4]
        exact List.take_append_drop _ _
      · have h1 : an.cs.s = np.cs := by rw [HNP.out]; rfl
        rw [h1]
        simp only [g5, g6]
        exact List.take_append_drop _ _
    obtain ⟨_, _, _, n3, n4, n5⟩ := HA6.out w11 B11.out
    clear HO7 HO9 HO11 B7 B79 B9 B911
    go_wp2_with fail
    refine HSB.out.mono ?_
    rintro e w12 ⟨rfl, b12⟩
    have B12 : Hid (Below wx.heap.size wx w12) := B11.out.trans (b12.mono B11.out.size)
    clear b12 n3 n4 n5 HSB B11
    have HCL : Hid (∀ x ∈ xK, cmpI x.s ts < 0) := fun x hx => by
      obtain ⟨i, hi, rfl⟩ := List.getElem_of_mem hx
      have e := congrArg NP.ks HPS.out.1
      simp only [Nd.p, TL.p, NP.one] at e
      have h1 : i < (np.ks.take np.cutK).length := by rw [← e, List.length_map]; exact hi
      have := HPU.out.1 i h1
      simp only [← e, List.getElem_map] at this
      have hts : ts = np.bet := HPS.out.2.2
      rw [hts]; exact this
    have HCR : Hid (∀ x ∈ yK, ¬ cmpI x.s ts < 0) := fun x hx => by
      obtain ⟨i, hi, rfl⟩ := List.getElem_of_mem hx
      have e := congrArg NP.ks HPS.out.2.1
      simp only [Nd.p, TL.p, NP.two] at e
      have h1 : i < np.restK.length := by rw [← e, List.length_map]; exact hi
      have := HPU.out.2.1 i h1
      simp only [← e, List.getElem_map] at this
      have hts : ts = np.bet := HPS.out.2.2
      rw [hts]; omega
    go_wp2_with fail
    go_loopw [17] (fun q wr => ∃ i : Nat, i ≤ xlk ∧ q = .int .i64 (i : Int) ∧ Hid (Below wx.heap.size wx wr)) (fun q _ => xlk - (intOf q).toNat)
    case atStart => exact ⟨0, Nat.zero_le _, rfl, B12⟩
    case round =>
      obtain ⟨i, hi, rfl, HB⟩ := hrel
      rename World => wr
      obtain ⟨_, _, _, x3, _, _⟩ := HX6.out wr HB.out
      by_cases hlt : i < xlk
      · have j1 : (i : Int) < (xlk : Int) := by omega
        have j0 : (0 : Int) ≤ (i : Int) := by omega
        have XO := (XOK.out wr HB.out).k
        have hiK : i < xK.length := by rw [xL.out.2.1]; exact hlt
        obtain ⟨kb, ko, hka, hkc⟩ := XO.r i hiK
        simp only at hka
        have hmem := List.getElem_mem hiK
        have hko := XO.ok _ hmem
        have hcl := HCL.out _ hmem
        generalize xK[i] = xi at *
        obtain ⟨ea, ec, es⟩ := xi
        obtain ⟨el, hel⟩ : ∃ el, es.length = el := ⟨_, rfl⟩
        have HRC : Hid (Calls Try.prog 17 #[.slice ea el ec, .slice ta tl tc] wr fun e w' => e = .returned (.int .i64 (cmpI es ts)) ∧ ∃ m, w' = wr.drewN m) := rcmp_any ea ta el ec tl tc es ts wr hel HTL.out (by have := hko.z; simp only at this; omega) (by have := (TOK.out wr HB.out).z; simp only [HTL.out] at this; omega) hko.r (TOK.out wr HB.out).r
        simp only [Tx.v, hel] at hkc
        simp only at hcl
        generalize cmpI es ts = cv at *
        have jc : ¬ (0 : Int) ≤ cv := by omega
        subst hka
        clear XO hmem hko hel hcl
        go_wp2_with fail
        refine HRC.out.mono ?_
        rintro e wz ⟨rfl, m, rfl⟩
        clear HRC
        go_wp2_with fail
        go_roundw
        case rel => exact ⟨i + 1, by omega, by go_num, below_drewN HB.out _⟩
        case measure => simp [intOf]; omega
      · have j1 : ¬ (i : Int) < (xlk : Int) := by omega
        go_wp2_with fail
        clear x3 hi
        go_loopw [18] (fun q wt => ∃ i : Nat, i ≤ ylk ∧ q = .int .i64 (i : Int) ∧ Hid (Below wx.heap.size wx wt)) (fun q _ => ylk - (intOf q).toNat)
        case atStart => exact ⟨0, Nat.zero_le _, rfl, HB⟩
        case round =>
          obtain ⟨i, hi, rfl, HB2⟩ := hrel
          rename World => wt
          obtain ⟨_, _, _, y3, _, _⟩ := HY6.out wt HB2.out
          by_cases hlt : i < ylk
          · have j1 : (i : Int) < (ylk : Int) := by omega
            have j0 : (0 : Int) ≤ (i : Int) := by omega
            have YO := (YOK.out wt HB2.out).k
            have hiK : i < yK.length := by rw [yL.out.2.1]; exact hlt
            obtain ⟨kb, ko, hka, hkc⟩ := YO.r i hiK
            simp only at hka
            have hmem := List.getElem_mem hiK
            have hko := YO.ok _ hmem
            have hcl := HCR.out _ hmem
            generalize yK[i] = xi at *
            obtain ⟨ea, ec, es⟩ := xi
            obtain ⟨el, hel⟩ : ∃ el, es.length = el := ⟨_, rfl⟩
            have HRD : Hid (Calls Try.prog 17 #[.slice ea el ec, .slice ta tl tc] wt fun e w' => e = .returned (.int .i64 (cmpI es ts)) ∧ ∃ m, w' = wt.drewN m) := rcmp_any ea ta el ec tl tc es ts wt hel HTL.out (by have := hko.z; simp only at this; omega) (by have := (TOK.out wt HB2.out).z; simp only [HTL.out] at this; omega) hko.r (TOK.out wt HB2.out).r
            simp only [Tx.v, hel] at hkc
            simp only at hcl
            generalize cmpI es ts = cv at *
            have jc : ¬ cv < (0 : Int) := by omega
            subst hka
            clear YO hmem hko hel hcl
            go_wp2_with fail
            refine HRD.out.mono ?_
            rintro e wz ⟨rfl, m, rfl⟩
            clear HRD
            go_wp2_with fail
            go_roundw
            case rel => exact ⟨i + 1, by omega, by go_num, below_drewN HB2.out _⟩
            case measure => simp [intOf]; omega
          · have j1 : ¬ (i : Int) < (ylk : Int) := by omega
            clear hi HCL HCR
            obtain ⟨x0, x1, x2, x3, x4, x5⟩ := HX6.out wt HB2.out
            have hst1 : w3.heap.size < wt.heap.size := Nat.lt_of_lt_of_le hl1 HB2.out.size
            have hst2 : w3.heap.size + 1 < wt.heap.size := Nat.lt_of_lt_of_le hl2 HB2.out.size
            have hst0 : w.heap.size < wt.heap.size := Nat.lt_of_lt_of_le hl0 HB2.out.size
            obtain ⟨wh, hwh⟩ : ∃ wh, wh = wt.alloc (.cells #[.int .i64 xlv, .slice xha xlh xhc, .int .i64 xri, .slice xka xlk xkc, .slice xva xlw xvc, .slice xca xlc xcc] 30) := ⟨_, rfl⟩
            have bh : Below wt.heap.size wt wh := by rw [hwh]; exact (Below.refl _ _).alloc (Nat.le_refl _) _
            have gh : wh.heap[wt.heap.size]? = some (.cells #[.int .i64 xlv, .slice xha xlh xhc, .int .i64 xri, .slice xka xlk xkc, .slice xva xlw xvc, .slice xca xlc xcc] 30 (0, 0)) := by rw [hwh]; exact heap_alloc_new wt _
            have BH : Hid (Below wx.heap.size wx wh) := HB2.out.trans (bh.mono HB2.out.size)
            have GH := hide gh
            have HWH := hide hwh
            have HKX := hide (HKO.out wh (B4.out.trans (BH.out.mono B4.out.size)))
            have HTX := hide (TOK.out wh BH.out)
            have HRE : Hid (Calls Try.prog 17 #[.slice xa lx xc, .slice ta tl tc] wh fun e w' => e = .returned (.int .i64 (cmpI xs ts)) ∧ ∃ m, w' = wh.drewN m) := rcmp_any xa ta lx xc tl tc xs ts wh HLX.out HTL.out (by have := HKX.out.z; simp only [HLX.out] at this; omega) (by have := HTX.out.z; simp only [HTL.out] at this; omega) HKX.out.r HTX.out.r
            have HTS : Hid (ts = np.bet) := HPS.out.2.2
            have HLE := hide HLED.out
            have hwtx : wx.heap.size ≤ wt.heap.size := HB2.out.size
            obtain ⟨ch, hch⟩ : ∃ ch, ch = chiN np.ks np.cs xs := ⟨_, rfl⟩
            have HCHN := hide hch
            have HCH2 : Hid (∀ W, Below wx.heap.size wx W → Calls Try.prog 18 #[.agg #[.int .i64 alv, .slice aha alh ahc, .int .i64 ari, .slice aka alk akc, .slice ava alw avc, .slice aca alc acc], .slice xa lx xc] W fun e w' => e = .returned (.int .i64 ch) ∧ Below W.heap.size W w') := fun W hb => by
              have := child_any an ⟨xa, xc, xs⟩ W (HNO.out W (B4.out.trans (hb.mono B4.out.size))) (HKO.out W (B4.out.trans (hb.mono B4.out.size)))
              rw [HVA.out] at this
              simp only [Tx.v, HLX.out] at this
              rw [HCHN.out, HNP.out]
              exact this
            have hg1 : right = xri := (congrArg NP.ri HPS.out.1).symm
            have hg2 : ari = yri := by have h1 := congrArg NP.ri HPS.out.2.1; have h2 : np.ri = ari := by rw [HNP.out, HAN.out]; rfl
                                       exact (h1.trans h2).symm
            have hg3 : xhs = ts := (congrArg NP.hi HPS.out.1).trans HTS.out.symm
            have hg4 : yhs = ahs := by have h1 := congrArg NP.hi HPS.out.2.1; have h2 : np.hi = ahs := by rw [HNP.out, HAN.out]; rfl
                                       exact h1.trans h2
            obtain ⟨st, hst⟩ : ∃ st, st = strOfNums ts := ⟨_, rfl⟩
            obtain ⟨sy, hsy⟩ : ∃ sy, sy = strOfNums ahs := ⟨_, rfl⟩
            have HK1 : Hid (∀ W, Below wx.heap.size wx W → (convert 22 9 (.slice xha xlh xhc)).run Try.prog W = .ok (.string st) W) := fun W hb => by rw [hst, ← hg3]; exact nconv_row xhc xL.out.1 (XOK.out W hb).h.r
            have HK2 : Hid (∀ W, Below wx.heap.size wx W → (convert 22 9 (.slice ta tl tc)).run Try.prog W = .ok (.string st) W) := fun W hb => by rw [hst]; exact nconv_row tc HTL.out (TOK.out W hb).r
            have HK3 : Hid (∀ W, Below wx.heap.size wx W → (convert 22 9 (.slice yha ylh yhc)).run Try.prog W = .ok (.string sy) W) := fun W hb => by rw [hsy, ← hg4]; exact nconv_row yhc yL.out.1 (YOK.out W hb).h.r
            have HK4 : Hid (∀ W, Below wx.heap.size wx W → (convert 22 9 (.slice aha alh ahc)).run Try.prog W = .ok (.string sy) W) := fun W hb => by
              have h1 := HNO.out W (B4.out.trans (hb.mono B4.out.size))
              rw [HAN.out] at h1
              rw [hsy]; exact nconv_row ahc HLA.out.1 h1.h.r
            have HCX : Hid (cmpI xs ts < 0 → ch = chiN (⟨xlv, ⟨xha, xhc, xhs⟩, xri, ⟨xka, xkc, xK⟩, ⟨xva, xvc, xV⟩, ⟨xca, xcc, xC⟩⟩ : Nd).ks.p (⟨xlv, ⟨xha, xhc, xhs⟩, xri, ⟨xka, xkc, xK⟩, ⟨xva, xvc, xV⟩, ⟨xca, xcc, xC⟩⟩ : Nd).cs.s xs) := fun h => by
              have h1 := congrArg NP.ks HPS.out.1
              have h2 := congrArg NP.cs HPS.out.1
              have e1 : ((⟨xlv, ⟨xha, xhc, xhs⟩, xri, ⟨xka, xkc, xK⟩, ⟨xva, xvc, xV⟩, ⟨xca, xcc, xC⟩⟩ : Nd).ks.p) = np.ks.take np.cutK := h1
              have e2 : ((⟨xlv, ⟨xha, xhc, xhs⟩, xri, ⟨xka, xkc, xK⟩, ⟨xva, xvc, xV⟩, ⟨xca, xcc, xC⟩⟩ : Nd).cs.s) = np.cs.take np.half := h2
              rw [e1, e2, HCHN.out]
              rw [HTS.out] at h
              exact (HLED.out.1 h).symm
            have HCY : Hid (0 ≤ cmpI xs ts → ch = chiN (⟨ylv, ⟨yha, yhc, yhs⟩, yri, ⟨yka, ykc, yK⟩, ⟨yva, yvc, yV⟩, ⟨yca, ycc, yC⟩⟩ : Nd).ks.p (⟨ylv, ⟨yha, yhc, yhs⟩, yri, ⟨yka, ykc, yK⟩, ⟨yva, yvc, yV⟩, ⟨yca, ycc, yC⟩⟩ : Nd).cs.s xs) := fun h => by
              have h1 := congrArg NP.ks HPS.out.2.1
              have h2 := congrArg NP.cs HPS.out.2.1
              have e1 : ((⟨ylv, ⟨yha, yhc, yhs⟩, yri, ⟨yka, ykc, yK⟩, ⟨yva, yvc, yV⟩, ⟨yca, ycc, yC⟩⟩ : Nd).ks.p) = np.restK := h1
              have e2 : ((⟨ylv, ⟨yha, yhc, yhs⟩, yri, ⟨yka, ykc, yK⟩, ⟨yva, yvc, yV⟩, ⟨yca, ycc, yC⟩⟩ : Nd).cs.s) = np.cs.drop np.half := h2
              rw [e1, e2, HCHN.out]
              rw [HTS.out] at h
              exact (HLED.out.2 h).symm
            have HG1 := hide hg1.symm
            have HG2 := hide hg2.symm
            clear hwh bh gh hch hg1 hg2 hg3 hg4 hst hsy
            go_upto_region 31 with fail
            rw [← HWH.out]
            clear HWH x0 x1 x2 x3 x4 x5 y3
            go_wp2_with fail
            refine HRE.out.mono ?_
            rintro e wz ⟨rfl, hm⟩
            have BZ : Hid (Below wx.heap.size wx wz) := by obtain ⟨m, hm⟩ := hm; rw [hm]; exact below_drewN BH.out _
            have GZ : Hid (wz.heap[wt.heap.size]? = some (.cells #[.int .i64 xlv, .slice xha xlh xhc, .int .i64 xri, .slice xka xlk xkc, .slice xva xlw xvc, .slice xca xlc xcc] 30 (0, 0))) := by obtain ⟨m, hm⟩ := hm; rw [hm]; exact GH.out
            obtain ⟨cv, hcv⟩ : ∃ cv, cv = cmpI xs ts := ⟨_, rfl⟩
            rw [← hcv] at HCX HCY ⊢
            clear hm hcv HRE GH BH
            by_cases hc0 : (0 : Int) ≤ cv
            · have HCHE := hide (HCY.out hc0)
              obtain ⟨y0, y1, y2, y3, y4, y5⟩ := HY6.out wz BZ.out
              obtain ⟨h0, h1, h2, h3, h4, h5⟩ := Six.of GZ.out
              have fz := fun j => frozen_of GZ.out j
              obtain ⟨wq, hwq⟩ : ∃ wq, wq = six6 wz wt.heap.size (.int .i64 ylv) (.slice yha ylh yhc) (.int .i64 yri) (.slice yka ylk ykc) (.slice yva ylw yvc) (.slice yca ylc ycc) := ⟨_, rfl⟩
              have GQ : Hid (wq.heap[wt.heap.size]? = some (.cells #[.int .i64 ylv, .slice yha ylh yhc, .int .i64 yri, .slice yka ylk ykc, .slice yva ylw yvc, .slice yca ylc ycc] 30 (0, 0))) := by show _ = _; rw [hwq]; exact six_block GZ.out _ _ _ _ _ _
              have BQ : Hid (Below wx.heap.size wx wq) := by show Below _ _ _; rw [hwq]; exact BZ.out.trans ((six_upd (fun k => k = wt.heap.size) wz wt.heap.size _ _ _ _ _ _ rfl).below BZ.out.size (fun k hk e => by omega))
              simp only [six6] at hwq
              have HWQ := hide hwq
              have hne : ¬ w3.heap.size + 1 = wt.heap.size := by omega
              clear hwq
              go_upto_region 33 with fail
              rw [← HWQ.out]
              clear HWQ y0 y1 y2 y3 y4 y5 h0 h1 h2 h3 h4 h5 fz GZ BZ
              have HCH1 : Hid (∀ W, Below wx.heap.size wx W → Calls Try.prog 18 #[.agg #[.int .i64 ylv, .slice yha ylh yhc, .int .i64 yri, .slice yka ylk ykc, .slice yva ylw yvc, .slice yca ylc ycc], .slice xa lx xc] W fun e w' => e = .returned (.int .i64 ch) ∧ Below W.heap.size W w') := fun W hb => by
                have := child_any (⟨ylv, ⟨yha, yhc, yhs⟩, yri, ⟨yka, ykc, yK⟩, ⟨yva, yvc, yV⟩, ⟨yca, ycc, yC⟩⟩ : Nd) ⟨xa, xc, xs⟩ W (YOK.out W hb) (HKO.out W (B4.out.trans (hb.mono B4.out.size)))
                simp only [Nd.v, Tx.v, TL.v, IL.v, yL.out.1, yL.out.2.1, yL.out.2.2.1, yL.out.2.2.2, HLX.out] at this
                rw [HCHE.out]
                exact this
              have q6 := Six.of GQ.out
              obtain ⟨g0, g1, g2, g3, g4, g5⟩ := q6
              obtain ⟨q0, q1, q2, q3, q4, q5⟩ := HA6.out wq BQ.out
              have HFIN : Hid (∀ W, Below wq.heap.size wq W → Below wx.heap.size wx W ∧ Six W wt.heap.size (.int .i64 ylv) (.slice yha ylh yhc) (.int .i64 yri) (.slice yka ylk ykc) (.slice yva ylw yvc) (.slice yca ylc ycc) ∧ Six W w.heap.size (.int .i64 alv) (.slice aha alh ahc) (.int .i64 ari) (.slice aka alk akc) (.slice ava alw avc) (.slice aca alc acc)) := fun W hb => ⟨BQ.out.trans (hb.mono BQ.out.size), Six.of ((hb.block _ (lt_of_block GQ.out)).trans GQ.out), HA6.out W (BQ.out.trans (hb.mono BQ.out.size))⟩
              by_cases ht0 : tl = 0
              · subst ht0
                go_quiet (fail)
                have BL : Hid (Below wx.heap.size wx (wq.drewN nq)) := (HFIN.out (wq.drewN nq) (below_drewN (Below.refl _ _) _)).1
                obtain ⟨x0, x1, x2, x3, x4, x5⟩ := HX6.out (wq.drewN nq) BL.out
                obtain ⟨y0, y1, y2, y3, y4, y5⟩ := HY6.out (wq.drewN nq) BL.out
                obtain ⟨q0, q1, q2, q3, q4, q5⟩ := HA6.out (wq.drewN nq) BL.out
                rw [HG1.out] at x2
                rw [HG2.out] at y2
                have k1 := HK1.out (wq.drewN nq) BL.out
                have k2 := HK2.out (wq.drewN nq) BL.out
                have k3 := HK3.out (wq.drewN nq) BL.out
                have k4 := HK4.out (wq.drewN nq) BL.out
                go_wp2_with fail
                go_ret
                exact ⟨rfl, B4.out.trans (BL.out.mono B4.out.size)⟩
              · have jt : ((tl : Int) == 0) = false := beq_eq_false_iff_ne.mpr (by omega)
                go_region_held3 (fun W' => W'.cell? ⟨wt.heap.size, 0, none⟩ = some (.int .i64 ylv) ∧ W'.cell? ⟨wt.heap.size, 1, none⟩ = some (.slice yha ylh yhc) ∧ W'.cell? ⟨wt.heap.size, 2, none⟩ = some (.int .i64 yri) ∧ W'.cell? ⟨wt.heap.size, 3, none⟩ = some (.slice yka ylk ykc) ∧ W'.cell? ⟨wt.heap.size, 4, none⟩ = some (.slice yva ylw yvc) ∧ W'.cell? ⟨wt.heap.size, 5, none⟩ = some (.slice yca ylc ycc) ∧ W'.cell? ⟨w.heap.size, 0, none⟩ = some (.int .i64 alv) ∧ W'.cell? ⟨w.heap.size, 1, none⟩ = some (.slice aha alh ahc) ∧ W'.cell? ⟨w.heap.size, 2, none⟩ = some (.int .i64 ari) ∧ W'.cell? ⟨w.heap.size, 3, none⟩ = some (.slice aka alk akc) ∧ W'.cell? ⟨w.heap.size, 4, none⟩ = some (.slice ava alw avc) ∧ W'.cell? ⟨w.heap.size, 5, none⟩ = some (.slice aca alc acc)) (go_keep) (first
                  | (go_at_call 18; refine (HCH2.out _ (HFIN.out _ BU1.out).1).mono ?_; rintro e u2 ⟨rfl, hb2⟩; have BU2 : Hid (Below wq.heap.size wq u2) := BU1.out.trans (hb2.mono BU1.out.size); obtain ⟨g0, g1, g2, g3, g4, g5⟩ := (HFIN.out _ BU2.out).2.1; obtain ⟨q0, q1, q2, q3, q4, q5⟩ := (HFIN.out _ BU2.out).2.2; clear hb2)
                  | (go_at_call 18; refine (HCH1.out _ (HFIN.out _ (below_drew (Below.refl _ _))).1).mono ?_; rintro e u1 ⟨rfl, hb1⟩; have BU1 : Hid (Below wq.heap.size wq u1) := (below_drew (Below.refl _ _)).trans hb1; obtain ⟨g0, g1, g2, g3, g4, g5⟩ := (HFIN.out _ BU1.out).2.1; obtain ⟨q0, q1, q2, q3, q4, q5⟩ := (HFIN.out _ BU1.out).2.2; clear hb1)
                  | fail)
                have BL : Hid (Below wx.heap.size wx u2) := (HFIN.out u2 BU2.out).1
                obtain ⟨x0, x1, x2, x3, x4, x5⟩ := HX6.out u2 BL.out
                obtain ⟨y0, y1, y2, y3, y4, y5⟩ := HY6.out u2 BL.out
                obtain ⟨q0, q1, q2, q3, q4, q5⟩ := HA6.out u2 BL.out
                rw [HG1.out] at x2
                rw [HG2.out] at y2
                have k1 := HK1.out u2 BL.out
                have k2 := HK2.out u2 BL.out
                have k3 := HK3.out u2 BL.out
                have k4 := HK4.out u2 BL.out
                go_wp2_with fail
                go_ret
                exact ⟨rfl, B4.out.trans (BL.out.mono B4.out.size)⟩
            · have HCHE := hide (HCX.out (by omega))
              obtain ⟨wq, hwq⟩ : ∃ wq, wq = wz := ⟨_, rfl⟩
              subst hwq
              have GQ := GZ
              have BQ := BZ
              go_upto_region 33 with fail
              clear GZ BZ
              have HCH1 : Hid (∀ W, Below wx.heap.size wx W → Calls Try.prog 18 #[.agg #[.int .i64 xlv, .slice xha xlh xhc, .int .i64 xri, .slice xka xlk xkc, .slice xva xlw xvc, .slice xca xlc xcc], .slice xa lx xc] W fun e w' => e = .returned (.int .i64 ch) ∧ Below W.heap.size W w') := fun W hb => by
                have := child_any (⟨xlv, ⟨xha, xhc, xhs⟩, xri, ⟨xka, xkc, xK⟩, ⟨xva, xvc, xV⟩, ⟨xca, xcc, xC⟩⟩ : Nd) ⟨xa, xc, xs⟩ W (XOK.out W hb) (HKO.out W (B4.out.trans (hb.mono B4.out.size)))
                simp only [Nd.v, Tx.v, TL.v, IL.v, xL.out.1, xL.out.2.1, xL.out.2.2.1, xL.out.2.2.2, HLX.out] at this
                rw [HCHE.out]
                exact this
              have q6 := Six.of GQ.out
              obtain ⟨g0, g1, g2, g3, g4, g5⟩ := q6
              obtain ⟨q0, q1, q2, q3, q4, q5⟩ := HA6.out wq BQ.out
              have HFIN : Hid (∀ W, Below wq.heap.size wq W → Below wx.heap.size wx W ∧ Six W wt.heap.size (.int .i64 xlv) (.slice xha xlh xhc) (.int .i64 xri) (.slice xka xlk xkc) (.slice xva xlw xvc) (.slice xca xlc xcc) ∧ Six W w.heap.size (.int .i64 alv) (.slice aha alh ahc) (.int .i64 ari) (.slice aka alk akc) (.slice ava alw avc) (.slice aca alc acc)) := fun W hb => ⟨BQ.out.trans (hb.mono BQ.out.size), Six.of ((hb.block _ (lt_of_block GQ.out)).trans GQ.out), HA6.out W (BQ.out.trans (hb.mono BQ.out.size))⟩
              by_cases ht0 : tl = 0
              · subst ht0
                go_quiet (fail)
                have BL : Hid (Below wx.heap.size wx (wq.drewN nq)) := (HFIN.out (wq.drewN nq) (below_drewN (Below.refl _ _) _)).1
                obtain ⟨x0, x1, x2, x3, x4, x5⟩ := HX6.out (wq.drewN nq) BL.out
                obtain ⟨y0, y1, y2, y3, y4, y5⟩ := HY6.out (wq.drewN nq) BL.out
                obtain ⟨q0, q1, q2, q3, q4, q5⟩ := HA6.out (wq.drewN nq) BL.out
                rw [HG1.out] at x2
                rw [HG2.out] at y2
                have k1 := HK1.out (wq.drewN nq) BL.out
                have k2 := HK2.out (wq.drewN nq) BL.out
                have k3 := HK3.out (wq.drewN nq) BL.out
                have k4 := HK4.out (wq.drewN nq) BL.out
                go_wp2_with fail
                go_ret
                exact ⟨rfl, B4.out.trans (BL.out.mono B4.out.size)⟩
              · have jt : ((tl : Int) == 0) = false := beq_eq_false_iff_ne.mpr (by omega)
                go_region_held3 (fun W' => W'.cell? ⟨wt.heap.size, 0, none⟩ = some (.int .i64 xlv) ∧ W'.cell? ⟨wt.heap.size, 1, none⟩ = some (.slice xha xlh xhc) ∧ W'.cell? ⟨wt.heap.size, 2, none⟩ = some (.int .i64 xri) ∧ W'.cell? ⟨wt.heap.size, 3, none⟩ = some (.slice xka xlk xkc) ∧ W'.cell? ⟨wt.heap.size, 4, none⟩ = some (.slice xva xlw xvc) ∧ W'.cell? ⟨wt.heap.size, 5, none⟩ = some (.slice xca xlc xcc) ∧ W'.cell? ⟨w.heap.size, 0, none⟩ = some (.int .i64 alv) ∧ W'.cell? ⟨w.heap.size, 1, none⟩ = some (.slice aha alh ahc) ∧ W'.cell? ⟨w.heap.size, 2, none⟩ = some (.int .i64 ari) ∧ W'.cell? ⟨w.heap.size, 3, none⟩ = some (.slice aka alk akc) ∧ W'.cell? ⟨w.heap.size, 4, none⟩ = some (.slice ava alw avc) ∧ W'.cell? ⟨w.heap.size, 5, none⟩ = some (.slice aca alc acc)) (go_keep) (first
                  | (go_at_call 18; refine (HCH2.out _ (HFIN.out _ BU1.out).1).mono ?_; rintro e u2 ⟨rfl, hb2⟩; have BU2 : Hid (Below wq.heap.size wq u2) := BU1.out.trans (hb2.mono BU1.out.size); obtain ⟨g0, g1, g2, g3, g4, g5⟩ := (HFIN.out _ BU2.out).2.1; obtain ⟨q0, q1, q2, q3, q4, q5⟩ := (HFIN.out _ BU2.out).2.2; clear hb2)
                  | (go_at_call 18; refine (HCH1.out _ (HFIN.out _ (below_drew (Below.refl _ _))).1).mono ?_; rintro e u1 ⟨rfl, hb1⟩; have BU1 : Hid (Below wq.heap.size wq u1) := (below_drew (Below.refl _ _)).trans hb1; obtain ⟨g0, g1, g2, g3, g4, g5⟩ := (HFIN.out _ BU1.out).2.1; obtain ⟨q0, q1, q2, q3, q4, q5⟩ := (HFIN.out _ BU1.out).2.2; clear hb1)
                  | fail)
                have BL : Hid (Below wx.heap.size wx u2) := (HFIN.out u2 BU2.out).1
                obtain ⟨x0, x1, x2, x3, x4, x5⟩ := HX6.out u2 BL.out
                obtain ⟨y0, y1, y2, y3, y4, y5⟩ := HY6.out u2 BL.out
                obtain ⟨q0, q1, q2, q3, q4, q5⟩ := HA6.out u2 BL.out
                rw [HG1.out] at x2
                rw [HG2.out] at y2
                have k1 := HK1.out u2 BL.out
                have k2 := HK2.out u2 BL.out
                have k3 := HK3.out u2 BL.out
                have k4 := HK4.out u2 BL.out
                go_wp2_with fail
                go_ret
                exact ⟨rfl, B4.out.trans (BL.out.mono B4.out.size)⟩
end Go.Proofs.Ytclgimklfejohaa
