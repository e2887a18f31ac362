/- The document's Split: of few. -/
import Derived.Test.YtpljbgcofmlhbaaGreatG23
import Derived.Test.YtpljbgcofmlhbaaGreatG42
import Derived.Test.YtpljbgcofmlhbaaGreatG26
import Derived.Deep.CutBlock
import Derived.Deep.DeepCutAuto
namespace Go.Proofs.YtpljbgcofmlhbaaGreat
open Go.RowKit
set_option maxRecDepth 100000
set_option maxRecDepth 100000 in
set_option maxHeartbeats 3200000 in
theorem rsplit_few (n : Nd) (right : Int) (w : World) (hn : n.Ok w) (hR : RtP n.p) (hw2 : n.p.wd < 2) : Calls Tryz.prog 57 #[n.v, .int .i64 right] w (RspP w n.p NP.zero []) := by
 have hwf := wd_few hR
 have HCLN : Hid (∀ W, Below w.heap.size w W → Calls Tryz.prog 107 #[n.v] W (RcPost W n)) := fun W hb => rclone_any n W (hn.below hb)
 have hpk : n.p.ks.length = n.ks.L.length := TL.p_len _
 have hpc : n.p.cs.length = n.cs.s.length := rfl
 have hpl : n.p.lv = n.lv := rfl
 rw [hwf, hpk, hpc, hpl] at hw2
 have HW2 := hide hw2
 clear hwf hpk hpc hpl hw2 hR hn
 obtain ⟨np, hnp⟩ : ∃ np, np = n.p := ⟨_, rfl⟩
 rw [← hnp]
 have HNP := hide hnp
 obtain ⟨an, han⟩ : ∃ an, an = n := ⟨_, rfl⟩
 rw [← han] at HCLN HNP ⊢
 obtain ⟨alv, ⟨aha, ahc, ahs⟩, ari, ⟨aka, akc, aK⟩, ⟨ava, avc, aV⟩, ⟨aca, acc, aC⟩⟩ := n
 have HV : Hid (an.v = .agg #[.int .i64 alv, .slice aha ahs.length ahc, .int .i64 ari, .slice aka aK.length akc, .slice ava aV.length avc, .slice aca aC.length acc]) := by show _ = _; rw [han]; rfl
 rw [HV.out] at HCLN ⊢
 simp only at HW2
 clear han HV hnp
 generalize ahs.length = alh at *
 generalize aK.length = alk at *
 generalize aV.length = alw at *
 generalize aC.length = alc at *
 obtain ⟨w0, hw0⟩ : ∃ w0, w0 = ((w.alloc (.cells #[.int .i64 alv, .slice aha alh ahc, .int .i64 ari, .slice aka alk akc, .slice ava alw avc, .slice aca alc acc] 36)).alloc (.cells #[.int .i64 0, .slice none 0 0, .int .i64 0, .slice none 0 0, .slice none 0 0, .slice none 0 0] 36)).alloc (.cells #[.int .i64 0, .slice none 0 0, .int .i64 0, .slice none 0 0, .slice none 0 0, .slice none 0 0] 36) := ⟨_, rfl⟩
 have b0 : Below w.heap.size w w0 := by rw [hw0]; exact (((Below.refl _ _).alloc (Nat.le_refl _) _).alloc (by simp) _).alloc (by simp; omega) _
 have g0 : w0.heap[w.heap.size]? = some (.cells #[.int .i64 alv, .slice aha alh ahc, .int .i64 ari, .slice aka alk akc, .slice ava alw avc, .slice aca alc acc] 36 (0, 0)) := by rw [hw0]; exact old_at (old_at (new_at rfl))
 have g1 : w0.heap[w.heap.size + 1]? = some (.cells #[.int .i64 0, .slice none 0 0, .int .i64 0, .slice none 0 0, .slice none 0 0, .slice none 0 0] 36 (0, 0)) := by rw [hw0]; exact old_at (new_at (by simp))
 have g2 : w0.heap[w.heap.size + 1 + 1]? = some (.cells #[.int .i64 0, .slice none 0 0, .int .i64 0, .slice none 0 0, .slice none 0 0, .slice none 0 0] 36 (0, 0)) := by rw [hw0]; exact new_at (by simp)
 have hz0 : w0.heap.size = w.heap.size + 3 := by rw [hw0]; simp
 have B0 := hide b0
 have G1 := hide g1
 have G2 := hide g2
 have HZ0 := hide hz0
 have HW0 := hide hw0
 obtain ⟨c0, c1, c2, c3, c4, c5⟩ := Six.of g0
 have HC0 := hide (HCLN.out w0 B0.out)
 clear hw0 b0 g0 g1 g2 hz0 HCLN
 obtain ⟨mm, hmm⟩ : ∃ mm, mm = (if 0 < alv then alc else alk) := ⟨_, rfl⟩
 have jm : (mm : Int) < 2 := by have := HW2.out; omega
 have HMM := hide hmm
 clear hmm HW2
 go_enter Tryz.func57, Tryz.ntmps57
 go_upto_region 1 with fail
 rw [← HW0.out]
 clear HW0
 go_upto_if 19 with fail
 go_cut [7] (fun s7 wx => s7 = .int .i64 (mm : Int) ∧ Hid (wx = w0))
 case first =>
  by_cases hv0 : 0 < alv
  ·obtain rfl : mm = alc := by rw [HMM.out, if_pos hv0]
   go_wp2_with fail
   go_meet
   exact ⟨rfl, rfl⟩
  ·obtain rfl : mm = alk := by rw [HMM.out, if_neg hv0]
   go_wp2_with fail
   go_meet
   exact ⟨rfl, rfl⟩
 case rest =>
  rename World => wx
  obtain ⟨rfl, hwx⟩ := hcut
  obtain rfl := hwx.out
  go_wp2_with fail
  refine HC0.out.mono ?_
  rintro e w1 ⟨⟨xlv, ⟨xha, xhc, xhs⟩, xri, ⟨xka, xkc, xK⟩, ⟨xva, xvc, xV⟩, ⟨xca, xcc, xC⟩⟩, _, _, rfl, hxp, hxo, hxb, _⟩
  obtain ⟨xlh, xh1⟩ : ∃ x, xhs.length = x := ⟨_, rfl⟩
  obtain ⟨xlk, xh2⟩ : ∃ x, xK.length = x := ⟨_, rfl⟩
  obtain ⟨xlw, xh3⟩ : ∃ x, xV.length = x := ⟨_, rfl⟩
  obtain ⟨xlc, xh4⟩ : ∃ x, xC.length = x := ⟨_, rfl⟩
  simp only [Nd.v, Tx.v, TL.v, IL.v]
  rw [xh1, xh2, xh3, xh4]
  have xL := hide (And.intro xh1 (And.intro xh2 (And.intro xh3 xh4)))
  clear xh1 xh2 xh3 xh4
  obtain ⟨wa, hwa⟩ : ∃ wa, wa = w1.alloc (.cells #[.int .i64 xlv, .slice xha xlh xhc, .int .i64 xri, .slice xka xlk xkc, .slice xva xlw xvc, .slice xca xlc xcc] 36) := ⟨_, rfl⟩
  have bA : Below w1.heap.size w1 wa := by rw [hwa]; exact (Below.refl _ _).alloc (Nat.le_refl _) _
  have gA : wa.heap[w1.heap.size]? = some (.cells #[.int .i64 xlv, .slice xha xlh xhc, .int .i64 xri, .slice xka xlk xkc, .slice xva xlw xvc, .slice xca xlc xcc] 36 (0, 0)) := by rw [hwa]; exact heap_alloc_new w1 _
  have bxa := hxb.trans (bA.mono hxb.size)
  have BA := hide (B0.out.trans (bxa.mono B0.out.size))
  have GA := hide gA
  have GA4 := hide ((bxa.block _ (lt_of_block G1.out)).trans G1.out)
  have GA5 := hide ((bxa.block _ (lt_of_block G2.out)).trans G2.out)
  have HXP : Hid ((⟨xlv, ⟨xha, xhc, xhs⟩, xri, ⟨xka, xkc, xK⟩, ⟨xva, xvc, xV⟩, ⟨xca, xcc, xC⟩⟩ : Nd).p = np) := hxp.trans HNP.out.symm
  have HXO := hide hxo
  have BWA := hide bA
  have HWA := hide hwa
  have hn1 : ¬ w.heap.size + 1 = w1.heap.size := by have := hxb.size; have := HZ0.out; omega
  have hn2 : ¬ w.heap.size + 1 + 1 = w1.heap.size := by have := hxb.size; have := HZ0.out; omega
  have hn3 : ¬ w1.heap.size = w.heap.size + 1 := by omega
  have hn4 : ¬ w1.heap.size = w.heap.size + 1 + 1 := by omega
  have HU1 : Hid (Upd (fun b => b = w.heap.size + 1) wa (six6 wa (w.heap.size + 1) (.int .i64 xlv) (.slice xha xlh xhc) (.int .i64 xri) (.slice xka xlk xkc) (.slice xva xlw xvc) (.slice xca xlc xcc))) := six_upd _ _ _ _ _ _ _ _ _ rfl
  have HU2 : Hid (Upd (fun b => b = w.heap.size + 1 + 1) (six6 wa (w.heap.size + 1) (.int .i64 xlv) (.slice xha xlh xhc) (.int .i64 xri) (.slice xka xlk xkc) (.slice xva xlw xvc) (.slice xca xlc xcc)) (six6 (six6 wa (w.heap.size + 1) (.int .i64 xlv) (.slice xha xlh xhc) (.int .i64 xri) (.slice xka xlk xkc) (.slice xva xlw xvc) (.slice xca xlc xcc)) (w.heap.size + 1 + 1) (.int .i64 0) (.slice none 0 0) (.int .i64 0) (.slice none 0 0) (.slice none 0 0) (.slice none 0 0))) := six_upd _ _ _ _ _ _ _ _ _ rfl
  have K1 : Hid ((six6 (six6 wa (w.heap.size + 1) (.int .i64 xlv) (.slice xha xlh xhc) (.int .i64 xri) (.slice xka xlk xkc) (.slice xva xlw xvc) (.slice xca xlc xcc)) (w.heap.size + 1 + 1) (.int .i64 0) (.slice none 0 0) (.int .i64 0) (.slice none 0 0) (.slice none 0 0) (.slice none 0 0)).heap[w.heap.size + 1]? = some (.cells #[.int .i64 xlv, .slice xha xlh xhc, .int .i64 xri, .slice xka xlk xkc, .slice xva xlw xvc, .slice xca xlc xcc] 36 (0, 0))) := HU2.out.heap (six_block GA4.out (.int .i64 xlv) (.slice xha xlh xhc) (.int .i64 xri) (.slice xka xlk xkc) (.slice xva xlw xvc) (.slice xca xlc xcc)) (fun e => by omega)
  have K2 : Hid ((six6 (six6 wa (w.heap.size + 1) (.int .i64 xlv) (.slice xha xlh xhc) (.int .i64 xri) (.slice xka xlk xkc) (.slice xva xlw xvc) (.slice xca xlc xcc)) (w.heap.size + 1 + 1) (.int .i64 0) (.slice none 0 0) (.int .i64 0) (.slice none 0 0) (.slice none 0 0) (.slice none 0 0)).heap[w.heap.size + 1 + 1]? = some (.cells #[.int .i64 0, .slice none 0 0, .int .i64 0, .slice none 0 0, .slice none 0 0, .slice none 0 0] 36 (0, 0))) := six_block (HU1.out.heap GA5.out (fun e => by omega)) (.int .i64 0) (.slice none 0 0) (.int .i64 0) (.slice none 0 0) (.slice none 0 0) (.slice none 0 0)
  clear hwa bA gA bxa hxp hxo hxb HC0 c0 c1 c2 c3 c4 c5
  go_upto_region 5 with fail
  rw [← HWA.out]
  clear HWA
  obtain ⟨l0, l1, l2, l3, l4, l5⟩ := Six.of GA.out
  obtain ⟨y0, y1, y2, y3, y4, y5⟩ := Six.of GA4.out
  obtain ⟨z0, z1, z2, z3, z4, z5⟩ := Six.of GA5.out
  have f4 := fun j => frozen_of GA4.out j
  have f5 := fun j => frozen_of GA5.out j
  go_wp2_with fail
  (try simp only [Exit.inBlock, Exit.then])
  show bodyPost _ _ _ _ _ (six6 (six6 wa (w.heap.size + 1) (.int .i64 xlv) (.slice xha xlh xhc) (.int .i64 xri) (.slice xka xlk xkc) (.slice xva xlw xvc) (.slice xca xlc xcc)) (w.heap.size + 1 + 1) (.int .i64 0) (.slice none 0 0) (.int .i64 0) (.slice none 0 0) (.slice none 0 0) (.slice none 0 0))
  clear l0 l1 l2 l3 l4 l5 y0 y1 y2 y3 y4 y5 z0 z1 z2 z3 z4 z5 f4 f5
  generalize six6 wa (w.heap.size + 1) (.int .i64 xlv) (.slice xha xlh xhc) (.int .i64 xri) (.slice xka xlk xkc) (.slice xva xlw xvc) (.slice xca xlc xcc) = w8 at *
  generalize six6 w8 (w.heap.size + 1 + 1) (.int .i64 0) (.slice none 0 0) (.int .i64 0) (.slice none 0 0) (.slice none 0 0) (.slice none 0 0) = w9 at *
  obtain ⟨q0, q1, q2, q3, q4, q5⟩ := Six.of K1.out
  obtain ⟨r0, r1, r2, r3, r4, r5⟩ := Six.of K2.out
  have hz := HZ0.out
  refine bodyPost_ret (v := .tuple #[.agg #[.int .i64 xlv, .slice xha xlh xhc, .int .i64 xri, .slice xka xlk xkc, .slice xva xlw xvc, .slice xca xlc xcc], .agg #[.int .i64 0, .slice none 0 0, .int .i64 0, .slice none 0 0, .slice none 0 0, .slice none 0 0], .slice none 0 0]) (by simp [results, Tryz.results57, go_sem, q0, q1, q2, q3, q4, q5, r0, r1, r2, r3, r4, r5]) rfl ⟨(⟨xlv, ⟨xha, xhc, xhs⟩, xri, ⟨xka, xkc, xK⟩, ⟨xva, xvc, xV⟩, ⟨xca, xcc, xC⟩⟩ : Nd), Nd.zero, ⟨none, 0, []⟩, ?_, HXP.out, rfl, rfl, ?_, Nd.zero_own' _ _, Tx.nil_ok _, ?_⟩
  ·simp only [Nd.v, Tx.v, TL.v, IL.v, Nd.zero, xL.out.1, xL.out.2.1, xL.out.2.2.1, xL.out.2.2.2, List.length_nil]
  ·exact (((HXO.out.below BWA.out).upd HU1.out (fun b h1 _ e => by omega)).upd HU2.out (fun b h1 _ e => by omega)).mono (by omega)
  ·exact (BA.out.trans (HU1.out.below BA.out.size (fun k hk e => by omega))).trans (HU2.out.below (Nat.le_trans BA.out.size HU1.out.size) (fun k hk e => by omega))
end Go.Proofs.YtpljbgcofmlhbaaGreat
