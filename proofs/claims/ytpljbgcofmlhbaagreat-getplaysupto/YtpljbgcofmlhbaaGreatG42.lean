/- node: Split. -/
import Derived.Test.YtpljbgcofmlhbaaGreatG31
import Derived.Test.YtpljbgcofmlhbaaGreatG18
import Derived.Test.YtpljbgcofmlhbaaGreatG23
namespace Go.Proofs.YtpljbgcofmlhbaaGreat
open Go.RowKit
set_option maxRecDepth 100000
def SplP (w : World) (p1 p2 : NP) (bt : List Int) (e : Ending) (w' : World) : Prop :=
 ∃ (l r : Nd) (k : Tx) (N1 N2 : Nat), e = .returned (.tuple #[l.v, r.v, k.v]) ∧ l.p = p1 ∧ r.p = p2 ∧ k.s = bt ∧ l.Own w' w.heap.size ∧ l.In (fun x => w.heap.size ≤ x ∧ x < N1) ∧ r.Own w' N1 ∧ r.In (fun x => N1 ≤ x ∧ x < N2) ∧ OwnB w' N2 5 k.v k.s ∧ k.Ok w' ∧ w.heap.size ≤ N1 ∧ N1 ≤ N2 ∧ Below w.heap.size w w'
theorem Nd.zero_own' (W : World) (N : Nat) : Nd.zero.Own W N := ⟨OwnB.nil _ _ _, ⟨B8.nil, Nat.zero_le _⟩, ⟨World.ownsRow_nil _ _ _ _, fun x hx => (by cases hx), fun x hx => (by cases hx)⟩, ⟨World.ownsRow_nil _ _ _ _, fun x hx => (by cases hx), fun x hx => (by cases hx)⟩, World.ownsRow_nil _ _ _ _, Nat.zero_le _, Nat.zero_le _, Nat.zero_le _⟩
set_option maxRecDepth 100000 in
set_option maxHeartbeats 3200000 in
theorem split_few (n : Nd) (right : Int) (w : World) (hn : n.Ok w) (hw2 : n.p.wd < 2) : Calls Tryz.prog 200 #[n.v, .int .i64 right] w (SplP w n.p NP.zero []) := by
 have HWD : Hid (∀ W, Calls Tryz.prog 198 #[n.v] W fun e w' => e = .returned (.int .i64 (n.p.wd : Nat)) ∧ Below W.heap.size W w') := fun W => by rw [← wd_wid]; exact width_any n W
 have HCL : Hid (∀ W, Below w.heap.size w W → Calls Tryz.prog 143 #[n.v] W (ClPost W n)) := fun W hb => clone_any n W (hn.below hb)
 clear hn
 obtain ⟨np, hnp⟩ : ∃ np, np = n.p := ⟨_, rfl⟩
 rw [← hnp] at HWD hw2 ⊢
 have HNP := hide hnp
 clear hnp
 have jw : ((np.wd : Nat) : Int) < 2 := by omega
 generalize np.wd = wdn at *
 clear hw2
 obtain ⟨alv, ⟨aha, ahc, ahs⟩, ari, ⟨aka, akc, aK⟩, ⟨ava, avc, aV⟩, ⟨aca, acc, aC⟩⟩ := n
 have HV : Hid ((⟨alv, ⟨aha, ahc, ahs⟩, ari, ⟨aka, akc, aK⟩, ⟨ava, avc, aV⟩, ⟨aca, acc, aC⟩⟩ : Nd).v = .agg #[.int .i64 alv, .slice aha ahs.length ahc, .int .i64 ari, .slice aka aK.length akc, .slice ava aV.length avc, .slice aca aC.length acc]) := rfl
 rw [HV.out] at HWD HCL ⊢
 clear HV
 generalize ahs.length = alh at *
 generalize aK.length = alk at *
 generalize aV.length = alw at *
 generalize aC.length = alc at *
 obtain ⟨w0, hw0⟩ : ∃ w0, w0 = ((w.alloc (.cells #[.int .i64 alv, .slice aha alh ahc, .int .i64 ari, .slice aka alk akc, .slice ava alw avc, .slice aca alc acc] 36)).alloc (.cells #[.int .i64 0, .slice none 0 0, .int .i64 0, .slice none 0 0, .slice none 0 0, .slice none 0 0] 36)).alloc (.cells #[.int .i64 0, .slice none 0 0, .int .i64 0, .slice none 0 0, .slice none 0 0, .slice none 0 0] 36) := ⟨_, rfl⟩
 have b0 : Below w.heap.size w w0 := by rw [hw0]; exact (((Below.refl _ _).alloc (Nat.le_refl _) _).alloc (by simp) _).alloc (by simp; omega) _
 have g0 : w0.heap[w.heap.size]? = some (.cells #[.int .i64 alv, .slice aha alh ahc, .int .i64 ari, .slice aka alk akc, .slice ava alw avc, .slice aca alc acc] 36 (0, 0)) := by rw [hw0]; exact old_at (old_at (new_at rfl))
 have g1 : w0.heap[w.heap.size + 1]? = some (.cells #[.int .i64 0, .slice none 0 0, .int .i64 0, .slice none 0 0, .slice none 0 0, .slice none 0 0] 36 (0, 0)) := by rw [hw0]; exact old_at (new_at (by simp))
 have g2 : w0.heap[w.heap.size + 1 + 1]? = some (.cells #[.int .i64 0, .slice none 0 0, .int .i64 0, .slice none 0 0, .slice none 0 0, .slice none 0 0] 36 (0, 0)) := by rw [hw0]; exact new_at (by simp)
 have B0 := hide b0
 have G0 := hide g0
 have G1 := hide g1
 have G2 := hide g2
 have HW0 := hide hw0
 obtain ⟨c0, c1, c2, c3, c4, c5⟩ := Six.of g0
 have HWD0 := hide (HWD.out w0)
 clear hw0 b0 g0 g1 g2 HWD
 go_enter Tryz.func200, Tryz.ntmps200
 go_upto_region 1 with fail
 rw [← HW0.out]
 clear HW0
 go_wp2_with fail
 refine HWD0.out.mono ?_
 rintro e w1 ⟨rfl, b1⟩
 have B1 := hide (B0.out.trans (b1.mono B0.out.size))
 have gg0 := (b1.block _ (lt_of_block G0.out)).trans G0.out
 have GG1 := hide ((b1.block _ (lt_of_block G1.out)).trans G1.out)
 have GG2 := hide ((b1.block _ (lt_of_block G2.out)).trans G2.out)
 obtain ⟨d0, d1, d2, d3, d4, d5⟩ := Six.of gg0
 have HC1 := hide (HCL.out w1 B1.out)
 clear b1 gg0 HWD0 c0 c1 c2 c3 c4 c5 HCL
 go_wp2_with fail
 refine HC1.out.mono ?_
 rintro e w2 ⟨⟨xlv, ⟨xha, xhc, xhs⟩, xri, ⟨xka, xkc, xK⟩, ⟨xva, xvc, xV⟩, ⟨xca, xcc, xC⟩⟩, rfl, xp, xo, xb⟩
 obtain ⟨xlh, xh1⟩ : ∃ x, xhs.length = x := ⟨_, rfl⟩
 obtain ⟨xlk, xh2⟩ : ∃ x, xK.length = x := ⟨_, rfl⟩
 obtain ⟨xlw, xh3⟩ : ∃ x, xV.length = x := ⟨_, rfl⟩
 obtain ⟨xlc, xh4⟩ : ∃ x, xC.length = x := ⟨_, rfl⟩
 simp only [Nd.v, Tx.v, TL.v, IL.v]
 rw [xh1, xh2, xh3, xh4]
 have xL := hide (And.intro xh1 (And.intro xh2 (And.intro xh3 xh4)))
 clear xh1 xh2 xh3 xh4
 have XP := hide xp
 have XO := hide xo
 have XI : Hid ((⟨xlv, ⟨xha, xhc, xhs⟩, xri, ⟨xka, xkc, xK⟩, ⟨xva, xvc, xV⟩, ⟨xca, xcc, xC⟩⟩ : Nd).In (fun k => w1.heap.size ≤ k ∧ k < w2.heap.size)) := xo.in_
 have B2 := hide (B1.out.trans (xb.mono B1.out.size))
 have e1 := (xb.block _ (lt_of_block GG1.out)).trans GG1.out
 have e2 := (xb.block _ (lt_of_block GG2.out)).trans GG2.out
 have E1 := hide e1
 have E2 := hide e2
 have XB := hide xb
 obtain ⟨y0, y1, y2, y3, y4, y5⟩ := Six.of e1
 obtain ⟨z0, z1, z2, z3, z4, z5⟩ := Six.of e2
 have F1 := fun j => frozen_of e1 j
 have F2 := fun j => frozen_of e2 j
 have U1 : Upd (fun b => b = w.heap.size + 1) w2 (six6 w2 (w.heap.size + 1) (.int .i64 xlv) (.slice xha xlh xhc) (.int .i64 xri) (.slice xka xlk xkc) (.slice xva xlw xvc) (.slice xca xlc xcc)) := six_upd _ _ _ _ _ _ _ _ _ rfl
 have U2 : Upd (fun b => b = w.heap.size + 1 + 1) (six6 w2 (w.heap.size + 1) (.int .i64 xlv) (.slice xha xlh xhc) (.int .i64 xri) (.slice xka xlk xkc) (.slice xva xlw xvc) (.slice xca xlc xcc)) (six6 (six6 w2 (w.heap.size + 1) (.int .i64 xlv) (.slice xha xlh xhc) (.int .i64 xri) (.slice xka xlk xkc) (.slice xva xlw xvc) (.slice xca xlc xcc)) (w.heap.size + 1 + 1) (.int .i64 0) (.slice none 0 0) (.int .i64 0) (.slice none 0 0) (.slice none 0 0) (.slice none 0 0)) := six_upd _ _ _ _ _ _ _ _ _ rfl
 have HU1 := hide U1
 have HU2 := hide U2
 have k1 := six_block e1 (.int .i64 xlv) (.slice xha xlh xhc) (.int .i64 xri) (.slice xka xlk xkc) (.slice xva xlw xvc) (.slice xca xlc xcc)
 have k2 := six_block ((HU1.out).heap e2 (fun e => by omega)) (.int .i64 0) (.slice none 0 0) (.int .i64 0) (.slice none 0 0) (.slice none 0 0) (.slice none 0 0)
 have k1' := HU2.out.heap k1 (fun e => by omega)
 have K1 := hide k1'
 have K2 := hide k2
 clear xp xo xb e1 e2 U1 U2 k1 k2 k1' HC1 d0 d1 d2 d3 d4 d5
 go_wp2_with fail
 show bodyPost _ _ _ _ _ (six6 (six6 w2 (w.heap.size + 1) (.int .i64 xlv) (.slice xha xlh xhc) (.int .i64 xri) (.slice xka xlk xkc) (.slice xva xlw xvc) (.slice xca xlc xcc)) (w.heap.size + 1 + 1) (.int .i64 0) (.slice none 0 0) (.int .i64 0) (.slice none 0 0) (.slice none 0 0) (.slice none 0 0))
 generalize six6 w2 (w.heap.size + 1) (.int .i64 xlv) (.slice xha xlh xhc) (.int .i64 xri) (.slice xka xlk xkc) (.slice xva xlw xvc) (.slice xca xlc xcc) = w5 at *
 generalize six6 w5 (w.heap.size + 1 + 1) (.int .i64 0) (.slice none 0 0) (.int .i64 0) (.slice none 0 0) (.slice none 0 0) (.slice none 0 0) = w6 at *
 obtain ⟨q0, q1, q2, q3, q4, q5⟩ := Six.of K1.out
 obtain ⟨r0, r1, r2, r3, r4, r5⟩ := Six.of K2.out
 have hz := lt_of_block GG2.out
 have hzb := XB.out.size
 refine bodyPost_ret (v := .tuple #[.agg #[.int .i64 xlv, .slice xha xlh xhc, .int .i64 xri, .slice xka xlk xkc, .slice xva xlw xvc, .slice xca xlc xcc], .agg #[.int .i64 0, .slice none 0 0, .int .i64 0, .slice none 0 0, .slice none 0 0, .slice none 0 0], .slice none 0 0]) (by simp [results, Tryz.results200, go_sem, q0, q1, q2, q3, q4, q5, r0, r1, r2, r3, r4, r5]) rfl ⟨(⟨xlv, ⟨xha, xhc, xhs⟩, xri, ⟨xka, xkc, xK⟩, ⟨xva, xvc, xV⟩, ⟨xca, xcc, xC⟩⟩ : Nd), Nd.zero, ⟨none, 0, []⟩, w2.heap.size, w2.heap.size, ?_, by rw [HNP.out]; exact XP.out, rfl, rfl, ?_, XI.out.mono (fun k hk => ⟨Nat.le_trans B1.out.size hk.1, hk.2⟩), Nd.zero_own' _ _, Nd.zero_in _, OwnB.nil _ _ _, Tx.nil_ok _, B2.out.size, Nat.le_refl _, ?_⟩
 ·simp only [Nd.v, Tx.v, TL.v, IL.v, xL.out.1, xL.out.2.1, xL.out.2.2.1, xL.out.2.2.2]
  rfl
 ·exact ((XO.out.upd HU1.out (fun b h1 _ e => by omega)).upd HU2.out (fun b h1 _ e => by omega)).mono B1.out.size
 ·exact (B2.out.trans (HU1.out.below B2.out.size (fun k hk e => by omega))).trans (HU2.out.below (Nat.le_trans B2.out.size HU1.out.size) (fun k hk e => by omega))
end Go.Proofs.YtpljbgcofmlhbaaGreat
