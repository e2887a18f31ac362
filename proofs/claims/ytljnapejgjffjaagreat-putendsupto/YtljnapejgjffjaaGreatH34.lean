/- Texts of one's own. -/
import Derived.Test.YtljnapejgjffjaaGreatH25
import Derived.Test.YtljnapejgjffjaaGreatH20
namespace Go.Proofs.YtljnapejgjffjaaGreat
open Go.RowKit
set_option maxRecDepth 100000
def SplP (w : World) (p1 p2 : NP) (bt : List Int) (e : Ending) (w' : World) : Prop :=
 ∃ (l r : Nd) (k : Tx) (N1 N2 : Nat),e = .returned (.tuple #[l.v,r.v,k.v]) ∧ l.p = p1 ∧ r.p = p2 ∧ k.s = bt ∧ l.Own w' w.heap.size ∧ l.In (fun x => w.heap.size ≤ x ∧ x < N1) ∧ r.Own w' N1 ∧ r.In (fun x => N1 ≤ x ∧ x < N2) ∧ OwnB w' N2 5 k.v k.s ∧ k.Ok w' ∧ w.heap.size ≤ N1 ∧ N1 ≤ N2 ∧ Below w.heap.size w w'
theorem Nd.zero_own' (W : World) (N : Nat) : Nd.zero.Own W N := ⟨OwnB.nil _ _ _,⟨B8.nil,Nat.zero_le _⟩,⟨World.ownsRow_nil _ _ _ _,fun x hx => (by cases hx),fun x hx => (by cases hx)⟩,⟨World.ownsRow_nil _ _ _ _,fun x hx => (by cases hx),fun x hx => (by cases hx)⟩,World.ownsRow_nil _ _ _ _,Nat.zero_le _,Nat.zero_le _,Nat.zero_le _⟩
set_option maxHeartbeats 3200000 in
theorem split_few (n : Nd) (right : Int) (w : World) (hn : n.Ok w) (hw2 : n.p.wd < 2) : Calls Tryz.prog 190 #[n.v,.int .i64 right] w (SplP w n.p NP.zero []) := by
 have HWD : Hid (∀ W,Calls Tryz.prog 188 #[n.v] W fun e w' => e = .returned (.int .i64 (n.p.wd : Nat)) ∧ Below W.heap.size W w') := fun W => by rw [← wd_wid]; exact width_any n W
 have HCL : Hid (∀ W,Below w.heap.size w W → Calls Tryz.prog 141 #[n.v] W (ClPost W n)) := fun W hb => clone_any n W (hn.below hb)
 clear hn
 obtain ⟨np,hnp⟩ : ∃ np,np = n.p := ⟨_,rfl⟩
 rw [← hnp] at HWD hw2 ⊢
 have HNP := hide hnp
 clear hnp
 have jw : ((np.wd : Nat) : Int) < 2 := by omega
 generalize np.wd = wdn at *
 clear hw2
 obtain ⟨alv,⟨aha,ahc,ahs⟩,ari,⟨aka,akc,aK⟩,⟨ava,avc,aV⟩,⟨aca,acc,aC⟩⟩ := n
 have HV : Hid ((⟨alv,⟨aha,ahc,ahs⟩,ari,⟨aka,akc,aK⟩,⟨ava,avc,aV⟩,⟨aca,acc,aC⟩⟩ : Nd).v = .agg #[.int .i64 alv,.slice aha ahs.length ahc,.int .i64 ari,.slice aka aK.length akc,.slice ava aV.length avc,.slice aca aC.length acc]) := rfl
 rw [HV.out] at HWD HCL ⊢
 clear HV
 generalize ahs.length = alh at *
 generalize aK.length = alk at *
 generalize aV.length = alw at *
 generalize aC.length = alc at *
 obtain ⟨w0,hw0⟩ : ∃ w0,w0 = ((w.alloc (.cells #[.int .i64 alv,.slice aha alh ahc,.int .i64 ari,.slice aka alk akc,.slice ava alw avc,.slice aca alc acc] 110)).alloc (.cells #[.int .i64 0,.slice none 0 0,.int .i64 0,.slice none 0 0,.slice none 0 0,.slice none 0 0] 110)).alloc (.cells #[.int .i64 0,.slice none 0 0,.int .i64 0,.slice none 0 0,.slice none 0 0,.slice none 0 0] 110) := ⟨_,rfl⟩
 have b0 : Below w.heap.size w w0 := by rw [hw0]; exact (((Below.refl _ _).alloc (Nat.le_refl _) _).alloc (by simp) _).alloc (by simp; omega) _
 have g0 : w0.heap[w.heap.size]? = some (.cells #[.int .i64 alv,.slice aha alh ahc,.int .i64 ari,.slice aka alk akc,.slice ava alw avc,.slice aca alc acc] 110 (0,0)) := by rw [hw0]; exact old_at (old_at (new_at rfl))
 have g1 : w0.heap[w.heap.size + 1]? = some (.cells #[.int .i64 0,.slice none 0 0,.int .i64 0,.slice none 0 0,.slice none 0 0,.slice none 0 0] 110 (0,0)) := by rw [hw0]; exact old_at (new_at (by simp))
 have g2 : w0.heap[w.heap.size + 1 + 1]? = some (.cells #[.int .i64 0,.slice none 0 0,.int .i64 0,.slice none 0 0,.slice none 0 0,.slice none 0 0] 110 (0,0)) := by rw [hw0]; exact new_at (by simp)
 have B0 := hide b0
 have G0 := hide g0
 have G1 := hide g1
 have G2 := hide g2
 have HW0 := hide hw0
 obtain ⟨c0,c1,c2,c3,c4,c5⟩ := Six.of g0
 have HWD0 := hide (HWD.out w0)
 clear hw0 b0 g0 g1 g2 HWD
 go_enter Tryz.func190,Tryz.ntmps190
 go_upto_region 1 with fail
 rw [← HW0.out]
 clear HW0
 go_wp2_with fail
 refine HWD0.out.mono ?_
 rintro e w1 ⟨rfl,b1⟩
 have B1 := hide (B0.out.trans (b1.mono B0.out.size))
 have gg0 := (b1.block _ (lt_of_block G0.out)).trans G0.out
 have GG1 := hide ((b1.block _ (lt_of_block G1.out)).trans G1.out)
 have GG2 := hide ((b1.block _ (lt_of_block G2.out)).trans G2.out)
 obtain ⟨d0,d1,d2,d3,d4,d5⟩ := Six.of gg0
 have HC1 := hide (HCL.out w1 B1.out)
 clear b1 gg0 HWD0 c0 c1 c2 c3 c4 c5 HCL
 go_wp2_with fail
 refine HC1.out.mono ?_
 rintro e w2 ⟨⟨xlv,⟨xha,xhc,xhs⟩,xri,⟨xka,xkc,xK⟩,⟨xva,xvc,xV⟩,⟨xca,xcc,xC⟩⟩,rfl,xp,xo,xb⟩
 obtain ⟨xlh,xh1⟩ : ∃ x,xhs.length = x := ⟨_,rfl⟩
 obtain ⟨xlk,xh2⟩ : ∃ x,xK.length = x := ⟨_,rfl⟩
 obtain ⟨xlw,xh3⟩ : ∃ x,xV.length = x := ⟨_,rfl⟩
 obtain ⟨xlc,xh4⟩ : ∃ x,xC.length = x := ⟨_,rfl⟩
 simp only [Nd.v,Tx.v,TL.v,IL.v]
 rw [xh1,xh2,xh3,xh4]
 have xL := hide (And.intro xh1 (And.intro xh2 (And.intro xh3 xh4)))
 clear xh1 xh2 xh3 xh4
 have XP := hide xp
 have XO := hide xo
 have XI : Hid ((⟨xlv,⟨xha,xhc,xhs⟩,xri,⟨xka,xkc,xK⟩,⟨xva,xvc,xV⟩,⟨xca,xcc,xC⟩⟩ : Nd).In (fun k => w1.heap.size ≤ k ∧ k < w2.heap.size)) := xo.in_
 have B2 := hide (B1.out.trans (xb.mono B1.out.size))
 have e1 := (xb.block _ (lt_of_block GG1.out)).trans GG1.out
 have e2 := (xb.block _ (lt_of_block GG2.out)).trans GG2.out
 have E1 := hide e1
 have E2 := hide e2
 have XB := hide xb
 obtain ⟨y0,y1,y2,y3,y4,y5⟩ := Six.of e1
 obtain ⟨z0,z1,z2,z3,z4,z5⟩ := Six.of e2
 have F1 := fun j => frozen_of e1 j
 have F2 := fun j => frozen_of e2 j
 have U1 : Upd (fun b => b = w.heap.size + 1) w2 (six6 w2 (w.heap.size + 1) (.int .i64 xlv) (.slice xha xlh xhc) (.int .i64 xri) (.slice xka xlk xkc) (.slice xva xlw xvc) (.slice xca xlc xcc)) := six_upd _ _ _ _ _ _ _ _ _ rfl
 have U2 : Upd (fun b => b = w.heap.size + 1 + 1) (six6 w2 (w.heap.size + 1) (.int .i64 xlv) (.slice xha xlh xhc) (.int .i64 xri) (.slice xka xlk xkc) (.slice xva xlw xvc) (.slice xca xlc xcc)) (six6 (six6 w2 (w.heap.size + 1) (.int .i64 xlv) (.slice xha xlh xhc) (.int .i64 xri) (.slice xka xlk xkc) (.slice xva xlw xvc) (.slice xca xlc xcc)) (w.heap.size + 1 + 1) (.int .i64 0) (.slice none 0 0) (.int .i64 0) (.slice none 0 0) (.slice none 0 0) (.slice none 0 0)) := six_upd _ _ _ _ _ _ _ _ _ rfl
 have HU1 := hide U1
 have HU2 := hide U2
 have k1 := six_block e1 (.int .i64 xlv) (.slice xha xlh xhc) (.int .i64 xri) (.slice xka xlk xkc) (.slice xva xlw xvc) (.slice xca xlc xcc)
 have k2 := six_block ((HU1.out).heap e2 (fun e => by omega)) (.int .i64 0) (.slice none 0 0) (.int .i64 0) (.slice none 0 0) (.slice none 0 0) (.slice none 0 0)
 have k1' := HU2.out.heap k1 (fun e => by omega)
 have K1 := hide k1'
 have K2 := hide k2
 clear xp xo xb e1 e2 U1 U2 k1 k2 k1' HC1 d0 d1 d2 d3 d4 d5
 go_wp2_with fail
 show bodyPost _ _ _ _ _ (six6 (six6 w2 (w.heap.size + 1) (.int .i64 xlv) (.slice xha xlh xhc) (.int .i64 xri) (.slice xka xlk xkc) (.slice xva xlw xvc) (.slice xca xlc xcc)) (w.heap.size + 1 + 1) (.int .i64 0) (.slice none 0 0) (.int .i64 0) (.slice none 0 0) (.slice none 0 0) (.slice none 0 0))
 generalize six6 w2 (w.heap.size + 1) (.int .i64 xlv) (.slice xha xlh xhc) (.int .i64 xri) (.slice xka xlk xkc) (.slice xva xlw xvc) (.slice xca xlc xcc) = w5 at *
 generalize six6 w5 (w.heap.size + 1 + 1) (.int .i64 0) (.slice none 0 0) (.int .i64 0) (.slice none 0 0) (.slice none 0 0) (.slice none 0 0) = w6 at *
 obtain ⟨q0,q1,q2,q3,q4,q5⟩ := Six.of K1.out
 obtain ⟨r0,r1,r2,r3,r4,r5⟩ := Six.of K2.out
 have hz := lt_of_block GG2.out
 have hzb := XB.out.size
 refine bodyPost_ret (v := .tuple #[.agg #[.int .i64 xlv,.slice xha xlh xhc,.int .i64 xri,.slice xka xlk xkc,.slice xva xlw xvc,.slice xca xlc xcc],.agg #[.int .i64 0,.slice none 0 0,.int .i64 0,.slice none 0 0,.slice none 0 0,.slice none 0 0],.slice none 0 0]) (by simp [results,Tryz.results190,go_sem,q0,q1,q2,q3,q4,q5,r0,r1,r2,r3,r4,r5]) rfl ⟨(⟨xlv,⟨xha,xhc,xhs⟩,xri,⟨xka,xkc,xK⟩,⟨xva,xvc,xV⟩,⟨xca,xcc,xC⟩⟩ : Nd),Nd.zero,⟨none,0,[]⟩,w2.heap.size,w2.heap.size,?_,by rw [HNP.out]; exact XP.out,rfl,rfl,?_,XI.out.mono (fun k hk => ⟨Nat.le_trans B1.out.size hk.1,hk.2⟩),Nd.zero_own' _ _,Nd.zero_in _,OwnB.nil _ _ _,Tx.nil_ok _,B2.out.size,Nat.le_refl _,?_⟩
 ·simp only [Nd.v,Tx.v,TL.v,IL.v,xL.out.1,xL.out.2.1,xL.out.2.2.1,xL.out.2.2.2]
  rfl
 ·exact ((XO.out.upd HU1.out (fun b h1 _ e => by omega)).upd HU2.out (fun b h1 _ e => by omega)).mono B1.out.size
 ·exact (B2.out.trans (HU1.out.below B2.out.size (fun k hk e => by omega))).trans (HU2.out.below (Nat.le_trans B2.out.size HU1.out.size) (fun k hk e => by omega))
set_option maxHeartbeats 6400000 in
theorem split_any (n : Nd) (right : Int) (w : World) (hn : n.Ok w) (hw2 : 2 ≤ n.p.wd) : Calls Tryz.prog 190 #[n.v,.int .i64 right] w (SplP w (n.p.one right) n.p.two n.p.bet) := by
 have HWD : Hid (∀ W,Calls Tryz.prog 188 #[n.v] W fun e w' => e = .returned (.int .i64 (n.p.wd : Nat)) ∧ Below W.heap.size W w') := fun W => by rw [← wd_wid]; exact width_any n W
 have HHV : Hid (∀ W,Below w.heap.size w W → Calls Tryz.prog 204 #[n.v] W fun e w' => ∃ (k1 v1 k2 v2 : TL) (c1 c2 : IL) (t : Tx),e = .returned (.tuple #[.agg #[k1.v,v1.v,c1.v],.agg #[k2.v,v2.v,c2.v],t.v]) ∧ (⟨n.lv,t,right,k1,v1,c1⟩ : Nd).Ok w' ∧ (⟨n.lv,n.hi,n.ri,k2,v2,c2⟩ : Nd).Ok w' ∧ (⟨n.lv,t,right,k1,v1,c1⟩ : Nd).p = n.p.one right ∧ (⟨n.lv,n.hi,n.ri,k2,v2,c2⟩ : Nd).p = n.p.two ∧ t.s = n.p.bet ∧ t.Ok w' ∧ Below W.heap.size W w') := fun W hb => by
  have hnW := hn.below hb
  refine (halves_any n W hnW hw2).mono ?_
  rintro e w' ⟨k1,k2,t,rfl,h1,h2,h3,h4,h5,h6,h7⟩
  have hk1 : k1.L.length ≤ n.ks.L.length := by have := congrArg List.length h4; rw [TL.p_len,List.length_take] at this; have h8 : n.p.ks.length = n.ks.L.length := TL.p_len _; omega
  have hk2 : k2.L.length ≤ n.ks.L.length := by
   have := congrArg List.length h5
   have h8 : n.p.ks.length = n.ks.L.length := TL.p_len _
   rw [TL.p_len] at this
   unfold NP.restK at this
   split at this
   ·rw [List.length_drop] at this; omega
   ·rw [List.length_drop,List.length_drop] at this; omega
  have hkz := hnW.kz
  have hvz := hnW.vz
  have hcz := hnW.cz
  refine ⟨k1,n.vs.left n.p.half,k2,n.vs.rest n.p.half,n.cs.left n.p.half,n.cs.rest n.p.half,t,rfl,?_,?_,?_,?_,h6,h3.below h7,h7⟩
  ·refine Nd.Ok.below ⟨h3,h1,hnW.v.left _,hnW.c.left _,by simp only; omega,?_,?_⟩ h7
   ·simp only [TL.left,List.length_take]; omega
   ·simp only [IL.left,List.length_take]; omega
  ·refine Nd.Ok.below ⟨hnW.h,h2,hnW.v.rest _,hnW.c.rest _,by simp only; omega,?_,?_⟩ h7
   ·simp only [TL.rest,List.length_drop]; omega
   ·simp only [IL.rest,List.length_drop]; omega
  ·unfold Nd.p NP.one
   simp only [NP.mk.injEq]
   exact ⟨trivial,h6,trivial,h4,TL.left_p _ _,IL.left_s _ _⟩
  ·unfold Nd.p NP.two
   simp only [NP.mk.injEq]
   exact ⟨trivial,trivial,trivial,h5,TL.rest_p _ _,IL.rest_s _ _⟩
 clear hn
 have jw : ¬ ((n.p.wd : Nat) : Int) < 2 := by omega
 generalize n.p.wd = wdn at *
 generalize n.p.one right = pone at *
 generalize n.p.two = ptwo at *
 generalize n.p.bet = pbet at *
 clear hw2
 obtain ⟨alv,⟨aha,ahc,ahs⟩,ari,⟨aka,akc,aK⟩,⟨ava,avc,aV⟩,⟨aca,acc,aC⟩⟩ := n
 have HV : Hid ((⟨alv,⟨aha,ahc,ahs⟩,ari,⟨aka,akc,aK⟩,⟨ava,avc,aV⟩,⟨aca,acc,aC⟩⟩ : Nd).v = .agg #[.int .i64 alv,.slice aha ahs.length ahc,.int .i64 ari,.slice aka aK.length akc,.slice ava aV.length avc,.slice aca aC.length acc]) := rfl
 rw [HV.out] at HWD HHV ⊢
 clear HV
 obtain ⟨alh,halh⟩ : ∃ x,ahs.length = x := ⟨_,rfl⟩
 rw [halh] at HWD HHV ⊢
 have HALH := hide halh
 clear halh
 generalize aK.length = alk at *
 generalize aV.length = alw at *
 generalize aC.length = alc at *
 obtain ⟨w0,hw0⟩ : ∃ w0,w0 = ((w.alloc (.cells #[.int .i64 alv,.slice aha alh ahc,.int .i64 ari,.slice aka alk akc,.slice ava alw avc,.slice aca alc acc] 110)).alloc (.cells #[.int .i64 0,.slice none 0 0,.int .i64 0,.slice none 0 0,.slice none 0 0,.slice none 0 0] 110)).alloc (.cells #[.int .i64 0,.slice none 0 0,.int .i64 0,.slice none 0 0,.slice none 0 0,.slice none 0 0] 110) := ⟨_,rfl⟩
 have b0 : Below w.heap.size w w0 := by rw [hw0]; exact (((Below.refl _ _).alloc (Nat.le_refl _) _).alloc (by simp) _).alloc (by simp; omega) _
 have g0 : w0.heap[w.heap.size]? = some (.cells #[.int .i64 alv,.slice aha alh ahc,.int .i64 ari,.slice aka alk akc,.slice ava alw avc,.slice aca alc acc] 110 (0,0)) := by rw [hw0]; exact old_at (old_at (new_at rfl))
 have g1 : w0.heap[w.heap.size + 1]? = some (.cells #[.int .i64 0,.slice none 0 0,.int .i64 0,.slice none 0 0,.slice none 0 0,.slice none 0 0] 110 (0,0)) := by rw [hw0]; exact old_at (new_at (by simp))
 have g2 : w0.heap[w.heap.size + 1 + 1]? = some (.cells #[.int .i64 0,.slice none 0 0,.int .i64 0,.slice none 0 0,.slice none 0 0,.slice none 0 0] 110 (0,0)) := by rw [hw0]; exact new_at (by simp)
 have B0 := hide b0
 have G0 := hide g0
 have G1 := hide g1
 have G2 := hide g2
 have HW0 := hide hw0
 obtain ⟨c0,c1,c2,c3,c4,c5⟩ := Six.of g0
 have HWD0 := hide (HWD.out w0)
 clear hw0 b0 g0 g1 g2 HWD
 go_enter Tryz.func190,Tryz.ntmps190
 go_upto_region 1 with fail
 rw [← HW0.out]
 clear HW0
 go_wp2_with fail
 refine HWD0.out.mono ?_
 rintro e w1 ⟨rfl,b1⟩
 have B1 := hide (B0.out.trans (b1.mono B0.out.size))
 have gg0 := (b1.block _ (lt_of_block G0.out)).trans G0.out
 have GG0 := hide gg0
 have GG1 := hide ((b1.block _ (lt_of_block G1.out)).trans G1.out)
 have GG2 := hide ((b1.block _ (lt_of_block G2.out)).trans G2.out)
 obtain ⟨d0,d1,d2,d3,d4,d5⟩ := Six.of gg0
 have HH1 := hide (HHV.out w1 B1.out)
 clear b1 gg0 HWD0 c0 c1 c2 c3 c4 c5 HHV
 go_wp2_with fail
 refine HH1.out.mono ?_
 rintro e w2 ⟨⟨k1a,k1c,K1⟩,⟨v1a,v1c,V1⟩,⟨k2a,k2c,K2⟩,⟨v2a,v2c,V2⟩,⟨c1a,c1c,C1⟩,⟨c2a,c2c,C2⟩,⟨ta,tc,ts⟩,rfl,hL,hR,hLp,hRp,hts,htk,hb2⟩
 have B2 := hide (B1.out.trans (hb2.mono B1.out.size))
 have gb0 := (hb2.block _ (lt_of_block GG0.out)).trans GG0.out
 have gb1 := (hb2.block _ (lt_of_block GG1.out)).trans GG1.out
 have gb2 := (hb2.block _ (lt_of_block GG2.out)).trans GG2.out
 have HLL : Hid (∀ W,Below w2.heap.size w2 W → (⟨alv,⟨ta,tc,ts⟩,right,⟨k1a,k1c,K1⟩,⟨v1a,v1c,V1⟩,⟨c1a,c1c,C1⟩⟩ : Nd).Ok W) := fun W hb => hL.below hb
 have HRR : Hid (∀ W,Below w2.heap.size w2 W → (⟨alv,⟨aha,ahc,ahs⟩,ari,⟨k2a,k2c,K2⟩,⟨v2a,v2c,V2⟩,⟨c2a,c2c,C2⟩⟩ : Nd).Ok W) := fun W hb => hR.below hb
 have HPS := hide (And.intro hLp (And.intro hRp hts))
 have HTK : Hid (∀ W,Below w2.heap.size w2 W → Calls Tryz.prog 50 #[.slice ta ts.length tc] W fun e w' => ∃ v,e = .returned v ∧ OwnB w' W.heap.size 5 v ts ∧ Below W.heap.size W w') := fun W hb => bclone_any ta ts.length tc ts W rfl (by have := htk.z; simp only at this; omega) htk.n (htk.below hb).r
 have HT8 : Hid (B8 ts ∧ ts.length ≤ 140737488351232) := ⟨htk.b8,htk.z⟩
 have HCL : Hid (∀ W,Below w2.heap.size w2 W → Calls Tryz.prog 141 #[.agg #[.int .i64 alv,.slice ta ts.length tc,.int .i64 right,.slice k1a K1.length k1c,.slice v1a V1.length v1c,.slice c1a C1.length c1c]] W (ClPost W ⟨alv,⟨ta,tc,ts⟩,right,⟨k1a,k1c,K1⟩,⟨v1a,v1c,V1⟩,⟨c1a,c1c,C1⟩⟩)) := fun W hb => clone_any _ W (HLL.out W hb)
 have HCR : Hid (∀ W,Below w2.heap.size w2 W → Calls Tryz.prog 141 #[.agg #[.int .i64 alv,.slice aha alh ahc,.int .i64 ari,.slice k2a K2.length k2c,.slice v2a V2.length v2c,.slice c2a C2.length c2c]] W (ClPost W ⟨alv,⟨aha,ahc,ahs⟩,ari,⟨k2a,k2c,K2⟩,⟨v2a,v2c,V2⟩,⟨c2a,c2c,C2⟩⟩)) := fun W hb => by rw [← HALH.out]; exact clone_any _ W (HRR.out W hb)
 simp only [TL.v,IL.v,Tx.v]
 obtain ⟨tl,htl⟩ : ∃ x,ts.length = x := ⟨_,rfl⟩
 rw [htl] at HCL HTK ⊢
 have HTL := hide htl
 generalize K1.length = k1l at *
 generalize V1.length = v1l at *
 generalize C1.length = c1l at *
 generalize K2.length = k2l at *
 generalize V2.length = v2l at *
 generalize C2.length = c2l at *
 obtain ⟨w4,hw4⟩ : ∃ w4,w4 = ((w2.alloc (.cells #[.slice k1a k1l k1c,.slice v1a v1l v1c,.slice c1a c1l c1c] 108)).alloc (.cells #[.slice k2a k2l k2c,.slice v2a v2l v2c,.slice c2a c2l c2c] 108)).alloc (.cells #[.int .i64 alv,.slice ta tl tc,.int .i64 right] 105) := ⟨_,rfl⟩
 have b4 : Below w2.heap.size w2 w4 := by rw [hw4]; exact (((Below.refl _ _).alloc (Nat.le_refl _) _).alloc (by simp) _).alloc (by simp; omega) _
 have f1 : w4.heap[w2.heap.size]? = some (.cells #[.slice k1a k1l k1c,.slice v1a v1l v1c,.slice c1a c1l c1c] 108 (0,0)) := by rw [hw4]; exact old_at (old_at (new_at rfl))
 have f2 : w4.heap[w2.heap.size + 1]? = some (.cells #[.slice k2a k2l k2c,.slice v2a v2l v2c,.slice c2a c2l c2c] 108 (0,0)) := by rw [hw4]; exact old_at (new_at (by simp))
 have f3 : w4.heap[w2.heap.size + 1 + 1]? = some (.cells #[.int .i64 alv,.slice ta tl tc,.int .i64 right] 105 (0,0)) := by rw [hw4]; exact new_at (by simp)
 have f0 := (b4.block _ (lt_of_block gb0)).trans gb0
 have fz1 := (b4.block _ (lt_of_block gb1)).trans gb1
 have fz2 := (b4.block _ (lt_of_block gb2)).trans gb2
 have B24 := hide b4
 have B4 := hide (B2.out.trans (b4.mono B2.out.size))
 have FZ1 := hide fz1
 have FZ2 := hide fz2
 have L0 := hide (lt_of_block f0)
 have L1 := hide (lt_of_block f1)
 have L2 := hide (lt_of_block f2)
 have L3 := hide (lt_of_block f3)
 obtain ⟨mj0,mj1,mj2,_,_,_⟩ := Six.of f0
 obtain ⟨mi0,mi1,mi2⟩ := tri_of f1
 obtain ⟨mk0,mk1,mk2⟩ := tri_of f2
 obtain ⟨mh0,mh1,mh2⟩ := tri_of f3
 have HW4 := hide hw4
 have e0 := (Six.of gb0).1
 have hlt2 := lt_of_block gb2
 have e0' : ((w2.alloc (.cells #[.slice k1a k1l k1c,.slice v1a v1l v1c,.slice c1a c1l c1c] 108)).alloc (.cells #[.slice k2a k2l k2c,.slice v2a v2l v2c,.slice c2a c2l c2c] 108)).cell? ⟨w.heap.size,0,none⟩ = some (.int .i64 alv) := ((((Below.refl w2.heap.size w2).alloc (Nat.le_refl _) _).alloc (by simp) _).cell (p := ⟨w.heap.size,0,none⟩) (by simp only; omega)).trans e0
 have u1 : ¬ w.heap.size = w2.heap.size := by omega
 have u2 : ¬ w.heap.size = w2.heap.size + 1 := by omega
 have u3 : ¬ w2.heap.size = w.heap.size := by omega
 have u4 : ¬ w2.heap.size + 1 = w.heap.size := by omega
 clear hL hR hLp hRp hts htk hb2 htl hw4 b4 f0 f1 f2 f3 fz1 fz2 gb0 gb1 gb2 HH1 d0 d1 d2 d3 d4 d5 HLL HRR GG0 GG1 GG2 G0 G1 G2
 go_upto_region 5 with fail
 rw [← HW4.out]
 have HLT2 := hide hlt2
 clear HW4 e0 e0' u1 u2 u3 u4 hlt2
 go_region_held3 (fun W' => W'.cell? ⟨w2.heap.size + 1 + 1,0,none⟩ = some (.int .i64 alv) ∧ W'.cell? ⟨w2.heap.size + 1 + 1,1,none⟩ = some (.slice ta tl tc) ∧ W'.cell? ⟨w2.heap.size + 1 + 1,2,none⟩ = some (.int .i64 right) ∧ W'.cell? ⟨w2.heap.size,0,none⟩ = some (.slice k1a k1l k1c) ∧ W'.cell? ⟨w2.heap.size,1,none⟩ = some (.slice v1a v1l v1c) ∧ W'.cell? ⟨w2.heap.size,2,none⟩ = some (.slice c1a c1l c1c) ∧ W'.cell? ⟨w.heap.size,0,none⟩ = some (.int .i64 alv) ∧ W'.cell? ⟨w.heap.size,1,none⟩ = some (.slice aha alh ahc) ∧ W'.cell? ⟨w.heap.size,2,none⟩ = some (.int .i64 ari) ∧ W'.cell? ⟨w2.heap.size + 1,0,none⟩ = some (.slice k2a k2l k2c) ∧ W'.cell? ⟨w2.heap.size + 1,1,none⟩ = some (.slice v2a v2l v2c) ∧ W'.cell? ⟨w2.heap.size + 1,2,none⟩ = some (.slice c2a c2l c2c)) (go_keep) (first
  | (go_at_call 50; refine (HTK.out _ BB6.out).mono ?_; rintro e w7 ⟨kv,rfl,ok7,hb7⟩; obtain ⟨ka7,kc7,rfl,_,_⟩ := ok7.slice; have BB7 : Hid (Below w4.heap.size w4 w7) := BC6.out.trans (hb7.mono BC6.out.size); have OK7 := hide ok7; have HB7 := hide hb7; have gz1 := (BB7.out.block _ (lt_of_block FZ1.out)).trans FZ1.out; have gz2 := (BB7.out.block _ (lt_of_block FZ2.out)).trans FZ2.out; have GZ1 := hide gz1; have GZ2 := hide gz2; obtain ⟨za0,za1,za2,za3,za4,za5⟩ := Six.of gz1; obtain ⟨zb0,zb1,zb2,zb3,zb4,zb5⟩ := Six.of gz2; have zf1 := (fun j => frozen_of gz1 j); have zf2 := (fun j => frozen_of gz2 j); have hlt2 := HLT2.out; have u1 : ¬ w.heap.size = w2.heap.size := (by omega); have u2 : ¬ w2.heap.size = w.heap.size := (by omega); have u3 : ¬ w.heap.size + 1 = w2.heap.size := (by omega); have u4 : ¬ w2.heap.size = w.heap.size + 1 := (by omega); have u5 : ¬ w.heap.size + 1 + 1 = w2.heap.size := (by omega); have u6 : ¬ w2.heap.size = w.heap.size + 1 + 1 := (by omega); have u7 : ¬ w2.heap.size + 1 = w.heap.size := (by omega); have u8 : ¬ w.heap.size = w2.heap.size + 1 := (by omega); have u9 : ¬ w.heap.size + 1 = w2.heap.size + 1 + 1 := (by omega); have u10 : ¬ w2.heap.size + 1 + 1 = w.heap.size + 1 := (by omega); have u11 : ¬ w.heap.size + 1 + 1 = w.heap.size := (by omega); have u12 : ¬ w.heap.size = w.heap.size + 1 + 1 := (by omega); have u13 : ¬ w.heap.size + 1 = w.heap.size := (by omega); have u14 : ¬ w.heap.size = w.heap.size + 1 := (by omega); clear gz1 gz2; have th0 := (BB7.out.cell (p := ⟨w2.heap.size + 1 + 1,0,none⟩) L3.out).trans mh0; have th1 := (BB7.out.cell (p := ⟨w2.heap.size + 1 + 1,1,none⟩) L3.out).trans mh1; have th2 := (BB7.out.cell (p := ⟨w2.heap.size + 1 + 1,2,none⟩) L3.out).trans mh2; have ti0 := (BB7.out.cell (p := ⟨w2.heap.size,0,none⟩) L1.out).trans mi0; have ti1 := (BB7.out.cell (p := ⟨w2.heap.size,1,none⟩) L1.out).trans mi1; have ti2 := (BB7.out.cell (p := ⟨w2.heap.size,2,none⟩) L1.out).trans mi2; have tj0 := (BB7.out.cell (p := ⟨w.heap.size,0,none⟩) L0.out).trans mj0; have tj1 := (BB7.out.cell (p := ⟨w.heap.size,1,none⟩) L0.out).trans mj1; have tj2 := (BB7.out.cell (p := ⟨w.heap.size,2,none⟩) L0.out).trans mj2; have tk0 := (BB7.out.cell (p := ⟨w2.heap.size + 1,0,none⟩) L2.out).trans mk0; have tk1 := (BB7.out.cell (p := ⟨w2.heap.size + 1,1,none⟩) L2.out).trans mk1; have tk2 := (BB7.out.cell (p := ⟨w2.heap.size + 1,2,none⟩) L2.out).trans mk2; clear ok7 hb7)
  | (go_at_call 141; refine (HCR.out _ BB5.out).mono ?_; rintro e w6 ⟨⟨ylv,⟨yha,yhc,yhs⟩,yri,⟨yka,ykc,yK⟩,⟨yva,yvc,yV⟩,⟨yca,ycc,yC⟩⟩,rfl,yp,yo,yb⟩; obtain ⟨ylh,yh1⟩ : ∃ x,yhs.length = x := ⟨_,rfl⟩; obtain ⟨ylk,yh2⟩ : ∃ x,yK.length = x := ⟨_,rfl⟩; obtain ⟨ylw,yh3⟩ : ∃ x,yV.length = x := ⟨_,rfl⟩; obtain ⟨ylc,yh4⟩ : ∃ x,yC.length = x := ⟨_,rfl⟩; simp only [Nd.v,Tx.v,TL.v,IL.v]; rw [yh1,yh2,yh3,yh4]; have yL := hide (And.intro yh1 (And.intro yh2 (And.intro yh3 yh4))); clear yh1 yh2 yh3 yh4; have YP := hide yp; have YO := hide yo; have HY6 := hide yb; have BC6 : Hid (Below w4.heap.size w4 w6) := BC5.out.trans (yb.mono BC5.out.size); have BB6 : Hid (Below w2.heap.size w2 w6) := B24.out.trans (BC6.out.mono B24.out.size); have sh0 := (BC6.out.cell (p := ⟨w2.heap.size + 1 + 1,0,none⟩) L3.out).trans mh0; have sh1 := (BC6.out.cell (p := ⟨w2.heap.size + 1 + 1,1,none⟩) L3.out).trans mh1; have sh2 := (BC6.out.cell (p := ⟨w2.heap.size + 1 + 1,2,none⟩) L3.out).trans mh2; have si0 := (BC6.out.cell (p := ⟨w2.heap.size,0,none⟩) L1.out).trans mi0; have si1 := (BC6.out.cell (p := ⟨w2.heap.size,1,none⟩) L1.out).trans mi1; have si2 := (BC6.out.cell (p := ⟨w2.heap.size,2,none⟩) L1.out).trans mi2; have sj0 := (BC6.out.cell (p := ⟨w.heap.size,0,none⟩) L0.out).trans mj0; have sj1 := (BC6.out.cell (p := ⟨w.heap.size,1,none⟩) L0.out).trans mj1; have sj2 := (BC6.out.cell (p := ⟨w.heap.size,2,none⟩) L0.out).trans mj2; have sk0 := (BC6.out.cell (p := ⟨w2.heap.size + 1,0,none⟩) L2.out).trans mk0; have sk1 := (BC6.out.cell (p := ⟨w2.heap.size + 1,1,none⟩) L2.out).trans mk1; have sk2 := (BC6.out.cell (p := ⟨w2.heap.size + 1,2,none⟩) L2.out).trans mk2; clear yp yo yb)
  | (go_at_call 141; refine (HCL.out _ (below_drew B24.out)).mono ?_; rintro e w5 ⟨⟨xlv,⟨xha,xhc,xhs⟩,xri,⟨xka,xkc,xK⟩,⟨xva,xvc,xV⟩,⟨xca,xcc,xC⟩⟩,rfl,xp,xo,xb⟩; obtain ⟨xlh,xh1⟩ : ∃ x,xhs.length = x := ⟨_,rfl⟩; obtain ⟨xlk,xh2⟩ : ∃ x,xK.length = x := ⟨_,rfl⟩; obtain ⟨xlw,xh3⟩ : ∃ x,xV.length = x := ⟨_,rfl⟩; obtain ⟨xlc,xh4⟩ : ∃ x,xC.length = x := ⟨_,rfl⟩; simp only [Nd.v,Tx.v,TL.v,IL.v]; rw [xh1,xh2,xh3,xh4]; have xL := hide (And.intro xh1 (And.intro xh2 (And.intro xh3 xh4))); clear xh1 xh2 xh3 xh4; have XP := hide xp; have XO := hide xo; have HX5 := hide xb; have BC5 : Hid (Below w4.heap.size w4 w5) := (below_drew (Below.refl _ _)).trans xb; have BB5 : Hid (Below w2.heap.size w2 w5) := B24.out.trans (BC5.out.mono B24.out.size); have rh0 := (BC5.out.cell (p := ⟨w2.heap.size + 1 + 1,0,none⟩) L3.out).trans mh0; have rh1 := (BC5.out.cell (p := ⟨w2.heap.size + 1 + 1,1,none⟩) L3.out).trans mh1; have rh2 := (BC5.out.cell (p := ⟨w2.heap.size + 1 + 1,2,none⟩) L3.out).trans mh2; have ri0 := (BC5.out.cell (p := ⟨w2.heap.size,0,none⟩) L1.out).trans mi0; have ri1 := (BC5.out.cell (p := ⟨w2.heap.size,1,none⟩) L1.out).trans mi1; have ri2 := (BC5.out.cell (p := ⟨w2.heap.size,2,none⟩) L1.out).trans mi2; have rj0 := (BC5.out.cell (p := ⟨w.heap.size,0,none⟩) L0.out).trans mj0; have rj1 := (BC5.out.cell (p := ⟨w.heap.size,1,none⟩) L0.out).trans mj1; have rj2 := (BC5.out.cell (p := ⟨w.heap.size,2,none⟩) L0.out).trans mj2; have rk0 := (BC5.out.cell (p := ⟨w2.heap.size + 1,0,none⟩) L2.out).trans mk0; have rk1 := (BC5.out.cell (p := ⟨w2.heap.size + 1,1,none⟩) L2.out).trans mk1; have rk2 := (BC5.out.cell (p := ⟨w2.heap.size + 1,2,none⟩) L2.out).trans mk2; clear xp xo xb)
  | fail)
 clear zf1 zf2
 have HU1 : Hid (Upd (fun b => b = w.heap.size + 1) w7 (six6 w7 (w.heap.size + 1) (.int .i64 xlv) (.slice xha xlh xhc) (.int .i64 xri) (.slice xka xlk xkc) (.slice xva xlw xvc) (.slice xca xlc xcc))) := six_upd _ _ _ _ _ _ _ _ _ rfl
 have HU2 : Hid (Upd (fun b => b = w.heap.size + 1 + 1) (six6 w7 (w.heap.size + 1) (.int .i64 xlv) (.slice xha xlh xhc) (.int .i64 xri) (.slice xka xlk xkc) (.slice xva xlw xvc) (.slice xca xlc xcc)) (six6 (six6 w7 (w.heap.size + 1) (.int .i64 xlv) (.slice xha xlh xhc) (.int .i64 xri) (.slice xka xlk xkc) (.slice xva xlw xvc) (.slice xca xlc xcc)) (w.heap.size + 1 + 1) (.int .i64 ylv) (.slice yha ylh yhc) (.int .i64 yri) (.slice yka ylk ykc) (.slice yva ylw yvc) (.slice yca ylc ycc))) := six_upd _ _ _ _ _ _ _ _ _ rfl
 have K1 : Hid ((six6 (six6 w7 (w.heap.size + 1) (.int .i64 xlv) (.slice xha xlh xhc) (.int .i64 xri) (.slice xka xlk xkc) (.slice xva xlw xvc) (.slice xca xlc xcc)) (w.heap.size + 1 + 1) (.int .i64 ylv) (.slice yha ylh yhc) (.int .i64 yri) (.slice yka ylk ykc) (.slice yva ylw yvc) (.slice yca ylc ycc)).heap[w.heap.size + 1]? = some (.cells #[.int .i64 xlv,.slice xha xlh xhc,.int .i64 xri,.slice xka xlk xkc,.slice xva xlw xvc,.slice xca xlc xcc] 110 (0,0))) := HU2.out.heap (six_block GZ1.out (.int .i64 xlv) (.slice xha xlh xhc) (.int .i64 xri) (.slice xka xlk xkc) (.slice xva xlw xvc) (.slice xca xlc xcc)) (fun e => by omega)
 have K2 : Hid ((six6 (six6 w7 (w.heap.size + 1) (.int .i64 xlv) (.slice xha xlh xhc) (.int .i64 xri) (.slice xka xlk xkc) (.slice xva xlw xvc) (.slice xca xlc xcc)) (w.heap.size + 1 + 1) (.int .i64 ylv) (.slice yha ylh yhc) (.int .i64 yri) (.slice yka ylk ykc) (.slice yva ylw yvc) (.slice yca ylc ycc)).heap[w.heap.size + 1 + 1]? = some (.cells #[.int .i64 ylv,.slice yha ylh yhc,.int .i64 yri,.slice yka ylk ykc,.slice yva ylw yvc,.slice yca ylc ycc] 110 (0,0))) := six_block (HU1.out.heap GZ2.out (fun e => by omega)) (.int .i64 ylv) (.slice yha ylh yhc) (.int .i64 yri) (.slice yka ylk ykc) (.slice yva ylw yvc) (.slice yca ylc ycc)
 go_wp2_with fail
 show bodyPost _ _ _ _ _ (six6 (six6 w7 (w.heap.size + 1) (.int .i64 xlv) (.slice xha xlh xhc) (.int .i64 xri) (.slice xka xlk xkc) (.slice xva xlw xvc) (.slice xca xlc xcc)) (w.heap.size + 1 + 1) (.int .i64 ylv) (.slice yha ylh yhc) (.int .i64 yri) (.slice yka ylk ykc) (.slice yva ylw yvc) (.slice yca ylc ycc))
 generalize six6 w7 (w.heap.size + 1) (.int .i64 xlv) (.slice xha xlh xhc) (.int .i64 xri) (.slice xka xlk xkc) (.slice xva xlw xvc) (.slice xca xlc xcc) = w8 at *
 generalize six6 w8 (w.heap.size + 1 + 1) (.int .i64 ylv) (.slice yha ylh yhc) (.int .i64 yri) (.slice yka ylk ykc) (.slice yva ylw yvc) (.slice yca ylc ycc) = w9 at *
 obtain ⟨q0,q1,q2,q3,q4,q5⟩ := Six.of K1.out
 obtain ⟨r0,r1,r2,r3,r4,r5⟩ := Six.of K2.out
 have z24 := B24.out.size
 have z5 := BC5.out.size
 have z6 := HY6.out.size
 have z7 := HB7.out.size
 have z2 := HLT2.out
 have BW7 : Below w.heap.size w w7 := B4.out.trans (BB7.out.mono B4.out.size)
 have O7 := ownB_upd' (ownB_upd' OK7.out HU1.out (fun b h1 _ e => by omega)) HU2.out (fun b h1 _ e => by omega)
 have hdr : w4.drew.heap.size = w4.heap.size := rfl
 refine bodyPost_ret (v := .tuple #[.agg #[.int .i64 xlv,.slice xha xlh xhc,.int .i64 xri,.slice xka xlk xkc,.slice xva xlw xvc,.slice xca xlc xcc],.agg #[.int .i64 ylv,.slice yha ylh yhc,.int .i64 yri,.slice yka ylk ykc,.slice yva ylw yvc,.slice yca ylc ycc],.slice ka7 ts.length kc7]) (by simp [results,Tryz.results190,go_sem,q0,q1,q2,q3,q4,q5,r0,r1,r2,r3,r4,r5]) rfl ⟨(⟨xlv,⟨xha,xhc,xhs⟩,xri,⟨xka,xkc,xK⟩,⟨xva,xvc,xV⟩,⟨xca,xcc,xC⟩⟩ : Nd),(⟨ylv,⟨yha,yhc,yhs⟩,yri,⟨yka,ykc,yK⟩,⟨yva,yvc,yV⟩,⟨yca,ycc,yC⟩⟩ : Nd),⟨ka7,kc7,ts⟩,w5.heap.size,w6.heap.size,?_,XP.out.trans HPS.out.1,YP.out.trans HPS.out.2.1,HPS.out.2.2,?_,XO.out.in_.mono (fun k hk => ⟨by omega,hk.2⟩),?_,YO.out.in_,O7,ownB_ok (x := ⟨ka7,kc7,ts⟩) O7 HT8.out.1 HT8.out.2,by omega,z6,?_⟩
 ·simp only [Nd.v,Tx.v,TL.v,IL.v,xL.out.1,xL.out.2.1,xL.out.2.2.1,xL.out.2.2.2,yL.out.1,yL.out.2.1,yL.out.2.2.1,yL.out.2.2.2]
 ·exact ((((XO.out.below HY6.out).below HB7.out).upd HU1.out (fun b h1 _ e => by omega)).upd HU2.out (fun b h1 _ e => by omega)).mono (by omega)
 ·exact ((YO.out.below HB7.out).upd HU1.out (fun b h1 _ e => by omega)).upd HU2.out (fun b h1 _ e => by omega)
 ·exact (BW7.trans (HU1.out.below BW7.size (fun k hk e => by omega))).trans (HU2.out.below (Nat.le_trans BW7.size HU1.out.size) (fun k hk e => by omega))
end Go.Proofs.YtljnapejgjffjaaGreat
