/- Texts of one's own. -/
import Derived.Test.YtljnapejgjffjaaGreatH47
import Derived.WalkMore
import Derived.Deep.LoopGhost
namespace Go.Proofs.YtljnapejgjffjaaGreat
open Go.RowKit
set_option maxRecDepth 100000
theorem infoIS : (Tryz.prog.info? 51).map (fun i => (i.zero,i.size,i.bytes)) = some (some (.slice none 0 0),1,24) := by kernel_rfl
def DsP (W : World) (X : Nat → Prop) (B m N A : Nat) (nd lf inn fl bk : Int) (s : AS) (R : (Int × Int) ⊕ List Chn) (e : Ending) (w' : World) : Prop :=
 Below N W w' ∧ ((∃ id er,R = .inl (id,er) ∧ e = .returned (rpt false id er 0 0 0)) ∨
  ∃ ga gc O ov c,R = .inr (chQ O) ∧ O.getLast? = some c ∧ e = .returned (rpt true 0 0 (O.length : Nat) (O.flatten.length : Nat) (wdS c : Nat)) ∧ LQ w' X B m N A ga gc nd lf inn fl bk s O ov ∧ Lvs s (fun p => nchkE p nd lf inn fl bk) O (-1))
def Bxs (w : World) (b : Nat) : Prop := w.heap[b]? = some (.cells #[.bool false,.int .i64 0,.int .i64 0,.int .i64 0,.int .i64 0,.int .i64 0] 54 (0,0)) ∧ w.heap[b + 1]? = some (.cells #[.bool false,.int .i64 0,.int .i64 0,.int .i64 0,.int .i64 0,.int .i64 0] 54 (0,0))
theorem Bxs.below {w w' : World} {b : Nat} (h : Bxs w b) (hb : Below w.heap.size w w') : Bxs w' b := ⟨(hb.block _ (lt_of_block h.1)).trans h.1,(hb.block _ (lt_of_block h.2)).trans h.2⟩
theorem Bxs.upd {w w' : World} {b : Nat} {S : Nat → Prop} (h : Bxs w b) (hu : Upd S w w') (h1 : ¬ S b) (h2 : ¬ S (b + 1)) : Bxs w' b := ⟨hu.heap h.1 h1,hu.heap h.2 h2⟩
section
variable {W : World} {X : Nat → Prop} {B m N A : Nat} {nd lf inn fl bk : Int} {s : AS} {F : Nat → Prop}
set_option maxHeartbeats 12800000 in
theorem descend_any (h : LQ W X B m N A none 0 nd lf inn fl bk s [] []) (hp : PX W A F s) (hF : ∀ k,F k → k < N) (hNW : N ≤ W.heap.size) (hcf : cfgOk nd lf inn fl bk) :
  Calls Tryz.prog 91 #[.pointer (some ⟨B,0,none⟩)] W (DsP W X B m N A nd lf inn fl bk s (s.lvs (fun p => nchkE p nd lf inn fl bk) (s.sl.length + 1) (s.rd s.root).lv s.root [])) := by
 obtain ⟨iS,hiS,hzS0,hzS1,hzS2⟩ := info_parts infoIS
 obtain ⟨w1,hw1⟩ : ∃ x,x = W.alloc (.cells #[.bool false,.int .i64 0,.int .i64 0,.int .i64 0,.int .i64 0,.int .i64 0] 54) := ⟨_,rfl⟩
 obtain ⟨w2,hw2⟩ : ∃ x,x = w1.alloc (.cells #[.bool false,.int .i64 0,.int .i64 0,.int .i64 0,.int .i64 0,.int .i64 0] 54) := ⟨_,rfl⟩
 have z1 : w1.heap.size = W.heap.size + 1 := by rw [hw1]; simp
 have z2 : w2.heap.size = W.heap.size + 2 := by rw [hw2]; simp; omega
 have b1 : Below W.heap.size W w1 := by rw [hw1]; exact (Below.refl _ _).alloc (Nat.le_refl _) _
 have b12 : Below w1.heap.size w1 w2 := by rw [hw2]; exact (Below.refl _ _).alloc (Nat.le_refl _) _
 have b2 := b1.trans (b12.mono b1.size)
 have BX2 : Hid (Bxs w2 W.heap.size) := by
  refine ⟨(b12.block _ (by omega)).trans ?_,?_⟩
  ·rw [hw1]; exact heap_alloc_new W _
  ·rw [← z1,hw2]; exact heap_alloc_new w1 _
 have HW2 : Hid ((W.alloc (.cells #[.bool false,.int .i64 0,.int .i64 0,.int .i64 0,.int .i64 0,.int .i64 0] 54)).alloc (.cells #[.bool false,.int .i64 0,.int .i64 0,.int .i64 0,.int .i64 0,.int .i64 0] 54) = w2) := by show _ = _; rw [hw2,hw1]
 have HPX : Hid (∀ Y,Below N W Y → PX Y A F s) := fun Y hb => hp.upd (S := fun k => N ≤ k) ⟨hb.os,hb.tape,hb.output,hb.size,fun k _ hk => hb.block k (by omega)⟩ (fun k hk e => by have := hF k hk; omega)
 have HLQ2 : Hid (LQ w2 (fun k => X k ∨ k = W.heap.size ∨ k = W.heap.size + 1) B m N A none 0 nd lf inn fl bk s [] []) := h.more b2 (fun k hk => hk.imp (fun e => e) (fun e => by omega)) (fun k hk => (h.mut_lt k hk).2)
 have HNW := hide hNW
 have HCF := hide hcf
 have B2 := hide b2
 have HSL := hide (px_len hp)
 have hms : Hid (∀ k,LMut B m none none k → k < W.heap.size) := fun k hk => (h.mut_lt k hk).2
 obtain ⟨R,hR⟩ : ∃ R,R = s.lvs (fun p => nchkE p nd lf inn fl bk) (s.sl.length + 1) (s.rd s.root).lv s.root [] := ⟨_,rfl⟩
 rw [← hR]
 have HR := hide hR
 have c0 : w2.cell? ⟨B,0,none⟩ = some (.pointer (some ⟨A,0,none⟩)) := HLQ2.out.cells.1
 have HRT := hide (px_root (HPX.out w2 (b2.mono hNW)))
 have HHD := hide (px_head (HPX.out w2 (b2.mono hNW)) s.root)
 have HZ2 := hide z2
 generalize s.wordE s.root = rer at *
 clear hw1 hw2 z1 z2 b1 b12 b2 h hp hF hNW hcf hR
 obtain ⟨root,hroot⟩ : ∃ root,root = s.root := ⟨_,rfl⟩
 rw [← hroot] at HRT HHD HR
 clear hroot
 generalize s.rd root = rt at *
 go_enter Tryz.func91,Tryz.ntmps91
 go_wp2_with fail
 go_step3
 go_upto_region 2 with fail
 rw [HW2.out]
 go_wp2_with fail
 refine keep HRT.out ?_
 go_wp2_with fail
 refine HHD.out.mono ?_
 rintro e w3 ⟨⟨ta,tc,ts⟩,rfl,_,_,_,_,hb3⟩
 simp only [Tx.v]
 generalize ts.length = lt at *
 obtain ⟨w4,hw4⟩ : ∃ w4,w4 = w3.alloc (.cells #[.int .i64 rt.lv,.slice ta lt tc,.int .i64 rt.ri] 105) := ⟨_,rfl⟩
 have b4 : Below w3.heap.size w3 w4 := by rw [hw4]; exact (Below.refl _ _).alloc (Nat.le_refl _) _
 have G4 : w4.heap[w3.heap.size]? = some (.cells #[.int .i64 rt.lv,.slice ta lt tc,.int .i64 rt.ri] 105 (0,0)) := by rw [hw4]; exact heap_alloc_new w3 _
 have B24 := hide (hb3.trans (b4.mono hb3.size))
 have HW4 := hide hw4
 have BX4 := hide (BX2.out.below B24.out)
 have HLQ4 := hide (HLQ2.out.below B24.out)
 have B04 := hide (B2.out.trans (B24.out.mono B2.out.size))
 clear hw4 b4 hb3 c0
 go_wp2_with fail
 go_step3
 rw [← HW4.out]
 obtain ⟨t0,t1,t2⟩ := tri_at G4
 clear G4
 go_wp2_with fail
 clear t0 t1 t2
 generalize hrlv : rt.lv = rlv at *
 clear hrlv
 go_loopg [4,7] (s.sl.length + 1) (fun gn q4 q7 wr => ∃ id lev,q4 = .int .i64 id ∧ q7 = .int .i64 lev ∧ Hid (∃ O g,DQ W wr (fun k => X k ∨ k = W.heap.size ∨ k = W.heap.size + 1) B m N A nd lf inn fl bk s O lev id g R ∧ gn + O.flatten.length = s.sl.length + 1) ∧ Hid (Bxs wr W.heap.size ∧ W.heap.size + 2 ≤ wr.heap.size))
 case atStart => exact ⟨root,rlv,rfl,rfl,⟨[],s.sl.length + 1,⟨⟨none,0,[],HLQ4.out⟩,Lvs.nil _ _ _,HR.out,Nat.le_refl _,B04.out.mono HNW.out⟩,rfl⟩,BX4.out,by have := HZ2.out; have := B24.out.size; omega⟩
 case round =>
  obtain ⟨id,lev,rfl,rfl,HD,HX⟩ := hrel
  obtain ⟨go,rfl⟩ : ∃ go,go = gk := ⟨_,rfl⟩
  obtain ⟨O,g,hdq,hgn⟩ := HD.out
  obtain ⟨⟨ga,gc,ov,hlq⟩,hL,hr,hg,hb⟩ := hdq
  have hml : O.flatten.length ≤ s.sl.length := by have := hL.met.len; rw [List.length_map] at this; exact this
  have hsl := HSL.out.1
  have hge := flat_ge hL.ne
  obtain ⟨g',rfl⟩ : ∃ g',g = g' + 1 := ⟨g - 1,by omega⟩
  rw [lvs_succ] at hr
  have hidl : (idsOf (chQ O)).length = O.flatten.length := by rw [chQ_ids,List.length_map]
  rw [hidl] at hr
  have HLQ := hide hlq
  have HLV := hide hL
  have HRR := hide hr
  have HBW := hide hb
  have HG := hide hg
  have HGN := hide hgn
  obtain ⟨q,hq⟩ : ∃ q,O.length = q := ⟨_,rfl⟩
  have c7 : wr.cell? ⟨B,7,none⟩ = some (.slice ga q gc) := by rw [← hq]; exact hlq.cells.2.2
  have HROW : Hid (wr.ownsRow N 51 1 (.slice ga q gc) q (ov.map IL.v)) := by show World.ownsRow _ _ _ _ _ _ _; rw [← hq]; exact hlq.row
  have HNB : Hid (N ≤ wr.heap.size ∧ N ≤ B) := ⟨by have := hlq.mut_lt B (.inl rfl); omega,hlq.nB⟩
  have hqz : q ≤ 65536 := by omega
  have HQ := hide hq
  have HBB : Hid (∀ (Y : World),wr.heap[B]? = Y.heap[B]? → Y.cell? ⟨B,7,none⟩ = some (.slice ga q gc) ∧ Y.frozen? ⟨B,7,none⟩ = false) := fun Y hY => by
   have hbB : Y.heap[B]? = some (.cells (lookC A nd lf inn fl bk m (.slice ga O.length gc)) 178 (0,0)) := by rw [← hY]; exact hlq.b
   exact ⟨by rw [cell_of_row _ _ _ _ _ _ hbB,hq]; rfl,frozen_of hbB 7⟩
  have HGB : Hid (some B ≠ (Value.slice ga q gc).ownBlock ∧ B < wr.heap.size) := ⟨fun e => by obtain ⟨y,e1,e2⟩ := LW.lc_ob ga _ _ B e.symm; exact (hlq.gB y e1).1 e2,lt_of_block hlq.b⟩
  have HXX : Hid (∀ k,k = W.heap.size ∨ k = W.heap.size + 1 → ¬ LMut B m ga none k) := fun k hk => (hlq.x k (.inr hk)).2
  clear hlq hL hr hg hb hgn hge hml hq hidl HD
  go_wp2_with (first
   | (at_builtin; refine append_mineN rfl (.tmp 34) (.tmp 35) 176 rfl N 51 iS (.slice none 0 0) 1 24 Tryz.underlying176 hiS hzS0 hzS1 hzS2 rfl (by decide) (.slice ga q gc) q (ov.map IL.v) rfl (HROW.out.alloc _) ⟨wr.heap.size,0,none⟩ 1 1 [.slice none 0 0] rfl rfl (cell_one_new _ _ _) (by intro u hu; simp at hu; subst hu; rfl) (by omega) (by unfold maxLen; omega) (by omega) (by have := HNB.out.1; simp; omega) ?_; intro g6 c6 w6 o6 gr6 k6; have O6 := hide o6; have GR6 := hide gr6; have K6 := hide k6; have f7 := HBB.out w6 (((gr6.block B (by have := HGB.out.2; simp; omega) HGB.out.1).trans (Below.heap_alloc _ _ _ HGB.out.2)).symm); obtain ⟨f71,f72⟩ := f7; clear o6 gr6 k6)
   | fail)
  have BA : Hid (Below wr.heap.size wr (wr.alloc (.cells #[.slice none 0 0] 51))) := (Below.refl _ _).alloc (Nat.le_refl _) _
  have LW7 := hide (HLQ.out.next BA.out (by rw [HQ.out]; exact O6.out) (by rw [HQ.out]; exact GR6.out) (by rw [HQ.out]; exact K6.out))
  have UB7 := hide (HLQ.out.next_upd BA.out (.slice (some ⟨g6,0,none⟩) (O.length + 1) c6) (by rw [HQ.out]; exact GR6.out))
  rw [HQ.out] at LW7 UB7
  generalize hw7 : w6.setCell ⟨B,7,none⟩ (.slice (some ⟨g6,0,none⟩) (q + 1) c6) = w7 at *
  have BX7 : Hid (Bxs w7 W.heap.size ∧ W.heap.size + 2 ≤ w7.heap.size) := ⟨HX.out.1.upd UB7.out.1 (HXX.out _ (.inl rfl)) (HXX.out _ (.inr rfl)),Nat.le_trans HX.out.2 UB7.out.1.size⟩
  have hml : O.flatten.length ≤ s.sl.length := by have := HLV.out.met.len; rw [List.length_map] at this; exact this
  have DW7 : Hid (DW W w7 (fun k => X k ∨ k = W.heap.size ∨ k = W.heap.size + 1) B m N A nd lf inn fl bk s O [] lev id ⟨none,0,[]⟩ g' R) := ⟨⟨_,_,none,0,ov,LW7.out,fun y e => by cases e⟩,Tx.nil_ok _,HLV.out.cur,HLV.out,⟨s.sl.length + 1 - O.flatten.length,by simp only [List.length_nil,Nat.add_zero]; omega,HRR.out⟩,by have := HG.out; omega,HBW.out.trans UB7.out.2⟩
  clear hw7 c7 f71 f72 LW7 UB7 HBB HGB HXX O6 GR6 K6 BA HX HROW
  go_loopg [4,8] (s.sl.length + 1 - O.flatten.length) (fun gi q4 q8 wy => ∃ id low cur,q4 = .int .i64 id ∧ q8 = Tx.v low ∧ Hid (DW W wy (fun k => X k ∨ k = W.heap.size ∨ k = W.heap.size + 1) B m N A nd lf inn fl bk s O cur lev id low g' R ∧ gi + (O.flatten.length + cur.length) = s.sl.length + 1) ∧ Hid (Bxs wy W.heap.size ∧ W.heap.size + 2 ≤ wy.heap.size))
  case atStart => exact ⟨id,⟨none,0,[]⟩,[],rfl,rfl,⟨DW7.out,by simp only [List.length_nil,Nat.add_zero]; omega⟩,BX7⟩
  case round =>
   clear DW7 BX7 HRR HG HBW HLQ HNB hml
   obtain ⟨id,low,cur,rfl,rfl,HDW,HBX⟩ := hrel
   rename World => wy
   obtain ⟨hdw,hgi⟩ := HDW.out
   obtain ⟨⟨ga,gc,la,lc,ov,hlw,hli⟩,hlo,hc,hl,⟨f,hf,hR⟩,hg2,hb2⟩ := hdw
   have hml2 : O.flatten.length + cur.length ≤ s.sl.length := by have := hc.met.len; rw [List.length_map,List.length_append] at this; exact this
   obtain ⟨f',rfl⟩ : ∃ f',f = f' + 1 := ⟨f - 1,by omega⟩
   rw [chn_succ,ids_all] at hR
   obtain ⟨er,her⟩ : ∃ er,er = s.metE (fun p => nchkE p nd lf inn fl bk) lev low.s ((O.flatten ++ cur).map (·.id)) id := ⟨_,rfl⟩
   rw [← her] at hR
   have hge := flat_ge hl.ne
   have hNy : N ≤ wy.heap.size := by have := hlw.mut_lt B (.inl rfl); omega
   have HM := hide (meet_any hlw (HPX.out wy hb2) hNy id lev low hlo hli (by omega) (by omega) HCF.out er her)
   have HRR := hide hR
   have HER := hide her
   have HC := hide hc
   have HLO := hide hlo
   have HFG := hide (And.intro hf (And.intro hg2 hgi))
   have HBW := hide hb2
   have HXX : Hid (∀ k,k = W.heap.size ∨ k = W.heap.size + 1 → ¬ LMut B m ga la k) := fun k hk => (hlw.x k (.inr hk)).2
   have HNY : Hid (N ≤ wy.heap.size ∧ O.length ≤ 65536 ∧ O.flatten.length + cur.length ≤ s.sl.length) := ⟨hNy,by omega,hml2⟩
   have HMU : Hid (∀ k,k < N → ¬ LMut B m ga la k) := fun k hk e => by have := hlw.mut_lt k e; omega
   obtain ⟨oa,oc,os⟩ := low
   simp only [Tx.v] at HM ⊢
   generalize hlo' : os.length = lo at *
   clear hlo' hlw hli hlo hc hl hf hR hg2 hb2 hml2 her hge hNy hgi HDW
   go_wp2_with fail
   refine HM.out.mono ?_
   rintro e w2 ⟨n,rfl,hu2,hok⟩
   have BX2 : Hid (Bxs w2 W.heap.size ∧ W.heap.size + 2 ≤ w2.heap.size) := ⟨HBX.out.1.upd hu2 (HXX.out _ (.inl rfl)) (HXX.out _ (.inr rfl)),Nat.le_trans HBX.out.2 hu2.size⟩
   have HOK := hide hok
   have BW2 : Hid (Below N W w2) := HBW.out.trans (hu2.below HNY.out.1 HMU.out)
   have HN2 : Hid (N ≤ w2.heap.size) := Nat.le_trans HNY.out.1 hu2.size
   obtain ⟨n0,hn0⟩ : ∃ n' : Nd,n' = n := ⟨n,rfl⟩
   rw [← hn0] at HOK
   obtain ⟨nlv,⟨ha,hc,hs⟩,ri,⟨ka,kc,K⟩,⟨va,vc,V⟩,⟨ca,cc,C⟩⟩ := n
   have HNF : Hid (n0.ri = ri ∧ n0.hi = ⟨ha,hc,hs⟩) := by rw [hn0]; exact ⟨rfl,rfl⟩
   simp only [Nd.v,Tx.v,TL.v,IL.v]
   obtain ⟨lh,hlh⟩ : ∃ lh,hs.length = lh := ⟨_,rfl⟩
   rw [hlh]
   have HLH := hide hlh
   generalize K.length = lk at *
   generalize V.length = lw at *
   generalize C.length = lcc at *
   clear hn0 hok hu2 hlh
   obtain ⟨w3,hw3⟩ : ∃ w3,w3 = w2.alloc (.cells #[.int .i64 nlv,.slice ha lh hc,.int .i64 ri,.slice ka lk kc,.slice va lw vc,.slice ca lcc cc] 110) := ⟨_,rfl⟩
   have b3 : Below w2.heap.size w2 w3 := by rw [hw3]; exact (Below.refl _ _).alloc (Nat.le_refl _) _
   have G3 : Hid (w3.heap[w2.heap.size]? = some (.cells #[.int .i64 nlv,.slice ha lh hc,.int .i64 ri,.slice ka lk kc,.slice va lw vc,.slice ca lcc cc] 110 (0,0))) := by show _ = _; rw [hw3]; exact heap_alloc_new w2 _
   have B23 := hide b3
   have BX3 : Hid (Bxs w3 W.heap.size ∧ W.heap.size + 2 ≤ w3.heap.size) := ⟨BX2.out.1.below b3,Nat.le_trans BX2.out.2 b3.size⟩
   have BW3 : Hid (Below N W w3) := BW2.out.trans (b3.mono HN2.out)
   have HN3 : Hid (N ≤ w3.heap.size) := Nat.le_trans HN2.out b3.size
   have HW3 := hide hw3
   clear hw3 b3
   go_upto_region 9 with fail
   rw [← HW3.out]
   by_cases her0 : er = 0
   ·obtain ⟨hnp,la',lc',hlw2⟩ := HOK.out her0
    have hlw3 := hlw2.below B23.out
    have hR3 := HRR.out
    rw [her0] at hR3
    simp only [ne_eq,not_true_eq_false,if_false] at hR3
    have HCU : Hid (Cur s (fun p => nchkE p nd lf inn fl bk) O (cur ++ [⟨id,⟨oa,oc,os⟩,n0⟩]) lev) := HC.out.add hnp (by rw [← her0]; exact HER.out.symm)
    have hrin : (s.n id).ri = ri := by rw [← hnp]; exact HNF.out.1
    have hhin : (s.n id).hi = hs := by rw [← hnp]; show n0.hi.s = hs; rw [HNF.out.2]
    rw [hrin,hhin] at hR3
    have hqq : cur.map Sp.q ++ [(id,os)] = (cur ++ [(⟨id,⟨oa,oc,os⟩,n0⟩ : Sp)]).map Sp.q := by simp [Sp.q]
    rw [hqq] at hR3
    have HR3 := hide hR3
    have HLW3 := hide hlw3
    have HNP := hide hnp
    obtain ⟨x,hx⟩ : ∃ x : Sp,x = ⟨id,⟨oa,oc,os⟩,n0⟩ := ⟨_,rfl⟩
    rw [← hx] at HCU HR3 HLW3
    have HX := hide hx
    clear hnp hlw2 hlw3 hR3 hrin hhin hqq hx
    obtain rfl := her0
    clear HOK HRR HER HC
    obtain ⟨s0,s1,s2,s3,s4,s5⟩ := Six.of G3.out
    by_cases hri : ri = 0
    ·rw [if_pos hri] at HR3
     subst hri
     have LQ3 := hide HLW3.out.shut
     have hne : cur ++ [x] ≠ [] := by simp
     have hlev : 0 ≤ lev := by
      have h1 := HCU.out.ck x (by simp)
      have h2 := HCU.out.lv x (by simp)
      have h3 := (HLW3.out.sp x (by simp)).p
      rw [← h3] at h1
      have := (nchk_facts h1).1
      have h4 : x.n.p.lv = x.n.lv := rfl
      omega
     have hlev2 : lev ≤ 32 := by
      have h1 := HCU.out.ck x (by simp)
      have h2 := HCU.out.lv x (by simp)
      have h3 := (HLW3.out.sp x (by simp)).p
      rw [← h3] at h1
      have := (nchk_facts h1).2.1
      have h4 : x.n.p.lv = x.n.lv := rfl
      omega
     have HST := hide (stray_both LQ3.out HLV.out HCU.out hlev HSL.out.1)
     have HPOS : Hid (∀ u,s.stray ((chQ O).getLastD []) ((cur ++ [x]).map Sp.q) = some u → 1 ≤ u) := fun u hu => stray_pos hu (fun y hy => by
      have hy2 : y.1 ∈ O.flatten.map (·.id) := by
       rcases List.eq_nil_or_concat O with rfl | ⟨O',up,rfl⟩
       ·cases hy
       ·rw [List.concat_eq_append,chQ_snoc] at hy
        simp only [List.getLastD_concat] at hy
        obtain ⟨z,hz,rfl⟩ := List.mem_map.1 hy
        rw [List.concat_eq_append]
        exact List.mem_map.2 ⟨z,by simp [hz],rfl⟩
      exact (HLV.out.met.inn _ hy2).1)
     unfold AS.step at HR3
     simp only at HR3
     cases hst : s.stray ((chQ O).getLastD []) ((cur ++ [x]).map Sp.q) with
     | some u =>
      rw [hst] at HR3 HST
      simp only [Option.getD_some] at HR3 HST
      have hu := HPOS.out u hst
      have hu0 : ¬ u = 0 := by omega
      have hu1 : (u == 0) = false := by rw [beq_eq_false_iff_ne]; exact hu0
      clear hst HPOS
      go_wp2_with fail
      refine HST.out.mono ?_
      rintro e w4 ⟨rfl,hb4⟩
      have BW4 : Hid (Below N W w4) := BW3.out.trans (hb4.mono HN3.out)
      have BX4' : Hid (Bxs w4 W.heap.size) := BX3.out.1.below hb4
      have HN4 : Hid (N ≤ w4.heap.size) := Nat.le_trans HN3.out hb4.size
      clear hb4 s0 s1 s2 s3 s4 s5
      have HWR := hide (swrong_any u 113 w4)
      go_wp2_with fail
      refine HWR.out.mono ?_
      rintro e w5 ⟨rfl,hb5⟩
      have BW5 : Hid (Below N W w5) := BW4.out.trans (hb5.mono HN4.out)
      have HBV : Hid (Bxs w5 W.heap.size) := BX4'.out.below hb5
      have HNS : Hid (N ≤ w5.heap.size) := Nat.le_trans HN4.out hb5.size
      simp only [rpt]
      clear hb5
      obtain ⟨y0,y1,y2,y3,y4,y5⟩ := Six.of HBV.out.2
      have F3 := fun j => frozen_of HBV.out.2 j
      obtain ⟨w8,hw8⟩ : ∃ x,x = six6 w5 (W.heap.size + 1) (.bool false) (.int .i64 u) (.int .i64 113) (.int .i64 0) (.int .i64 0) (.int .i64 0) := ⟨_,rfl⟩
      have U8 : Upd (fun b => b = W.heap.size + 1) w5 w8 := by rw [hw8]; exact six_upd _ _ _ _ _ _ _ _ _ rfl
      have G83 : w8.heap[W.heap.size + 1]? = some (.cells #[.bool false,.int .i64 u,.int .i64 113,.int .i64 0,.int .i64 0,.int .i64 0] 54 (0,0)) := by rw [hw8]; exact six_block HBV.out.2 _ _ _ _ _ _
      have G82 : Hid (w8.heap[W.heap.size]? = some (.cells #[.bool false,.int .i64 0,.int .i64 0,.int .i64 0,.int .i64 0,.int .i64 0] 54 (0,0))) := U8.heap HBV.out.1 (by omega)
      have HU8 := hide U8
      have HW8 : Hid (w8 = ((((((w5.setCell ⟨W.heap.size + 1,0,none⟩ (.bool false)).setCell ⟨W.heap.size + 1,1,none⟩ (.int .i64 u)).setCell ⟨W.heap.size + 1,2,none⟩ (.int .i64 113)).setCell ⟨W.heap.size + 1,3,none⟩ (.int .i64 0)).setCell ⟨W.heap.size + 1,4,none⟩ (.int .i64 0)).setCell ⟨W.heap.size + 1,5,none⟩ (.int .i64 0))) := hw8
      obtain ⟨p0,p1,p2,p3,p4,p5⟩ := Six.of G83
      obtain ⟨o0,o1,o2,o3,o4,o5⟩ := Six.of G82.out
      have F2 := fun j => frozen_of G82.out j
      clear hw8 U8 G83
      go_upto_region 19 with fail
      rw [← HW8.out]
      clear y0 y1 y2 y3 y4 y5 F3
      go_wp2_with fail
      (try simp only [Exit.inBlock,Exit.then])
      (try rw [Exit.noGoto_ret])
      have G9 := six_block G82.out (.bool false) (.int .i64 u) (.int .i64 113) (.int .i64 0) (.int .i64 0) (.int .i64 0)
      have U9 : Upd (fun b => b = W.heap.size) w8 (six6 w8 W.heap.size (.bool false) (.int .i64 u) (.int .i64 113) (.int .i64 0) (.int .i64 0) (.int .i64 0)) := six_upd _ _ _ _ _ _ _ _ _ rfl
      obtain ⟨q0,q1,q2,q3,q4,q5⟩ := Six.of G9
      show bodyPost _ _ _ _ _ (six6 w8 W.heap.size (.bool false) (.int .i64 u) (.int .i64 113) (.int .i64 0) (.int .i64 0) (.int .i64 0))
      generalize six6 w8 W.heap.size (.bool false) (.int .i64 u) (.int .i64 113) (.int .i64 0) (.int .i64 0) (.int .i64 0) = w9 at *
      refine bodyPost_ret (v := rpt false u 113 0 0 0) (by simp [results,Tryz.results91,go_sem,q0,q1,q2,q3,q4,q5,rpt]) rfl ?_
      have UU : Upd (fun b => b = W.heap.size ∨ b = W.heap.size + 1) w5 w9 := (HU8.out.mono (fun k _ e => Or.inr e)).then U9 (fun k _ e => .inl e)
      have BB : Below N w5 w9 := UU.below (by have := HNS.out; omega) (fun k hk e => by have := HNW.out; omega)
      exact ⟨BW5.out.trans BB,.inl ⟨u,113,HR3.out,rfl⟩⟩
     | none =>
      rw [hst] at HR3 HST
      simp only [Option.getD_none] at HR3 HST
      clear hst HPOS
      go_wp2_with fail
      refine HST.out.mono ?_
      rintro e w4 ⟨rfl,hb4⟩
      have BW4 : Hid (Below N W w4) := BW3.out.trans (hb4.mono HN3.out)
      have BX4' : Hid (Bxs w4 W.heap.size ∧ W.heap.size + 2 ≤ w4.heap.size) := ⟨BX3.out.1.below hb4,Nat.le_trans BX3.out.2 hb4.size⟩
      have HN4 : Hid (N ≤ w4.heap.size) := Nat.le_trans HN3.out hb4.size
      have LQ4 := hide (LQ3.out.below hb4)
      clear hb4 s0 s1 s2 s3 s4 s5
      by_cases hl0 : lev = 0
      ·subst hl0
       rw [if_pos rfl] at HR3
       have hchl : (cur ++ [x]).length ≤ 65536 := by have h1 := HCU.out.met.len; have h2 := HSL.out.1; rw [List.length_map,List.length_append] at h1; omega
       have HSD := hide (sound_any LQ4.out O.length (by simp) HNY.out.2.1 (by simpa using hchl))
       have hgd : (O ++ [cur ++ [x]]).getD O.length [] = cur ++ [x] := by simp
       rw [hgd] at HSD
       clear hgd hchl
       generalize hQ : wdS (cur ++ [x]) = WD at *
       have HWD := hide hQ
       clear hQ
       obtain ⟨ol,hol⟩ : ∃ ol,(O ++ [cur ++ [x]]).length = ol := ⟨_,rfl⟩
       obtain ⟨fo,hfo⟩ : ∃ fo,(O ++ [cur ++ [x]]).flatten.length = fo := ⟨_,rfl⟩
       rw [hol,hfo] at HSD
       have HOL := hide (And.intro hol hfo)
       clear hol hfo
       go_wp2_with fail
       refine HSD.out.mono ?_
       rintro e w5 ⟨rfl,hb5⟩
       have BW5 : Hid (Below N W w5) := BW4.out.trans (hb5.mono HN4.out)
       have HBV : Hid (Bxs w5 W.heap.size) := BX4'.out.1.below hb5
       have HNS : Hid (N ≤ w5.heap.size) := Nat.le_trans HN4.out hb5.size
       have LQ5 := hide (LQ4.out.below hb5)
       simp only [rpt]
       clear hb5
       obtain ⟨y0,y1,y2,y3,y4,y5⟩ := Six.of HBV.out.2
       have F3 := fun j => frozen_of HBV.out.2 j
       obtain ⟨w8,hw8⟩ : ∃ x,x = six6 w5 (W.heap.size + 1) (.bool true) (.int .i64 0) (.int .i64 0) (.int .i64 (ol : Nat)) (.int .i64 (fo : Nat)) (.int .i64 (WD : Nat)) := ⟨_,rfl⟩
       have U8 : Upd (fun b => b = W.heap.size + 1) w5 w8 := by rw [hw8]; exact six_upd _ _ _ _ _ _ _ _ _ rfl
       have G83 : w8.heap[W.heap.size + 1]? = some (.cells #[.bool true,.int .i64 0,.int .i64 0,.int .i64 (ol : Nat),.int .i64 (fo : Nat),.int .i64 (WD : Nat)] 54 (0,0)) := by rw [hw8]; exact six_block HBV.out.2 _ _ _ _ _ _
       have G82 : Hid (w8.heap[W.heap.size]? = some (.cells #[.bool false,.int .i64 0,.int .i64 0,.int .i64 0,.int .i64 0,.int .i64 0] 54 (0,0))) := U8.heap HBV.out.1 (by omega)
       have HU8 := hide U8
       have HW8 : Hid (w8 = ((((((w5.setCell ⟨W.heap.size + 1,0,none⟩ (.bool true)).setCell ⟨W.heap.size + 1,1,none⟩ (.int .i64 0)).setCell ⟨W.heap.size + 1,2,none⟩ (.int .i64 0)).setCell ⟨W.heap.size + 1,3,none⟩ (.int .i64 (ol : Nat))).setCell ⟨W.heap.size + 1,4,none⟩ (.int .i64 (fo : Nat))).setCell ⟨W.heap.size + 1,5,none⟩ (.int .i64 (WD : Nat)))) := hw8
       obtain ⟨p0,p1,p2,p3,p4,p5⟩ := Six.of G83
       obtain ⟨o0,o1,o2,o3,o4,o5⟩ := Six.of G82.out
       have F2 := fun j => frozen_of G82.out j
       clear hw8 U8 G83
       go_upto_region 19 with fail
       rw [← HW8.out]
       clear y0 y1 y2 y3 y4 y5 F3
       go_wp2_with fail
       (try simp only [Exit.inBlock,Exit.then])
       (try rw [Exit.noGoto_ret])
       have G9 := six_block G82.out (.bool true) (.int .i64 0) (.int .i64 0) (.int .i64 (ol : Nat)) (.int .i64 (fo : Nat)) (.int .i64 (WD : Nat))
       have U9 : Upd (fun b => b = W.heap.size) w8 (six6 w8 W.heap.size (.bool true) (.int .i64 0) (.int .i64 0) (.int .i64 (ol : Nat)) (.int .i64 (fo : Nat)) (.int .i64 (WD : Nat))) := six_upd _ _ _ _ _ _ _ _ _ rfl
       obtain ⟨q0,q1,q2,q3,q4,q5⟩ := Six.of G9
       show bodyPost _ _ _ _ _ (six6 w8 W.heap.size (.bool true) (.int .i64 0) (.int .i64 0) (.int .i64 (ol : Nat)) (.int .i64 (fo : Nat)) (.int .i64 (WD : Nat)))
       generalize six6 w8 W.heap.size (.bool true) (.int .i64 0) (.int .i64 0) (.int .i64 (ol : Nat)) (.int .i64 (fo : Nat)) (.int .i64 (WD : Nat)) = w9 at *
       refine bodyPost_ret (v := rpt true 0 0 (ol : Nat) (fo : Nat) (WD : Nat)) (by simp [results,Tryz.results91,go_sem,q0,q1,q2,q3,q4,q5,rpt]) rfl ?_
       have UU : Upd (fun b => b = W.heap.size ∨ b = W.heap.size + 1) w5 w9 := (HU8.out.mono (fun k _ e => Or.inr e)).then U9 (fun k _ e => .inl e)
       have BB : Below N w5 w9 := UU.below (by have := HNS.out; omega) (fun k hk e => by have := HNW.out; omega)
       have LQ9 := LQ5.out.other (UU.mono (fun k _ e => Or.inr e))
       have LQ10 := LQ9.more (Below.refl _ _) (X' := X) (fun k hk => .inl (.inl hk)) (fun k hk => (LQ9.mut_lt k hk).2)
       exact ⟨BW5.out.trans BB,.inr ⟨_,_,O ++ [cur ++ [x]],_,cur ++ [x],by rw [chQ_snoc]; exact HR3.out,by simp,by rw [HOL.out.1,HOL.out.2,HWD.out],LQ10,HCU.out.shut HLV.out hne⟩⟩
      ·rw [if_neg hl0] at HR3
       have HFB := hide (first_both LQ4.out HCU.out hne (by omega) HNY.out.2.1)
       have hw1 : IntKind.i64.wrap (lev - 1) = lev - 1 := by unfold IntKind.wrap; simp [IntKind.bits,IntKind.signed]; omega
       have hl1 : (lev == 0) = false := by rw [beq_eq_false_iff_ne]; exact hl0
       generalize s.first ((cur ++ [x]).map Sp.q) = fid at *
       go_wp2_with fail
       refine HFB.out.mono ?_
       rintro e w5 ⟨rfl,hb5⟩
       have BW5 : Hid (Below N W w5) := BW4.out.trans (hb5.mono HN4.out)
       have BX5 : Hid (Bxs w5 W.heap.size ∧ W.heap.size + 2 ≤ w5.heap.size) := ⟨BX4'.out.1.below hb5,Nat.le_trans BX4'.out.2 hb5.size⟩
       have LQ5 := hide (LQ4.out.below hb5)
       clear hb5
       go_wp2_with fail
       go_roundg (s.sl.length + 1 - (O.flatten.length + (cur.length + 1)))
       case measure => have := HGN.out; have := HNY.out.2.2; omega
       case rel =>
        have hfl : (O ++ [cur ++ [x]]).flatten.length = O.flatten.length + (cur.length + 1) := by simp
        have hmt := HCU.out.met.len
        rw [List.length_map,List.length_append,List.length_append] at hmt
        simp only [List.length_cons,List.length_nil] at hmt
        exact ⟨fid,lev - 1,rfl,by go_num,⟨O ++ [cur ++ [x]],g',⟨⟨_,_,_,LQ5.out⟩,HCU.out.shut HLV.out hne,by rw [chQ_snoc]; exact HR3.out,by rw [hfl]; have := HFG.out.2.1; omega,BW5.out⟩,by rw [hfl]; omega⟩,BX5⟩
    ·rw [if_neg hri] at HR3
     have hri1 : (ri == 0) = false := by rw [beq_eq_false_iff_ne]; exact hri
     go_wp2_with fail
     go_quiet (fail)
     go_wp2_with fail
     go_roundg (s.sl.length + 1 - (O.flatten.length + (cur.length + 1)))
     case measure => have := HFG.out.2.2; have := HNY.out.2.2; omega
     case rel =>
      have hmt := HCU.out.met.len
      rw [List.length_map,List.length_append,List.length_append] at hmt
      simp only [List.length_cons,List.length_nil] at hmt
      have hcl : (cur ++ [x]).length = cur.length + 1 := by simp
      have hxo := HLW3.out.sp x (by simp)
      have hxn : x.n = n0 := by rw [HX.out]
      refine ⟨ri,⟨ha,hc,hs⟩,cur ++ [x],rfl,by simp only [Tx.v,HLH.out],⟨⟨⟨_,_,_,_,_,HLW3.out.below (below_drewN (Below.refl _ _) _),fun y e l => ?_⟩,?_,HCU.out,HLV.out,⟨f',by rw [hcl]; have := HFG.out.1; omega,HR3.out⟩,HFG.out.2.1,below_drewN BW3.out _⟩,by rw [hcl]; omega⟩,⟨BX3.out.1.below (below_drewN (Below.refl _ _) _),by simpa using BX3.out.2⟩⟩
      ·have := hxo.ni.h y (by rw [hxn,HNF.out.2]; exact e) (by rw [hxn,HNF.out.2]; exact l)
       exact this
      ·have := hxo.n.h
       rw [hxn,HNF.out.2] at this
       exact this.drewN _
   ·have hR3 := HRR.out
    rw [if_pos her0] at hR3
    have HR3 : Hid (R = .inl (id,er)) := hR3
    have her1 : (er == 0) = false := by rw [beq_eq_false_iff_ne]; exact her0
    have HWR := hide (swrong_any id er w3)
    clear hR3 HOK
    go_wp2_with fail
    refine HWR.out.mono ?_
    rintro e w5 ⟨rfl,hb5⟩
    have BW5 : Hid (Below N W w5) := BW3.out.trans (hb5.mono HN3.out)
    have HBV : Hid (Bxs w5 W.heap.size) := BX3.out.1.below hb5
    have HNS : Hid (N ≤ w5.heap.size) := Nat.le_trans HN3.out hb5.size
    simp only [rpt]
    clear hb5
    obtain ⟨y0,y1,y2,y3,y4,y5⟩ := Six.of HBV.out.2
    have F3 := fun j => frozen_of HBV.out.2 j
    obtain ⟨w8,hw8⟩ : ∃ x,x = six6 w5 (W.heap.size + 1) (.bool false) (.int .i64 id) (.int .i64 er) (.int .i64 0) (.int .i64 0) (.int .i64 0) := ⟨_,rfl⟩
    have U8 : Upd (fun b => b = W.heap.size + 1) w5 w8 := by rw [hw8]; exact six_upd _ _ _ _ _ _ _ _ _ rfl
    have G83 : w8.heap[W.heap.size + 1]? = some (.cells #[.bool false,.int .i64 id,.int .i64 er,.int .i64 0,.int .i64 0,.int .i64 0] 54 (0,0)) := by rw [hw8]; exact six_block HBV.out.2 _ _ _ _ _ _
    have G82 : Hid (w8.heap[W.heap.size]? = some (.cells #[.bool false,.int .i64 0,.int .i64 0,.int .i64 0,.int .i64 0,.int .i64 0] 54 (0,0))) := U8.heap HBV.out.1 (by omega)
    have HU8 := hide U8
    have HW8 : Hid (w8 = ((((((w5.setCell ⟨W.heap.size + 1,0,none⟩ (.bool false)).setCell ⟨W.heap.size + 1,1,none⟩ (.int .i64 id)).setCell ⟨W.heap.size + 1,2,none⟩ (.int .i64 er)).setCell ⟨W.heap.size + 1,3,none⟩ (.int .i64 0)).setCell ⟨W.heap.size + 1,4,none⟩ (.int .i64 0)).setCell ⟨W.heap.size + 1,5,none⟩ (.int .i64 0))) := hw8
    obtain ⟨p0,p1,p2,p3,p4,p5⟩ := Six.of G83
    obtain ⟨o0,o1,o2,o3,o4,o5⟩ := Six.of G82.out
    have F2 := fun j => frozen_of G82.out j
    clear hw8 U8 G83
    go_upto_region 19 with fail
    rw [← HW8.out]
    clear y0 y1 y2 y3 y4 y5 F3
    go_wp2_with fail
    (try simp only [Exit.inBlock,Exit.then])
    (try rw [Exit.noGoto_ret])
    have G9 := six_block G82.out (.bool false) (.int .i64 id) (.int .i64 er) (.int .i64 0) (.int .i64 0) (.int .i64 0)
    have U9 : Upd (fun b => b = W.heap.size) w8 (six6 w8 W.heap.size (.bool false) (.int .i64 id) (.int .i64 er) (.int .i64 0) (.int .i64 0) (.int .i64 0)) := six_upd _ _ _ _ _ _ _ _ _ rfl
    obtain ⟨q0,q1,q2,q3,q4,q5⟩ := Six.of G9
    show bodyPost _ _ _ _ _ (six6 w8 W.heap.size (.bool false) (.int .i64 id) (.int .i64 er) (.int .i64 0) (.int .i64 0) (.int .i64 0))
    generalize six6 w8 W.heap.size (.bool false) (.int .i64 id) (.int .i64 er) (.int .i64 0) (.int .i64 0) (.int .i64 0) = w9 at *
    refine bodyPost_ret (v := rpt false id er 0 0 0) (by simp [results,Tryz.results91,go_sem,q0,q1,q2,q3,q4,q5,rpt]) rfl ?_
    have UU : Upd (fun b => b = W.heap.size ∨ b = W.heap.size + 1) w5 w9 := (HU8.out.mono (fun k _ e => Or.inr e)).then U9 (fun k _ e => .inl e)
    have BB : Below N w5 w9 := UU.below (by have := HNS.out; omega) (fun k hk e => by have := HNW.out; omega)
    exact ⟨BW5.out.trans BB,.inl ⟨id,er,HR3.out,rfl⟩⟩
end
end Go.Proofs.YtljnapejgjffjaaGreat
