/- Texts of one's own. -/
import Derived.Test.YtljnapejgjffjaaGreatH27
namespace Go.Proofs.YtljnapejgjffjaaGreat
open Go.RowKit
set_option maxRecDepth 100000
section
variable {W : World} {P : Nat} {lev : Int} {mo : Nat} {a0 a3 a4 a5 a12 : Value}
set_option maxHeartbeats 1600000 in
theorem choose_low (n : Nd) (k : Tx) (h : W.heap[P]? = some (.cells #[a0,k.v,.int .i64 lev,a3,a4,a5,.int .i64 n.lv,n.hi.v,.int .i64 n.ri,n.ks.v,n.vs.v,n.cs.v,a12,.int .i64 (mo : Nat)] 195 (0,0))) (hn : n.Ok W) (hk : k.Ok W) (hlv : n.lv < lev) : Calls Tryz.prog 212 #[.pointer (some ⟨P,0,none⟩)] W (MbP W P #[a0,k.v,.int .i64 lev,a3,a4,a5,.int .i64 n.lv,n.hi.v,.int .i64 n.ri,n.ks.v,n.vs.v,n.cs.v,a12,.int .i64 (mo : Nat)] (.bool false)) := by
 have HBE : Hid (∀ W',Below W.heap.size W W' → Calls Tryz.prog 194 #[n.v,k.v] W' fun e w' => e = .returned (.bool (beyB n.hi.s k.s)) ∧ Below W'.heap.size W' w') := fun W' hb => beyond_any n k W' (hn.below hb) (hk.below hb)
 have HCH : Hid (∀ W',Below W.heap.size W W' → Calls Tryz.prog 214 #[n.v,k.v] W' fun e w' => e = .returned (.int .i64 (chiN n.ks.p n.cs.s k.s)) ∧ Below W'.heap.size W' w') := fun W' hb => child_any n k W' (hn.below hb) (hk.below hb)
 generalize beyB n.hi.s k.s = bey at *
 generalize chiN n.ks.p n.cs.s k.s = chi at *
 clear hn hk
 obtain ⟨lv,⟨ha,hc,hs⟩,ri,⟨ka,kc,K⟩,⟨va,vc,V⟩,⟨ca,cc,C⟩⟩ := n
 obtain ⟨xa,xc,xs⟩ := k
 simp only [Nd.v,Tx.v,TL.v,IL.v] at *
 generalize hs.length = lh at *
 generalize K.length = lk at *
 generalize V.length = lw at *
 generalize C.length = lc at *
 generalize xs.length = lx at *
 have hPl := lt_of_block h
 obtain ⟨w0,hw0⟩ : ∃ w0,w0 = W.alloc (.cells #[.int .i64 lv,.slice ha lh hc,.int .i64 ri,.slice ka lk kc,.slice va lw vc,.slice ca lc cc] 110) := ⟨_,rfl⟩
 have b0 : Below W.heap.size W w0 := by rw [hw0]; exact (Below.refl _ _).alloc (Nat.le_refl _) _
 have G0 : Hid (w0.heap[W.heap.size]? = some (.cells #[.int .i64 lv,.slice ha lh hc,.int .i64 ri,.slice ka lk kc,.slice va lw vc,.slice ca lc cc] 110 (0,0))) := by show _ = _; rw [hw0]; exact heap_alloc_new W _
 have h0 := (b0.block P hPl).trans h
 have hne : ¬ P = W.heap.size := by omega
 have hne2 : ¬ W.heap.size = P := by omega
 have c6 : W.cell? ⟨P,6,none⟩ = some (.int .i64 lv) := by rw [cell_of_row _ _ _ _ _ _ h]; rfl
 have c7 : W.cell? ⟨P,7,none⟩ = some (.slice ha lh hc) := by rw [cell_of_row _ _ _ _ _ _ h]; rfl
 have c8 : W.cell? ⟨P,8,none⟩ = some (.int .i64 ri) := by rw [cell_of_row _ _ _ _ _ _ h]; rfl
 have c9 : W.cell? ⟨P,9,none⟩ = some (.slice ka lk kc) := by rw [cell_of_row _ _ _ _ _ _ h]; rfl
 have c10 : W.cell? ⟨P,10,none⟩ = some (.slice va lw vc) := by rw [cell_of_row _ _ _ _ _ _ h]; rfl
 have c11 : W.cell? ⟨P,11,none⟩ = some (.slice ca lc cc) := by rw [cell_of_row _ _ _ _ _ _ h]; rfl
 obtain ⟨d0,d1,d2,d3,d4,d5⟩ := Six.of G0.out
 have e1 : w0.cell? ⟨P,1,none⟩ = some (.slice xa lx xc) := by rw [cell_of_row _ _ _ _ _ _ h0]; rfl
 have e2 : w0.cell? ⟨P,2,none⟩ = some (.int .i64 lev) := by rw [cell_of_row _ _ _ _ _ _ h0]; rfl
 have HSZ : Hid (W.heap.size < w0.heap.size) := lt_of_block G0.out
 have HPS : Hid (P < w0.heap.size) := lt_of_block h0
 have B0 := hide b0
 have H0 := hide h0
 have HW0 := hide hw0
 clear b0 hw0 h0 h
 go_enter Tryz.func212,Tryz.ntmps212
 go_upto_region 3 with fail
 rw [← HW0.out]
 clear HW0 c6 c7 c8 c9 c10 c11
 have j1 : lv < lev := hlv
 go_wp2_with fail
 go_quiet (fail)
 clear d0 d1 d2 d3 d4 d5 e1 e2
 obtain ⟨w1,hw1⟩ : ∃ x,x = w0.drewN nq := ⟨_,rfl⟩
 have Bw1 : Hid (Below W.heap.size W w1) := by show Below _ _ _; rw [hw1]; exact below_drewN B0.out _
 have Gw1 : Hid (w1.heap[W.heap.size]? = some (.cells #[.int .i64 lv,.slice ha lh hc,.int .i64 ri,.slice ka lk kc,.slice va lw vc,.slice ca lc cc] 110 (0,0))) := by show _ = _; rw [hw1]; exact G0.out
 have Hw1 : Hid (w1.heap[P]? = some (.cells #[a0,.slice xa lx xc,.int .i64 lev,a3,a4,a5,.int .i64 lv,.slice ha lh hc,.int .i64 ri,.slice ka lk kc,.slice va lw vc,.slice ca lc cc,a12,.int .i64 (mo : Nat)] 195 (0,0))) := by show _ = _; rw [hw1]; exact H0.out
 rw [← hw1]
 clear hw1
 obtain ⟨d0,d1,d2,d3,d4,d5⟩ := Six.of Gw1.out
 have e1 : w1.cell? ⟨P,1,none⟩ = some (.slice xa lx xc) := by rw [cell_of_row _ _ _ _ _ _ Hw1.out]; rfl
 have e2 : w1.cell? ⟨P,2,none⟩ = some (.int .i64 lev) := by rw [cell_of_row _ _ _ _ _ _ Hw1.out]; rfl
 have hl1 := lt_of_block Gw1.out
 have hl2 := lt_of_block Hw1.out
 go_wp2_with fail
 go_ret
 exact ⟨rfl,Hw1.out,Upd.of_below Bw1.out _⟩
set_option maxHeartbeats 1600000 in
theorem choose_right (n : Nd) (k : Tx) (h : W.heap[P]? = some (.cells #[a0,k.v,.int .i64 lev,a3,a4,a5,.int .i64 n.lv,n.hi.v,.int .i64 n.ri,n.ks.v,n.vs.v,n.cs.v,a12,.int .i64 (mo : Nat)] 195 (0,0))) (hn : n.Ok W) (hk : k.Ok W) (hmo : mo < 4611686018427387904) (hlv : ¬ n.lv < lev) (hbe : beyB n.hi.s k.s = true) : Calls Tryz.prog 212 #[.pointer (some ⟨P,0,none⟩)] W (MbP W P #[a0,k.v,.int .i64 lev,(.func (.func 161) #[.pointer (some ⟨P,0,none⟩)] #[]),.int .i64 n.ri,.int .u64 0,.int .i64 0,.slice none 0 0,.int .i64 0,.slice none 0 0,.slice none 0 0,.slice none 0 0,a12,.int .i64 ((mo + 1 : Nat) : Int)] (.bool true)) := by
 have HBE : Hid (∀ W',Below W.heap.size W W' → Calls Tryz.prog 194 #[n.v,k.v] W' fun e w' => e = .returned (.bool (beyB n.hi.s k.s)) ∧ Below W'.heap.size W' w') := fun W' hb => beyond_any n k W' (hn.below hb) (hk.below hb)
 have HCH : Hid (∀ W',Below W.heap.size W W' → Calls Tryz.prog 214 #[n.v,k.v] W' fun e w' => e = .returned (.int .i64 (chiN n.ks.p n.cs.s k.s)) ∧ Below W'.heap.size W' w') := fun W' hb => child_any n k W' (hn.below hb) (hk.below hb)
 rw [hbe] at HBE
 clear hbe
 generalize chiN n.ks.p n.cs.s k.s = chi at *
 clear hn hk
 obtain ⟨lv,⟨ha,hc,hs⟩,ri,⟨ka,kc,K⟩,⟨va,vc,V⟩,⟨ca,cc,C⟩⟩ := n
 obtain ⟨xa,xc,xs⟩ := k
 simp only [Nd.v,Tx.v,TL.v,IL.v] at *
 generalize hs.length = lh at *
 generalize K.length = lk at *
 generalize V.length = lw at *
 generalize C.length = lc at *
 generalize xs.length = lx at *
 have hPl := lt_of_block h
 obtain ⟨w0,hw0⟩ : ∃ w0,w0 = W.alloc (.cells #[.int .i64 lv,.slice ha lh hc,.int .i64 ri,.slice ka lk kc,.slice va lw vc,.slice ca lc cc] 110) := ⟨_,rfl⟩
 have b0 : Below W.heap.size W w0 := by rw [hw0]; exact (Below.refl _ _).alloc (Nat.le_refl _) _
 have G0 : Hid (w0.heap[W.heap.size]? = some (.cells #[.int .i64 lv,.slice ha lh hc,.int .i64 ri,.slice ka lk kc,.slice va lw vc,.slice ca lc cc] 110 (0,0))) := by show _ = _; rw [hw0]; exact heap_alloc_new W _
 have h0 := (b0.block P hPl).trans h
 have hne : ¬ P = W.heap.size := by omega
 have hne2 : ¬ W.heap.size = P := by omega
 have c6 : W.cell? ⟨P,6,none⟩ = some (.int .i64 lv) := by rw [cell_of_row _ _ _ _ _ _ h]; rfl
 have c7 : W.cell? ⟨P,7,none⟩ = some (.slice ha lh hc) := by rw [cell_of_row _ _ _ _ _ _ h]; rfl
 have c8 : W.cell? ⟨P,8,none⟩ = some (.int .i64 ri) := by rw [cell_of_row _ _ _ _ _ _ h]; rfl
 have c9 : W.cell? ⟨P,9,none⟩ = some (.slice ka lk kc) := by rw [cell_of_row _ _ _ _ _ _ h]; rfl
 have c10 : W.cell? ⟨P,10,none⟩ = some (.slice va lw vc) := by rw [cell_of_row _ _ _ _ _ _ h]; rfl
 have c11 : W.cell? ⟨P,11,none⟩ = some (.slice ca lc cc) := by rw [cell_of_row _ _ _ _ _ _ h]; rfl
 obtain ⟨d0,d1,d2,d3,d4,d5⟩ := Six.of G0.out
 have e1 : w0.cell? ⟨P,1,none⟩ = some (.slice xa lx xc) := by rw [cell_of_row _ _ _ _ _ _ h0]; rfl
 have e2 : w0.cell? ⟨P,2,none⟩ = some (.int .i64 lev) := by rw [cell_of_row _ _ _ _ _ _ h0]; rfl
 have HSZ : Hid (W.heap.size < w0.heap.size) := lt_of_block G0.out
 have HPS : Hid (P < w0.heap.size) := lt_of_block h0
 have B0 := hide b0
 have H0 := hide h0
 have HW0 := hide hw0
 clear b0 hw0 h0 h
 go_enter Tryz.func212,Tryz.ntmps212
 go_upto_region 3 with fail
 rw [← HW0.out]
 clear HW0 c6 c7 c8 c9 c10 c11
 have j1 : ¬ lv < lev := hlv
 clear hlv
 go_wp2_with fail
 go_quiet (fail)
 clear d0 d1 d2 d3 d4 d5 e1 e2
 obtain ⟨w1,hw1⟩ : ∃ x,x = w0.drewN nq := ⟨_,rfl⟩
 have Bw1 : Hid (Below W.heap.size W w1) := by show Below _ _ _; rw [hw1]; exact below_drewN B0.out _
 have Gw1 : Hid (w1.heap[W.heap.size]? = some (.cells #[.int .i64 lv,.slice ha lh hc,.int .i64 ri,.slice ka lk kc,.slice va lw vc,.slice ca lc cc] 110 (0,0))) := by show _ = _; rw [hw1]; exact G0.out
 have Hw1 : Hid (w1.heap[P]? = some (.cells #[a0,.slice xa lx xc,.int .i64 lev,a3,a4,a5,.int .i64 lv,.slice ha lh hc,.int .i64 ri,.slice ka lk kc,.slice va lw vc,.slice ca lc cc,a12,.int .i64 (mo : Nat)] 195 (0,0))) := by show _ = _; rw [hw1]; exact H0.out
 rw [← hw1]
 clear hw1
 obtain ⟨d0,d1,d2,d3,d4,d5⟩ := Six.of Gw1.out
 have e1 : w1.cell? ⟨P,1,none⟩ = some (.slice xa lx xc) := by rw [cell_of_row _ _ _ _ _ _ Hw1.out]; rfl
 have e2 : w1.cell? ⟨P,2,none⟩ = some (.int .i64 lev) := by rw [cell_of_row _ _ _ _ _ _ Hw1.out]; rfl
 have hl1 := lt_of_block Gw1.out
 have hl2 := lt_of_block Hw1.out
 go_wp2_with fail
 go_region_held3 (fun W' => W'.cell? ⟨W.heap.size,0,none⟩ = some (.int .i64 lv) ∧ W'.cell? ⟨W.heap.size,1,none⟩ = some (.slice ha lh hc) ∧ W'.cell? ⟨W.heap.size,2,none⟩ = some (.int .i64 ri) ∧ W'.cell? ⟨W.heap.size,3,none⟩ = some (.slice ka lk kc) ∧ W'.cell? ⟨W.heap.size,4,none⟩ = some (.slice va lw vc) ∧ W'.cell? ⟨W.heap.size,5,none⟩ = some (.slice ca lc cc) ∧ W'.cell? ⟨P,1,none⟩ = some (.slice xa lx xc)) (go_keep) (first
  | (go_at_call 194; refine (HBE.out _ (below_drew Bw1.out)).mono ?_; rintro e wc ⟨rfl,b⟩; have Bwc : Hid (Below W.heap.size W wc) := (below_drew Bw1.out).trans (b.mono Bw1.out.size); have Gwc : Hid (wc.heap[W.heap.size]? = some (.cells #[.int .i64 lv,.slice ha lh hc,.int .i64 ri,.slice ka lk kc,.slice va lw vc,.slice ca lc cc] 110 (0,0))) := (b.block _ hl1).trans Gw1.out; have Hwc : Hid (wc.heap[P]? = some (.cells #[a0,.slice xa lx xc,.int .i64 lev,a3,a4,a5,.int .i64 lv,.slice ha lh hc,.int .i64 ri,.slice ka lk kc,.slice va lw vc,.slice ca lc cc,a12,.int .i64 (mo : Nat)] 195 (0,0))) := (b.block _ hl2).trans Hw1.out; obtain ⟨y0,y1,y2,y3,y4,y5⟩ := Six.of Gwc.out; have z1 : wc.cell? ⟨P,1,none⟩ = some (.slice xa lx xc) := (by rw [cell_of_row _ _ _ _ _ _ Hwc.out]; rfl); clear b)
  | fail)
 clear d0 d1 d2 d3 d4 d5 e1 e2 y0 y1 y2 y3 y4 y5 z1
 obtain ⟨d0,d1,d2,d3,d4,d5⟩ := Six.of Gwc.out
 have e13 : wc.cell? ⟨P,13,none⟩ = some (.int .i64 (mo : Nat)) := by rw [cell_of_row _ _ _ _ _ _ Hwc.out]; rfl
 have F0 := fun j => frozen_of Hwc.out j
 have hm' : (mo : Int) < 4611686018427387904 := by omega
 have HG3 : Hid ((wc.setCell ⟨P,13,none⟩ (.int .i64 ((mo : Int) + 1))).heap[P]? = _) := m14_13 Hwc.out _
 have U3 : Hid (Upd (fun k => k = P) W (wc.setCell ⟨P,13,none⟩ (.int .i64 ((mo : Int) + 1)))) := updP (Upd.of_below Bwc.out _) _ _
 have G3 : Hid ((wc.setCell ⟨P,13,none⟩ (.int .i64 ((mo : Int) + 1))).heap[W.heap.size]? = some (.cells #[.int .i64 lv,.slice ha lh hc,.int .i64 ri,.slice ka lk kc,.slice va lw vc,.slice ca lc cc] 110 (0,0))) := (upd_set (fun k => k = P) wc P 13 _ rfl).heap Gwc.out (fun e => hne2 e)
 have f2 : (wc.setCell ⟨P,13,none⟩ (.int .i64 ((mo : Int) + 1))).cell? ⟨W.heap.size,2,none⟩ = some (.int .i64 ri) := by rw [cell_of_row _ _ _ _ _ _ G3.out]; rfl
 have HGT := hide (goTo_any HG3.out ri)
 go_wp2_with fail
 refine HGT.out.mono ?_
 rintro e w9 ⟨rfl,g9,u9⟩
 have HG9 := hide g9
 have HU9 := hide (U3.out.trans u9)
 clear g9 u9 HGT
 go_wp2_with fail
 go_ret
 exact ⟨rfl,HG9.out,HU9.out⟩
set_option maxHeartbeats 1600000 in
theorem choose_here (n : Nd) (k : Tx) (h : W.heap[P]? = some (.cells #[a0,k.v,.int .i64 lev,a3,a4,a5,.int .i64 n.lv,n.hi.v,.int .i64 n.ri,n.ks.v,n.vs.v,n.cs.v,a12,.int .i64 (mo : Nat)] 195 (0,0))) (hn : n.Ok W) (hk : k.Ok W) (hlv : ¬ n.lv < lev) (hbe : beyB n.hi.s k.s = false) (heq : n.lv = lev) : Calls Tryz.prog 212 #[.pointer (some ⟨P,0,none⟩)] W (MbP W P #[a0,k.v,.int .i64 lev,.nilFunc,a4,a5,.int .i64 n.lv,n.hi.v,.int .i64 n.ri,n.ks.v,n.vs.v,n.cs.v,a12,.int .i64 (mo : Nat)] (.bool true)) := by
 have HBE : Hid (∀ W',Below W.heap.size W W' → Calls Tryz.prog 194 #[n.v,k.v] W' fun e w' => e = .returned (.bool (beyB n.hi.s k.s)) ∧ Below W'.heap.size W' w') := fun W' hb => beyond_any n k W' (hn.below hb) (hk.below hb)
 have HCH : Hid (∀ W',Below W.heap.size W W' → Calls Tryz.prog 214 #[n.v,k.v] W' fun e w' => e = .returned (.int .i64 (chiN n.ks.p n.cs.s k.s)) ∧ Below W'.heap.size W' w') := fun W' hb => child_any n k W' (hn.below hb) (hk.below hb)
 rw [hbe] at HBE
 clear hbe
 generalize chiN n.ks.p n.cs.s k.s = chi at *
 clear hn hk
 obtain ⟨lv,⟨ha,hc,hs⟩,ri,⟨ka,kc,K⟩,⟨va,vc,V⟩,⟨ca,cc,C⟩⟩ := n
 obtain ⟨xa,xc,xs⟩ := k
 simp only [Nd.v,Tx.v,TL.v,IL.v] at *
 subst heq
 clear hlv
 generalize hs.length = lh at *
 generalize K.length = lk at *
 generalize V.length = lw at *
 generalize C.length = lc at *
 generalize xs.length = lx at *
 have hPl := lt_of_block h
 obtain ⟨w0,hw0⟩ : ∃ w0,w0 = W.alloc (.cells #[.int .i64 lv,.slice ha lh hc,.int .i64 ri,.slice ka lk kc,.slice va lw vc,.slice ca lc cc] 110) := ⟨_,rfl⟩
 have b0 : Below W.heap.size W w0 := by rw [hw0]; exact (Below.refl _ _).alloc (Nat.le_refl _) _
 have G0 : Hid (w0.heap[W.heap.size]? = some (.cells #[.int .i64 lv,.slice ha lh hc,.int .i64 ri,.slice ka lk kc,.slice va lw vc,.slice ca lc cc] 110 (0,0))) := by show _ = _; rw [hw0]; exact heap_alloc_new W _
 have h0 := (b0.block P hPl).trans h
 have hne : ¬ P = W.heap.size := by omega
 have hne2 : ¬ W.heap.size = P := by omega
 have c6 : W.cell? ⟨P,6,none⟩ = some (.int .i64 lv) := by rw [cell_of_row _ _ _ _ _ _ h]; rfl
 have c7 : W.cell? ⟨P,7,none⟩ = some (.slice ha lh hc) := by rw [cell_of_row _ _ _ _ _ _ h]; rfl
 have c8 : W.cell? ⟨P,8,none⟩ = some (.int .i64 ri) := by rw [cell_of_row _ _ _ _ _ _ h]; rfl
 have c9 : W.cell? ⟨P,9,none⟩ = some (.slice ka lk kc) := by rw [cell_of_row _ _ _ _ _ _ h]; rfl
 have c10 : W.cell? ⟨P,10,none⟩ = some (.slice va lw vc) := by rw [cell_of_row _ _ _ _ _ _ h]; rfl
 have c11 : W.cell? ⟨P,11,none⟩ = some (.slice ca lc cc) := by rw [cell_of_row _ _ _ _ _ _ h]; rfl
 obtain ⟨d0,d1,d2,d3,d4,d5⟩ := Six.of G0.out
 have e1 : w0.cell? ⟨P,1,none⟩ = some (.slice xa lx xc) := by rw [cell_of_row _ _ _ _ _ _ h0]; rfl
 have e2 : w0.cell? ⟨P,2,none⟩ = some (.int .i64 lv) := by rw [cell_of_row _ _ _ _ _ _ h0]; rfl
 have HSZ : Hid (W.heap.size < w0.heap.size) := lt_of_block G0.out
 have HPS : Hid (P < w0.heap.size) := lt_of_block h0
 have B0 := hide b0
 have H0 := hide h0
 have HW0 := hide hw0
 clear b0 hw0 h0 h
 go_enter Tryz.func212,Tryz.ntmps212
 go_upto_region 3 with fail
 rw [← HW0.out]
 clear HW0 c6 c7 c8 c9 c10 c11
 go_wp2_with fail
 go_quiet (fail)
 clear d0 d1 d2 d3 d4 d5 e1 e2
 obtain ⟨w1,hw1⟩ : ∃ x,x = w0.drewN nq := ⟨_,rfl⟩
 have Bw1 : Hid (Below W.heap.size W w1) := by show Below _ _ _; rw [hw1]; exact below_drewN B0.out _
 have Gw1 : Hid (w1.heap[W.heap.size]? = some (.cells #[.int .i64 lv,.slice ha lh hc,.int .i64 ri,.slice ka lk kc,.slice va lw vc,.slice ca lc cc] 110 (0,0))) := by show _ = _; rw [hw1]; exact G0.out
 have Hw1 : Hid (w1.heap[P]? = some (.cells #[a0,.slice xa lx xc,.int .i64 lv,a3,a4,a5,.int .i64 lv,.slice ha lh hc,.int .i64 ri,.slice ka lk kc,.slice va lw vc,.slice ca lc cc,a12,.int .i64 (mo : Nat)] 195 (0,0))) := by show _ = _; rw [hw1]; exact H0.out
 rw [← hw1]
 clear hw1
 obtain ⟨d0,d1,d2,d3,d4,d5⟩ := Six.of Gw1.out
 have e1 : w1.cell? ⟨P,1,none⟩ = some (.slice xa lx xc) := by rw [cell_of_row _ _ _ _ _ _ Hw1.out]; rfl
 have e2 : w1.cell? ⟨P,2,none⟩ = some (.int .i64 lv) := by rw [cell_of_row _ _ _ _ _ _ Hw1.out]; rfl
 have hl1 := lt_of_block Gw1.out
 have hl2 := lt_of_block Hw1.out
 go_wp2_with fail
 go_region_held3 (fun W' => W'.cell? ⟨W.heap.size,0,none⟩ = some (.int .i64 lv) ∧ W'.cell? ⟨W.heap.size,1,none⟩ = some (.slice ha lh hc) ∧ W'.cell? ⟨W.heap.size,2,none⟩ = some (.int .i64 ri) ∧ W'.cell? ⟨W.heap.size,3,none⟩ = some (.slice ka lk kc) ∧ W'.cell? ⟨W.heap.size,4,none⟩ = some (.slice va lw vc) ∧ W'.cell? ⟨W.heap.size,5,none⟩ = some (.slice ca lc cc) ∧ W'.cell? ⟨P,1,none⟩ = some (.slice xa lx xc)) (go_keep) (first
  | (go_at_call 194; refine (HBE.out _ (below_drew Bw1.out)).mono ?_; rintro e wc ⟨rfl,b⟩; have Bwc : Hid (Below W.heap.size W wc) := (below_drew Bw1.out).trans (b.mono Bw1.out.size); have Gwc : Hid (wc.heap[W.heap.size]? = some (.cells #[.int .i64 lv,.slice ha lh hc,.int .i64 ri,.slice ka lk kc,.slice va lw vc,.slice ca lc cc] 110 (0,0))) := (b.block _ hl1).trans Gw1.out; have Hwc : Hid (wc.heap[P]? = some (.cells #[a0,.slice xa lx xc,.int .i64 lv,a3,a4,a5,.int .i64 lv,.slice ha lh hc,.int .i64 ri,.slice ka lk kc,.slice va lw vc,.slice ca lc cc,a12,.int .i64 (mo : Nat)] 195 (0,0))) := (b.block _ hl2).trans Hw1.out; obtain ⟨y0,y1,y2,y3,y4,y5⟩ := Six.of Gwc.out; have z1 : wc.cell? ⟨P,1,none⟩ = some (.slice xa lx xc) := (by rw [cell_of_row _ _ _ _ _ _ Hwc.out]; rfl); clear b)
  | fail)
 clear d0 d1 d2 d3 d4 d5 e1 e2 y0 y1 y2 y3 y4 y5 z1
 obtain ⟨d0,d1,d2,d3,d4,d5⟩ := Six.of Gwc.out
 have e1 : wc.cell? ⟨P,1,none⟩ = some (.slice xa lx xc) := by rw [cell_of_row _ _ _ _ _ _ Hwc.out]; rfl
 have e2 : wc.cell? ⟨P,2,none⟩ = some (.int .i64 lv) := by rw [cell_of_row _ _ _ _ _ _ Hwc.out]; rfl
 go_wp2_with fail
 go_quiet (fail)
 clear d0 d1 d2 d3 d4 d5 e1 e2
 obtain ⟨w5,hw5⟩ : ∃ x,x = wc.drewN nq := ⟨_,rfl⟩
 have Bw5 : Hid (Below W.heap.size W w5) := by show Below _ _ _; rw [hw5]; exact below_drewN Bwc.out _
 have Gw5 : Hid (w5.heap[W.heap.size]? = some (.cells #[.int .i64 lv,.slice ha lh hc,.int .i64 ri,.slice ka lk kc,.slice va lw vc,.slice ca lc cc] 110 (0,0))) := by show _ = _; rw [hw5]; exact Gwc.out
 have Hw5 : Hid (w5.heap[P]? = some (.cells #[a0,.slice xa lx xc,.int .i64 lv,a3,a4,a5,.int .i64 lv,.slice ha lh hc,.int .i64 ri,.slice ka lk kc,.slice va lw vc,.slice ca lc cc,a12,.int .i64 (mo : Nat)] 195 (0,0))) := by show _ = _; rw [hw5]; exact Hwc.out
 rw [← hw5]
 clear hw5
 obtain ⟨d0,d1,d2,d3,d4,d5⟩ := Six.of Gw5.out
 have e3 : w5.cell? ⟨P,3,none⟩ = some (a3) := by rw [cell_of_row _ _ _ _ _ _ Hw5.out]; rfl
 have F0 := fun j => frozen_of Hw5.out j
 go_wp2_with fail
 go_ret
 exact ⟨rfl,m14_3 Hw5.out _,updP (Upd.of_below Bw5.out _) _ _⟩
set_option maxHeartbeats 1600000 in
theorem choose_child (n : Nd) (k : Tx) (h : W.heap[P]? = some (.cells #[a0,k.v,.int .i64 lev,a3,a4,a5,.int .i64 n.lv,n.hi.v,.int .i64 n.ri,n.ks.v,n.vs.v,n.cs.v,a12,.int .i64 (mo : Nat)] 195 (0,0))) (hn : n.Ok W) (hk : k.Ok W) (hlv : ¬ n.lv < lev) (hbe : beyB n.hi.s k.s = false) (hne' : ¬ n.lv = lev) : Calls Tryz.prog 212 #[.pointer (some ⟨P,0,none⟩)] W (MbP W P #[a0,k.v,.int .i64 lev,(.func (.func 161) #[.pointer (some ⟨P,0,none⟩)] #[]),.int .i64 (chiN n.ks.p n.cs.s k.s),.int .u64 0,.int .i64 0,.slice none 0 0,.int .i64 0,.slice none 0 0,.slice none 0 0,.slice none 0 0,a12,.int .i64 (mo : Nat)] (.bool true)) := by
 have HBE : Hid (∀ W',Below W.heap.size W W' → Calls Tryz.prog 194 #[n.v,k.v] W' fun e w' => e = .returned (.bool (beyB n.hi.s k.s)) ∧ Below W'.heap.size W' w') := fun W' hb => beyond_any n k W' (hn.below hb) (hk.below hb)
 have HCH : Hid (∀ W',Below W.heap.size W W' → Calls Tryz.prog 214 #[n.v,k.v] W' fun e w' => e = .returned (.int .i64 (chiN n.ks.p n.cs.s k.s)) ∧ Below W'.heap.size W' w') := fun W' hb => child_any n k W' (hn.below hb) (hk.below hb)
 rw [hbe] at HBE
 clear hbe
 generalize chiN n.ks.p n.cs.s k.s = chi at *
 clear hn hk
 obtain ⟨lv,⟨ha,hc,hs⟩,ri,⟨ka,kc,K⟩,⟨va,vc,V⟩,⟨ca,cc,C⟩⟩ := n
 obtain ⟨xa,xc,xs⟩ := k
 simp only [Nd.v,Tx.v,TL.v,IL.v] at *
 generalize hs.length = lh at *
 generalize K.length = lk at *
 generalize V.length = lw at *
 generalize C.length = lc at *
 generalize xs.length = lx at *
 have hPl := lt_of_block h
 obtain ⟨w0,hw0⟩ : ∃ w0,w0 = W.alloc (.cells #[.int .i64 lv,.slice ha lh hc,.int .i64 ri,.slice ka lk kc,.slice va lw vc,.slice ca lc cc] 110) := ⟨_,rfl⟩
 have b0 : Below W.heap.size W w0 := by rw [hw0]; exact (Below.refl _ _).alloc (Nat.le_refl _) _
 have G0 : Hid (w0.heap[W.heap.size]? = some (.cells #[.int .i64 lv,.slice ha lh hc,.int .i64 ri,.slice ka lk kc,.slice va lw vc,.slice ca lc cc] 110 (0,0))) := by show _ = _; rw [hw0]; exact heap_alloc_new W _
 have h0 := (b0.block P hPl).trans h
 have hne : ¬ P = W.heap.size := by omega
 have hne2 : ¬ W.heap.size = P := by omega
 have c6 : W.cell? ⟨P,6,none⟩ = some (.int .i64 lv) := by rw [cell_of_row _ _ _ _ _ _ h]; rfl
 have c7 : W.cell? ⟨P,7,none⟩ = some (.slice ha lh hc) := by rw [cell_of_row _ _ _ _ _ _ h]; rfl
 have c8 : W.cell? ⟨P,8,none⟩ = some (.int .i64 ri) := by rw [cell_of_row _ _ _ _ _ _ h]; rfl
 have c9 : W.cell? ⟨P,9,none⟩ = some (.slice ka lk kc) := by rw [cell_of_row _ _ _ _ _ _ h]; rfl
 have c10 : W.cell? ⟨P,10,none⟩ = some (.slice va lw vc) := by rw [cell_of_row _ _ _ _ _ _ h]; rfl
 have c11 : W.cell? ⟨P,11,none⟩ = some (.slice ca lc cc) := by rw [cell_of_row _ _ _ _ _ _ h]; rfl
 obtain ⟨d0,d1,d2,d3,d4,d5⟩ := Six.of G0.out
 have e1 : w0.cell? ⟨P,1,none⟩ = some (.slice xa lx xc) := by rw [cell_of_row _ _ _ _ _ _ h0]; rfl
 have e2 : w0.cell? ⟨P,2,none⟩ = some (.int .i64 lev) := by rw [cell_of_row _ _ _ _ _ _ h0]; rfl
 have HSZ : Hid (W.heap.size < w0.heap.size) := lt_of_block G0.out
 have HPS : Hid (P < w0.heap.size) := lt_of_block h0
 have B0 := hide b0
 have H0 := hide h0
 have HW0 := hide hw0
 clear b0 hw0 h0 h
 go_enter Tryz.func212,Tryz.ntmps212
 go_upto_region 3 with fail
 rw [← HW0.out]
 clear HW0 c6 c7 c8 c9 c10 c11
 have j1 : ¬ lv < lev := hlv
 clear hlv
 have j2 : ¬ lv = lev := hne'
 go_wp2_with fail
 go_quiet (fail)
 clear d0 d1 d2 d3 d4 d5 e1 e2
 obtain ⟨w1,hw1⟩ : ∃ x,x = w0.drewN nq := ⟨_,rfl⟩
 have Bw1 : Hid (Below W.heap.size W w1) := by show Below _ _ _; rw [hw1]; exact below_drewN B0.out _
 have Gw1 : Hid (w1.heap[W.heap.size]? = some (.cells #[.int .i64 lv,.slice ha lh hc,.int .i64 ri,.slice ka lk kc,.slice va lw vc,.slice ca lc cc] 110 (0,0))) := by show _ = _; rw [hw1]; exact G0.out
 have Hw1 : Hid (w1.heap[P]? = some (.cells #[a0,.slice xa lx xc,.int .i64 lev,a3,a4,a5,.int .i64 lv,.slice ha lh hc,.int .i64 ri,.slice ka lk kc,.slice va lw vc,.slice ca lc cc,a12,.int .i64 (mo : Nat)] 195 (0,0))) := by show _ = _; rw [hw1]; exact H0.out
 rw [← hw1]
 clear hw1
 obtain ⟨d0,d1,d2,d3,d4,d5⟩ := Six.of Gw1.out
 have e1 : w1.cell? ⟨P,1,none⟩ = some (.slice xa lx xc) := by rw [cell_of_row _ _ _ _ _ _ Hw1.out]; rfl
 have e2 : w1.cell? ⟨P,2,none⟩ = some (.int .i64 lev) := by rw [cell_of_row _ _ _ _ _ _ Hw1.out]; rfl
 have hl1 := lt_of_block Gw1.out
 have hl2 := lt_of_block Hw1.out
 go_wp2_with fail
 go_region_held3 (fun W' => W'.cell? ⟨W.heap.size,0,none⟩ = some (.int .i64 lv) ∧ W'.cell? ⟨W.heap.size,1,none⟩ = some (.slice ha lh hc) ∧ W'.cell? ⟨W.heap.size,2,none⟩ = some (.int .i64 ri) ∧ W'.cell? ⟨W.heap.size,3,none⟩ = some (.slice ka lk kc) ∧ W'.cell? ⟨W.heap.size,4,none⟩ = some (.slice va lw vc) ∧ W'.cell? ⟨W.heap.size,5,none⟩ = some (.slice ca lc cc) ∧ W'.cell? ⟨P,1,none⟩ = some (.slice xa lx xc)) (go_keep) (first
  | (go_at_call 194; refine (HBE.out _ (below_drew Bw1.out)).mono ?_; rintro e wc ⟨rfl,b⟩; have Bwc : Hid (Below W.heap.size W wc) := (below_drew Bw1.out).trans (b.mono Bw1.out.size); have Gwc : Hid (wc.heap[W.heap.size]? = some (.cells #[.int .i64 lv,.slice ha lh hc,.int .i64 ri,.slice ka lk kc,.slice va lw vc,.slice ca lc cc] 110 (0,0))) := (b.block _ hl1).trans Gw1.out; have Hwc : Hid (wc.heap[P]? = some (.cells #[a0,.slice xa lx xc,.int .i64 lev,a3,a4,a5,.int .i64 lv,.slice ha lh hc,.int .i64 ri,.slice ka lk kc,.slice va lw vc,.slice ca lc cc,a12,.int .i64 (mo : Nat)] 195 (0,0))) := (b.block _ hl2).trans Hw1.out; obtain ⟨y0,y1,y2,y3,y4,y5⟩ := Six.of Gwc.out; have z1 : wc.cell? ⟨P,1,none⟩ = some (.slice xa lx xc) := (by rw [cell_of_row _ _ _ _ _ _ Hwc.out]; rfl); clear b)
  | fail)
 clear d0 d1 d2 d3 d4 d5 e1 e2 y0 y1 y2 y3 y4 y5 z1
 obtain ⟨d0,d1,d2,d3,d4,d5⟩ := Six.of Gwc.out
 have e1 : wc.cell? ⟨P,1,none⟩ = some (.slice xa lx xc) := by rw [cell_of_row _ _ _ _ _ _ Hwc.out]; rfl
 have e2 : wc.cell? ⟨P,2,none⟩ = some (.int .i64 lev) := by rw [cell_of_row _ _ _ _ _ _ Hwc.out]; rfl
 go_wp2_with fail
 go_quiet (fail)
 clear d0 d1 d2 d3 d4 d5 e1 e2
 obtain ⟨w5,hw5⟩ : ∃ x,x = wc.drewN nq := ⟨_,rfl⟩
 have Bw5 : Hid (Below W.heap.size W w5) := by show Below _ _ _; rw [hw5]; exact below_drewN Bwc.out _
 have Gw5 : Hid (w5.heap[W.heap.size]? = some (.cells #[.int .i64 lv,.slice ha lh hc,.int .i64 ri,.slice ka lk kc,.slice va lw vc,.slice ca lc cc] 110 (0,0))) := by show _ = _; rw [hw5]; exact Gwc.out
 have Hw5 : Hid (w5.heap[P]? = some (.cells #[a0,.slice xa lx xc,.int .i64 lev,a3,a4,a5,.int .i64 lv,.slice ha lh hc,.int .i64 ri,.slice ka lk kc,.slice va lw vc,.slice ca lc cc,a12,.int .i64 (mo : Nat)] 195 (0,0))) := by show _ = _; rw [hw5]; exact Hwc.out
 rw [← hw5]
 clear hw5
 obtain ⟨d0,d1,d2,d3,d4,d5⟩ := Six.of Gw5.out
 have e1 : w5.cell? ⟨P,1,none⟩ = some (.slice xa lx xc) := by rw [cell_of_row _ _ _ _ _ _ Hw5.out]; rfl
 have e2 : w5.cell? ⟨P,2,none⟩ = some (.int .i64 lev) := by rw [cell_of_row _ _ _ _ _ _ Hw5.out]; rfl
 clear Bwc Gwc Hwc hl1 hl2
 have hl1 := lt_of_block Gw5.out
 have hl2 := lt_of_block Hw5.out
 go_wp2_with fail
 go_region_held3 (fun W' => W'.cell? ⟨W.heap.size,0,none⟩ = some (.int .i64 lv) ∧ W'.cell? ⟨W.heap.size,1,none⟩ = some (.slice ha lh hc) ∧ W'.cell? ⟨W.heap.size,2,none⟩ = some (.int .i64 ri) ∧ W'.cell? ⟨W.heap.size,3,none⟩ = some (.slice ka lk kc) ∧ W'.cell? ⟨W.heap.size,4,none⟩ = some (.slice va lw vc) ∧ W'.cell? ⟨W.heap.size,5,none⟩ = some (.slice ca lc cc) ∧ W'.cell? ⟨P,1,none⟩ = some (.slice xa lx xc)) (go_keep) (first
  | (go_at_call 140; refine (goTo_any Hwc.out chi).mono ?_; rintro e wg ⟨rfl,gg,ug⟩; have HGG := hide gg; have HUG := hide ug; obtain ⟨x0,x1,x2,x3,x4,x5⟩ := Six.of (ug.heap Gwc.out (fun e => hne2 e)); have z9 : wg.cell? ⟨P,1,none⟩ = some (.slice xa lx xc) := (by rw [cell_of_row _ _ _ _ _ _ gg]; rfl); clear gg ug)
  | (go_at_call 214; refine (HCH.out _ (below_drew Bw5.out)).mono ?_; rintro e wc ⟨rfl,b⟩; have Bwc : Hid (Below W.heap.size W wc) := (below_drew Bw5.out).trans (b.mono Bw5.out.size); have Gwc : Hid (wc.heap[W.heap.size]? = some (.cells #[.int .i64 lv,.slice ha lh hc,.int .i64 ri,.slice ka lk kc,.slice va lw vc,.slice ca lc cc] 110 (0,0))) := (b.block _ hl1).trans Gw5.out; have Hwc : Hid (wc.heap[P]? = some (.cells #[a0,.slice xa lx xc,.int .i64 lev,a3,a4,a5,.int .i64 lv,.slice ha lh hc,.int .i64 ri,.slice ka lk kc,.slice va lw vc,.slice ca lc cc,a12,.int .i64 (mo : Nat)] 195 (0,0))) := (b.block _ hl2).trans Hw5.out; obtain ⟨y0,y1,y2,y3,y4,y5⟩ := Six.of Gwc.out; have z1 : wc.cell? ⟨P,1,none⟩ = some (.slice xa lx xc) := (by rw [cell_of_row _ _ _ _ _ _ Hwc.out]; rfl); clear b)
  | fail)
 go_wp2_with fail
 go_ret
 exact ⟨rfl,HGG.out,(Upd.of_below Bwc.out _).trans HUG.out⟩
end
end Go.Proofs.YtljnapejgjffjaaGreat
