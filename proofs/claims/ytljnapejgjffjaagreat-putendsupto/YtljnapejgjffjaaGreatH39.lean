/- Texts of one's own. -/
import Derived.Test.YtljnapejgjffjaaGreatH35
import Derived.Test.YtljnapejgjffjaaGreatH34
namespace Go.Proofs.YtljnapejgjffjaaGreat
open Go.RowKit
set_option maxRecDepth 100000
section
variable {W w1 w2 : World} {P A : Nat} {D F D1 F1 : Nat → Prop} {m m1 : UM} {u u1 u2 : US} {s s1 : AS}
theorem UQ.far {b : Nat} (h : UQ W P A D F m m1 D1 F1 u1 s1 w1) (hu : Upd (fun k => k = b) w1 w2) (hb : W.heap.size ≤ b ∧ ¬ D1 b ∧ ¬ F1 b) (hP : ¬ b = P) : UQ W P A D F m m1 D1 F1 u1 s1 w2 :=
 ⟨h.up.upd hu (fun x hx e => by rcases hx with rfl | hx; exact hP e.symm; exact hb.2.1 (e ▸ hx)),h.px.upd hu (fun x hx e => hb.2.2 (e ▸ hx)),h.d,h.f,h.ap,h.u.then hu (fun k hk e => by omega)⟩
theorem Nd.Own.updP {W W' : World} {N P : Nat} {n : Nd} (h : n.Own W N) (hP : P < N) (hu : Upd (fun k => k = P) W W') : n.Own W' N := h.upd hu (fun b hb _ e => by omega)
set_option maxHeartbeats 6400000 in
theorem u_changeL (q0 : UQ W P A D F m m1 D1 F1 u1 s1 w1) (n : Nd) {N : Nat} (hn : n.Own w1 N) (hPN : P < N) (hz : n.ks.L.length * 24 ≤ 140737488351900 ∧ n.vs.L.length * 24 ≤ 140737488351900) (hl : u1.lev = 0) : Calls Tryz.prog 165 #[.pointer (some ⟨P,0,none⟩),n.v] w1 fun e w' => ∃ n' : Nd,e = .returned (.tuple #[n'.v,.bool true]) ∧ n'.p = n.p.with_ u1.sep u1.val ∧ n'.Own w' w1.heap.size ∧ UQ W P A D F m m1 D1 F1 { u1 with had := isIn n.p.ks u1.sep } s1 w' := by
 obtain ⟨Q,hQ⟩ : ∃ Q : Ending → World → Prop,Q = fun e w' => ∃ n' : Nd,e = .returned (.tuple #[n'.v,.bool true]) ∧ n'.p = n.p.with_ u1.sep u1.val ∧ n'.Own w' w1.heap.size ∧ UQ W P A D F m m1 D1 F1 { u1 with had := isIn n.p.ks u1.sep } s1 w' := ⟨_,rfl⟩
 rw [← hQ]
 have HQ : Hid (∀ e w',(∃ n' : Nd,e = .returned (.tuple #[n'.v,.bool true]) ∧ n'.p = n.p.with_ u1.sep u1.val ∧ n'.Own w' w1.heap.size ∧ UQ W P A D F m m1 D1 F1 { u1 with had := isIn n.p.ks u1.sep } s1 w') → Q e w') := fun e w' h => by rw [hQ]; exact h
 clear hQ
 have hPl := lt_of_block q0.up.c
 have hNW : W.heap.size ≤ w1.heap.size + 1 ∧ ¬ D1 (w1.heap.size + 1) ∧ ¬ F1 (w1.heap.size + 1) := ⟨by have := q0.u.size; omega,fun e => by have := q0.up.lt _ e; omega,fun e => by have := q0.px.lt _ e; omega⟩
 obtain ⟨an,han⟩ : ∃ an,an = n := ⟨_,rfl⟩
 rw [← han] at hn hz HQ
 have HAN := hide han
 clear han
 obtain ⟨nlv,⟨nha,nhc,nhs⟩,nri,⟨nka,nkc,nK⟩,⟨nva,nvc,nV⟩,⟨nca,ncc,nC⟩⟩ := n
 have HNV : Hid (an.v = .agg #[.int .i64 nlv,.slice nha nhs.length nhc,.int .i64 nri,.slice nka nK.length nkc,.slice nva nV.length nvc,.slice nca nC.length ncc]) := by show _ = _; rw [HAN.out]; rfl
 simp only [Nd.v,Tx.v,TL.v,IL.v]
 generalize nhs.length = nlh at *
 generalize nK.length = nlk at *
 generalize nV.length = nlw at *
 generalize nC.length = nlc at *
 obtain ⟨wa,hwa⟩ : ∃ wa,wa = (w1.alloc (.cells #[.int .i64 nlv,.slice nha nlh nhc,.int .i64 nri,.slice nka nlk nkc,.slice nva nlw nvc,.slice nca nlc ncc] 110)).alloc (.cells #[.int .i64 0,.slice none 0 0,.int .i64 0,.slice none 0 0,.slice none 0 0,.slice none 0 0] 110) := ⟨_,rfl⟩
 have g3 : wa.heap[w1.heap.size]? = some (.cells #[.int .i64 nlv,.slice nha nlh nhc,.int .i64 nri,.slice nka nlk nkc,.slice nva nlw nvc,.slice nca nlc ncc] 110 (0,0)) := by rw [hwa]; exact old_at (new_at rfl)
 have g4 : wa.heap[w1.heap.size + 1]? = some (.cells #[.int .i64 0,.slice none 0 0,.int .i64 0,.slice none 0 0,.slice none 0 0,.slice none 0 0] 110 (0,0)) := by rw [hwa]; exact new_at (by simp)
 have ba : Below w1.heap.size w1 wa := by rw [hwa]; exact ((Below.refl _ _).alloc (Nat.le_refl _) _).alloc (by simp) _
 have qa := q0.below ba
 have HNA : Hid (an.Own wa N) := hn.below ba
 have HWA := hide hwa
 have hla := lt_of_block g4
 have nb34 : ¬ w1.heap.size = w1.heap.size + 1 := by omega
 have nbP3 : ¬ P = w1.heap.size := by omega
 have nbP4 : ¬ P = w1.heap.size + 1 := by omega
 have c8 : wa.cell? ⟨P,8,none⟩ = some (.int .i64 u1.lev) := qa.up.cell 8 _ rfl
 rw [hl] at c8
 have HST : Hid (m1.st.s = u1.sep ∧ m1.vt.s = u1.val) := ⟨q0.up.s.s,q0.up.v.s⟩
 obtain ⟨sa,sl,sc,hsv⟩ : ∃ a l c,m1.st.v = .slice a l c := ⟨m1.st.a,m1.st.s.length,m1.st.c,rfl⟩
 obtain ⟨va,vl,vc,hvv⟩ : ∃ a l c,m1.vt.v = .slice a l c := ⟨m1.vt.a,m1.vt.s.length,m1.vt.c,rfl⟩
 obtain ⟨I,hI⟩ : ∃ I,isIn an.p.ks u1.sep = I := ⟨_,rfl⟩
 rw [hI] at HQ
 have HFI : Hid (∀ Y,Below wa.heap.size wa Y → Calls Tryz.prog 155 #[.agg #[.int .i64 nlv,.slice nha nlh nhc,.int .i64 nri,.slice nka nlk nkc,.slice nva nlw nvc,.slice nca nlc ncc],.slice sa sl sc] Y fun e w' => (∃ i,e = .returned (.tuple #[.int .i64 i,.bool I])) ∧ Below Y.heap.size Y w') := fun Y hb => by
  have := find_any an m1.st Y (HNA.out.below hb).ok (qa.below hb).up.s.ok
  rw [HNV.out,hsv] at this
  refine this.mono ?_
  rintro e w' ⟨rfl,h2⟩
  exact ⟨⟨(cntB an.ks.p m1.st.s : Nat),by rw [show isIn an.ks.p m1.st.s = I by rw [HST.out.1]; exact hI]⟩,h2⟩
 have HW2 : Hid (∀ Y wb,Below wa.heap.size wa Y → wb = Y.setCell ⟨P,30,none⟩ (.bool I) → UQ W P A D F m m1 D1 F1 { u1 with had := I } s1 wb ∧ an.Own wb N ∧ wb.heap[w1.heap.size]? = some (.cells #[.int .i64 nlv,.slice nha nlh nhc,.int .i64 nri,.slice nka nlk nkc,.slice nva nlw nvc,.slice nca nlc ncc] 110 (0,0)) ∧ wb.heap[w1.heap.size + 1]? = some (.cells #[.int .i64 0,.slice none 0 0,.int .i64 0,.slice none 0 0,.slice none 0 0,.slice none 0 0] 110 (0,0)) ∧ w1.heap.size ≤ wb.heap.size) := fun Y wb hb hw => by
  have q3 := qa.below hb
  have hu : Upd (fun k => k = P) Y wb := by rw [hw]; exact updP (Upd.refl _ _) _ _
  refine ⟨q3.own hu (by rw [hw]; exact block_setCell q3.up.c 30 _) ⟨rfl,rfl,rfl,rfl,rfl,rfl⟩,(HNA.out.below hb).updP hPN hu,hu.heap ((hb.block _ (lt_of_block g3)).trans g3) (fun e => nbP3 e.symm),hu.heap ((hb.block _ (lt_of_block g4)).trans g4) (fun e => nbP4 e.symm),?_⟩
  have h1 := ba.size
  have h2 := hb.size
  have h3 := hu.size
  omega
 have HWI : Hid (∀ wb,UQ W P A D F m m1 D1 F1 { u1 with had := I } s1 wb → an.Own wb N → ∀ Y,Below wb.heap.size wb Y → Calls Tryz.prog 184 #[.agg #[.int .i64 nlv,.slice nha nlh nhc,.int .i64 nri,.slice nka nlk nkc,.slice nva nlw nvc,.slice nca nlc ncc],.slice sa sl sc,.slice va vl vc] Y (NdPost Y (an.p.with_ u1.sep u1.val))) := fun wb qb ho Y hb => by
  have := with_any an m1.st m1.vt Y (ho.below hb).ok (qb.below hb).up.s.ok (qb.below hb).up.v.ok hz.1 hz.2
  rw [HNV.out,hsv,hvv,HST.out.1,HST.out.2] at this
  exact this
 have c9 : wa.cell? ⟨P,9,none⟩ = some (.slice sa sl sc) := by rw [← hsv]; exact qa.up.cell 9 _ rfl
 have HCB : Hid (∀ wb,UQ W P A D F m m1 D1 F1 { u1 with had := I } s1 wb → wb.cell? ⟨P,9,none⟩ = some (.slice sa sl sc) ∧ wb.cell? ⟨P,6,none⟩ = some (.slice va vl vc)) := fun wb qb => ⟨by rw [← hsv]; exact qb.up.cell 9 _ rfl,by rw [← hvv]; exact qb.up.cell 6 _ rfl⟩
 have HGA := hide qa.up.c
 have hPa := lt_of_block qa.up.c
 obtain ⟨b0,b1,b2,b3,b4,b5⟩ := Six.of g3
 have G3 := hide g3
 clear q0 hn hz hwa g3 g4 qa HNA hI hsv hvv HST hla HAN
 go_enter Tryz.func165,Tryz.ntmps165
 go_upto_region 1 with fail
 rw [← HWA.out]
 clear HWA
 go_upto_region 2 with fail
 go_cut [] (fun wx => Hid (UQ W P A D F m m1 D1 F1 { u1 with had := I } s1 wx ∧ an.Own wx N ∧ wx.heap[w1.heap.size]? = some (.cells #[.int .i64 nlv,.slice nha nlh nhc,.int .i64 nri,.slice nka nlk nkc,.slice nva nlw nvc,.slice nca nlc ncc] 110 (0,0)) ∧ wx.heap[w1.heap.size + 1]? = some (.cells #[.int .i64 0,.slice none 0 0,.int .i64 0,.slice none 0 0,.slice none 0 0,.slice none 0 0] 110 (0,0)) ∧ w1.heap.size ≤ wx.heap.size))
 case first =>
  go_region_held3 (fun Y => (Y.cell? ⟨w1.heap.size,0,none⟩ = some (.int .i64 nlv) ∧ Y.cell? ⟨w1.heap.size,1,none⟩ = some (.slice nha nlh nhc) ∧ Y.cell? ⟨w1.heap.size,2,none⟩ = some (.int .i64 nri) ∧ Y.cell? ⟨w1.heap.size,3,none⟩ = some (.slice nka nlk nkc) ∧ Y.cell? ⟨w1.heap.size,4,none⟩ = some (.slice nva nlw nvc) ∧ Y.cell? ⟨w1.heap.size,5,none⟩ = some (.slice nca nlc ncc)) ∧ Y.cell? ⟨P,9,none⟩ = some (.slice sa sl sc)) (go_keep) (first
   | (go_at_call 155; refine (HFI.out _ (below_drew (Below.refl _ _))).mono ?_; rintro e w3 ⟨⟨fi,rfl⟩,hb3⟩; have bb := (below_drew (Below.refl wa.heap.size wa)).trans hb3; have gP := (bb.block P hPa).trans HGA.out; have gB := (bb.block _ (lt_of_block G3.out)).trans G3.out; have HX := hide (HW2.out w3 _ bb rfl); have fz := (fun j => frozen_of gP j); have p30 : w3.cell? ⟨P,30,none⟩ = some (.bool u1.had) := (by rw [cell_of_row _ _ _ _ _ _ gP]; rfl); have p9 := (bb.cell (p := ⟨P,9,none⟩) hPa).trans c9; obtain ⟨e0,e1,e2,e3,e4,e5⟩ := Six.of gB; have gP2 := block_setCell gP 30 (.bool I); obtain ⟨f0,f1,f2,f3,f4,f5⟩ := Six.of HX.out.2.2.1; have p92 := (HCB.out _ HX.out.1).1; clear hb3 bb gP gB gP2)
   | fail)
  all_goals (try go_wp2_with fail)
  all_goals
   go_meet
   exact HX.out
 case rest =>
 rename World => wx
 obtain ⟨qx,ox,gx3,gx4,hsx⟩ := hcut.out
 obtain ⟨r9,r6⟩ := HCB.out wx qx
 have HWX := hide (HWI.out wx qx ox)
 have HFIN : Hid (∀ w4 (y : Nd),Below wx.heap.size wx w4 → y.p = an.p.with_ u1.sep u1.val → y.Own w4 wx.drew.heap.size → ∃ n' : Nd,n'.p = an.p.with_ u1.sep u1.val ∧ n'.Own (six6 w4 (w1.heap.size + 1) (.int .i64 y.lv) y.hi.v (.int .i64 y.ri) y.ks.v y.vs.v y.cs.v) w1.heap.size ∧ (six6 w4 (w1.heap.size + 1) (.int .i64 y.lv) y.hi.v (.int .i64 y.ri) y.ks.v y.vs.v y.cs.v).heap[w1.heap.size + 1]? = some (.cells #[.int .i64 n'.lv,n'.hi.v,.int .i64 n'.ri,n'.ks.v,n'.vs.v,n'.cs.v] 110 (0,0)) ∧ UQ W P A D F m m1 D1 F1 { u1 with had := I } s1 (six6 w4 (w1.heap.size + 1) (.int .i64 y.lv) y.hi.v (.int .i64 y.ri) y.ks.v y.vs.v y.cs.v)) := fun w4 y hb hp ho => by
  have u6 : Upd (fun k => k = w1.heap.size + 1) w4 (six6 w4 (w1.heap.size + 1) (.int .i64 y.lv) y.hi.v (.int .i64 y.ri) y.ks.v y.vs.v y.cs.v) := six_upd _ _ _ _ _ _ _ _ _ rfl
  have h4 := lt_of_block gx4
  have k4 := (hb.block _ (lt_of_block gx4)).trans gx4
  have hsz : wx.drew.heap.size = wx.heap.size := rfl
  refine ⟨y,hp,(ho.upd u6 (fun b hb1 _ e => by omega)).mono (by omega),six_block k4 _ _ _ _ _ _,?_⟩
  have hq := qx.below hb
  exact hq.far u6 hNW (fun e => nbP4 e.symm)
 have HQX := hide qx
 have hPx := lt_of_block qx.up.c
 obtain ⟨e0,e1,e2,e3,e4,e5⟩ := Six.of gx3
 obtain ⟨z0,z1,z2,z3,z4,z5⟩ := Six.of gx4
 have fz4 := fun j => frozen_of gx4 j
 have GX3 := hide gx3
 have GX4 := hide gx4
 clear qx ox gx3 gx4 hcut HWI HW2 HFI HCB HGA hPa c9 c8 b0 b1 b2 b3 b4 b5 G3
 go_upto_region 3 with fail
 go_cut [5] (fun q5 wz => q5 = .bool true ∧ Hid (∃ n' : Nd,n'.p = an.p.with_ u1.sep u1.val ∧ n'.Own wz w1.heap.size ∧ wz.heap[w1.heap.size + 1]? = some (.cells #[.int .i64 n'.lv,n'.hi.v,.int .i64 n'.ri,n'.ks.v,n'.vs.v,n'.cs.v] 110 (0,0)) ∧ UQ W P A D F m m1 D1 F1 { u1 with had := I } s1 wz))
 case first =>
  go_region_held3 (fun Y => (Y.cell? ⟨w1.heap.size,0,none⟩ = some (.int .i64 nlv) ∧ Y.cell? ⟨w1.heap.size,1,none⟩ = some (.slice nha nlh nhc) ∧ Y.cell? ⟨w1.heap.size,2,none⟩ = some (.int .i64 nri) ∧ Y.cell? ⟨w1.heap.size,3,none⟩ = some (.slice nka nlk nkc) ∧ Y.cell? ⟨w1.heap.size,4,none⟩ = some (.slice nva nlw nvc) ∧ Y.cell? ⟨w1.heap.size,5,none⟩ = some (.slice nca nlc ncc)) ∧ Y.cell? ⟨P,9,none⟩ = some (.slice sa sl sc) ∧ Y.cell? ⟨P,6,none⟩ = some (.slice va vl vc)) (go_keep) (first
   | (go_at_call 184; refine (HWX.out _ (below_drew (Below.refl _ _))).mono ?_; rintro e w4 ⟨⟨ylv,⟨yha,yhc,yhs⟩,yri,⟨yka,ykc,yK⟩,⟨yva,yvc,yV⟩,⟨yca,ycc,yC⟩⟩,rfl,hyp,hyo,hb4⟩; simp only [Nd.v,Tx.v,TL.v,IL.v]; have bb := (below_drew (Below.refl wx.heap.size wx)).trans hb4; have HFN := hide (HFIN.out w4 ⟨ylv,⟨yha,yhc,yhs⟩,yri,⟨yka,ykc,yK⟩,⟨yva,yvc,yV⟩,⟨yca,ycc,yC⟩⟩ bb hyp hyo); simp only [six6,Tx.v,TL.v,IL.v] at HFN; have k3 := (bb.block _ (lt_of_block GX3.out)).trans GX3.out; have k4 := (bb.block _ (lt_of_block GX4.out)).trans GX4.out; obtain ⟨a0,a1,a2,a3,a4,a5⟩ := Six.of k3; obtain ⟨y0,y1,y2,y3,y4,y5⟩ := Six.of k4; have fy := (fun j => frozen_of k4 j); have x9 := (bb.cell (p := ⟨P,9,none⟩) hPx).trans r9; have x6 := (bb.cell (p := ⟨P,6,none⟩) hPx).trans r6; have u6 := six_upd (fun k => k = w1.heap.size + 1) w4 (w1.heap.size + 1) (.int .i64 ylv) (.slice yha yhs.length yhc) (.int .i64 yri) (.slice yka yK.length ykc) (.slice yva yV.length yvc) (.slice yca yC.length ycc) rfl; have t0 := u6.cell a0 nb34; have t1 := u6.cell a1 nb34; have t2 := u6.cell a2 nb34; have t3 := u6.cell a3 nb34; have t4 := u6.cell a4 nb34; have t5 := u6.cell a5 nb34; have t9 := u6.cell x9 nbP4; have t6 := u6.cell x6 nbP4; simp only [six6] at t0 t1 t2 t3 t4 t5 t9 t6; clear hyp hyo hb4 bb k3 k4 u6; generalize yhs.length = ylh at *; generalize yK.length = ylk at *; generalize yV.length = ylw at *; generalize yC.length = ylc at *)
   | fail)
  all_goals (try go_wp2_with fail)
  all_goals
   go_meet
   exact ⟨rfl,HFN.out⟩
 case rest =>
 rename World => wz
 obtain ⟨rfl,HX⟩ := hcut
 obtain ⟨n',hp',ho',hg',hq'⟩ := HX.out
 have HEND := hide (HQ.out (.returned (.tuple #[n'.v,.bool true])) wz ⟨n',rfl,hp',ho',hq'⟩)
 obtain ⟨y0,y1,y2,y3,y4,y5⟩ := Six.of hg'
 clear hp' ho' hg' hq' HX HQ
 obtain ⟨ylv,⟨yha,yhc,yhs⟩,yri,⟨yka,ykc,yK⟩,⟨yva,yvc,yV⟩,⟨yca,ycc,yC⟩⟩ := n'
 simp only [Nd.v,Tx.v,TL.v,IL.v] at HEND y0 y1 y2 y3 y4 y5
 generalize yhs.length = ylh at *
 generalize yK.length = ylk at *
 generalize yV.length = ylw at *
 generalize yC.length = ylc at *
 go_wp2_with fail
 exact bodyPost_ret (v := .tuple #[.agg #[.int .i64 ylv,.slice yha ylh yhc,.int .i64 yri,.slice yka ylk ykc,.slice yva ylw yvc,.slice yca ylc ycc],.bool true]) (by simp [results,Tryz.results165,go_sem,y0,y1,y2,y3,y4,y5]) rfl HEND.out
set_option maxHeartbeats 6400000 in
theorem u_changeI (q0 : UQ W P A D F m m1 D1 F1 u1 s1 w1) (n : Nd) {N : Nat} (hn : n.Own w1 N) (hz : n.ks.L.length * 24 ≤ 140737488351900 ∧ n.cs.s.length * 8 ≤ 140737488351900) (hl : u1.lev ≠ 0) : Calls Tryz.prog 165 #[.pointer (some ⟨P,0,none⟩),n.v] w1 fun e w' => ∃ n' : Nd,e = .returned (.tuple #[n'.v,.bool (!isIn n.p.ks u1.sep)]) ∧ n'.p = n.p.joined u1.sep u1.rgt ∧ n'.Own w' w1.heap.size ∧ UQ W P A D F m m1 D1 F1 u1 s1 w' := by
 obtain ⟨Q,hQ⟩ : ∃ Q : Ending → World → Prop,Q = fun e w' => ∃ n' : Nd,e = .returned (.tuple #[n'.v,.bool (!isIn n.p.ks u1.sep)]) ∧ n'.p = n.p.joined u1.sep u1.rgt ∧ n'.Own w' w1.heap.size ∧ UQ W P A D F m m1 D1 F1 u1 s1 w' := ⟨_,rfl⟩
 rw [← hQ]
 have HQ : Hid (∀ e w',(∃ n' : Nd,e = .returned (.tuple #[n'.v,.bool (!isIn n.p.ks u1.sep)]) ∧ n'.p = n.p.joined u1.sep u1.rgt ∧ n'.Own w' w1.heap.size ∧ UQ W P A D F m m1 D1 F1 u1 s1 w') → Q e w') := fun e w' h => by rw [hQ]; exact h
 clear hQ
 have hPl := lt_of_block q0.up.c
 have hNW : W.heap.size ≤ w1.heap.size + 1 ∧ ¬ D1 (w1.heap.size + 1) ∧ ¬ F1 (w1.heap.size + 1) := ⟨by have := q0.u.size; omega,fun e => by have := q0.up.lt _ e; omega,fun e => by have := q0.px.lt _ e; omega⟩
 obtain ⟨an,han⟩ : ∃ an,an = n := ⟨_,rfl⟩
 rw [← han] at hn hz HQ
 have HAN := hide han
 clear han
 obtain ⟨nlv,⟨nha,nhc,nhs⟩,nri,⟨nka,nkc,nK⟩,⟨nva,nvc,nV⟩,⟨nca,ncc,nC⟩⟩ := n
 have HNV : Hid (an.v = .agg #[.int .i64 nlv,.slice nha nhs.length nhc,.int .i64 nri,.slice nka nK.length nkc,.slice nva nV.length nvc,.slice nca nC.length ncc]) := by show _ = _; rw [HAN.out]; rfl
 simp only [Nd.v,Tx.v,TL.v,IL.v]
 generalize nhs.length = nlh at *
 generalize nK.length = nlk at *
 generalize nV.length = nlw at *
 generalize nC.length = nlc at *
 obtain ⟨wa,hwa⟩ : ∃ wa,wa = (w1.alloc (.cells #[.int .i64 nlv,.slice nha nlh nhc,.int .i64 nri,.slice nka nlk nkc,.slice nva nlw nvc,.slice nca nlc ncc] 110)).alloc (.cells #[.int .i64 0,.slice none 0 0,.int .i64 0,.slice none 0 0,.slice none 0 0,.slice none 0 0] 110) := ⟨_,rfl⟩
 have g3 : wa.heap[w1.heap.size]? = some (.cells #[.int .i64 nlv,.slice nha nlh nhc,.int .i64 nri,.slice nka nlk nkc,.slice nva nlw nvc,.slice nca nlc ncc] 110 (0,0)) := by rw [hwa]; exact old_at (new_at rfl)
 have g4 : wa.heap[w1.heap.size + 1]? = some (.cells #[.int .i64 0,.slice none 0 0,.int .i64 0,.slice none 0 0,.slice none 0 0,.slice none 0 0] 110 (0,0)) := by rw [hwa]; exact new_at (by simp)
 have ba : Below w1.heap.size w1 wa := by rw [hwa]; exact ((Below.refl _ _).alloc (Nat.le_refl _) _).alloc (by simp) _
 have qa := q0.below ba
 have HNA : Hid (an.Own wa N) := hn.below ba
 have HWA := hide hwa
 have hla := lt_of_block g4
 have nb34 : ¬ w1.heap.size = w1.heap.size + 1 := by omega
 have nbP3 : ¬ P = w1.heap.size := by omega
 have nbP4 : ¬ P = w1.heap.size + 1 := by omega
 have c8 : wa.cell? ⟨P,8,none⟩ = some (.int .i64 u1.lev) := qa.up.cell 8 _ rfl
 have hlb : (u1.lev == 0) = false := by rw [beq_eq_false_iff_ne]; exact hl
 obtain ⟨lev,hlev⟩ : ∃ x,u1.lev = x := ⟨_,rfl⟩
 rw [hlev] at c8 hlb
 have HST : Hid (m1.st.s = u1.sep) := q0.up.s.s
 obtain ⟨sa,sl,sc,hsv⟩ : ∃ a l c,m1.st.v = .slice a l c := ⟨m1.st.a,m1.st.s.length,m1.st.c,rfl⟩
 obtain ⟨I,hI⟩ : ∃ I,(!isIn an.p.ks u1.sep) = I := ⟨_,rfl⟩
 rw [hI] at HQ
 obtain ⟨R,hR⟩ : ∃ R,u1.rgt = R := ⟨_,rfl⟩
 have HJO : Hid (∀ Y,Below wa.heap.size wa Y → Calls Tryz.prog 185 #[.agg #[.int .i64 nlv,.slice nha nlh nhc,.int .i64 nri,.slice nka nlk nkc,.slice nva nlw nvc,.slice nca nlc ncc],.slice sa sl sc,.int .i64 R] Y (NdBPost Y (an.p.joined u1.sep u1.rgt) I)) := fun Y hb => by
  have := joined_any an m1.st u1.rgt Y (HNA.out.below hb).ok (qa.below hb).up.s.ok hz.1 hz.2
  rw [HNV.out,hsv,HST.out,show (!isIn an.ks.p u1.sep) = I from hI] at this
  rw [hR] at this ⊢
  exact this
 have c9 : wa.cell? ⟨P,9,none⟩ = some (.slice sa sl sc) := by rw [← hsv]; exact qa.up.cell 9 _ rfl
 have c28 : wa.cell? ⟨P,28,none⟩ = some (.int .i64 R) := by rw [← hR]; exact qa.up.cell 28 _ rfl
 have hPa := lt_of_block qa.up.c
 have HFIN : Hid (∀ w4 (y : Nd),Below wa.heap.size wa w4 → y.p = an.p.joined u1.sep u1.rgt → y.Own w4 wa.drew.heap.size → ∃ n' : Nd,n'.p = an.p.joined u1.sep u1.rgt ∧ n'.Own (six6 w4 (w1.heap.size + 1) (.int .i64 y.lv) y.hi.v (.int .i64 y.ri) y.ks.v y.vs.v y.cs.v) w1.heap.size ∧ (six6 w4 (w1.heap.size + 1) (.int .i64 y.lv) y.hi.v (.int .i64 y.ri) y.ks.v y.vs.v y.cs.v).heap[w1.heap.size + 1]? = some (.cells #[.int .i64 n'.lv,n'.hi.v,.int .i64 n'.ri,n'.ks.v,n'.vs.v,n'.cs.v] 110 (0,0)) ∧ UQ W P A D F m m1 D1 F1 u1 s1 (six6 w4 (w1.heap.size + 1) (.int .i64 y.lv) y.hi.v (.int .i64 y.ri) y.ks.v y.vs.v y.cs.v)) := fun w4 y hb hp ho => by
  have u6 : Upd (fun k => k = w1.heap.size + 1) w4 (six6 w4 (w1.heap.size + 1) (.int .i64 y.lv) y.hi.v (.int .i64 y.ri) y.ks.v y.vs.v y.cs.v) := six_upd _ _ _ _ _ _ _ _ _ rfl
  have h4 := lt_of_block g4
  have h5 := ba.size
  have k4 := (hb.block _ (lt_of_block g4)).trans g4
  have hsz : wa.drew.heap.size = wa.heap.size := rfl
  refine ⟨y,hp,(ho.upd u6 (fun b hb1 _ e => by omega)).mono (by omega),six_block k4 _ _ _ _ _ _,?_⟩
  exact (qa.below hb).far u6 hNW (fun e => nbP4 e.symm)
 obtain ⟨b0,b1,b2,b3,b4,b5⟩ := Six.of g3
 obtain ⟨z0,z1,z2,z3,z4,z5⟩ := Six.of g4
 have fz4 := fun j => frozen_of g4 j
 have GX3 := hide g3
 have GX4 := hide g4
 clear q0 hn hz hwa g3 g4 qa HNA hI hsv HST hla HAN hR hlev hl
 go_enter Tryz.func165,Tryz.ntmps165
 go_upto_region 1 with fail
 rw [← HWA.out]
 clear HWA
 go_upto_region 4 with fail
 go_cut [5] (fun q5 wz => q5 = .bool I ∧ Hid (∃ n' : Nd,n'.p = an.p.joined u1.sep u1.rgt ∧ n'.Own wz w1.heap.size ∧ wz.heap[w1.heap.size + 1]? = some (.cells #[.int .i64 n'.lv,n'.hi.v,.int .i64 n'.ri,n'.ks.v,n'.vs.v,n'.cs.v] 110 (0,0)) ∧ UQ W P A D F m m1 D1 F1 u1 s1 wz))
 case first =>
  go_region_held3 (fun Y => (Y.cell? ⟨w1.heap.size,0,none⟩ = some (.int .i64 nlv) ∧ Y.cell? ⟨w1.heap.size,1,none⟩ = some (.slice nha nlh nhc) ∧ Y.cell? ⟨w1.heap.size,2,none⟩ = some (.int .i64 nri) ∧ Y.cell? ⟨w1.heap.size,3,none⟩ = some (.slice nka nlk nkc) ∧ Y.cell? ⟨w1.heap.size,4,none⟩ = some (.slice nva nlw nvc) ∧ Y.cell? ⟨w1.heap.size,5,none⟩ = some (.slice nca nlc ncc)) ∧ Y.cell? ⟨P,9,none⟩ = some (.slice sa sl sc) ∧ Y.cell? ⟨P,28,none⟩ = some (.int .i64 R)) (go_keep) (first
   | (go_at_call 185; refine (HJO.out _ (below_drew (Below.refl _ _))).mono ?_; rintro e w4 ⟨xv,rfl,⟨ylv,⟨yha,yhc,yhs⟩,yri,⟨yka,ykc,yK⟩,⟨yva,yvc,yV⟩,⟨yca,ycc,yC⟩⟩,hxv,hyp,hyo,hb4⟩; obtain rfl : xv = _ := (by simpa using hxv); simp only [Nd.v,Tx.v,TL.v,IL.v]; have bb := (below_drew (Below.refl wa.heap.size wa)).trans hb4; have HFN := hide (HFIN.out w4 ⟨ylv,⟨yha,yhc,yhs⟩,yri,⟨yka,ykc,yK⟩,⟨yva,yvc,yV⟩,⟨yca,ycc,yC⟩⟩ bb hyp hyo); simp only [six6,Tx.v,TL.v,IL.v] at HFN; have k3 := (bb.block _ (lt_of_block GX3.out)).trans GX3.out; have k4 := (bb.block _ (lt_of_block GX4.out)).trans GX4.out; obtain ⟨a0,a1,a2,a3,a4,a5⟩ := Six.of k3; obtain ⟨y0,y1,y2,y3,y4,y5⟩ := Six.of k4; have fy := (fun j => frozen_of k4 j); have x9 := (bb.cell (p := ⟨P,9,none⟩) hPa).trans c9; have x6 := (bb.cell (p := ⟨P,28,none⟩) hPa).trans c28; have u6 := six_upd (fun k => k = w1.heap.size + 1) w4 (w1.heap.size + 1) (.int .i64 ylv) (.slice yha yhs.length yhc) (.int .i64 yri) (.slice yka yK.length ykc) (.slice yva yV.length yvc) (.slice yca yC.length ycc) rfl; have t0 := u6.cell a0 nb34; have t1 := u6.cell a1 nb34; have t2 := u6.cell a2 nb34; have t3 := u6.cell a3 nb34; have t4 := u6.cell a4 nb34; have t5 := u6.cell a5 nb34; have t9 := u6.cell x9 nbP4; have t6 := u6.cell x6 nbP4; simp only [six6] at t0 t1 t2 t3 t4 t5 t9 t6; clear hyp hyo hb4 bb k3 k4 u6 hxv; generalize yhs.length = ylh at *; generalize yK.length = ylk at *; generalize yV.length = ylw at *; generalize yC.length = ylc at *)
   | fail)
  all_goals (try go_wp2_with fail)
  all_goals
   go_meet
   exact ⟨rfl,HFN.out⟩
 case rest =>
 rename World => wz
 obtain ⟨rfl,HX⟩ := hcut
 obtain ⟨n',hp',ho',hg',hq'⟩ := HX.out
 have HEND := hide (HQ.out (.returned (.tuple #[n'.v,.bool I])) wz ⟨n',rfl,hp',ho',hq'⟩)
 obtain ⟨y0,y1,y2,y3,y4,y5⟩ := Six.of hg'
 clear hp' ho' hg' hq' HX HQ
 obtain ⟨ylv,⟨yha,yhc,yhs⟩,yri,⟨yka,ykc,yK⟩,⟨yva,yvc,yV⟩,⟨yca,ycc,yC⟩⟩ := n'
 simp only [Nd.v,Tx.v,TL.v,IL.v] at HEND y0 y1 y2 y3 y4 y5
 generalize yhs.length = ylh at *
 generalize yK.length = ylk at *
 generalize yV.length = ylw at *
 generalize yC.length = ylc at *
 go_wp2_with fail
 exact bodyPost_ret (v := .tuple #[.agg #[.int .i64 ylv,.slice yha ylh yhc,.int .i64 yri,.slice yka ylk ykc,.slice yva ylw yvc,.slice yca ylc ycc],.bool I]) (by simp [results,Tryz.results165,go_sem,y0,y1,y2,y3,y4,y5]) rfl HEND.out
end
section
variable {W w1 w2 : World} {P A : Nat} {D F D1 F1 : Nat → Prop} {m m1 : UM} {u u1 u2 : US} {s s1 : AS}
theorem UQ.node {n' : Nd} {N : Nat} (h : UQ W P A D F m m1 D1 F1 u1 s1 w1) (hN : W.heap.size ≤ N ∧ ∀ x,D1 x ∨ F1 x → x < N) (hP : P < N) (ho : n'.Own w1 N) (hu : Upd (fun k => k = P) w1 w2) (hc : w2.heap[P]? = some (.cells (ucel P A { m1 with hn := n' } u2) 121 (0,0))) (ha : ({ u1 with hn := n'.p } : US).alike u2) : ∃ D2,UQ W P A D F m { m1 with hn := n' } D2 F1 u2 s1 w2 := by
 obtain ⟨a1,a2,a3,a4,a5,a6⟩ := ha
 simp only at a1 a2 a3 a4 a5 a6
 have hs : ∀ x,D1 x → m1.pw ≠ some x → ¬ x = P := fun x hx _ e => h.up.pd (e ▸ hx)
 have ho2 := ho.updP hP hu
 have hpw : ∀ x,N ≤ x → m1.pw ≠ some x := fun x hx => by
  rcases h.up.w with h1 | ⟨p,ms,k,n,Dm,h1,h2,h3,h4,h5⟩
  ·rw [h1.1]; exact fun e => nomatch e
  ·rw [h1]; intro e; cases e; have := hN.2 _ (.inl h3); omega
 refine ⟨fun x => D1 x ∨ (N ≤ x ∧ x < w2.heap.size),⟨⟨hc,by rw [a1]; exact h.up.v.keep hu hs (fun _ hx => .inl hx) (fun _ _ hx => hx),by rw [a2]; exact h.up.s.keep hu hs (fun _ hx => .inl hx) (fun _ _ hx => hx),by rw [a3]; exact h.up.b.keep hu hs (fun _ hx => .inl hx) (fun _ _ hx => hx),by rw [a4]; exact ⟨ho2.ok,rfl,ho2.in_.mono (fun x hx => ⟨.inr hx,hpw x hx.1⟩)⟩,by rw [a5]; exact h.up.f.keep hu hs (fun _ hx => .inl hx) (fun _ _ hx => hx),?_,?_,?_⟩,h.px.upd hu (fun k hk => (h.ap k hk).2),?_,h.f,?_,h.u.trans (hu.mono (fun _ _ e => .inl e))⟩⟩
 ·rw [a6]
  rcases h.up.w with h1 | ⟨p,ms,k,n,Dm,h1,h2,h3,h4,h5⟩
  ·exact .inl h1
  ·refine .inr ⟨p,ms,k,n,Dm,h1,h2,.inl h3,h4.upd hu (fun x hx e => ?_),fun x hx => .inl (h5 x hx)⟩
   rcases hx with rfl | hx
   ·exact h.up.pd (e ▸ h3)
   ·exact h.up.pd (e ▸ h5 x hx)
 ·rintro (h1 | h1)
  ·exact h.up.pd h1
  ·omega
 ·rintro x (h1 | h1)
  ·exact Nat.lt_of_lt_of_le (h.up.lt x h1) hu.size
  ·exact h1.2
 ·rintro x (h1 | h1)
  ·exact h.d x h1
  ·exact .inr (Nat.le_trans hN.1 h1.1)
 ·intro x hx
  refine ⟨?_,(h.ap x hx).2⟩
  rintro (h1 | h1)
  ·exact (h.ap x hx).1 h1
  ·have := hN.2 x (.inr hx); omega
def six12 (W : World) (b : Nat) (x0 x1 x2 x3 x4 x5 : Value) : World := (((((W.setCell ⟨b,12,none⟩ x0).setCell ⟨b,13,none⟩ x1).setCell ⟨b,14,none⟩ x2).setCell ⟨b,15,none⟩ x3).setCell ⟨b,16,none⟩ x4).setCell ⟨b,17,none⟩ x5
theorem six12_upd (W : World) (b : Nat) (x0 x1 x2 x3 x4 x5 : Value) : Upd (fun k => k = b) W (six12 W b x0 x1 x2 x3 x4 x5) := updP (updP (updP (updP (updP (updP (Upd.refl _ _) _ _) _ _) _ _) _ _) _ _) _ _
theorem six12_block {m1 : UM} {u : US} {W : World} (n' : Nd) (h : W.heap[P]? = some (.cells (ucel P A m1 u) 121 (0,0))) : (six12 W P (.int .i64 n'.lv) n'.hi.v (.int .i64 n'.ri) n'.ks.v n'.vs.v n'.cs.v).heap[P]? = some (.cells (ucel P A { m1 with hn := n' } u) 121 (0,0)) :=
 block_setCell (block_setCell (block_setCell (block_setCell (block_setCell (block_setCell h 12 _) 13 _) 14 _) 15 _) 16 _) 17 _
set_option maxHeartbeats 6400000 in
theorem u_fate0 (q0 : UQ W P A D F m m1 D1 F1 u1 s1 w1) (n : Nd) (B : Bool) (p' : NP)
  (hch : ∀ Y,Below w1.heap.size w1 Y → Calls Tryz.prog 165 #[.pointer (some ⟨P,0,none⟩),n.v] Y fun e w' => ∃ n' : Nd,e = .returned (.tuple #[n'.v,.bool B]) ∧ n'.p = p' ∧ n'.Own w' Y.heap.size ∧ UQ W P A D F m m1 D1 F1 u2 s1 w') :
  Calls Tryz.prog 143 #[.pointer (some ⟨P,0,none⟩),n.v] w1 fun e w' => e = .returned (.tuple #[]) ∧ ∃ m2 D2,UQ W P A D F m m2 D2 F1 (if B then { u2 with hn := p',nx := if p'.over u2.cf then 6 else 3 } else { u2 with nx := 5 }) s1 w' := by
 obtain ⟨Q,hQ⟩ : ∃ Q : Ending → World → Prop,Q = fun e w' => e = .returned (.tuple #[]) ∧ ∃ m2 D2,UQ W P A D F m m2 D2 F1 (if B then { u2 with hn := p',nx := if p'.over u2.cf then 6 else 3 } else { u2 with nx := 5 }) s1 w' := ⟨_,rfl⟩
 rw [← hQ]
 have HQ : Hid (∀ e w',(e = .returned (.tuple #[]) ∧ ∃ m2 D2,UQ W P A D F m m2 D2 F1 (if B then { u2 with hn := p',nx := if p'.over u2.cf then 6 else 3 } else { u2 with nx := 5 }) s1 w') → Q e w') := fun e w' h => by rw [hQ]; exact h
 clear hQ
 have hPl := lt_of_block q0.up.c
 have HD1 : Hid (W.heap.size ≤ w1.heap.size ∧ ∀ x,D1 x ∨ F1 x → x < w1.heap.size) := ⟨q0.u.size,fun x hx => by rcases hx with hx | hx; exact q0.up.lt x hx; exact q0.px.lt x hx⟩
 have HCH := hide hch
 clear hch q0
 obtain ⟨nlv,⟨nha,nhc,nhs⟩,nri,⟨nka,nkc,nK⟩,⟨nva,nvc,nV⟩,⟨nca,ncc,nC⟩⟩ := n
 simp only [Nd.v,Tx.v,TL.v,IL.v] at HCH ⊢
 generalize nhs.length = nlh at *
 generalize nK.length = nlk at *
 generalize nV.length = nlw at *
 generalize nC.length = nlc at *
 obtain ⟨wa,hwa⟩ : ∃ wa,wa = w1.alloc (.cells #[.int .i64 nlv,.slice nha nlh nhc,.int .i64 nri,.slice nka nlk nkc,.slice nva nlw nvc,.slice nca nlc ncc] 110) := ⟨_,rfl⟩
 have g3 : wa.heap[w1.heap.size]? = some (.cells #[.int .i64 nlv,.slice nha nlh nhc,.int .i64 nri,.slice nka nlk nkc,.slice nva nlw nvc,.slice nca nlc ncc] 110 (0,0)) := by rw [hwa]; exact new_at rfl
 have ba : Below w1.heap.size w1 wa := by rw [hwa]; exact (Below.refl _ _).alloc (Nat.le_refl _) _
 have HC := hide (HCH.out wa ba)
 have hsa := ba.size
 have HWA := hide hwa
 obtain ⟨b0,b1,b2,b3,b4,b5⟩ := Six.of g3
 clear hwa g3 ba HCH
 go_enter Tryz.func143,Tryz.ntmps143
 go_wp2_with fail
 go_step3
 rw [← HWA.out]
 clear HWA
 go_wp2_with fail
 refine HC.out.mono ?_
 rintro e w2 ⟨⟨ylv,⟨yha,yhc,yhs⟩,yri,⟨yka,ykc,yK⟩,⟨yva,yvc,yV⟩,⟨yca,ycc,yC⟩⟩,rfl,hyp,hyo,q2⟩
 obtain ⟨ay,hay⟩ : ∃ ay,ay = (⟨ylv,⟨yha,yhc,yhs⟩,yri,⟨yka,ykc,yK⟩,⟨yva,yvc,yV⟩,⟨yca,ycc,yC⟩⟩ : Nd) := ⟨_,rfl⟩
 rw [← hay] at hyp hyo
 have HYV : Hid (ay.lv = ylv ∧ ay.hi.v = .slice yha yhs.length yhc ∧ ay.ri = yri ∧ ay.ks.v = .slice yka yK.length ykc ∧ ay.vs.v = .slice yva yV.length yvc ∧ ay.cs.v = .slice yca yC.length ycc ∧ ay.v = .agg #[.int .i64 ylv,.slice yha yhs.length yhc,.int .i64 yri,.slice yka yK.length ykc,.slice yva yV.length yvc,.slice yca yC.length ycc]) := by rw [hay]; exact ⟨rfl,rfl,rfl,rfl,rfl,rfl,rfl⟩
 clear hay
 dsimp only
 generalize yhs.length = ylh at *
 generalize yK.length = ylk at *
 generalize yV.length = ylw at *
 generalize yC.length = ylc at *
 have HP2 := lt_of_block q2.up.c
 obtain ⟨w3,hw3⟩ : ∃ w3,w3 = w2.alloc (.cells #[.int .i64 ylv,.slice yha ylh yhc,.int .i64 yri,.slice yka ylk ykc,.slice yva ylw yvc,.slice yca ylc ycc] 110) := ⟨_,rfl⟩
 have k3 : w3.heap[w2.heap.size]? = some (.cells #[.int .i64 ylv,.slice yha ylh yhc,.int .i64 yri,.slice yka ylk ykc,.slice yva ylw yvc,.slice yca ylc ycc] 110 (0,0)) := by rw [hw3]; exact new_at rfl
 have b32 : Below w2.heap.size w2 w3 := by rw [hw3]; exact (Below.refl _ _).alloc (Nat.le_refl _) _
 have HW3 := hide hw3
 have q3 := q2.below b32
 have HO3 := hide (hyo.below b32)
 have nbP : ¬ P = w2.heap.size := by omega
 have c7 : w3.cell? ⟨P,7,none⟩ = some (uxV P u2.nx) := q3.up.cell 7 _ rfl
 have fz := fun j => frozen_of q3.up.c j
 have HYP := hide hyp
 go_wp2_with fail
 go_step3
 rw [← HW3.out]
 clear HW3
 cases B with
 | false =>
  have HF : Hid (Q (.returned (.tuple #[])) (w3.setCell ⟨P,7,none⟩ (uxV P 5))) := HQ.out _ _ ⟨rfl,m1,D1,q3.own (updP (Upd.refl _ _) _ _) (block_setCell q3.up.c 7 _) ⟨rfl,rfl,rfl,rfl,rfl,rfl⟩⟩
  generalize uxV P u2.nx = nxv at *
  simp only [uxV] at HF
  clear q2 q3 hw3 k3 b32 hyo hyp HO3 HYP HC HQ HYV HD1
  go_wp2_with fail
  rw [Exit.noGoto_normal]
  exact bodyPost_end (v := .tuple #[]) (results_none rfl _ _ _) rfl HF.out
 | true =>
  obtain ⟨c1,c2,c3,c4,c5,hcf⟩ : ∃ c1 c2 c3 c4 c5,u2.cf = ⟨c1,c2,c3,c4,c5⟩ := ⟨_,_,_,_,_,rfl⟩
  obtain ⟨w4,hw4⟩ : ∃ w4,w4 = six12 w3 P (.int .i64 ylv) (.slice yha ylh yhc) (.int .i64 yri) (.slice yka ylk ykc) (.slice yva ylw yvc) (.slice yca ylc ycc) := ⟨_,rfl⟩
  have hu4 : Upd (fun k => k = P) w3 w4 := by rw [hw4]; exact six12_upd _ _ _ _ _ _ _ _
  have HQ4 : Hid (∃ D2,UQ W P A D F m { m1 with hn := ay } D2 F1 { u2 with hn := p' } s1 w4) := by
   refine q3.node (N := w1.heap.size) (n' := ay) HD1.out hPl (HO3.out.mono hsa) hu4 ?_ ⟨rfl,rfl,rfl,HYP.out.symm,rfl,rfl⟩
   rw [hw4]
   obtain ⟨e0,e1,e2,e3,e4,e5,_⟩ := HYV.out
   rw [← e0,← e1,← e2,← e3,← e4,← e5]
   exact six12_block ay q3.up.c
  obtain ⟨D2,q4⟩ := HQ4.out
  have HOV : Hid (∀ Y,Calls Tryz.prog 167 #[.agg #[.int .i64 ylv,.slice yha ylh yhc,.int .i64 yri,.slice yka ylk ykc,.slice yva ylw yvc,.slice yca ylc ycc],.agg #[.int .i64 c1,.int .i64 c2,.int .i64 c3,.int .i64 c4,.int .i64 c5]] Y fun e w' => e = .returned (.bool (p'.over u2.cf)) ∧ Below Y.heap.size Y w') := fun Y => by
   have := over_any ay c1 c2 c3 c4 c5 Y
   rw [HYV.out.2.2.2.2.2.2] at this
   refine this.mono ?_
   rintro e w' ⟨rfl,h2⟩
   refine ⟨?_,h2⟩
   rw [← HYP.out,hcf]
   congr 2
   unfold NP.over OvP Nd.p TL.p
   by_cases h : ay.lv = 0 <;> simp [h]
  obtain ⟨O,hO⟩ : ∃ O,p'.over u2.cf = O := ⟨_,rfl⟩
  rw [hO] at HOV
  have HFIN : Hid (∀ Y,Below w4.heap.size w4 Y → Q (.returned (.tuple #[])) (Y.setCell ⟨P,7,none⟩ (uxV P (if O then 6 else 3)))) := fun Y hb => by
   have q5 := q4.below hb
   refine HQ.out _ _ ⟨rfl,{ m1 with hn := ay },D2,?_⟩
   rw [if_pos rfl,hO]
   exact q5.own (updP (Upd.refl _ _) _ _) (block_setCell q5.up.c 7 _) ⟨rfl,rfl,rfl,rfl,rfl,rfl⟩
  have HCF : Hid (∀ Y,Below w4.heap.size w4 Y → Y.cell? ⟨P,7,none⟩ = some (uxV P u2.nx) ∧ Y.frozen? ⟨P,7,none⟩ = false) := fun Y hb => ⟨(q4.below hb).up.cell 7 _ rfl,frozen_of (q4.below hb).up.c 7⟩
  have x1 : w4.cell? ⟨P,1,none⟩ = some (.int .i64 c1) := by have := q4.up.cell 1 _ rfl; simp only [hcf] at this; exact this
  have x2 : w4.cell? ⟨P,2,none⟩ = some (.int .i64 c2) := by have := q4.up.cell 2 _ rfl; simp only [hcf] at this; exact this
  have x3 : w4.cell? ⟨P,3,none⟩ = some (.int .i64 c3) := by have := q4.up.cell 3 _ rfl; simp only [hcf] at this; exact this
  have x4 : w4.cell? ⟨P,4,none⟩ = some (.int .i64 c4) := by have := q4.up.cell 4 _ rfl; simp only [hcf] at this; exact this
  have x5 : w4.cell? ⟨P,5,none⟩ = some (.int .i64 c5) := by have := q4.up.cell 5 _ rfl; simp only [hcf] at this; exact this
  have d12 : w3.cell? ⟨P,12,none⟩ = some (.int .i64 m1.hn.lv) := q3.up.cell 12 _ rfl
  have d13 : w3.cell? ⟨P,13,none⟩ = some m1.hn.hi.v := q3.up.cell 13 _ rfl
  have d14 : w3.cell? ⟨P,14,none⟩ = some (.int .i64 m1.hn.ri) := q3.up.cell 14 _ rfl
  have d15 : w3.cell? ⟨P,15,none⟩ = some m1.hn.ks.v := q3.up.cell 15 _ rfl
  have d16 : w3.cell? ⟨P,16,none⟩ = some m1.hn.vs.v := q3.up.cell 16 _ rfl
  have d17 : w3.cell? ⟨P,17,none⟩ = some m1.hn.cs.v := q3.up.cell 17 _ rfl
  have k4 := hu4.heap k3 (fun e => nbP e.symm)
  obtain ⟨y0,y1,y2,y3,y4,y5⟩ := Six.of k3
  obtain ⟨z0,z1,z2,z3,z4,z5⟩ := Six.of k4
  have HW4 := hide hw4
  simp only [six12] at HW4
  have K4 := hide k4
  have hP4 := lt_of_block q4.up.c
  generalize uxV P u2.nx = nxv at *
  clear q2 q3 q4 hw3 hw4 k3 k4 b32 hyo hyp HO3 HYP HC HQ HYV HD1 hu4 HQ4 hcf hO
  go_upto_region 3 with fail
  rw [← HW4.out]
  clear HW4 d12 d13 d14 d15 d16 d17 y0 y1 y2 y3 y4 y5 fz c7
  go_cut [23] (fun q wx => q = .bool (!O) ∧ Hid (Below w4.heap.size w4 wx))
  case first =>
   go_region_held3 (fun Y => (Y.cell? ⟨w2.heap.size,0,none⟩ = some (.int .i64 ylv) ∧ Y.cell? ⟨w2.heap.size,1,none⟩ = some (.slice yha ylh yhc) ∧ Y.cell? ⟨w2.heap.size,2,none⟩ = some (.int .i64 yri) ∧ Y.cell? ⟨w2.heap.size,3,none⟩ = some (.slice yka ylk ykc) ∧ Y.cell? ⟨w2.heap.size,4,none⟩ = some (.slice yva ylw yvc) ∧ Y.cell? ⟨w2.heap.size,5,none⟩ = some (.slice yca ylc ycc)) ∧ Y.cell? ⟨P,1,none⟩ = some (.int .i64 c1) ∧ Y.cell? ⟨P,2,none⟩ = some (.int .i64 c2) ∧ Y.cell? ⟨P,3,none⟩ = some (.int .i64 c3) ∧ Y.cell? ⟨P,4,none⟩ = some (.int .i64 c4) ∧ Y.cell? ⟨P,5,none⟩ = some (.int .i64 c5)) (go_keep) (first
    | (go_at_call 167; refine (HOV.out _).mono ?_; rintro e w5 ⟨rfl,hb5⟩; have bb := (below_drew (Below.refl w4.heap.size w4)).trans hb5; have HB := hide bb; obtain ⟨t0,t1,t2,t3,t4,t5⟩ := Six.of ((bb.block _ (lt_of_block K4.out)).trans K4.out); have v1 := (bb.cell (p := ⟨P,1,none⟩) hP4).trans x1; have v2 := (bb.cell (p := ⟨P,2,none⟩) hP4).trans x2; have v3 := (bb.cell (p := ⟨P,3,none⟩) hP4).trans x3; have v4 := (bb.cell (p := ⟨P,4,none⟩) hP4).trans x4; have v5 := (bb.cell (p := ⟨P,5,none⟩) hP4).trans x5; clear hb5 bb)
    | fail)
   all_goals (try go_wp2_with fail)
   all_goals
    go_meet
    exact ⟨rfl,HB.out⟩
  case rest =>
  rename World => wx
  obtain ⟨rfl,BX⟩ := hcut
  obtain ⟨e7,f7⟩ := HCF.out wx BX.out
  have HF := hide (HFIN.out wx BX.out)
  clear HFIN HCF HOV x1 x2 x3 x4 x5 z0 z1 z2 z3 z4 z5
  cases O with
  | false =>
   have HG : Hid (Q (.returned (.tuple #[])) (wx.setCell ⟨P,7,none⟩ (uxV P 3))) := HF.out
   simp only [uxV] at HG
   clear HF
   go_wp2_with fail
   rw [Exit.noGoto_normal]
   exact bodyPost_end (v := .tuple #[]) (results_none rfl _ _ _) rfl HG.out
  | true =>
   have HG : Hid (Q (.returned (.tuple #[])) (wx.setCell ⟨P,7,none⟩ (uxV P 6))) := HF.out
   simp only [uxV] at HG
   clear HF
   go_wp2_with fail
   rw [Exit.noGoto_normal]
   exact bodyPost_end (v := .tuple #[]) (results_none rfl _ _ _) rfl HG.out
theorem u_fate (q0 : UQ W P A D F m m1 D1 F1 u1 s1 w1) (n : Nd) {N : Nat} (hn : n.Own w1 N) (hPN : P < N) (hz : n.ks.L.length * 24 ≤ 140737488351900 ∧ n.vs.L.length * 24 ≤ 140737488351900 ∧ n.cs.s.length * 8 ≤ 140737488351900) : Calls Tryz.prog 143 #[.pointer (some ⟨P,0,none⟩),n.v] w1 fun e w' => e = .returned (.tuple #[]) ∧ ∃ m2 D2,UQ W P A D F m m2 D2 F1 (u1.fate n.p) s1 w' := by
 by_cases hl : u1.lev = 0
 ·refine (u_fate0 q0 n true (n.p.with_ u1.sep u1.val) (u2 := { u1 with had := isIn n.p.ks u1.sep }) (fun Y hb => u_changeL (q0.below hb) n (hn.below hb) hPN ⟨hz.1,hz.2.1⟩ hl)).mono ?_
  rintro e w' ⟨rfl,m2,D2,h⟩
  refine ⟨rfl,m2,D2,?_⟩
  unfold US.fate
  rw [if_pos hl]
  exact h
 ·refine (u_fate0 q0 n (!isIn n.p.ks u1.sep) (n.p.joined u1.sep u1.rgt) (u2 := u1) (fun Y hb => u_changeI (q0.below hb) n (hn.below hb) ⟨hz.1,hz.2.2⟩ hl)).mono ?_
  rintro e w' ⟨rfl,m2,D2,h⟩
  refine ⟨rfl,m2,D2,?_⟩
  unfold US.fate
  rw [if_neg hl]
  cases hi : isIn n.p.ks u1.sep
  ·rw [hi] at h; exact h
  ·rw [hi] at h; exact h
end
section
variable {W w1 w2 : World} {P A : Nat} {D F D1 F1 : Nat → Prop} {m m1 : UM} {u u1 u2 : US} {s s1 : AS}
theorem lockS_no {s : AS} {id : Int} {x : Nat} (h : s.lockB id x = false) : s.lockS id x = s := by
 unfold AS.lockS
 rw [if_neg (of_decide_eq_false h)]
set_option maxHeartbeats 3200000 in
theorem u_lock {p : Nat} {k : Tx} {n : Nd} {Dm : Nat → Prop} {ms : MS} (q0 : UQ W P A D F m m1 D1 F1 u1 s1 w1) (hpw : m1.pw = some p) (hpm : PM w1 p A k n Dm ms) (hnx : 5 ≤ ms.nx) (hwd : ms.wd < 18446744073709551616) (hz : ms.nd.ks.length * 24 ≤ 140737488351900 ∧ ms.nd.vs.length * 24 ≤ 140737488351900 ∧ ms.nd.cs.length * 8 ≤ 140737488351900) :
  Calls Tryz.prog 117 #[.pointer (some ⟨P,0,none⟩)] w1 fun e w' => e = .returned (.tuple #[.bool false,.int .i64 (if s1.lockB ms.id ms.wd then 0 else s1.wordE ms.id)]) ∧ ∃ m2 D2 F2,UQ W P A D F m m2 D2 F2 (if s1.lockB ms.id ms.wd then { u1 with hid := ms.id }.fate ms.nd else u1.down) (s1.lockS ms.id ms.wd) w' := by
 obtain ⟨Q,hQ⟩ : ∃ Q : Ending → World → Prop,Q = fun e w' => e = .returned (.tuple #[.bool false,.int .i64 (if s1.lockB ms.id ms.wd then 0 else s1.wordE ms.id)]) ∧ ∃ m2 D2 F2,UQ W P A D F m m2 D2 F2 (if s1.lockB ms.id ms.wd then { u1 with hid := ms.id }.fate ms.nd else u1.down) (s1.lockS ms.id ms.wd) w' := ⟨_,rfl⟩
 rw [← hQ]
 have HQ : Hid (∀ e w',(e = .returned (.tuple #[.bool false,.int .i64 (if s1.lockB ms.id ms.wd then 0 else s1.wordE ms.id)]) ∧ ∃ m2 D2 F2,UQ W P A D F m m2 D2 F2 (if s1.lockB ms.id ms.wd then { u1 with hid := ms.id }.fate ms.nd else u1.down) (s1.lockS ms.id ms.wd) w') → Q e w') := fun e w' h => by rw [hQ]; exact h
 clear hQ
 have HAT := hide (dat_any hpm hnx)
 unfold AtP at HAT
 have c10 : w1.cell? ⟨P,10,none⟩ = some (.pointer (some ⟨p,0,none⟩)) := by
  have := q0.up.cell 10 (pwV m1.pw) rfl
  rw [hpw] at this
  exact this
 have HQ0 := hide q0
 have hPl := lt_of_block q0.up.c
 have HZ := hide hz
 have HWD := hide hwd
 clear q0 hpm hnx hpw hz hwd
 obtain ⟨I,hI⟩ : ∃ I,ms.id = I := ⟨_,rfl⟩
 obtain ⟨X,hX⟩ : ∃ X,ms.wd = X := ⟨_,rfl⟩
 rw [hI,hX] at HAT HQ
 rw [hX] at HWD
 go_enter Tryz.func117,Tryz.ntmps117
 go_wp2_with fail
 refine HAT.out.mono ?_
 rintro e w3 ⟨⟨nlv,⟨nha,nhc,nhs⟩,nri,⟨nka,nkc,nK⟩,⟨nva,nvc,nV⟩,⟨nca,ncc,nC⟩⟩,rfl,hnp,hno,hb3⟩
 obtain ⟨an,han⟩ : ∃ an,an = (⟨nlv,⟨nha,nhc,nhs⟩,nri,⟨nka,nkc,nK⟩,⟨nva,nvc,nV⟩,⟨nca,ncc,nC⟩⟩ : Nd) := ⟨_,rfl⟩
 rw [← han] at hnp hno
 have HNV : Hid (an.v = .agg #[.int .i64 nlv,.slice nha nhs.length nhc,.int .i64 nri,.slice nka nK.length nkc,.slice nva nV.length nvc,.slice nca nC.length ncc]) := by show _ = _; rw [han]; rfl
 clear han
 simp only [Nd.v,Tx.v,TL.v,IL.v]
 generalize nhs.length = nlh at *
 generalize nK.length = nlk at *
 generalize nV.length = nlw at *
 generalize nC.length = nlc at *
 obtain ⟨w4,hw4⟩ : ∃ w4,w4 = w3.alloc (.cells #[.int .i64 nlv,.slice nha nlh nhc,.int .i64 nri,.slice nka nlk nkc,.slice nva nlw nvc,.slice nca nlc ncc] 110) := ⟨_,rfl⟩
 have b4 : Below w3.heap.size w3 w4 := by rw [hw4]; exact (Below.refl _ _).alloc (Nat.le_refl _) _
 have k4 : w4.heap[w3.heap.size]? = some (.cells #[.int .i64 nlv,.slice nha nlh nhc,.int .i64 nri,.slice nka nlk nkc,.slice nva nlw nvc,.slice nca nlc ncc] 110 (0,0)) := by rw [hw4]; exact new_at rfl
 have q4 := HQ0.out.below (hb3.trans (b4.mono hb3.size))
 have ho4 := hno.below b4
 have h34 := hb3.size
 have HW4 := hide hw4
 have c0 : w4.cell? ⟨P,0,none⟩ = some (.pointer (some ⟨A,0,none⟩)) := q4.up.cell 0 _ rfl
 obtain ⟨L,hL⟩ : ∃ L,s1.lockB I X = L := ⟨_,rfl⟩
 obtain ⟨E,hE⟩ : ∃ E,s1.wordE I = E := ⟨_,rfl⟩
 obtain ⟨S2,hS2⟩ : ∃ S2,s1.lockS I X = S2 := ⟨_,rfl⟩
 have HLK : Hid (Calls Tryz.prog 142 #[.pointer (some ⟨A,0,none⟩),.int .i64 I,.int .u64 (X : Nat)] w4 fun e w' => e = .returned (.tuple #[.bool L,.int .i64 E]) ∧ (∃ F2,UQ W P A D F m m1 D1 F2 u1 S2 w') ∧ an.Own w' w1.heap.size ∧ w'.heap[w3.heap.size]? = some (.cells #[.int .i64 nlv,.slice nha nlh nhc,.int .i64 nri,.slice nka nlk nkc,.slice nva nlw nvc,.slice nca nlc ncc] 110 (0,0))) := by
  have := px_lock q4.px I X HWD.out
  rw [hL,hE,hS2] at this
  refine this.mono ?_
  rintro e w' ⟨h1,h2⟩
  refine ⟨h1,q4.arena h2,?_,?_⟩
  ·obtain ⟨F2,_,_,hu⟩ := h2
   exact ho4.upd hu (fun b hb _ e => by have := HQ0.out.px.lt b e; omega)
  ·obtain ⟨F2,_,_,hu⟩ := h2
   exact hu.heap k4 (fun e => by have := HQ0.out.px.lt _ e; omega)
 rw [hL,hE,hS2] at HQ
 have HNP := hide hnp
 clear q4 ho4 b4 k4 hno hnp hw4 hb3 HAT c10 HQ0 hE hI hX HWD
 go_upto_region 2 with fail
 rw [← HW4.out]
 clear HW4
 go_wp2_with fail
 refine HLK.out.mono ?_
 rintro e w5 ⟨rfl,⟨F2,q5⟩,ho5,k5⟩
 clear HLK c0
 cases L with
 | false =>
  have HD : Hid (Calls Tryz.prog 51 #[.pointer (some ⟨P,0,none⟩)] w5 fun e w'' => e = .returned (.tuple #[]) ∧ Q (.returned (.tuple #[.bool false,.int .i64 E])) w'') := (u_down q5).mono fun e w' ⟨h1,m2,D2,h2⟩ => ⟨h1,HQ.out _ _ ⟨rfl,m2,D2,F2,h2⟩⟩
  clear q5 ho5 k5 HNP HNV HQ hL hS2 HZ
  go_wp2_with fail
  refine HD.out.mono ?_
  rintro e w6 ⟨rfl,hq⟩
  have HF := hide hq
  clear hq HD
  go_wp2_with fail
  exact HF.out
 | true =>
  obtain ⟨w6,hw6⟩ : ∃ w6,w6 = w5.setCell ⟨P,11,none⟩ (.int .i64 I) := ⟨_,rfl⟩
  have hu6 : Upd (fun k => k = P) w5 w6 := by rw [hw6]; exact updP (Upd.refl _ _) _ _
  have q6 : UQ W P A D F m m1 D1 F2 { u1 with hid := I } S2 w6 := q5.own hu6 (by rw [hw6]; exact block_setCell q5.up.c 11 _) ⟨rfl,rfl,rfl,rfl,rfl,rfl⟩
  have k6 := hu6.heap k5 (fun e => by omega)
  have c11 : w5.cell? ⟨P,11,none⟩ = some (.int .i64 u1.hid) := q5.up.cell 11 _ rfl
  have fz := frozen_of q5.up.c 11
  have HFT : Hid (Calls Tryz.prog 143 #[.pointer (some ⟨P,0,none⟩),.agg #[.int .i64 nlv,.slice nha nlh nhc,.int .i64 nri,.slice nka nlk nkc,.slice nva nlw nvc,.slice nca nlc ncc]] w6 fun e w' => e = .returned (.tuple #[]) ∧ Q (.returned (.tuple #[.bool false,.int .i64 0])) w') := by
   have hz2 : an.ks.L.length * 24 ≤ 140737488351900 ∧ an.vs.L.length * 24 ≤ 140737488351900 ∧ an.cs.s.length * 8 ≤ 140737488351900 := by
    have := HZ.out
    rw [← HNP.out] at this
    simpa [Nd.p,TL.p] using this
   have := u_fate q6 an (ho5.updP hPl hu6) hPl hz2
   rw [HNV.out] at this
   refine this.mono ?_
   rintro e w' ⟨h1,m2,D2,h2⟩
   refine ⟨h1,HQ.out _ _ ⟨rfl,m2,D2,F2,?_⟩⟩
   rw [HNP.out] at h2
   exact h2
  obtain ⟨y0,y1,y2,y3,y4,y5⟩ := Six.of k6
  have HW6 := hide hw6
  clear q5 q6 ho5 k5 k6 hu6 hw6 HNP HNV HQ hL hS2 HZ
  go_upto_region 7 with fail
  rw [← HW6.out]
  clear HW6 c11 fz
  go_wp2_with fail
  refine HFT.out.mono ?_
  rintro e w7 ⟨rfl,hq⟩
  have HF := hide hq
  clear hq HFT y0 y1 y2 y3 y4 y5
  go_wp2_with fail
  exact HF.out
end
section
variable {W w1 w2 : World} {P A : Nat} {D F D1 F1 : Nat → Prop} {m m1 : UM} {u u1 u2 : US} {s s1 : AS}
theorem UQ.halves {l r : Nd} {k : Tx} {N : Nat} (h : UQ W P A D F m m1 D1 F1 u1 s1 w1) (hN : W.heap.size ≤ N ∧ ∀ x,D1 x ∨ F1 x → x < N) (hP : P < N) (hl : l.Own w1 N) (hr : r.Own w1 N) (hk : OwnB w1 N 5 k.v k.s) (hko : k.Ok w1) (hu : Upd (fun k => k = P) w1 w2) (hc : w2.heap[P]? = some (.cells (ucel P A { m1 with hn := l,fn := r,bt := k } u2) 121 (0,0))) (ha : ({ u1 with hn := l.p,fn := r.p,bet := k.s } : US).alike u2) : ∃ D2,UQ W P A D F m { m1 with hn := l,fn := r,bt := k } D2 F1 u2 s1 w2 := by
 obtain ⟨a1,a2,a3,a4,a5,a6⟩ := ha
 simp only at a1 a2 a3 a4 a5 a6
 have hs : ∀ x,D1 x → m1.pw ≠ some x → ¬ x = P := fun x hx _ e => h.up.pd (e ▸ hx)
 have hl2 := hl.updP hP hu
 have hr2 := hr.updP hP hu
 have hki := ownB_in hk
 have hpw : ∀ x,N ≤ x → m1.pw ≠ some x := fun x hx => by
  rcases h.up.w with h1 | ⟨p,ms,k,n,Dm,h1,h2,h3,h4,h5⟩
  ·rw [h1.1]; exact fun e => nomatch e
  ·rw [h1]; intro e; cases e; have := hN.2 _ (.inl h3); omega
 refine ⟨fun x => D1 x ∨ (N ≤ x ∧ x < w2.heap.size),⟨⟨hc,by rw [a1]; exact h.up.v.keep hu hs (fun _ hx => .inl hx) (fun _ _ hx => hx),by rw [a2]; exact h.up.s.keep hu hs (fun _ hx => .inl hx) (fun _ _ hx => hx),by rw [a3]; exact ⟨hko.updL hu (fun x e _ e2 => by have := hki x e; omega),rfl,fun x e _ => ⟨.inr ⟨(hki x e).1,Nat.lt_of_lt_of_le (hki x e).2 hu.size⟩,hpw _ (hki x e).1⟩⟩,by rw [a4]; exact ⟨hl2.ok,rfl,hl2.in_.mono (fun x hx => ⟨.inr hx,hpw x hx.1⟩)⟩,by rw [a5]; exact ⟨hr2.ok,rfl,hr2.in_.mono (fun x hx => ⟨.inr hx,hpw x hx.1⟩)⟩,?_,?_,?_⟩,h.px.upd hu (fun k hk => (h.ap k hk).2),?_,h.f,?_,h.u.trans (hu.mono (fun _ _ e => .inl e))⟩⟩
 ·rw [a6]
  rcases h.up.w with h1 | ⟨p,ms,k,n,Dm,h1,h2,h3,h4,h5⟩
  ·exact .inl h1
  ·refine .inr ⟨p,ms,k,n,Dm,h1,h2,.inl h3,h4.upd hu (fun x hx e => ?_),fun x hx => .inl (h5 x hx)⟩
   rcases hx with rfl | hx
   ·exact h.up.pd (e ▸ h3)
   ·exact h.up.pd (e ▸ h5 x hx)
 ·rintro (h1 | h1)
  ·exact h.up.pd h1
  ·omega
 ·rintro x (h1 | h1)
  ·exact Nat.lt_of_lt_of_le (h.up.lt x h1) hu.size
  ·exact h1.2
 ·rintro x (h1 | h1)
  ·exact h.d x h1
  ·exact .inr (Nat.le_trans hN.1 h1.1)
 ·intro x hx
  refine ⟨?_,(h.ap x hx).2⟩
  rintro (h1 | h1)
  ·exact (h.ap x hx).1 h1
  ·have := hN.2 x (.inr hx); omega
def six18 (W : World) (b : Nat) (i x0 x1 x2 x3 x4 x5 : Value) : World := ((((((W.setCell ⟨b,18,none⟩ i).setCell ⟨b,19,none⟩ x0).setCell ⟨b,20,none⟩ x1).setCell ⟨b,21,none⟩ x2).setCell ⟨b,22,none⟩ x3).setCell ⟨b,23,none⟩ x4).setCell ⟨b,24,none⟩ x5
theorem six18_upd (W : World) (b : Nat) (i x0 x1 x2 x3 x4 x5 : Value) : Upd (fun k => k = b) W (six18 W b i x0 x1 x2 x3 x4 x5) := updP (updP (updP (updP (updP (updP (updP (Upd.refl _ _) _ _) _ _) _ _) _ _) _ _) _ _) _ _
theorem six18_block {m1 : UM} {u : US} {W : World} (i : Int) (n' : Nd) (h : W.heap[P]? = some (.cells (ucel P A m1 u) 121 (0,0))) : (six18 W P (.int .i64 i) (.int .i64 n'.lv) n'.hi.v (.int .i64 n'.ri) n'.ks.v n'.vs.v n'.cs.v).heap[P]? = some (.cells (ucel P A { m1 with fn := n' } { u with fid := i }) 121 (0,0)) := by
 have a0 : (W.setCell ⟨P,18,none⟩ (.int .i64 i)).heap[P]? = some (.cells (ucel P A m1 { u with fid := i }) 121 (0,0)) := block_setCell h 18 _
 have a1 : ((W.setCell ⟨P,18,none⟩ (.int .i64 i)).setCell ⟨P,19,none⟩ (.int .i64 n'.lv)).heap[P]? = some (.cells (ucel P A { m1 with fn := { m1.fn with lv := n'.lv } } { u with fid := i }) 121 (0,0)) := block_setCell a0 19 _
 have a2 : (((W.setCell ⟨P,18,none⟩ (.int .i64 i)).setCell ⟨P,19,none⟩ (.int .i64 n'.lv)).setCell ⟨P,20,none⟩ n'.hi.v).heap[P]? = some (.cells (ucel P A { m1 with fn := { m1.fn with lv := n'.lv,hi := n'.hi } } { u with fid := i }) 121 (0,0)) := block_setCell a1 20 _
 have a3 : ((((W.setCell ⟨P,18,none⟩ (.int .i64 i)).setCell ⟨P,19,none⟩ (.int .i64 n'.lv)).setCell ⟨P,20,none⟩ n'.hi.v).setCell ⟨P,21,none⟩ (.int .i64 n'.ri)).heap[P]? = some (.cells (ucel P A { m1 with fn := { m1.fn with lv := n'.lv,hi := n'.hi,ri := n'.ri } } { u with fid := i }) 121 (0,0)) := block_setCell a2 21 _
 have a4 : (((((W.setCell ⟨P,18,none⟩ (.int .i64 i)).setCell ⟨P,19,none⟩ (.int .i64 n'.lv)).setCell ⟨P,20,none⟩ n'.hi.v).setCell ⟨P,21,none⟩ (.int .i64 n'.ri)).setCell ⟨P,22,none⟩ n'.ks.v).heap[P]? = some (.cells (ucel P A { m1 with fn := { m1.fn with lv := n'.lv,hi := n'.hi,ri := n'.ri,ks := n'.ks } } { u with fid := i }) 121 (0,0)) := block_setCell a3 22 _
 have a5 : ((((((W.setCell ⟨P,18,none⟩ (.int .i64 i)).setCell ⟨P,19,none⟩ (.int .i64 n'.lv)).setCell ⟨P,20,none⟩ n'.hi.v).setCell ⟨P,21,none⟩ (.int .i64 n'.ri)).setCell ⟨P,22,none⟩ n'.ks.v).setCell ⟨P,23,none⟩ n'.vs.v).heap[P]? = some (.cells (ucel P A { m1 with fn := { m1.fn with lv := n'.lv,hi := n'.hi,ri := n'.ri,ks := n'.ks,vs := n'.vs } } { u with fid := i }) 121 (0,0)) := block_setCell a4 23 _
 have a6 : (((((((W.setCell ⟨P,18,none⟩ (.int .i64 i)).setCell ⟨P,19,none⟩ (.int .i64 n'.lv)).setCell ⟨P,20,none⟩ n'.hi.v).setCell ⟨P,21,none⟩ (.int .i64 n'.ri)).setCell ⟨P,22,none⟩ n'.ks.v).setCell ⟨P,23,none⟩ n'.vs.v).setCell ⟨P,24,none⟩ n'.cs.v).heap[P]? = some (.cells (ucel P A { m1 with fn := { m1.fn with lv := n'.lv,hi := n'.hi,ri := n'.ri,ks := n'.ks,vs := n'.vs,cs := n'.cs } } { u with fid := i }) 121 (0,0)) := block_setCell a5 24 _
 exact a6
end
section
variable {W w1 w2 : World} {P A : Nat} {D F D1 F1 : Nat → Prop} {m m1 : UM} {u u1 u2 : US} {s s1 : AS}
set_option maxHeartbeats 6400000 in
theorem u_takeHalf (q0 : UQ W P A D F m m1 D1 F1 u1 s1 w1) : Calls Tryz.prog 169 #[.pointer (some ⟨P,0,none⟩)] w1 fun e w' => e = .returned (.tuple #[.bool false,.int .i64 0]) ∧ ∃ m2 D2 F2,UQ W P A D F m m2 D2 F2 (if s1.allE = 0 then { u1 with hn := u1.hn.cut1 s1.allI,fid := s1.allI,fn := u1.hn.cut2,bet := u1.hn.cut3,pc := 0,nx := 7 } else { u1 with nx := 5 }) s1.allS w' := by
 obtain ⟨Q,hQ⟩ : ∃ Q : Ending → World → Prop,Q = fun e w' => e = .returned (.tuple #[.bool false,.int .i64 0]) ∧ ∃ m2 D2 F2,UQ W P A D F m m2 D2 F2 (if s1.allE = 0 then { u1 with hn := u1.hn.cut1 s1.allI,fid := s1.allI,fn := u1.hn.cut2,bet := u1.hn.cut3,pc := 0,nx := 7 } else { u1 with nx := 5 }) s1.allS w' := ⟨_,rfl⟩
 rw [← hQ]
 have HQ : Hid (∀ e w',(e = .returned (.tuple #[.bool false,.int .i64 0]) ∧ ∃ m2 D2 F2,UQ W P A D F m m2 D2 F2 (if s1.allE = 0 then { u1 with hn := u1.hn.cut1 s1.allI,fid := s1.allI,fn := u1.hn.cut2,bet := u1.hn.cut3,pc := 0,nx := 7 } else { u1 with nx := 5 }) s1.allS w') → Q e w') := fun e w' h => by rw [hQ]; exact h
 clear hQ
 have HA : Hid (Calls Tryz.prog 170 #[.pointer (some ⟨A,0,none⟩)] w1 fun e w' => e = .returned (.tuple #[.int .i64 s1.allI,.int .i64 s1.allE]) ∧ ∃ F2,UQ W P A D F m m1 D1 F2 u1 s1.allS w') := (px_alloc q0.px).mono fun e w' ⟨h1,h2⟩ => ⟨h1,q0.arena h2⟩
 have c0 : w1.cell? ⟨P,0,none⟩ = some (.pointer (some ⟨A,0,none⟩)) := q0.up.cell 0 _ rfl
 obtain ⟨I,hI⟩ : ∃ x,s1.allI = x := ⟨_,rfl⟩
 obtain ⟨E,hE⟩ : ∃ x,s1.allE = x := ⟨_,rfl⟩
 obtain ⟨S2,hS2⟩ : ∃ x,s1.allS = x := ⟨_,rfl⟩
 rw [hI,hE,hS2] at HA HQ
 clear q0 hI hE hS2
 go_enter Tryz.func169,Tryz.ntmps169
 go_wp2_with fail
 refine HA.out.mono ?_
 rintro e w2 ⟨rfl,F2,q2⟩
 clear HA c0
 by_cases hE0 : E = 0
 case neg =>
  have hEb : (E == 0) = false := by rw [beq_eq_false_iff_ne]; exact hE0
  have d7 : w2.cell? ⟨P,7,none⟩ = some (uxV P u1.nx) := q2.up.cell 7 _ rfl
  have fz := frozen_of q2.up.c 7
  have HF : Hid (Q (.returned (.tuple #[.bool false,.int .i64 0])) (w2.setCell ⟨P,7,none⟩ (uxV P 5))) := HQ.out _ _ ⟨rfl,m1,D1,F2,by rw [if_neg hE0]; exact q2.own (updP (Upd.refl _ _) _ _) (block_setCell q2.up.c 7 _) ⟨rfl,rfl,rfl,rfl,rfl,rfl⟩⟩
  generalize uxV P u1.nx = nxv at *
  simp only [uxV] at HF
  clear q2 HQ
  go_wp2_with fail
  exact HF.out
 subst hE0
 obtain ⟨nlv,nha,nlh,nhc,nri,nka,nlk,nkc,nva,nlw,nvc,nca,nlc,ncc,hnv⟩ : ∃ nlv nha nlh nhc nri nka nlk nkc nva nlw nvc nca nlc ncc,m1.hn.lv = nlv ∧ m1.hn.hi.v = .slice nha nlh nhc ∧ m1.hn.ri = nri ∧ m1.hn.ks.v = .slice nka nlk nkc ∧ m1.hn.vs.v = .slice nva nlw nvc ∧ m1.hn.cs.v = .slice nca nlc ncc := ⟨m1.hn.lv,m1.hn.hi.a,m1.hn.hi.s.length,m1.hn.hi.c,m1.hn.ri,m1.hn.ks.a,m1.hn.ks.L.length,m1.hn.ks.c,m1.hn.vs.a,m1.hn.vs.L.length,m1.hn.vs.c,m1.hn.cs.a,m1.hn.cs.s.length,m1.hn.cs.c,rfl,rfl,rfl,rfl,rfl,rfl⟩
 have hmv : m1.hn.v = .agg #[.int .i64 nlv,.slice nha nlh nhc,.int .i64 nri,.slice nka nlk nkc,.slice nva nlw nvc,.slice nca nlc ncc] := by
  obtain ⟨e0,e1,e2,e3,e4,e5⟩ := hnv
  unfold Nd.v
  rw [e0,e1,e2,e3,e4,e5]
 have HSP : Hid (Calls Tryz.prog 190 #[.agg #[.int .i64 nlv,.slice nha nlh nhc,.int .i64 nri,.slice nka nlk nkc,.slice nva nlw nvc,.slice nca nlc ncc],.int .i64 I] w2 (SplP w2 (u1.hn.cut1 I) u1.hn.cut2 u1.hn.cut3)) := by
  have hp := q2.up.h.p
  by_cases hw : m1.hn.p.wd < 2
  ·have := split_few m1.hn I w2 q2.up.h.ok hw
   rw [hmv] at this
   rw [hp] at this hw
   unfold NP.cut1 NP.cut2 NP.cut3
   rw [if_pos hw,if_pos hw,if_pos hw]
   exact this
  ·have := split_any m1.hn I w2 q2.up.h.ok (by omega)
   rw [hmv] at this
   rw [hp] at this hw
   unfold NP.cut1 NP.cut2 NP.cut3
   rw [if_neg hw,if_neg hw,if_neg hw]
   exact this
 obtain ⟨e12,e13,e14,e15,e16,e17⟩ := hnv
 have c12 : w2.cell? ⟨P,12,none⟩ = some (.int .i64 nlv) := by rw [← e12]; exact q2.up.cell 12 _ rfl
 have c13 : w2.cell? ⟨P,13,none⟩ = some (.slice nha nlh nhc) := by rw [← e13]; exact q2.up.cell 13 _ rfl
 have c14 : w2.cell? ⟨P,14,none⟩ = some (.int .i64 nri) := by rw [← e14]; exact q2.up.cell 14 _ rfl
 have c15 : w2.cell? ⟨P,15,none⟩ = some (.slice nka nlk nkc) := by rw [← e15]; exact q2.up.cell 15 _ rfl
 have c16 : w2.cell? ⟨P,16,none⟩ = some (.slice nva nlw nvc) := by rw [← e16]; exact q2.up.cell 16 _ rfl
 have c17 : w2.cell? ⟨P,17,none⟩ = some (.slice nca nlc ncc) := by rw [← e17]; exact q2.up.cell 17 _ rfl
 have HQ2 := hide q2
 have HD1 : Hid (W.heap.size ≤ w2.heap.size ∧ ∀ x,D1 x ∨ F2 x → x < w2.heap.size) := ⟨q2.u.size,fun x hx => by rcases hx with hx | hx; exact q2.up.lt x hx; exact q2.px.lt x hx⟩
 have hP2 := lt_of_block q2.up.c
 clear q2 e12 e13 e14 e15 e16 e17 hmv
 go_wp2_with fail
 refine HSP.out.mono ?_
 rintro e w4 ⟨l,r,k,N1,N2,rfl,hlp,hrp,hks,hlo,_,hro,_,hko,hk2,h12,h23,hb4⟩
 obtain ⟨llv,lha,llh,lhc,lri,lka,llk,lkc,lva,llw,lvc,lca,llc,lcc,hlv⟩ : ∃ llv lha llh lhc lri lka llk lkc lva llw lvc lca llc lcc,l.lv = llv ∧ l.hi.v = .slice lha llh lhc ∧ l.ri = lri ∧ l.ks.v = .slice lka llk lkc ∧ l.vs.v = .slice lva llw lvc ∧ l.cs.v = .slice lca llc lcc := ⟨l.lv,l.hi.a,l.hi.s.length,l.hi.c,l.ri,l.ks.a,l.ks.L.length,l.ks.c,l.vs.a,l.vs.L.length,l.vs.c,l.cs.a,l.cs.s.length,l.cs.c,rfl,rfl,rfl,rfl,rfl,rfl⟩
 obtain ⟨rlv,rha,rlh,rhc,rri,rka,rlk,rkc,rva,rlw,rvc,rca,rlc,rcc,hrv⟩ : ∃ rlv rha rlh rhc rri rka rlk rkc rva rlw rvc rca rlc rcc,r.lv = rlv ∧ r.hi.v = .slice rha rlh rhc ∧ r.ri = rri ∧ r.ks.v = .slice rka rlk rkc ∧ r.vs.v = .slice rva rlw rvc ∧ r.cs.v = .slice rca rlc rcc := ⟨r.lv,r.hi.a,r.hi.s.length,r.hi.c,r.ri,r.ks.a,r.ks.L.length,r.ks.c,r.vs.a,r.vs.L.length,r.vs.c,r.cs.a,r.cs.s.length,r.cs.c,rfl,rfl,rfl,rfl,rfl,rfl⟩
 obtain ⟨ka,kl,kc,hkv⟩ : ∃ ka kl kc,k.v = .slice ka kl kc := ⟨k.a,k.s.length,k.c,rfl⟩
 have hlv2 : l.v = .agg #[.int .i64 llv,.slice lha llh lhc,.int .i64 lri,.slice lka llk lkc,.slice lva llw lvc,.slice lca llc lcc] := by
  obtain ⟨e0,e1,e2,e3,e4,e5⟩ := hlv
  unfold Nd.v
  rw [e0,e1,e2,e3,e4,e5]
 have hrv2 : r.v = .agg #[.int .i64 rlv,.slice rha rlh rhc,.int .i64 rri,.slice rka rlk rkc,.slice rva rlw rvc,.slice rca rlc rcc] := by
  obtain ⟨e0,e1,e2,e3,e4,e5⟩ := hrv
  unfold Nd.v
  rw [e0,e1,e2,e3,e4,e5]
 rw [hlv2,hrv2,hkv]
 obtain ⟨w5,hw5⟩ : ∃ w5,w5 = (w4.alloc (.cells #[.int .i64 llv,.slice lha llh lhc,.int .i64 lri,.slice lka llk lkc,.slice lva llw lvc,.slice lca llc lcc] 110)).alloc (.cells #[.int .i64 rlv,.slice rha rlh rhc,.int .i64 rri,.slice rka rlk rkc,.slice rva rlw rvc,.slice rca rlc rcc] 110) := ⟨_,rfl⟩
 have g6 : w5.heap[w4.heap.size]? = some (.cells #[.int .i64 llv,.slice lha llh lhc,.int .i64 lri,.slice lka llk lkc,.slice lva llw lvc,.slice lca llc lcc] 110 (0,0)) := by rw [hw5]; exact old_at (new_at rfl)
 have g7 : w5.heap[w4.heap.size + 1]? = some (.cells #[.int .i64 rlv,.slice rha rlh rhc,.int .i64 rri,.slice rka rlk rkc,.slice rva rlw rvc,.slice rca rlc rcc] 110 (0,0)) := by rw [hw5]; exact new_at (by simp)
 have b5 : Below w4.heap.size w4 w5 := by rw [hw5]; exact ((Below.refl _ _).alloc (Nat.le_refl _) _).alloc (by simp) _
 have q5 := HQ2.out.below (hb4.trans (b5.mono hb4.size))
 have hlo5 := hlo.below b5
 have hro5 := (hro.below b5).mono h12
 have hko5 := (hko.below b5).mono (Nat.le_trans h12 h23)
 have hk5 : k.Ok w5 := hk2.below b5
 have h24 := hb4.size
 have nb6 : ¬ P = w4.heap.size := by omega
 have nb7 : ¬ P = w4.heap.size + 1 := by omega
 have nb6' : ¬ w4.heap.size = P := by omega
 have nb7' : ¬ w4.heap.size + 1 = P := by omega
 have HHB : Hid (∀ Y,Y.heap[P]? = some (.cells (ucel P A m1 u1) 121 (0,0)) → (six12 Y P (.int .i64 llv) (.slice lha llh lhc) (.int .i64 lri) (.slice lka llk lkc) (.slice lva llw lvc) (.slice lca llc lcc)).heap[P]? = some (.cells (ucel P A { m1 with hn := l } u1) 121 (0,0)) ∧ (six18 (six12 Y P (.int .i64 llv) (.slice lha llh lhc) (.int .i64 lri) (.slice lka llk lkc) (.slice lva llw lvc) (.slice lca llc lcc)) P (.int .i64 I) (.int .i64 rlv) (.slice rha rlh rhc) (.int .i64 rri) (.slice rka rlk rkc) (.slice rva rlw rvc) (.slice rca rlc rcc)).heap[P]? = some (.cells (ucel P A { m1 with hn := l,fn := r } { u1 with fid := I }) 121 (0,0)) ∧ ((six18 (six12 Y P (.int .i64 llv) (.slice lha llh lhc) (.int .i64 lri) (.slice lka llk lkc) (.slice lva llw lvc) (.slice lca llc lcc)) P (.int .i64 I) (.int .i64 rlv) (.slice rha rlh rhc) (.int .i64 rri) (.slice rka rlk rkc) (.slice rva rlw rvc) (.slice rca rlc rcc)).setCell ⟨P,25,none⟩ (.slice ka kl kc)).heap[P]? = some (.cells (ucel P A { m1 with hn := l,fn := r,bt := k } { u1 with fid := I }) 121 (0,0))) := fun Y hg => by
  obtain ⟨e0,e1,e2,e3,e4,e5⟩ := hlv
  obtain ⟨f0,f1,f2,f3,f4,f5⟩ := hrv
  rw [← e0,← e1,← e2,← e3,← e4,← e5,← f0,← f1,← f2,← f3,← f4,← f5,← hkv]
  have x1 := six12_block l hg
  have x2 := six18_block I r x1
  exact ⟨x1,x2,block_setCell x2 25 _⟩
 have HU : Hid (∀ Y,Upd (fun k => k = P) Y (six12 Y P (.int .i64 llv) (.slice lha llh lhc) (.int .i64 lri) (.slice lka llk lkc) (.slice lva llw lvc) (.slice lca llc lcc)) ∧ Upd (fun k => k = P) Y (six18 (six12 Y P (.int .i64 llv) (.slice lha llh lhc) (.int .i64 lri) (.slice lka llk lkc) (.slice lva llw lvc) (.slice lca llc lcc)) P (.int .i64 I) (.int .i64 rlv) (.slice rha rlh rhc) (.int .i64 rri) (.slice rka rlk rkc) (.slice rva rlw rvc) (.slice rca rlc rcc)) ∧ Upd (fun k => k = P) Y ((six18 (six12 Y P (.int .i64 llv) (.slice lha llh lhc) (.int .i64 lri) (.slice lka llk lkc) (.slice lva llw lvc) (.slice lca llc lcc)) P (.int .i64 I) (.int .i64 rlv) (.slice rha rlh rhc) (.int .i64 rri) (.slice rka rlk rkc) (.slice rva rlw rvc) (.slice rca rlc rcc)).setCell ⟨P,25,none⟩ (.slice ka kl kc))) := fun Y => by
  have y1 := six12_upd Y P (.int .i64 llv) (.slice lha llh lhc) (.int .i64 lri) (.slice lka llk lkc) (.slice lva llw lvc) (.slice lca llc lcc)
  have y2 := y1.trans (six18_upd (six12 Y P (.int .i64 llv) (.slice lha llh lhc) (.int .i64 lri) (.slice lka llk lkc) (.slice lva llw lvc) (.slice lca llc lcc)) P (.int .i64 I) (.int .i64 rlv) (.slice rha rlh rhc) (.int .i64 rri) (.slice rka rlk rkc) (.slice rva rlw rvc) (.slice rca rlc rcc))
  exact ⟨y1,y2,updP y2 _ _⟩
 have HFIN : Hid (∃ m2 D2,UQ W P A D F m m2 D2 F2 { u1 with hn := u1.hn.cut1 I,fid := I,fn := u1.hn.cut2,bet := u1.hn.cut3 } S2 (((six18 (six12 w5 P (.int .i64 llv) (.slice lha llh lhc) (.int .i64 lri) (.slice lka llk lkc) (.slice lva llw lvc) (.slice lca llc lcc)) P (.int .i64 I) (.int .i64 rlv) (.slice rha rlh rhc) (.int .i64 rri) (.slice rka rlk rkc) (.slice rva rlw rvc) (.slice rca rlc rcc)).setCell ⟨P,25,none⟩ (.slice ka kl kc)).drew)) := by
  obtain ⟨D2,h⟩ := q5.halves (N := w2.heap.size) (u2 := { u1 with hn := u1.hn.cut1 I,fid := I,fn := u1.hn.cut2,bet := u1.hn.cut3 }) HD1.out hP2 hlo5 hro5 hko5 hk5 (HU.out w5).2.2 (HHB.out w5 q5.up.c).2.2 ⟨rfl,rfl,hks.symm,hlp.symm,hrp.symm,rfl⟩
  exact ⟨_,D2,h.below (below_drew (Below.refl _ _))⟩
 have HW5 := hide hw5
 have gP := q5.up.c
 have HGP := hide gP
 obtain ⟨gh1,gh2,gh3⟩ := HHB.out w5 gP
 obtain ⟨u51,u52,u53⟩ := HU.out w5
 obtain ⟨y0,y1,y2,y3,y4,y5⟩ := Six.of g6
 obtain ⟨z0,z1,z2,z3,z4,z5⟩ := Six.of g7
 obtain ⟨ya0,ya1,ya2,ya3,ya4,ya5⟩ := Six.of (u51.heap g6 nb6')
 obtain ⟨za0,za1,za2,za3,za4,za5⟩ := Six.of (u51.heap g7 nb7')
 obtain ⟨yb0,yb1,yb2,yb3,yb4,yb5⟩ := Six.of (u52.heap g6 nb6')
 obtain ⟨zb0,zb1,zb2,zb3,zb4,zb5⟩ := Six.of (u52.heap g7 nb7')
 obtain ⟨yc0,yc1,yc2,yc3,yc4,yc5⟩ := Six.of (u53.heap g6 nb6')
 obtain ⟨zc0,zc1,zc2,zc3,zc4,zc5⟩ := Six.of (u53.heap g7 nb7')
 have fz := fun j => frozen_of gP j
 have fz1 := fun j => frozen_of gh1 j
 have fz2 := fun j => frozen_of gh2 j
 have o12 : w5.cell? ⟨P,12,none⟩ = some (.int .i64 m1.hn.lv) := q5.up.cell 12 _ rfl
 have o13 : w5.cell? ⟨P,13,none⟩ = some (m1.hn.hi.v) := q5.up.cell 13 _ rfl
 have o14 : w5.cell? ⟨P,14,none⟩ = some (.int .i64 m1.hn.ri) := q5.up.cell 14 _ rfl
 have o15 : w5.cell? ⟨P,15,none⟩ = some (m1.hn.ks.v) := q5.up.cell 15 _ rfl
 have o16 : w5.cell? ⟨P,16,none⟩ = some (m1.hn.vs.v) := q5.up.cell 16 _ rfl
 have o17 : w5.cell? ⟨P,17,none⟩ = some (m1.hn.cs.v) := q5.up.cell 17 _ rfl
 have p18 : (six12 w5 P (.int .i64 llv) (.slice lha llh lhc) (.int .i64 lri) (.slice lka llk lkc) (.slice lva llw lvc) (.slice lca llc lcc)).cell? ⟨P,18,none⟩ = some (.int .i64 u1.fid) := by rw [cell_of_row _ _ _ _ _ _ gh1]; rfl
 have p19 : (six12 w5 P (.int .i64 llv) (.slice lha llh lhc) (.int .i64 lri) (.slice lka llk lkc) (.slice lva llw lvc) (.slice lca llc lcc)).cell? ⟨P,19,none⟩ = some (.int .i64 m1.fn.lv) := by rw [cell_of_row _ _ _ _ _ _ gh1]; rfl
 have p20 : (six12 w5 P (.int .i64 llv) (.slice lha llh lhc) (.int .i64 lri) (.slice lka llk lkc) (.slice lva llw lvc) (.slice lca llc lcc)).cell? ⟨P,20,none⟩ = some (m1.fn.hi.v) := by rw [cell_of_row _ _ _ _ _ _ gh1]; rfl
 have p21 : (six12 w5 P (.int .i64 llv) (.slice lha llh lhc) (.int .i64 lri) (.slice lka llk lkc) (.slice lva llw lvc) (.slice lca llc lcc)).cell? ⟨P,21,none⟩ = some (.int .i64 m1.fn.ri) := by rw [cell_of_row _ _ _ _ _ _ gh1]; rfl
 have p22 : (six12 w5 P (.int .i64 llv) (.slice lha llh lhc) (.int .i64 lri) (.slice lka llk lkc) (.slice lva llw lvc) (.slice lca llc lcc)).cell? ⟨P,22,none⟩ = some (m1.fn.ks.v) := by rw [cell_of_row _ _ _ _ _ _ gh1]; rfl
 have p23 : (six12 w5 P (.int .i64 llv) (.slice lha llh lhc) (.int .i64 lri) (.slice lka llk lkc) (.slice lva llw lvc) (.slice lca llc lcc)).cell? ⟨P,23,none⟩ = some (m1.fn.vs.v) := by rw [cell_of_row _ _ _ _ _ _ gh1]; rfl
 have p24 : (six12 w5 P (.int .i64 llv) (.slice lha llh lhc) (.int .i64 lri) (.slice lka llk lkc) (.slice lva llw lvc) (.slice lca llc lcc)).cell? ⟨P,24,none⟩ = some (m1.fn.cs.v) := by rw [cell_of_row _ _ _ _ _ _ gh1]; rfl
 have q25 : (six18 (six12 w5 P (.int .i64 llv) (.slice lha llh lhc) (.int .i64 lri) (.slice lka llk lkc) (.slice lva llw lvc) (.slice lca llc lcc)) P (.int .i64 I) (.int .i64 rlv) (.slice rha rlh rhc) (.int .i64 rri) (.slice rka rlk rkc) (.slice rva rlw rvc) (.slice rca rlc rcc)).cell? ⟨P,25,none⟩ = some m1.bt.v := by rw [cell_of_row _ _ _ _ _ _ gh2]; rfl
 simp only [six12,six18] at *
 clear HHB HU hlo hro hko hk2 hb4 b5 q5 hlo5 hro5 hko5 hk5 hw5 g6 g7 gP gh1 gh2 gh3 u51 u52 u53 hlv hrv hkv hlv2 hrv2 hlp hrp hks HSP HQ2 HD1 HGP c12 c13 c14 c15 c16 c17 h12 h23
 go_upto_region 6 with fail
 rw [← HW5.out]
 clear HW5
 go_cut [] (fun wx => Hid (∃ m2 D2,UQ W P A D F m m2 D2 F2 { u1 with hn := u1.hn.cut1 I,fid := I,fn := u1.hn.cut2,bet := u1.hn.cut3 } S2 wx))
 case first =>
  go_region_held3 (fun Y => (Y.cell? ⟨w4.heap.size,0,none⟩ = some (.int .i64 llv) ∧ Y.cell? ⟨w4.heap.size,1,none⟩ = some (.slice lha llh lhc) ∧ Y.cell? ⟨w4.heap.size,2,none⟩ = some (.int .i64 lri) ∧ Y.cell? ⟨w4.heap.size,3,none⟩ = some (.slice lka llk lkc) ∧ Y.cell? ⟨w4.heap.size,4,none⟩ = some (.slice lva llw lvc) ∧ Y.cell? ⟨w4.heap.size,5,none⟩ = some (.slice lca llc lcc)) ∧ Y.cell? ⟨w4.heap.size + 1,0,none⟩ = some (.int .i64 rlv) ∧ Y.cell? ⟨w4.heap.size + 1,1,none⟩ = some (.slice rha rlh rhc) ∧ Y.cell? ⟨w4.heap.size + 1,2,none⟩ = some (.int .i64 rri) ∧ Y.cell? ⟨w4.heap.size + 1,3,none⟩ = some (.slice rka rlk rkc) ∧ Y.cell? ⟨w4.heap.size + 1,4,none⟩ = some (.slice rva rlw rvc) ∧ Y.cell? ⟨w4.heap.size + 1,5,none⟩ = some (.slice rca rlc rcc)) (go_keep) (fail)
  all_goals (try go_wp2_with fail)
  all_goals
   go_meet
   exact HFIN
 case rest =>
 rename World => wx
 obtain ⟨m2,D2,q6⟩ := hcut.out
 have g6 := q6.up.c
 have x26 : wx.cell? ⟨P,26,none⟩ = some (.int .i64 u1.pc) := q6.up.cell 26 _ rfl
 have x7 : wx.cell? ⟨P,7,none⟩ = some (uxV P u1.nx) := q6.up.cell 7 _ rfl
 have g8 := block_setCell g6 26 (.int .i64 0)
 have f6 := fun j => frozen_of g6 j
 have f8 := fun j => frozen_of g8 j
 have x8 : (wx.setCell ⟨P,26,none⟩ (.int .i64 0)).cell? ⟨P,7,none⟩ = some (uxV P u1.nx) := by rw [cell_of_row _ _ _ _ _ _ g8]; rfl
 have HF : Hid (Q (.returned (.tuple #[.bool false,.int .i64 0])) ((wx.setCell ⟨P,26,none⟩ (.int .i64 0)).setCell ⟨P,7,none⟩ (uxV P 7))) := HQ.out _ _ ⟨rfl,m2,D2,F2,by rw [if_pos trivial]; exact q6.own (updP (updP (Upd.refl _ _) _ _) _ _) (block_setCell g8 7 _) ⟨rfl,rfl,rfl,rfl,rfl,rfl⟩⟩
 generalize uxV P u1.nx = nxv at *
 simp only [uxV] at HF
 clear q6 hcut HQ HFIN g6 g8
 go_wp2_with fail
 exact HF.out
end
section
variable {W w1 w2 : World} {P A : Nat} {D F D1 F1 : Nat → Prop} {m m1 : UM} {u u1 u2 : US} {s s1 : AS}
def seven (W : World) (b : Nat) (x0 x1 x2 x3 x4 x5 x6 : Value) : World := ((((((W.setCell ⟨b,0,none⟩ x0).setCell ⟨b,1,none⟩ x1).setCell ⟨b,2,none⟩ x2).setCell ⟨b,3,none⟩ x3).setCell ⟨b,4,none⟩ x4).setCell ⟨b,5,none⟩ x5).setCell ⟨b,6,none⟩ x6
theorem seven_upd (W : World) (b : Nat) (x0 x1 x2 x3 x4 x5 x6 : Value) : Upd (fun k => k = b) W (seven W b x0 x1 x2 x3 x4 x5 x6) := updP (updP (updP (updP (updP (updP (updP (Upd.refl _ _) _ _) _ _) _ _) _ _) _ _) _ _) _ _
theorem seven_block {W : World} {b : Nat} {T : TypeId} {a0 a1 a2 a3 a4 a5 a6 : Value} (h : W.heap[b]? = some (.cells #[a0,a1,a2,a3,a4,a5,a6] T (0,0))) (x0 x1 x2 x3 x4 x5 x6 : Value) : (seven W b x0 x1 x2 x3 x4 x5 x6).heap[b]? = some (.cells #[x0,x1,x2,x3,x4,x5,x6] T (0,0)) := by
 have g0 : (W.setCell ⟨b,0,none⟩ x0).heap[b]? = some (.cells #[x0,a1,a2,a3,a4,a5,a6] T (0,0)) := block_setCell h 0 x0
 have g1 : ((W.setCell ⟨b,0,none⟩ x0).setCell ⟨b,1,none⟩ x1).heap[b]? = some (.cells #[x0,x1,a2,a3,a4,a5,a6] T (0,0)) := block_setCell g0 1 x1
 have g2 : (((W.setCell ⟨b,0,none⟩ x0).setCell ⟨b,1,none⟩ x1).setCell ⟨b,2,none⟩ x2).heap[b]? = some (.cells #[x0,x1,x2,a3,a4,a5,a6] T (0,0)) := block_setCell g1 2 x2
 have g3 : ((((W.setCell ⟨b,0,none⟩ x0).setCell ⟨b,1,none⟩ x1).setCell ⟨b,2,none⟩ x2).setCell ⟨b,3,none⟩ x3).heap[b]? = some (.cells #[x0,x1,x2,x3,a4,a5,a6] T (0,0)) := block_setCell g2 3 x3
 have g4 : (((((W.setCell ⟨b,0,none⟩ x0).setCell ⟨b,1,none⟩ x1).setCell ⟨b,2,none⟩ x2).setCell ⟨b,3,none⟩ x3).setCell ⟨b,4,none⟩ x4).heap[b]? = some (.cells #[x0,x1,x2,x3,x4,a5,a6] T (0,0)) := block_setCell g3 4 x4
 have g5 : ((((((W.setCell ⟨b,0,none⟩ x0).setCell ⟨b,1,none⟩ x1).setCell ⟨b,2,none⟩ x2).setCell ⟨b,3,none⟩ x3).setCell ⟨b,4,none⟩ x4).setCell ⟨b,5,none⟩ x5).heap[b]? = some (.cells #[x0,x1,x2,x3,x4,x5,a6] T (0,0)) := block_setCell g4 5 x5
 have g6 : (((((((W.setCell ⟨b,0,none⟩ x0).setCell ⟨b,1,none⟩ x1).setCell ⟨b,2,none⟩ x2).setCell ⟨b,3,none⟩ x3).setCell ⟨b,4,none⟩ x4).setCell ⟨b,5,none⟩ x5).setCell ⟨b,6,none⟩ x6).heap[b]? = some (.cells #[x0,x1,x2,x3,x4,x5,x6] T (0,0)) := block_setCell g5 6 x6
 exact g6
set_option maxHeartbeats 6400000 in
theorem u_lay0 (q0 : UQ W P A D F m m1 D1 F1 u1 s1 w1) (hpc : u1.pc = 0) : Calls Tryz.prog 191 #[.pointer (some ⟨P,0,none⟩)] w1 fun e w' => e = .returned (.tuple #[.bool false,.int .i64 (s1.unlE u1.fid)]) ∧ ∃ m2 D2 F2,UQ W P A D F m m2 D2 F2 { u1 with pc := 1 } (s1.hedS u1.fid u1.fn.lv u1.fn.hi u1.fn.ri) w' := by
 obtain ⟨Q,hQ⟩ : ∃ Q : Ending → World → Prop,Q = fun e w' => e = .returned (.tuple #[.bool false,.int .i64 (s1.unlE u1.fid)]) ∧ ∃ m2 D2 F2,UQ W P A D F m m2 D2 F2 { u1 with pc := 1 } (s1.hedS u1.fid u1.fn.lv u1.fn.hi u1.fn.ri) w' := ⟨_,rfl⟩
 rw [← hQ]
 have HQ : Hid (∀ w',(∃ F2,UQ W P A D F m m1 D1 F2 ({ u1 with pc := 1 } : US) (s1.hedS u1.fid u1.fn.lv u1.fn.hi u1.fn.ri) w') → Q (.returned (.tuple #[.bool false,.int .i64 (s1.unlE u1.fid)])) w') := fun w' h => by rw [hQ]; exact ⟨rfl,m1,D1,h⟩
 clear hQ
 obtain ⟨nlv,nha,nlh,nhc,nri,nka,nlk,nkc,nva,nlw,nvc,nca,nlc,ncc,hnv⟩ : ∃ nlv nha nlh nhc nri nka nlk nkc nva nlw nvc nca nlc ncc,m1.fn.lv = nlv ∧ m1.fn.hi.v = .slice nha nlh nhc ∧ m1.fn.ri = nri ∧ m1.fn.ks.v = .slice nka nlk nkc ∧ m1.fn.vs.v = .slice nva nlw nvc ∧ m1.fn.cs.v = .slice nca nlc ncc := ⟨m1.fn.lv,m1.fn.hi.a,m1.fn.hi.s.length,m1.fn.hi.c,m1.fn.ri,m1.fn.ks.a,m1.fn.ks.L.length,m1.fn.ks.c,m1.fn.vs.a,m1.fn.vs.L.length,m1.fn.vs.c,m1.fn.cs.a,m1.fn.cs.s.length,m1.fn.cs.c,rfl,rfl,rfl,rfl,rfl,rfl⟩
 obtain ⟨olv,oha,olh,ohc,ori,oka,olk,okc,ova,olw,ovc,oca,olc,occ,hov⟩ : ∃ olv oha olh ohc ori oka olk okc ova olw ovc oca olc occ,m1.hn.lv = olv ∧ m1.hn.hi.v = .slice oha olh ohc ∧ m1.hn.ri = ori ∧ m1.hn.ks.v = .slice oka olk okc ∧ m1.hn.vs.v = .slice ova olw ovc ∧ m1.hn.cs.v = .slice oca olc occ := ⟨m1.hn.lv,m1.hn.hi.a,m1.hn.hi.s.length,m1.hn.hi.c,m1.hn.ri,m1.hn.ks.a,m1.hn.ks.L.length,m1.hn.ks.c,m1.hn.vs.a,m1.hn.vs.L.length,m1.hn.vs.c,m1.hn.cs.a,m1.hn.cs.s.length,m1.hn.cs.c,rfl,rfl,rfl,rfl,rfl,rfl⟩
 obtain ⟨fid,hfid⟩ : ∃ x,u1.fid = x := ⟨_,rfl⟩
 obtain ⟨hid,hhid⟩ : ∃ x,u1.hid = x := ⟨_,rfl⟩
 have HCL : Hid (∀ Y,UQ W P A D F m m1 D1 F1 ({ u1 with pc := 1 } : US) s1 Y → Calls Tryz.prog 193 #[.pointer (some ⟨A,0,none⟩),.int .i64 fid,.agg #[.int .i64 nlv,.slice nha nlh nhc,.int .i64 nri]] Y fun e w' => e = .returned (.int .i64 (s1.unlE u1.fid)) ∧ (∃ F2,UQ W P A D F m m1 D1 F2 ({ u1 with pc := 1 } : US) (s1.hedS u1.fid u1.fn.lv u1.fn.hi u1.fn.ri) w') ∧ ∀ b,¬ F1 b → b < Y.heap.size → w'.heap[b]? = Y.heap[b]?) := fun Y q => by
  have hp : m1.fn.p = u1.fn := q.up.f.p
  have hok := q.up.f.ok
  have e0 : u1.fn.lv = m1.fn.lv := by rw [← hp]; rfl
  have e1 : u1.fn.hi = m1.fn.hi.s := by rw [← hp]; rfl
  have e2 : u1.fn.ri = m1.fn.ri := by rw [← hp]; rfl
  have e3 : u1.fn.ks = m1.fn.ks.p := by rw [← hp]; rfl
  have e4 : u1.fn.vs = m1.fn.vs.p := by rw [← hp]; rfl
  have e5 : u1.fn.cs = m1.fn.cs.s := by rw [← hp]; rfl
  obtain ⟨g0,g1,g2,g3,g4,g5⟩ := hnv
  rw [← hfid,← g0,← g1,← g2]
  refine (px_setH q.px u1.fid m1.fn.lv m1.fn.ri m1.fn.hi hok.h).mono ?_
  rintro e w' ⟨h1,h2⟩
  rw [← e0,← e1,← e2] at h2
  have h3 := q.arena h2
  obtain ⟨_,_,_,hu⟩ := h2
  exact ⟨h1,h3,fun b hb hl => hu.block b hl hb⟩
 have HCP : Hid (∀ Y F2 ss (mm : US),UQ W P A D F m m1 D1 F2 mm ss Y → mm.fid = u1.fid → mm.hid = u1.hid → Y.cell? ⟨P,0,none⟩ = some (.pointer (some ⟨A,0,none⟩)) ∧ Y.cell? ⟨P,11,none⟩ = some (.int .i64 hid) ∧ Y.cell? ⟨P,12,none⟩ = some (.int .i64 olv) ∧ Y.cell? ⟨P,13,none⟩ = some (.slice oha olh ohc) ∧ Y.cell? ⟨P,14,none⟩ = some (.int .i64 ori) ∧ Y.cell? ⟨P,15,none⟩ = some (.slice oka olk okc) ∧ Y.cell? ⟨P,16,none⟩ = some (.slice ova olw ovc) ∧ Y.cell? ⟨P,17,none⟩ = some (.slice oca olc occ) ∧ Y.cell? ⟨P,18,none⟩ = some (.int .i64 fid) ∧ Y.cell? ⟨P,19,none⟩ = some (.int .i64 nlv) ∧ Y.cell? ⟨P,20,none⟩ = some (.slice nha nlh nhc) ∧ Y.cell? ⟨P,21,none⟩ = some (.int .i64 nri) ∧ Y.cell? ⟨P,22,none⟩ = some (.slice nka nlk nkc) ∧ Y.cell? ⟨P,23,none⟩ = some (.slice nva nlw nvc) ∧ Y.cell? ⟨P,24,none⟩ = some (.slice nca nlc ncc)) := fun Y F2 ss mm q hf hh => by
  obtain ⟨g0,g1,g2,g3,g4,g5⟩ := hov
  obtain ⟨f0,f1,f2,f3,f4,f5⟩ := hnv
  rw [← hfid,← hhid,← hf,← hh,← g0,← g1,← g2,← g3,← g4,← g5,← f0,← f1,← f2,← f3,← f4,← f5]
  exact ⟨q.up.cell 0 _ rfl,q.up.cell 11 _ rfl,q.up.cell 12 _ rfl,q.up.cell 13 _ rfl,q.up.cell 14 _ rfl,q.up.cell 15 _ rfl,q.up.cell 16 _ rfl,q.up.cell 17 _ rfl,q.up.cell 18 _ rfl,q.up.cell 19 _ rfl,q.up.cell 20 _ rfl,q.up.cell 21 _ rfl,q.up.cell 22 _ rfl,q.up.cell 23 _ rfl,q.up.cell 24 _ rfl⟩
 have HBK : Hid (∀ Y,Below w1.heap.size w1 Y → UQ W P A D F m m1 D1 F1 u1 s1 Y) := fun Y hb => q0.below hb
 have HLT : Hid ((∀ x,D1 x ∨ F1 x ∨ x = P → x < w1.heap.size) ∧ W.heap.size ≤ w1.heap.size) := ⟨fun x hx => by
  rcases hx with hx | hx | rfl
  ·exact q0.up.lt x hx
  ·exact q0.px.lt x hx
  ·exact lt_of_block q0.up.c,q0.u.size⟩
 obtain ⟨c0,c11,c12,c13,c14,c15,c16,c17,c18,c19,c20,c21,c22,c23,c24⟩ := HCP.out w1 _ _ u1 q0 rfl rfl
 have c26 : w1.cell? ⟨P,26,none⟩ = some (.int .i64 0) := by rw [← hpc]; exact q0.up.cell 26 _ rfl
 obtain ⟨E,hE⟩ : ∃ E,s1.unlE u1.fid = E := ⟨_,rfl⟩
 rw [hE] at HCL HQ
 have HPC := hide hpc
 clear q0 hnv hov hE hfid hhid hpc c0 c11 c12 c13 c14 c15 c16 c17
 go_enter Tryz.func191,Tryz.ntmps191
 go_upto_region 1 with fail
 go_cut [4,5] (fun q4 q5 wx => ∃ gb : Nat,q4 = .pointer (some ⟨gb,0,none⟩) ∧ q5 = .int .i64 0 ∧ Hid (Below w1.heap.size w1 wx ∧ wx.heap[gb]? = some (.cells #[.int .i64 fid,.int .i64 nlv,.slice nha nlh nhc,.int .i64 nri,.slice nka nlk nkc,.slice nva nlw nvc,.slice nca nlc ncc] 118 (0,0)) ∧ w1.heap.size ≤ gb))
 case first =>
  go_region_held3 (fun Y => Y.cell? ⟨P,18,none⟩ = some (.int .i64 fid) ∧ Y.cell? ⟨P,19,none⟩ = some (.int .i64 nlv) ∧ Y.cell? ⟨P,20,none⟩ = some (.slice nha nlh nhc) ∧ Y.cell? ⟨P,21,none⟩ = some (.int .i64 nri) ∧ Y.cell? ⟨P,22,none⟩ = some (.slice nka nlk nkc) ∧ Y.cell? ⟨P,23,none⟩ = some (.slice nva nlw nvc) ∧ Y.cell? ⟨P,24,none⟩ = some (.slice nca nlc ncc) ∧ Y.cell? ⟨P,26,none⟩ = some (.int .i64 0)) (go_keep) (fail)
  all_goals (try go_wp2_with fail)
  all_goals
   go_meet
   exact ⟨w1.heap.size,rfl,rfl,(below_drew ((Below.refl w1.heap.size w1).alloc (Nat.le_refl _) (.cells #[.int .i64 fid,.int .i64 nlv,.slice nha nlh nhc,.int .i64 nri,.slice nka nlk nkc,.slice nva nlw nvc,.slice nca nlc ncc] 118))),heap_alloc_new w1 _,Nat.le_refl _⟩
 case rest =>
 rename World => wx
 obtain ⟨gb,rfl,rfl,HX⟩ := hcut
 have qx := HBK.out wx HX.out.1
 have hgP : ¬ gb = P := fun e => by have := HLT.out.1 P (.inr (.inr rfl)); have := HX.out.2.2; omega
 have hPg : ¬ P = gb := fun e => hgP e.symm
 have hgD : ¬ D1 gb := fun e => by have := HLT.out.1 gb (.inl e); have := HX.out.2.2; omega
 have hgF : ¬ F1 gb := fun e => by have := HLT.out.1 gb (.inr (.inl e)); have := HX.out.2.2; omega
 have hgW : W.heap.size ≤ gb := Nat.le_trans HLT.out.2 HX.out.2.2
 obtain ⟨w3,hw3⟩ : ∃ w3,w3 = wx.setCell ⟨P,26,none⟩ (.int .i64 1) := ⟨_,rfl⟩
 have hu3 : Upd (fun k => k = P) wx w3 := by rw [hw3]; exact updP (Upd.refl _ _) _ _
 have q3 : UQ W P A D F m m1 D1 F1 { u1 with pc := 1 } s1 w3 := qx.own hu3 (by rw [hw3]; exact block_setCell qx.up.c 26 _) ⟨rfl,rfl,rfl,rfl,rfl,rfl⟩
 have d26 : wx.cell? ⟨P,26,none⟩ = some (.int .i64 0) := by rw [← HPC.out]; exact qx.up.cell 26 _ rfl
 have fz := frozen_of qx.up.c 26
 have g3 := hu3.heap HX.out.2.1 hgP
 have HW3 := hide hw3
 have HQL := hide q3
 have HG := hide g3
 obtain ⟨y0,_⟩ := HCP.out w3 _ _ _ q3 rfl rfl
 have v0 : w3.cell? ⟨gb,0,none⟩ = some (.int .i64 fid) := by rw [cell_of_row _ _ _ _ _ _ g3]; rfl
 have v1 : w3.cell? ⟨gb,1,none⟩ = some (.int .i64 nlv) := by rw [cell_of_row _ _ _ _ _ _ g3]; rfl
 have v2 : w3.cell? ⟨gb,2,none⟩ = some (.slice nha nlh nhc) := by rw [cell_of_row _ _ _ _ _ _ g3]; rfl
 have v3 : w3.cell? ⟨gb,3,none⟩ = some (.int .i64 nri) := by rw [cell_of_row _ _ _ _ _ _ g3]; rfl
 have HGL := hide (lt_of_block g3)
 have HGF := hide hgF
 clear qx hw3 hu3 q3 g3 HX HBK HPC HLT hgD hgF hgW c18 c19 c20 c21 c22 c23 c24 c26
 go_upto_region 9 with fail
 rw [← HW3.out]
 clear HW3 d26 fz
 go_region_held3 (fun Y => Y.cell? ⟨P,0,none⟩ = some (.pointer (some ⟨A,0,none⟩)) ∧ Y.cell? ⟨gb,0,none⟩ = some (.int .i64 fid) ∧ Y.cell? ⟨gb,1,none⟩ = some (.int .i64 nlv) ∧ Y.cell? ⟨gb,2,none⟩ = some (.slice nha nlh nhc) ∧ Y.cell? ⟨gb,3,none⟩ = some (.int .i64 nri)) (go_keep) (first
  | (go_at_call 193; refine (HCL.out _ (HQL.out.below (below_drew (Below.refl _ _)))).mono ?_; rintro e w9 ⟨rfl,hq9,hk9⟩; have HQ9 := hide (HQ.out w9 hq9); obtain ⟨F9,hq9⟩ := hq9; have d0 := (HCP.out w9 _ _ _ hq9 rfl rfl).1; have g9 := (hk9 gb HGF.out HGL.out).trans HG.out; have d10 := (show w9.cell? ⟨gb,0,none⟩ = some (.int .i64 fid) by rw [cell_of_row _ _ _ _ _ _ g9]; rfl); have d11 := (show w9.cell? ⟨gb,1,none⟩ = some (.int .i64 nlv) by rw [cell_of_row _ _ _ _ _ _ g9]; rfl); have d12 := (show w9.cell? ⟨gb,2,none⟩ = some (.slice nha nlh nhc) by rw [cell_of_row _ _ _ _ _ _ g9]; rfl); have d13 := (show w9.cell? ⟨gb,3,none⟩ = some (.int .i64 nri) by rw [cell_of_row _ _ _ _ _ _ g9]; rfl); clear hq9 hk9 g9)
  | fail)
 all_goals (try go_wp2_with fail)
 all_goals exact HQ9.out
set_option maxHeartbeats 6400000 in
theorem u_lay1 (q0 : UQ W P A D F m m1 D1 F1 u1 s1 w1) (hpc : u1.pc = 1) : Calls Tryz.prog 191 #[.pointer (some ⟨P,0,none⟩)] w1 fun e w' => e = .returned (.tuple #[.bool false,.int .i64 (s1.unlE u1.fid)]) ∧ ∃ m2 D2 F2,UQ W P A D F m m2 D2 F2 { u1 with pc := 2 } (s1.bodS u1.fid u1.fn.ks u1.fn.vs u1.fn.cs) w' := by
 obtain ⟨Q,hQ⟩ : ∃ Q : Ending → World → Prop,Q = fun e w' => e = .returned (.tuple #[.bool false,.int .i64 (s1.unlE u1.fid)]) ∧ ∃ m2 D2 F2,UQ W P A D F m m2 D2 F2 { u1 with pc := 2 } (s1.bodS u1.fid u1.fn.ks u1.fn.vs u1.fn.cs) w' := ⟨_,rfl⟩
 rw [← hQ]
 have HQ : Hid (∀ w',(∃ F2,UQ W P A D F m m1 D1 F2 ({ u1 with pc := 2 } : US) (s1.bodS u1.fid u1.fn.ks u1.fn.vs u1.fn.cs) w') → Q (.returned (.tuple #[.bool false,.int .i64 (s1.unlE u1.fid)])) w') := fun w' h => by rw [hQ]; exact ⟨rfl,m1,D1,h⟩
 clear hQ
 obtain ⟨nlv,nha,nlh,nhc,nri,nka,nlk,nkc,nva,nlw,nvc,nca,nlc,ncc,hnv⟩ : ∃ nlv nha nlh nhc nri nka nlk nkc nva nlw nvc nca nlc ncc,m1.fn.lv = nlv ∧ m1.fn.hi.v = .slice nha nlh nhc ∧ m1.fn.ri = nri ∧ m1.fn.ks.v = .slice nka nlk nkc ∧ m1.fn.vs.v = .slice nva nlw nvc ∧ m1.fn.cs.v = .slice nca nlc ncc := ⟨m1.fn.lv,m1.fn.hi.a,m1.fn.hi.s.length,m1.fn.hi.c,m1.fn.ri,m1.fn.ks.a,m1.fn.ks.L.length,m1.fn.ks.c,m1.fn.vs.a,m1.fn.vs.L.length,m1.fn.vs.c,m1.fn.cs.a,m1.fn.cs.s.length,m1.fn.cs.c,rfl,rfl,rfl,rfl,rfl,rfl⟩
 obtain ⟨olv,oha,olh,ohc,ori,oka,olk,okc,ova,olw,ovc,oca,olc,occ,hov⟩ : ∃ olv oha olh ohc ori oka olk okc ova olw ovc oca olc occ,m1.hn.lv = olv ∧ m1.hn.hi.v = .slice oha olh ohc ∧ m1.hn.ri = ori ∧ m1.hn.ks.v = .slice oka olk okc ∧ m1.hn.vs.v = .slice ova olw ovc ∧ m1.hn.cs.v = .slice oca olc occ := ⟨m1.hn.lv,m1.hn.hi.a,m1.hn.hi.s.length,m1.hn.hi.c,m1.hn.ri,m1.hn.ks.a,m1.hn.ks.L.length,m1.hn.ks.c,m1.hn.vs.a,m1.hn.vs.L.length,m1.hn.vs.c,m1.hn.cs.a,m1.hn.cs.s.length,m1.hn.cs.c,rfl,rfl,rfl,rfl,rfl,rfl⟩
 obtain ⟨fid,hfid⟩ : ∃ x,u1.fid = x := ⟨_,rfl⟩
 obtain ⟨hid,hhid⟩ : ∃ x,u1.hid = x := ⟨_,rfl⟩
 have HCL : Hid (∀ Y,UQ W P A D F m m1 D1 F1 ({ u1 with pc := 2 } : US) s1 Y → Calls Tryz.prog 180 #[.pointer (some ⟨A,0,none⟩),.int .i64 fid,.agg #[.slice nka nlk nkc,.slice nva nlw nvc,.slice nca nlc ncc]] Y fun e w' => e = .returned (.int .i64 (s1.unlE u1.fid)) ∧ (∃ F2,UQ W P A D F m m1 D1 F2 ({ u1 with pc := 2 } : US) (s1.bodS u1.fid u1.fn.ks u1.fn.vs u1.fn.cs) w') ∧ ∀ b,¬ F1 b → b < Y.heap.size → w'.heap[b]? = Y.heap[b]?) := fun Y q => by
  have hp : m1.fn.p = u1.fn := q.up.f.p
  have hok := q.up.f.ok
  have e0 : u1.fn.lv = m1.fn.lv := by rw [← hp]; rfl
  have e1 : u1.fn.hi = m1.fn.hi.s := by rw [← hp]; rfl
  have e2 : u1.fn.ri = m1.fn.ri := by rw [← hp]; rfl
  have e3 : u1.fn.ks = m1.fn.ks.p := by rw [← hp]; rfl
  have e4 : u1.fn.vs = m1.fn.vs.p := by rw [← hp]; rfl
  have e5 : u1.fn.cs = m1.fn.cs.s := by rw [← hp]; rfl
  obtain ⟨g0,g1,g2,g3,g4,g5⟩ := hnv
  rw [← hfid,← g3,← g4,← g5]
  refine (px_setB q.px u1.fid m1.fn.ks m1.fn.vs m1.fn.cs hok.k hok.v hok.c hok.kz hok.vz hok.cz).mono ?_
  rintro e w' ⟨h1,h2⟩
  rw [← e3,← e4,← e5] at h2
  have h3 := q.arena h2
  obtain ⟨_,_,_,hu⟩ := h2
  exact ⟨h1,h3,fun b hb hl => hu.block b hl hb⟩
 have HCP : Hid (∀ Y F2 ss (mm : US),UQ W P A D F m m1 D1 F2 mm ss Y → mm.fid = u1.fid → mm.hid = u1.hid → Y.cell? ⟨P,0,none⟩ = some (.pointer (some ⟨A,0,none⟩)) ∧ Y.cell? ⟨P,11,none⟩ = some (.int .i64 hid) ∧ Y.cell? ⟨P,12,none⟩ = some (.int .i64 olv) ∧ Y.cell? ⟨P,13,none⟩ = some (.slice oha olh ohc) ∧ Y.cell? ⟨P,14,none⟩ = some (.int .i64 ori) ∧ Y.cell? ⟨P,15,none⟩ = some (.slice oka olk okc) ∧ Y.cell? ⟨P,16,none⟩ = some (.slice ova olw ovc) ∧ Y.cell? ⟨P,17,none⟩ = some (.slice oca olc occ) ∧ Y.cell? ⟨P,18,none⟩ = some (.int .i64 fid) ∧ Y.cell? ⟨P,19,none⟩ = some (.int .i64 nlv) ∧ Y.cell? ⟨P,20,none⟩ = some (.slice nha nlh nhc) ∧ Y.cell? ⟨P,21,none⟩ = some (.int .i64 nri) ∧ Y.cell? ⟨P,22,none⟩ = some (.slice nka nlk nkc) ∧ Y.cell? ⟨P,23,none⟩ = some (.slice nva nlw nvc) ∧ Y.cell? ⟨P,24,none⟩ = some (.slice nca nlc ncc)) := fun Y F2 ss mm q hf hh => by
  obtain ⟨g0,g1,g2,g3,g4,g5⟩ := hov
  obtain ⟨f0,f1,f2,f3,f4,f5⟩ := hnv
  rw [← hfid,← hhid,← hf,← hh,← g0,← g1,← g2,← g3,← g4,← g5,← f0,← f1,← f2,← f3,← f4,← f5]
  exact ⟨q.up.cell 0 _ rfl,q.up.cell 11 _ rfl,q.up.cell 12 _ rfl,q.up.cell 13 _ rfl,q.up.cell 14 _ rfl,q.up.cell 15 _ rfl,q.up.cell 16 _ rfl,q.up.cell 17 _ rfl,q.up.cell 18 _ rfl,q.up.cell 19 _ rfl,q.up.cell 20 _ rfl,q.up.cell 21 _ rfl,q.up.cell 22 _ rfl,q.up.cell 23 _ rfl,q.up.cell 24 _ rfl⟩
 have HBK : Hid (∀ Y,Below w1.heap.size w1 Y → UQ W P A D F m m1 D1 F1 u1 s1 Y) := fun Y hb => q0.below hb
 have HLT : Hid ((∀ x,D1 x ∨ F1 x ∨ x = P → x < w1.heap.size) ∧ W.heap.size ≤ w1.heap.size) := ⟨fun x hx => by
  rcases hx with hx | hx | rfl
  ·exact q0.up.lt x hx
  ·exact q0.px.lt x hx
  ·exact lt_of_block q0.up.c,q0.u.size⟩
 obtain ⟨c0,c11,c12,c13,c14,c15,c16,c17,c18,c19,c20,c21,c22,c23,c24⟩ := HCP.out w1 _ _ u1 q0 rfl rfl
 have c26 : w1.cell? ⟨P,26,none⟩ = some (.int .i64 1) := by rw [← hpc]; exact q0.up.cell 26 _ rfl
 obtain ⟨E,hE⟩ : ∃ E,s1.unlE u1.fid = E := ⟨_,rfl⟩
 rw [hE] at HCL HQ
 have HPC := hide hpc
 clear q0 hnv hov hE hfid hhid hpc c0 c11 c12 c13 c14 c15 c16 c17
 go_enter Tryz.func191,Tryz.ntmps191
 go_upto_region 1 with fail
 go_cut [4,5] (fun q4 q5 wx => ∃ gb : Nat,q4 = .pointer (some ⟨gb,0,none⟩) ∧ q5 = .int .i64 1 ∧ Hid (Below w1.heap.size w1 wx ∧ wx.heap[gb]? = some (.cells #[.int .i64 fid,.int .i64 nlv,.slice nha nlh nhc,.int .i64 nri,.slice nka nlk nkc,.slice nva nlw nvc,.slice nca nlc ncc] 118 (0,0)) ∧ w1.heap.size ≤ gb))
 case first =>
  go_region_held3 (fun Y => Y.cell? ⟨P,18,none⟩ = some (.int .i64 fid) ∧ Y.cell? ⟨P,19,none⟩ = some (.int .i64 nlv) ∧ Y.cell? ⟨P,20,none⟩ = some (.slice nha nlh nhc) ∧ Y.cell? ⟨P,21,none⟩ = some (.int .i64 nri) ∧ Y.cell? ⟨P,22,none⟩ = some (.slice nka nlk nkc) ∧ Y.cell? ⟨P,23,none⟩ = some (.slice nva nlw nvc) ∧ Y.cell? ⟨P,24,none⟩ = some (.slice nca nlc ncc) ∧ Y.cell? ⟨P,26,none⟩ = some (.int .i64 1)) (go_keep) (fail)
  all_goals (try go_wp2_with fail)
  all_goals
   go_meet
   exact ⟨w1.heap.size,rfl,rfl,(below_drew ((Below.refl w1.heap.size w1).alloc (Nat.le_refl _) (.cells #[.int .i64 fid,.int .i64 nlv,.slice nha nlh nhc,.int .i64 nri,.slice nka nlk nkc,.slice nva nlw nvc,.slice nca nlc ncc] 118))),heap_alloc_new w1 _,Nat.le_refl _⟩
 case rest =>
 rename World => wx
 obtain ⟨gb,rfl,rfl,HX⟩ := hcut
 have qx := HBK.out wx HX.out.1
 have hgP : ¬ gb = P := fun e => by have := HLT.out.1 P (.inr (.inr rfl)); have := HX.out.2.2; omega
 have hPg : ¬ P = gb := fun e => hgP e.symm
 have hgD : ¬ D1 gb := fun e => by have := HLT.out.1 gb (.inl e); have := HX.out.2.2; omega
 have hgF : ¬ F1 gb := fun e => by have := HLT.out.1 gb (.inr (.inl e)); have := HX.out.2.2; omega
 have hgW : W.heap.size ≤ gb := Nat.le_trans HLT.out.2 HX.out.2.2
 obtain ⟨w3,hw3⟩ : ∃ w3,w3 = wx.setCell ⟨P,26,none⟩ (.int .i64 2) := ⟨_,rfl⟩
 have hu3 : Upd (fun k => k = P) wx w3 := by rw [hw3]; exact updP (Upd.refl _ _) _ _
 have q3 : UQ W P A D F m m1 D1 F1 { u1 with pc := 2 } s1 w3 := qx.own hu3 (by rw [hw3]; exact block_setCell qx.up.c 26 _) ⟨rfl,rfl,rfl,rfl,rfl,rfl⟩
 have d26 : wx.cell? ⟨P,26,none⟩ = some (.int .i64 1) := by rw [← HPC.out]; exact qx.up.cell 26 _ rfl
 have fz := frozen_of qx.up.c 26
 have g3 := hu3.heap HX.out.2.1 hgP
 have HW3 := hide hw3
 have HQL := hide q3
 have HG := hide g3
 obtain ⟨y0,_⟩ := HCP.out w3 _ _ _ q3 rfl rfl
 have v0 : w3.cell? ⟨gb,0,none⟩ = some (.int .i64 fid) := by rw [cell_of_row _ _ _ _ _ _ g3]; rfl
 have v4 : w3.cell? ⟨gb,4,none⟩ = some (.slice nka nlk nkc) := by rw [cell_of_row _ _ _ _ _ _ g3]; rfl
 have v5 : w3.cell? ⟨gb,5,none⟩ = some (.slice nva nlw nvc) := by rw [cell_of_row _ _ _ _ _ _ g3]; rfl
 have v6 : w3.cell? ⟨gb,6,none⟩ = some (.slice nca nlc ncc) := by rw [cell_of_row _ _ _ _ _ _ g3]; rfl
 have HGL := hide (lt_of_block g3)
 have HGF := hide hgF
 clear qx hw3 hu3 q3 g3 HX HBK HPC HLT hgD hgF hgW c18 c19 c20 c21 c22 c23 c24 c26
 go_upto_region 12 with fail
 rw [← HW3.out]
 clear HW3 d26 fz
 go_region_held3 (fun Y => Y.cell? ⟨P,0,none⟩ = some (.pointer (some ⟨A,0,none⟩)) ∧ Y.cell? ⟨gb,0,none⟩ = some (.int .i64 fid) ∧ Y.cell? ⟨gb,4,none⟩ = some (.slice nka nlk nkc) ∧ Y.cell? ⟨gb,5,none⟩ = some (.slice nva nlw nvc) ∧ Y.cell? ⟨gb,6,none⟩ = some (.slice nca nlc ncc)) (go_keep) (first
  | (go_at_call 180; refine (HCL.out _ (HQL.out.below (below_drew (Below.refl _ _)))).mono ?_; rintro e w9 ⟨rfl,hq9,hk9⟩; have HQ9 := hide (HQ.out w9 hq9); obtain ⟨F9,hq9⟩ := hq9; have d0 := (HCP.out w9 _ _ _ hq9 rfl rfl).1; have g9 := (hk9 gb HGF.out HGL.out).trans HG.out; have d10 := (show w9.cell? ⟨gb,0,none⟩ = some (.int .i64 fid) by rw [cell_of_row _ _ _ _ _ _ g9]; rfl); have d14 := (show w9.cell? ⟨gb,4,none⟩ = some (.slice nka nlk nkc) by rw [cell_of_row _ _ _ _ _ _ g9]; rfl); have d15 := (show w9.cell? ⟨gb,5,none⟩ = some (.slice nva nlw nvc) by rw [cell_of_row _ _ _ _ _ _ g9]; rfl); have d16 := (show w9.cell? ⟨gb,6,none⟩ = some (.slice nca nlc ncc) by rw [cell_of_row _ _ _ _ _ _ g9]; rfl); clear hq9 hk9 g9)
  | fail)
 all_goals (try go_wp2_with fail)
 all_goals exact HQ9.out
set_option maxHeartbeats 6400000 in
theorem u_lay2 (q0 : UQ W P A D F m m1 D1 F1 u1 s1 w1) (hpc : u1.pc = 2) : Calls Tryz.prog 191 #[.pointer (some ⟨P,0,none⟩)] w1 fun e w' => e = .returned (.tuple #[.bool false,.int .i64 (s1.unlE u1.fid)]) ∧ ∃ m2 D2 F2,UQ W P A D F m m2 D2 F2 { u1 with pc := 3 } (s1.unlS u1.fid true) w' := by
 obtain ⟨Q,hQ⟩ : ∃ Q : Ending → World → Prop,Q = fun e w' => e = .returned (.tuple #[.bool false,.int .i64 (s1.unlE u1.fid)]) ∧ ∃ m2 D2 F2,UQ W P A D F m m2 D2 F2 { u1 with pc := 3 } (s1.unlS u1.fid true) w' := ⟨_,rfl⟩
 rw [← hQ]
 have HQ : Hid (∀ w',(∃ F2,UQ W P A D F m m1 D1 F2 ({ u1 with pc := 3 } : US) (s1.unlS u1.fid true) w') → Q (.returned (.tuple #[.bool false,.int .i64 (s1.unlE u1.fid)])) w') := fun w' h => by rw [hQ]; exact ⟨rfl,m1,D1,h⟩
 clear hQ
 obtain ⟨nlv,nha,nlh,nhc,nri,nka,nlk,nkc,nva,nlw,nvc,nca,nlc,ncc,hnv⟩ : ∃ nlv nha nlh nhc nri nka nlk nkc nva nlw nvc nca nlc ncc,m1.fn.lv = nlv ∧ m1.fn.hi.v = .slice nha nlh nhc ∧ m1.fn.ri = nri ∧ m1.fn.ks.v = .slice nka nlk nkc ∧ m1.fn.vs.v = .slice nva nlw nvc ∧ m1.fn.cs.v = .slice nca nlc ncc := ⟨m1.fn.lv,m1.fn.hi.a,m1.fn.hi.s.length,m1.fn.hi.c,m1.fn.ri,m1.fn.ks.a,m1.fn.ks.L.length,m1.fn.ks.c,m1.fn.vs.a,m1.fn.vs.L.length,m1.fn.vs.c,m1.fn.cs.a,m1.fn.cs.s.length,m1.fn.cs.c,rfl,rfl,rfl,rfl,rfl,rfl⟩
 obtain ⟨olv,oha,olh,ohc,ori,oka,olk,okc,ova,olw,ovc,oca,olc,occ,hov⟩ : ∃ olv oha olh ohc ori oka olk okc ova olw ovc oca olc occ,m1.hn.lv = olv ∧ m1.hn.hi.v = .slice oha olh ohc ∧ m1.hn.ri = ori ∧ m1.hn.ks.v = .slice oka olk okc ∧ m1.hn.vs.v = .slice ova olw ovc ∧ m1.hn.cs.v = .slice oca olc occ := ⟨m1.hn.lv,m1.hn.hi.a,m1.hn.hi.s.length,m1.hn.hi.c,m1.hn.ri,m1.hn.ks.a,m1.hn.ks.L.length,m1.hn.ks.c,m1.hn.vs.a,m1.hn.vs.L.length,m1.hn.vs.c,m1.hn.cs.a,m1.hn.cs.s.length,m1.hn.cs.c,rfl,rfl,rfl,rfl,rfl,rfl⟩
 obtain ⟨fid,hfid⟩ : ∃ x,u1.fid = x := ⟨_,rfl⟩
 obtain ⟨hid,hhid⟩ : ∃ x,u1.hid = x := ⟨_,rfl⟩
 have HCL : Hid (∀ Y,UQ W P A D F m m1 D1 F1 ({ u1 with pc := 3 } : US) s1 Y → Calls Tryz.prog 186 #[.pointer (some ⟨A,0,none⟩),.int .i64 fid,.bool true] Y fun e w' => e = .returned (.int .i64 (s1.unlE u1.fid)) ∧ (∃ F2,UQ W P A D F m m1 D1 F2 ({ u1 with pc := 3 } : US) (s1.unlS u1.fid true) w') ∧ ∀ b,¬ F1 b → b < Y.heap.size → w'.heap[b]? = Y.heap[b]?) := fun Y q => by
  have hp : m1.fn.p = u1.fn := q.up.f.p
  have hok := q.up.f.ok
  have e0 : u1.fn.lv = m1.fn.lv := by rw [← hp]; rfl
  have e1 : u1.fn.hi = m1.fn.hi.s := by rw [← hp]; rfl
  have e2 : u1.fn.ri = m1.fn.ri := by rw [← hp]; rfl
  have e3 : u1.fn.ks = m1.fn.ks.p := by rw [← hp]; rfl
  have e4 : u1.fn.vs = m1.fn.vs.p := by rw [← hp]; rfl
  have e5 : u1.fn.cs = m1.fn.cs.s := by rw [← hp]; rfl
  obtain ⟨g0,g1,g2,g3,g4,g5⟩ := hnv
  rw [← hfid]
  refine (px_unlock q.px u1.fid true).mono ?_
  rintro e w' ⟨h1,h2⟩
  have h3 := q.arena h2
  obtain ⟨_,_,_,hu⟩ := h2
  exact ⟨h1,h3,fun b hb hl => hu.block b hl hb⟩
 have HCP : Hid (∀ Y F2 ss (mm : US),UQ W P A D F m m1 D1 F2 mm ss Y → mm.fid = u1.fid → mm.hid = u1.hid → Y.cell? ⟨P,0,none⟩ = some (.pointer (some ⟨A,0,none⟩)) ∧ Y.cell? ⟨P,11,none⟩ = some (.int .i64 hid) ∧ Y.cell? ⟨P,12,none⟩ = some (.int .i64 olv) ∧ Y.cell? ⟨P,13,none⟩ = some (.slice oha olh ohc) ∧ Y.cell? ⟨P,14,none⟩ = some (.int .i64 ori) ∧ Y.cell? ⟨P,15,none⟩ = some (.slice oka olk okc) ∧ Y.cell? ⟨P,16,none⟩ = some (.slice ova olw ovc) ∧ Y.cell? ⟨P,17,none⟩ = some (.slice oca olc occ) ∧ Y.cell? ⟨P,18,none⟩ = some (.int .i64 fid) ∧ Y.cell? ⟨P,19,none⟩ = some (.int .i64 nlv) ∧ Y.cell? ⟨P,20,none⟩ = some (.slice nha nlh nhc) ∧ Y.cell? ⟨P,21,none⟩ = some (.int .i64 nri) ∧ Y.cell? ⟨P,22,none⟩ = some (.slice nka nlk nkc) ∧ Y.cell? ⟨P,23,none⟩ = some (.slice nva nlw nvc) ∧ Y.cell? ⟨P,24,none⟩ = some (.slice nca nlc ncc)) := fun Y F2 ss mm q hf hh => by
  obtain ⟨g0,g1,g2,g3,g4,g5⟩ := hov
  obtain ⟨f0,f1,f2,f3,f4,f5⟩ := hnv
  rw [← hfid,← hhid,← hf,← hh,← g0,← g1,← g2,← g3,← g4,← g5,← f0,← f1,← f2,← f3,← f4,← f5]
  exact ⟨q.up.cell 0 _ rfl,q.up.cell 11 _ rfl,q.up.cell 12 _ rfl,q.up.cell 13 _ rfl,q.up.cell 14 _ rfl,q.up.cell 15 _ rfl,q.up.cell 16 _ rfl,q.up.cell 17 _ rfl,q.up.cell 18 _ rfl,q.up.cell 19 _ rfl,q.up.cell 20 _ rfl,q.up.cell 21 _ rfl,q.up.cell 22 _ rfl,q.up.cell 23 _ rfl,q.up.cell 24 _ rfl⟩
 have HBK : Hid (∀ Y,Below w1.heap.size w1 Y → UQ W P A D F m m1 D1 F1 u1 s1 Y) := fun Y hb => q0.below hb
 have HLT : Hid ((∀ x,D1 x ∨ F1 x ∨ x = P → x < w1.heap.size) ∧ W.heap.size ≤ w1.heap.size) := ⟨fun x hx => by
  rcases hx with hx | hx | rfl
  ·exact q0.up.lt x hx
  ·exact q0.px.lt x hx
  ·exact lt_of_block q0.up.c,q0.u.size⟩
 obtain ⟨c0,c11,c12,c13,c14,c15,c16,c17,c18,c19,c20,c21,c22,c23,c24⟩ := HCP.out w1 _ _ u1 q0 rfl rfl
 have c26 : w1.cell? ⟨P,26,none⟩ = some (.int .i64 2) := by rw [← hpc]; exact q0.up.cell 26 _ rfl
 obtain ⟨E,hE⟩ : ∃ E,s1.unlE u1.fid = E := ⟨_,rfl⟩
 rw [hE] at HCL HQ
 have HPC := hide hpc
 clear q0 hnv hov hE hfid hhid hpc c0 c11 c12 c13 c14 c15 c16 c17
 go_enter Tryz.func191,Tryz.ntmps191
 go_upto_region 1 with fail
 go_cut [4,5] (fun q4 q5 wx => ∃ gb : Nat,q4 = .pointer (some ⟨gb,0,none⟩) ∧ q5 = .int .i64 2 ∧ Hid (Below w1.heap.size w1 wx ∧ wx.heap[gb]? = some (.cells #[.int .i64 fid,.int .i64 nlv,.slice nha nlh nhc,.int .i64 nri,.slice nka nlk nkc,.slice nva nlw nvc,.slice nca nlc ncc] 118 (0,0)) ∧ w1.heap.size ≤ gb))
 case first =>
  go_region_held3 (fun Y => Y.cell? ⟨P,18,none⟩ = some (.int .i64 fid) ∧ Y.cell? ⟨P,19,none⟩ = some (.int .i64 nlv) ∧ Y.cell? ⟨P,20,none⟩ = some (.slice nha nlh nhc) ∧ Y.cell? ⟨P,21,none⟩ = some (.int .i64 nri) ∧ Y.cell? ⟨P,22,none⟩ = some (.slice nka nlk nkc) ∧ Y.cell? ⟨P,23,none⟩ = some (.slice nva nlw nvc) ∧ Y.cell? ⟨P,24,none⟩ = some (.slice nca nlc ncc) ∧ Y.cell? ⟨P,26,none⟩ = some (.int .i64 2)) (go_keep) (fail)
  all_goals (try go_wp2_with fail)
  all_goals
   go_meet
   exact ⟨w1.heap.size,rfl,rfl,(below_drew ((Below.refl w1.heap.size w1).alloc (Nat.le_refl _) (.cells #[.int .i64 fid,.int .i64 nlv,.slice nha nlh nhc,.int .i64 nri,.slice nka nlk nkc,.slice nva nlw nvc,.slice nca nlc ncc] 118))),heap_alloc_new w1 _,Nat.le_refl _⟩
 case rest =>
 rename World => wx
 obtain ⟨gb,rfl,rfl,HX⟩ := hcut
 have qx := HBK.out wx HX.out.1
 have hgP : ¬ gb = P := fun e => by have := HLT.out.1 P (.inr (.inr rfl)); have := HX.out.2.2; omega
 have hPg : ¬ P = gb := fun e => hgP e.symm
 have hgD : ¬ D1 gb := fun e => by have := HLT.out.1 gb (.inl e); have := HX.out.2.2; omega
 have hgF : ¬ F1 gb := fun e => by have := HLT.out.1 gb (.inr (.inl e)); have := HX.out.2.2; omega
 have hgW : W.heap.size ≤ gb := Nat.le_trans HLT.out.2 HX.out.2.2
 obtain ⟨w3,hw3⟩ : ∃ w3,w3 = wx.setCell ⟨P,26,none⟩ (.int .i64 3) := ⟨_,rfl⟩
 have hu3 : Upd (fun k => k = P) wx w3 := by rw [hw3]; exact updP (Upd.refl _ _) _ _
 have q3 : UQ W P A D F m m1 D1 F1 { u1 with pc := 3 } s1 w3 := qx.own hu3 (by rw [hw3]; exact block_setCell qx.up.c 26 _) ⟨rfl,rfl,rfl,rfl,rfl,rfl⟩
 have d26 : wx.cell? ⟨P,26,none⟩ = some (.int .i64 2) := by rw [← HPC.out]; exact qx.up.cell 26 _ rfl
 have fz := frozen_of qx.up.c 26
 have g3 := hu3.heap HX.out.2.1 hgP
 have HW3 := hide hw3
 have HQL := hide q3
 have HG := hide g3
 obtain ⟨y0,_⟩ := HCP.out w3 _ _ _ q3 rfl rfl
 have v0 : w3.cell? ⟨gb,0,none⟩ = some (.int .i64 fid) := by rw [cell_of_row _ _ _ _ _ _ g3]; rfl
 have HGL := hide (lt_of_block g3)
 have HGF := hide hgF
 clear qx hw3 hu3 q3 g3 HX HBK HPC HLT hgD hgF hgW c18 c19 c20 c21 c22 c23 c24 c26
 go_upto_region 13 with fail
 rw [← HW3.out]
 clear HW3 d26 fz
 go_region_held3 (fun Y => Y.cell? ⟨P,0,none⟩ = some (.pointer (some ⟨A,0,none⟩)) ∧ Y.cell? ⟨gb,0,none⟩ = some (.int .i64 fid)) (go_keep) (first
  | (go_at_call 186; refine (HCL.out _ (HQL.out.below (below_drew (Below.refl _ _)))).mono ?_; rintro e w9 ⟨rfl,hq9,hk9⟩; have HQ9 := hide (HQ.out w9 hq9); obtain ⟨F9,hq9⟩ := hq9; have d0 := (HCP.out w9 _ _ _ hq9 rfl rfl).1; have g9 := (hk9 gb HGF.out HGL.out).trans HG.out; have d10 := (show w9.cell? ⟨gb,0,none⟩ = some (.int .i64 fid) by rw [cell_of_row _ _ _ _ _ _ g9]; rfl); clear hq9 hk9 g9)
  | fail)
 all_goals (try go_wp2_with fail)
 all_goals exact HQ9.out
set_option maxHeartbeats 6400000 in
theorem u_lay3 (q0 : UQ W P A D F m m1 D1 F1 u1 s1 w1) (hpc : u1.pc = 3) : Calls Tryz.prog 191 #[.pointer (some ⟨P,0,none⟩)] w1 fun e w' => e = .returned (.tuple #[.bool false,.int .i64 (s1.unlE u1.hid)]) ∧ ∃ m2 D2 F2,UQ W P A D F m m2 D2 F2 { u1 with pc := 4 } (s1.hedS u1.hid u1.hn.lv u1.hn.hi u1.hn.ri) w' := by
 obtain ⟨Q,hQ⟩ : ∃ Q : Ending → World → Prop,Q = fun e w' => e = .returned (.tuple #[.bool false,.int .i64 (s1.unlE u1.hid)]) ∧ ∃ m2 D2 F2,UQ W P A D F m m2 D2 F2 { u1 with pc := 4 } (s1.hedS u1.hid u1.hn.lv u1.hn.hi u1.hn.ri) w' := ⟨_,rfl⟩
 rw [← hQ]
 have HQ : Hid (∀ w',(∃ F2,UQ W P A D F m m1 D1 F2 ({ u1 with pc := 4 } : US) (s1.hedS u1.hid u1.hn.lv u1.hn.hi u1.hn.ri) w') → Q (.returned (.tuple #[.bool false,.int .i64 (s1.unlE u1.hid)])) w') := fun w' h => by rw [hQ]; exact ⟨rfl,m1,D1,h⟩
 clear hQ
 obtain ⟨nlv,nha,nlh,nhc,nri,nka,nlk,nkc,nva,nlw,nvc,nca,nlc,ncc,hnv⟩ : ∃ nlv nha nlh nhc nri nka nlk nkc nva nlw nvc nca nlc ncc,m1.fn.lv = nlv ∧ m1.fn.hi.v = .slice nha nlh nhc ∧ m1.fn.ri = nri ∧ m1.fn.ks.v = .slice nka nlk nkc ∧ m1.fn.vs.v = .slice nva nlw nvc ∧ m1.fn.cs.v = .slice nca nlc ncc := ⟨m1.fn.lv,m1.fn.hi.a,m1.fn.hi.s.length,m1.fn.hi.c,m1.fn.ri,m1.fn.ks.a,m1.fn.ks.L.length,m1.fn.ks.c,m1.fn.vs.a,m1.fn.vs.L.length,m1.fn.vs.c,m1.fn.cs.a,m1.fn.cs.s.length,m1.fn.cs.c,rfl,rfl,rfl,rfl,rfl,rfl⟩
 obtain ⟨olv,oha,olh,ohc,ori,oka,olk,okc,ova,olw,ovc,oca,olc,occ,hov⟩ : ∃ olv oha olh ohc ori oka olk okc ova olw ovc oca olc occ,m1.hn.lv = olv ∧ m1.hn.hi.v = .slice oha olh ohc ∧ m1.hn.ri = ori ∧ m1.hn.ks.v = .slice oka olk okc ∧ m1.hn.vs.v = .slice ova olw ovc ∧ m1.hn.cs.v = .slice oca olc occ := ⟨m1.hn.lv,m1.hn.hi.a,m1.hn.hi.s.length,m1.hn.hi.c,m1.hn.ri,m1.hn.ks.a,m1.hn.ks.L.length,m1.hn.ks.c,m1.hn.vs.a,m1.hn.vs.L.length,m1.hn.vs.c,m1.hn.cs.a,m1.hn.cs.s.length,m1.hn.cs.c,rfl,rfl,rfl,rfl,rfl,rfl⟩
 obtain ⟨fid,hfid⟩ : ∃ x,u1.fid = x := ⟨_,rfl⟩
 obtain ⟨hid,hhid⟩ : ∃ x,u1.hid = x := ⟨_,rfl⟩
 have HCL : Hid (∀ Y,UQ W P A D F m m1 D1 F1 ({ u1 with pc := 4 } : US) s1 Y → Calls Tryz.prog 193 #[.pointer (some ⟨A,0,none⟩),.int .i64 hid,.agg #[.int .i64 olv,.slice oha olh ohc,.int .i64 ori]] Y fun e w' => e = .returned (.int .i64 (s1.unlE u1.hid)) ∧ (∃ F2,UQ W P A D F m m1 D1 F2 ({ u1 with pc := 4 } : US) (s1.hedS u1.hid u1.hn.lv u1.hn.hi u1.hn.ri) w') ∧ ∀ b,¬ F1 b → b < Y.heap.size → w'.heap[b]? = Y.heap[b]?) := fun Y q => by
  have hp : m1.hn.p = u1.hn := q.up.h.p
  have hok := q.up.h.ok
  have e0 : u1.hn.lv = m1.hn.lv := by rw [← hp]; rfl
  have e1 : u1.hn.hi = m1.hn.hi.s := by rw [← hp]; rfl
  have e2 : u1.hn.ri = m1.hn.ri := by rw [← hp]; rfl
  have e3 : u1.hn.ks = m1.hn.ks.p := by rw [← hp]; rfl
  have e4 : u1.hn.vs = m1.hn.vs.p := by rw [← hp]; rfl
  have e5 : u1.hn.cs = m1.hn.cs.s := by rw [← hp]; rfl
  obtain ⟨g0,g1,g2,g3,g4,g5⟩ := hov
  rw [← hhid,← g0,← g1,← g2]
  refine (px_setH q.px u1.hid m1.hn.lv m1.hn.ri m1.hn.hi hok.h).mono ?_
  rintro e w' ⟨h1,h2⟩
  rw [← e0,← e1,← e2] at h2
  have h3 := q.arena h2
  obtain ⟨_,_,_,hu⟩ := h2
  exact ⟨h1,h3,fun b hb hl => hu.block b hl hb⟩
 have HCP : Hid (∀ Y F2 ss (mm : US),UQ W P A D F m m1 D1 F2 mm ss Y → mm.fid = u1.fid → mm.hid = u1.hid → Y.cell? ⟨P,0,none⟩ = some (.pointer (some ⟨A,0,none⟩)) ∧ Y.cell? ⟨P,11,none⟩ = some (.int .i64 hid) ∧ Y.cell? ⟨P,12,none⟩ = some (.int .i64 olv) ∧ Y.cell? ⟨P,13,none⟩ = some (.slice oha olh ohc) ∧ Y.cell? ⟨P,14,none⟩ = some (.int .i64 ori) ∧ Y.cell? ⟨P,15,none⟩ = some (.slice oka olk okc) ∧ Y.cell? ⟨P,16,none⟩ = some (.slice ova olw ovc) ∧ Y.cell? ⟨P,17,none⟩ = some (.slice oca olc occ) ∧ Y.cell? ⟨P,18,none⟩ = some (.int .i64 fid) ∧ Y.cell? ⟨P,19,none⟩ = some (.int .i64 nlv) ∧ Y.cell? ⟨P,20,none⟩ = some (.slice nha nlh nhc) ∧ Y.cell? ⟨P,21,none⟩ = some (.int .i64 nri) ∧ Y.cell? ⟨P,22,none⟩ = some (.slice nka nlk nkc) ∧ Y.cell? ⟨P,23,none⟩ = some (.slice nva nlw nvc) ∧ Y.cell? ⟨P,24,none⟩ = some (.slice nca nlc ncc)) := fun Y F2 ss mm q hf hh => by
  obtain ⟨g0,g1,g2,g3,g4,g5⟩ := hov
  obtain ⟨f0,f1,f2,f3,f4,f5⟩ := hnv
  rw [← hfid,← hhid,← hf,← hh,← g0,← g1,← g2,← g3,← g4,← g5,← f0,← f1,← f2,← f3,← f4,← f5]
  exact ⟨q.up.cell 0 _ rfl,q.up.cell 11 _ rfl,q.up.cell 12 _ rfl,q.up.cell 13 _ rfl,q.up.cell 14 _ rfl,q.up.cell 15 _ rfl,q.up.cell 16 _ rfl,q.up.cell 17 _ rfl,q.up.cell 18 _ rfl,q.up.cell 19 _ rfl,q.up.cell 20 _ rfl,q.up.cell 21 _ rfl,q.up.cell 22 _ rfl,q.up.cell 23 _ rfl,q.up.cell 24 _ rfl⟩
 have HBK : Hid (∀ Y,Below w1.heap.size w1 Y → UQ W P A D F m m1 D1 F1 u1 s1 Y) := fun Y hb => q0.below hb
 have HLT : Hid ((∀ x,D1 x ∨ F1 x ∨ x = P → x < w1.heap.size) ∧ W.heap.size ≤ w1.heap.size) := ⟨fun x hx => by
  rcases hx with hx | hx | rfl
  ·exact q0.up.lt x hx
  ·exact q0.px.lt x hx
  ·exact lt_of_block q0.up.c,q0.u.size⟩
 obtain ⟨c0,c11,c12,c13,c14,c15,c16,c17,c18,c19,c20,c21,c22,c23,c24⟩ := HCP.out w1 _ _ u1 q0 rfl rfl
 have c26 : w1.cell? ⟨P,26,none⟩ = some (.int .i64 3) := by rw [← hpc]; exact q0.up.cell 26 _ rfl
 obtain ⟨E,hE⟩ : ∃ E,s1.unlE u1.hid = E := ⟨_,rfl⟩
 rw [hE] at HCL HQ
 have HPC := hide hpc
 clear q0 hnv hov hE hfid hhid hpc c0 c11 c12 c13 c14 c15 c16 c17
 go_enter Tryz.func191,Tryz.ntmps191
 go_upto_region 1 with fail
 go_cut [4,5] (fun q4 q5 wx => ∃ gb : Nat,q4 = .pointer (some ⟨gb,0,none⟩) ∧ q5 = .int .i64 3 ∧ Hid (Below w1.heap.size w1 wx ∧ wx.heap[gb]? = some (.cells #[.int .i64 fid,.int .i64 nlv,.slice nha nlh nhc,.int .i64 nri,.slice nka nlk nkc,.slice nva nlw nvc,.slice nca nlc ncc] 118 (0,0)) ∧ w1.heap.size ≤ gb))
 case first =>
  go_region_held3 (fun Y => Y.cell? ⟨P,18,none⟩ = some (.int .i64 fid) ∧ Y.cell? ⟨P,19,none⟩ = some (.int .i64 nlv) ∧ Y.cell? ⟨P,20,none⟩ = some (.slice nha nlh nhc) ∧ Y.cell? ⟨P,21,none⟩ = some (.int .i64 nri) ∧ Y.cell? ⟨P,22,none⟩ = some (.slice nka nlk nkc) ∧ Y.cell? ⟨P,23,none⟩ = some (.slice nva nlw nvc) ∧ Y.cell? ⟨P,24,none⟩ = some (.slice nca nlc ncc) ∧ Y.cell? ⟨P,26,none⟩ = some (.int .i64 3)) (go_keep) (fail)
  all_goals (try go_wp2_with fail)
  all_goals
   go_meet
   exact ⟨w1.heap.size,rfl,rfl,(below_drew ((Below.refl w1.heap.size w1).alloc (Nat.le_refl _) (.cells #[.int .i64 fid,.int .i64 nlv,.slice nha nlh nhc,.int .i64 nri,.slice nka nlk nkc,.slice nva nlw nvc,.slice nca nlc ncc] 118))),heap_alloc_new w1 _,Nat.le_refl _⟩
 case rest =>
 rename World => wx
 obtain ⟨gb,rfl,rfl,HX⟩ := hcut
 have qx := HBK.out wx HX.out.1
 have hgP : ¬ gb = P := fun e => by have := HLT.out.1 P (.inr (.inr rfl)); have := HX.out.2.2; omega
 have hPg : ¬ P = gb := fun e => hgP e.symm
 have hgD : ¬ D1 gb := fun e => by have := HLT.out.1 gb (.inl e); have := HX.out.2.2; omega
 have hgF : ¬ F1 gb := fun e => by have := HLT.out.1 gb (.inr (.inl e)); have := HX.out.2.2; omega
 have hgW : W.heap.size ≤ gb := Nat.le_trans HLT.out.2 HX.out.2.2
 obtain ⟨w3,hw3⟩ : ∃ w3,w3 = wx.setCell ⟨P,26,none⟩ (.int .i64 4) := ⟨_,rfl⟩
 have hu3 : Upd (fun k => k = P) wx w3 := by rw [hw3]; exact updP (Upd.refl _ _) _ _
 have q3 : UQ W P A D F m m1 D1 F1 { u1 with pc := 4 } s1 w3 := qx.own hu3 (by rw [hw3]; exact block_setCell qx.up.c 26 _) ⟨rfl,rfl,rfl,rfl,rfl,rfl⟩
 have d26 : wx.cell? ⟨P,26,none⟩ = some (.int .i64 3) := by rw [← HPC.out]; exact qx.up.cell 26 _ rfl
 have fz := frozen_of qx.up.c 26
 have g3 := hu3.heap HX.out.2.1 hgP
 have HW3 := hide hw3
 obtain ⟨w4,hw4⟩ : ∃ w4,w4 = seven w3 gb (.int .i64 hid) (.int .i64 olv) (.slice oha olh ohc) (.int .i64 ori) (.slice oka olk okc) (.slice ova olw ovc) (.slice oca olc occ) := ⟨_,rfl⟩
 have hu4 : Upd (fun k => k = gb) w3 w4 := by rw [hw4]; exact seven_upd _ _ _ _ _ _ _ _ _
 have g4 : w4.heap[gb]? = some (.cells #[.int .i64 hid,.int .i64 olv,.slice oha olh ohc,.int .i64 ori,.slice oka olk okc,.slice ova olw ovc,.slice oca olc occ] 118 (0,0)) := by rw [hw4]; exact seven_block g3 _ _ _ _ _ _ _
 have q4 : UQ W P A D F m m1 D1 F1 { u1 with pc := 4 } s1 w4 := q3.far hu4 ⟨hgW,hgD,hgF⟩ hgP
 have HW4 := hide hw4
 simp only [seven] at HW4
 have z4 := fun j => frozen_of g3 j
 obtain ⟨_,b11,b12,b13,b14,b15,b16,b17,_⟩ := HCP.out w3 _ _ _ q3 rfl rfl
 have x0 : w3.cell? ⟨gb,0,none⟩ = some (.int .i64 fid) := by rw [cell_of_row _ _ _ _ _ _ g3]; rfl
 have x1 : w3.cell? ⟨gb,1,none⟩ = some (.int .i64 nlv) := by rw [cell_of_row _ _ _ _ _ _ g3]; rfl
 have x2 : w3.cell? ⟨gb,2,none⟩ = some (.slice nha nlh nhc) := by rw [cell_of_row _ _ _ _ _ _ g3]; rfl
 have x3 : w3.cell? ⟨gb,3,none⟩ = some (.int .i64 nri) := by rw [cell_of_row _ _ _ _ _ _ g3]; rfl
 have x4 : w3.cell? ⟨gb,4,none⟩ = some (.slice nka nlk nkc) := by rw [cell_of_row _ _ _ _ _ _ g3]; rfl
 have x5 : w3.cell? ⟨gb,5,none⟩ = some (.slice nva nlw nvc) := by rw [cell_of_row _ _ _ _ _ _ g3]; rfl
 have x6 : w3.cell? ⟨gb,6,none⟩ = some (.slice nca nlc ncc) := by rw [cell_of_row _ _ _ _ _ _ g3]; rfl
 have HQL := hide q4
 have HG := hide g4
 obtain ⟨y0,_⟩ := HCP.out w4 _ _ _ q4 rfl rfl
 have v0 : w4.cell? ⟨gb,0,none⟩ = some (.int .i64 hid) := by rw [cell_of_row _ _ _ _ _ _ g4]; rfl
 have v1 : w4.cell? ⟨gb,1,none⟩ = some (.int .i64 olv) := by rw [cell_of_row _ _ _ _ _ _ g4]; rfl
 have v2 : w4.cell? ⟨gb,2,none⟩ = some (.slice oha olh ohc) := by rw [cell_of_row _ _ _ _ _ _ g4]; rfl
 have v3 : w4.cell? ⟨gb,3,none⟩ = some (.int .i64 ori) := by rw [cell_of_row _ _ _ _ _ _ g4]; rfl
 have HGL := hide (lt_of_block g4)
 have HGF := hide hgF
 clear qx hw3 hu3 q3 g3 HX HBK HPC HLT hgD hgF hgW c18 c19 c20 c21 c22 c23 c24 c26 hw4 hu4 q4 g4
 go_upto_region 8 with fail
 rw [← HW3.out]
 clear HW3 d26 fz
 go_upto_region 9 with fail
 rw [← HW4.out]
 clear HW4 b11 b12 b13 b14 b15 b16 b17 x0 x1 x2 x3 x4 x5 x6 z4
 go_region_held3 (fun Y => Y.cell? ⟨P,0,none⟩ = some (.pointer (some ⟨A,0,none⟩)) ∧ Y.cell? ⟨gb,0,none⟩ = some (.int .i64 hid) ∧ Y.cell? ⟨gb,1,none⟩ = some (.int .i64 olv) ∧ Y.cell? ⟨gb,2,none⟩ = some (.slice oha olh ohc) ∧ Y.cell? ⟨gb,3,none⟩ = some (.int .i64 ori)) (go_keep) (first
  | (go_at_call 193; refine (HCL.out _ (HQL.out.below (below_drew (Below.refl _ _)))).mono ?_; rintro e w9 ⟨rfl,hq9,hk9⟩; have HQ9 := hide (HQ.out w9 hq9); obtain ⟨F9,hq9⟩ := hq9; have d0 := (HCP.out w9 _ _ _ hq9 rfl rfl).1; have g9 := (hk9 gb HGF.out HGL.out).trans HG.out; have d10 := (show w9.cell? ⟨gb,0,none⟩ = some (.int .i64 hid) by rw [cell_of_row _ _ _ _ _ _ g9]; rfl); have d11 := (show w9.cell? ⟨gb,1,none⟩ = some (.int .i64 olv) by rw [cell_of_row _ _ _ _ _ _ g9]; rfl); have d12 := (show w9.cell? ⟨gb,2,none⟩ = some (.slice oha olh ohc) by rw [cell_of_row _ _ _ _ _ _ g9]; rfl); have d13 := (show w9.cell? ⟨gb,3,none⟩ = some (.int .i64 ori) by rw [cell_of_row _ _ _ _ _ _ g9]; rfl); clear hq9 hk9 g9)
  | fail)
 all_goals (try go_wp2_with fail)
 all_goals exact HQ9.out
set_option maxHeartbeats 6400000 in
theorem u_lay4 (q0 : UQ W P A D F m m1 D1 F1 u1 s1 w1) (hpc : u1.pc = 4) : Calls Tryz.prog 191 #[.pointer (some ⟨P,0,none⟩)] w1 fun e w' => e = .returned (.tuple #[.bool false,.int .i64 (s1.unlE u1.hid)]) ∧ ∃ m2 D2 F2,UQ W P A D F m m2 D2 F2 { u1 with pc := 5,nx := 8 } (s1.bodS u1.hid u1.hn.ks u1.hn.vs u1.hn.cs) w' := by
 obtain ⟨Q,hQ⟩ : ∃ Q : Ending → World → Prop,Q = fun e w' => e = .returned (.tuple #[.bool false,.int .i64 (s1.unlE u1.hid)]) ∧ ∃ m2 D2 F2,UQ W P A D F m m2 D2 F2 { u1 with pc := 5,nx := 8 } (s1.bodS u1.hid u1.hn.ks u1.hn.vs u1.hn.cs) w' := ⟨_,rfl⟩
 rw [← hQ]
 have HQ : Hid (∀ w',(∃ F2,UQ W P A D F m m1 D1 F2 ({ u1 with pc := 5,nx := 8 } : US) (s1.bodS u1.hid u1.hn.ks u1.hn.vs u1.hn.cs) w') → Q (.returned (.tuple #[.bool false,.int .i64 (s1.unlE u1.hid)])) w') := fun w' h => by rw [hQ]; exact ⟨rfl,m1,D1,h⟩
 clear hQ
 obtain ⟨nlv,nha,nlh,nhc,nri,nka,nlk,nkc,nva,nlw,nvc,nca,nlc,ncc,hnv⟩ : ∃ nlv nha nlh nhc nri nka nlk nkc nva nlw nvc nca nlc ncc,m1.fn.lv = nlv ∧ m1.fn.hi.v = .slice nha nlh nhc ∧ m1.fn.ri = nri ∧ m1.fn.ks.v = .slice nka nlk nkc ∧ m1.fn.vs.v = .slice nva nlw nvc ∧ m1.fn.cs.v = .slice nca nlc ncc := ⟨m1.fn.lv,m1.fn.hi.a,m1.fn.hi.s.length,m1.fn.hi.c,m1.fn.ri,m1.fn.ks.a,m1.fn.ks.L.length,m1.fn.ks.c,m1.fn.vs.a,m1.fn.vs.L.length,m1.fn.vs.c,m1.fn.cs.a,m1.fn.cs.s.length,m1.fn.cs.c,rfl,rfl,rfl,rfl,rfl,rfl⟩
 obtain ⟨olv,oha,olh,ohc,ori,oka,olk,okc,ova,olw,ovc,oca,olc,occ,hov⟩ : ∃ olv oha olh ohc ori oka olk okc ova olw ovc oca olc occ,m1.hn.lv = olv ∧ m1.hn.hi.v = .slice oha olh ohc ∧ m1.hn.ri = ori ∧ m1.hn.ks.v = .slice oka olk okc ∧ m1.hn.vs.v = .slice ova olw ovc ∧ m1.hn.cs.v = .slice oca olc occ := ⟨m1.hn.lv,m1.hn.hi.a,m1.hn.hi.s.length,m1.hn.hi.c,m1.hn.ri,m1.hn.ks.a,m1.hn.ks.L.length,m1.hn.ks.c,m1.hn.vs.a,m1.hn.vs.L.length,m1.hn.vs.c,m1.hn.cs.a,m1.hn.cs.s.length,m1.hn.cs.c,rfl,rfl,rfl,rfl,rfl,rfl⟩
 obtain ⟨fid,hfid⟩ : ∃ x,u1.fid = x := ⟨_,rfl⟩
 obtain ⟨hid,hhid⟩ : ∃ x,u1.hid = x := ⟨_,rfl⟩
 have HCL : Hid (∀ Y,UQ W P A D F m m1 D1 F1 ({ u1 with pc := 5,nx := 8 } : US) s1 Y → Calls Tryz.prog 180 #[.pointer (some ⟨A,0,none⟩),.int .i64 hid,.agg #[.slice oka olk okc,.slice ova olw ovc,.slice oca olc occ]] Y fun e w' => e = .returned (.int .i64 (s1.unlE u1.hid)) ∧ (∃ F2,UQ W P A D F m m1 D1 F2 ({ u1 with pc := 5,nx := 8 } : US) (s1.bodS u1.hid u1.hn.ks u1.hn.vs u1.hn.cs) w') ∧ ∀ b,¬ F1 b → b < Y.heap.size → w'.heap[b]? = Y.heap[b]?) := fun Y q => by
  have hp : m1.hn.p = u1.hn := q.up.h.p
  have hok := q.up.h.ok
  have e0 : u1.hn.lv = m1.hn.lv := by rw [← hp]; rfl
  have e1 : u1.hn.hi = m1.hn.hi.s := by rw [← hp]; rfl
  have e2 : u1.hn.ri = m1.hn.ri := by rw [← hp]; rfl
  have e3 : u1.hn.ks = m1.hn.ks.p := by rw [← hp]; rfl
  have e4 : u1.hn.vs = m1.hn.vs.p := by rw [← hp]; rfl
  have e5 : u1.hn.cs = m1.hn.cs.s := by rw [← hp]; rfl
  obtain ⟨g0,g1,g2,g3,g4,g5⟩ := hov
  rw [← hhid,← g3,← g4,← g5]
  refine (px_setB q.px u1.hid m1.hn.ks m1.hn.vs m1.hn.cs hok.k hok.v hok.c hok.kz hok.vz hok.cz).mono ?_
  rintro e w' ⟨h1,h2⟩
  rw [← e3,← e4,← e5] at h2
  have h3 := q.arena h2
  obtain ⟨_,_,_,hu⟩ := h2
  exact ⟨h1,h3,fun b hb hl => hu.block b hl hb⟩
 have HCP : Hid (∀ Y F2 ss (mm : US),UQ W P A D F m m1 D1 F2 mm ss Y → mm.fid = u1.fid → mm.hid = u1.hid → Y.cell? ⟨P,0,none⟩ = some (.pointer (some ⟨A,0,none⟩)) ∧ Y.cell? ⟨P,11,none⟩ = some (.int .i64 hid) ∧ Y.cell? ⟨P,12,none⟩ = some (.int .i64 olv) ∧ Y.cell? ⟨P,13,none⟩ = some (.slice oha olh ohc) ∧ Y.cell? ⟨P,14,none⟩ = some (.int .i64 ori) ∧ Y.cell? ⟨P,15,none⟩ = some (.slice oka olk okc) ∧ Y.cell? ⟨P,16,none⟩ = some (.slice ova olw ovc) ∧ Y.cell? ⟨P,17,none⟩ = some (.slice oca olc occ) ∧ Y.cell? ⟨P,18,none⟩ = some (.int .i64 fid) ∧ Y.cell? ⟨P,19,none⟩ = some (.int .i64 nlv) ∧ Y.cell? ⟨P,20,none⟩ = some (.slice nha nlh nhc) ∧ Y.cell? ⟨P,21,none⟩ = some (.int .i64 nri) ∧ Y.cell? ⟨P,22,none⟩ = some (.slice nka nlk nkc) ∧ Y.cell? ⟨P,23,none⟩ = some (.slice nva nlw nvc) ∧ Y.cell? ⟨P,24,none⟩ = some (.slice nca nlc ncc)) := fun Y F2 ss mm q hf hh => by
  obtain ⟨g0,g1,g2,g3,g4,g5⟩ := hov
  obtain ⟨f0,f1,f2,f3,f4,f5⟩ := hnv
  rw [← hfid,← hhid,← hf,← hh,← g0,← g1,← g2,← g3,← g4,← g5,← f0,← f1,← f2,← f3,← f4,← f5]
  exact ⟨q.up.cell 0 _ rfl,q.up.cell 11 _ rfl,q.up.cell 12 _ rfl,q.up.cell 13 _ rfl,q.up.cell 14 _ rfl,q.up.cell 15 _ rfl,q.up.cell 16 _ rfl,q.up.cell 17 _ rfl,q.up.cell 18 _ rfl,q.up.cell 19 _ rfl,q.up.cell 20 _ rfl,q.up.cell 21 _ rfl,q.up.cell 22 _ rfl,q.up.cell 23 _ rfl,q.up.cell 24 _ rfl⟩
 have HBK : Hid (∀ Y,Below w1.heap.size w1 Y → UQ W P A D F m m1 D1 F1 u1 s1 Y) := fun Y hb => q0.below hb
 have HLT : Hid ((∀ x,D1 x ∨ F1 x ∨ x = P → x < w1.heap.size) ∧ W.heap.size ≤ w1.heap.size) := ⟨fun x hx => by
  rcases hx with hx | hx | rfl
  ·exact q0.up.lt x hx
  ·exact q0.px.lt x hx
  ·exact lt_of_block q0.up.c,q0.u.size⟩
 obtain ⟨c0,c11,c12,c13,c14,c15,c16,c17,c18,c19,c20,c21,c22,c23,c24⟩ := HCP.out w1 _ _ u1 q0 rfl rfl
 have c26 : w1.cell? ⟨P,26,none⟩ = some (.int .i64 4) := by rw [← hpc]; exact q0.up.cell 26 _ rfl
 obtain ⟨E,hE⟩ : ∃ E,s1.unlE u1.hid = E := ⟨_,rfl⟩
 rw [hE] at HCL HQ
 have HPC := hide hpc
 clear q0 hnv hov hE hfid hhid hpc c0 c11 c12 c13 c14 c15 c16 c17
 go_enter Tryz.func191,Tryz.ntmps191
 go_upto_region 1 with fail
 go_cut [4,5] (fun q4 q5 wx => ∃ gb : Nat,q4 = .pointer (some ⟨gb,0,none⟩) ∧ q5 = .int .i64 4 ∧ Hid (Below w1.heap.size w1 wx ∧ wx.heap[gb]? = some (.cells #[.int .i64 fid,.int .i64 nlv,.slice nha nlh nhc,.int .i64 nri,.slice nka nlk nkc,.slice nva nlw nvc,.slice nca nlc ncc] 118 (0,0)) ∧ w1.heap.size ≤ gb))
 case first =>
  go_region_held3 (fun Y => Y.cell? ⟨P,18,none⟩ = some (.int .i64 fid) ∧ Y.cell? ⟨P,19,none⟩ = some (.int .i64 nlv) ∧ Y.cell? ⟨P,20,none⟩ = some (.slice nha nlh nhc) ∧ Y.cell? ⟨P,21,none⟩ = some (.int .i64 nri) ∧ Y.cell? ⟨P,22,none⟩ = some (.slice nka nlk nkc) ∧ Y.cell? ⟨P,23,none⟩ = some (.slice nva nlw nvc) ∧ Y.cell? ⟨P,24,none⟩ = some (.slice nca nlc ncc) ∧ Y.cell? ⟨P,26,none⟩ = some (.int .i64 4)) (go_keep) (fail)
  all_goals (try go_wp2_with fail)
  all_goals
   go_meet
   exact ⟨w1.heap.size,rfl,rfl,(below_drew ((Below.refl w1.heap.size w1).alloc (Nat.le_refl _) (.cells #[.int .i64 fid,.int .i64 nlv,.slice nha nlh nhc,.int .i64 nri,.slice nka nlk nkc,.slice nva nlw nvc,.slice nca nlc ncc] 118))),heap_alloc_new w1 _,Nat.le_refl _⟩
 case rest =>
 rename World => wx
 obtain ⟨gb,rfl,rfl,HX⟩ := hcut
 have qx := HBK.out wx HX.out.1
 have hgP : ¬ gb = P := fun e => by have := HLT.out.1 P (.inr (.inr rfl)); have := HX.out.2.2; omega
 have hPg : ¬ P = gb := fun e => hgP e.symm
 have hgD : ¬ D1 gb := fun e => by have := HLT.out.1 gb (.inl e); have := HX.out.2.2; omega
 have hgF : ¬ F1 gb := fun e => by have := HLT.out.1 gb (.inr (.inl e)); have := HX.out.2.2; omega
 have hgW : W.heap.size ≤ gb := Nat.le_trans HLT.out.2 HX.out.2.2
 obtain ⟨w3,hw3⟩ : ∃ w3,w3 = wx.setCell ⟨P,26,none⟩ (.int .i64 5) := ⟨_,rfl⟩
 have hu3 : Upd (fun k => k = P) wx w3 := by rw [hw3]; exact updP (Upd.refl _ _) _ _
 have q3 : UQ W P A D F m m1 D1 F1 { u1 with pc := 5 } s1 w3 := qx.own hu3 (by rw [hw3]; exact block_setCell qx.up.c 26 _) ⟨rfl,rfl,rfl,rfl,rfl,rfl⟩
 have d26 : wx.cell? ⟨P,26,none⟩ = some (.int .i64 4) := by rw [← HPC.out]; exact qx.up.cell 26 _ rfl
 have fz := frozen_of qx.up.c 26
 have g3 := hu3.heap HX.out.2.1 hgP
 have HW3 := hide hw3
 obtain ⟨w4,hw4⟩ : ∃ w4,w4 = seven w3 gb (.int .i64 hid) (.int .i64 olv) (.slice oha olh ohc) (.int .i64 ori) (.slice oka olk okc) (.slice ova olw ovc) (.slice oca olc occ) := ⟨_,rfl⟩
 have hu4 : Upd (fun k => k = gb) w3 w4 := by rw [hw4]; exact seven_upd _ _ _ _ _ _ _ _ _
 have g4 : w4.heap[gb]? = some (.cells #[.int .i64 hid,.int .i64 olv,.slice oha olh ohc,.int .i64 ori,.slice oka olk okc,.slice ova olw ovc,.slice oca olc occ] 118 (0,0)) := by rw [hw4]; exact seven_block g3 _ _ _ _ _ _ _
 have q4 : UQ W P A D F m m1 D1 F1 { u1 with pc := 5 } s1 w4 := q3.far hu4 ⟨hgW,hgD,hgF⟩ hgP
 have HW4 := hide hw4
 simp only [seven] at HW4
 have z4 := fun j => frozen_of g3 j
 obtain ⟨_,b11,b12,b13,b14,b15,b16,b17,_⟩ := HCP.out w3 _ _ _ q3 rfl rfl
 have x0 : w3.cell? ⟨gb,0,none⟩ = some (.int .i64 fid) := by rw [cell_of_row _ _ _ _ _ _ g3]; rfl
 have x1 : w3.cell? ⟨gb,1,none⟩ = some (.int .i64 nlv) := by rw [cell_of_row _ _ _ _ _ _ g3]; rfl
 have x2 : w3.cell? ⟨gb,2,none⟩ = some (.slice nha nlh nhc) := by rw [cell_of_row _ _ _ _ _ _ g3]; rfl
 have x3 : w3.cell? ⟨gb,3,none⟩ = some (.int .i64 nri) := by rw [cell_of_row _ _ _ _ _ _ g3]; rfl
 have x4 : w3.cell? ⟨gb,4,none⟩ = some (.slice nka nlk nkc) := by rw [cell_of_row _ _ _ _ _ _ g3]; rfl
 have x5 : w3.cell? ⟨gb,5,none⟩ = some (.slice nva nlw nvc) := by rw [cell_of_row _ _ _ _ _ _ g3]; rfl
 have x6 : w3.cell? ⟨gb,6,none⟩ = some (.slice nca nlc ncc) := by rw [cell_of_row _ _ _ _ _ _ g3]; rfl
 obtain ⟨w5,hw5⟩ : ∃ w5,w5 = w4.setCell ⟨P,7,none⟩ (uxV P 8) := ⟨_,rfl⟩
 have hu5 : Upd (fun k => k = P) w4 w5 := by rw [hw5]; exact updP (Upd.refl _ _) _ _
 have q5 : UQ W P A D F m m1 D1 F1 { u1 with pc := 5,nx := 8 } s1 w5 := q4.own hu5 (by rw [hw5]; exact block_setCell q4.up.c 7 _) ⟨rfl,rfl,rfl,rfl,rfl,rfl⟩
 have g5 := hu5.heap g4 hgP
 have b7 : w4.cell? ⟨P,7,none⟩ = some (uxV P u1.nx) := q4.up.cell 7 _ rfl
 have z5 := frozen_of q4.up.c 7
 have HW5 := hide hw5
 simp only [uxV] at HW5
 generalize uxV P u1.nx = nxv at *
 have HQL := hide q5
 have HG := hide g5
 obtain ⟨y0,_⟩ := HCP.out w5 _ _ _ q5 rfl rfl
 have v0 : w5.cell? ⟨gb,0,none⟩ = some (.int .i64 hid) := by rw [cell_of_row _ _ _ _ _ _ g5]; rfl
 have v4 : w5.cell? ⟨gb,4,none⟩ = some (.slice oka olk okc) := by rw [cell_of_row _ _ _ _ _ _ g5]; rfl
 have v5 : w5.cell? ⟨gb,5,none⟩ = some (.slice ova olw ovc) := by rw [cell_of_row _ _ _ _ _ _ g5]; rfl
 have v6 : w5.cell? ⟨gb,6,none⟩ = some (.slice oca olc occ) := by rw [cell_of_row _ _ _ _ _ _ g5]; rfl
 have HGL := hide (lt_of_block g5)
 have HGF := hide hgF
 clear qx hw3 hu3 q3 g3 HX HBK HPC HLT hgD hgF hgW c18 c19 c20 c21 c22 c23 c24 c26 hw4 hu4 q4 g4 hw5 hu5 q5 g5
 go_upto_region 10 with fail
 rw [← HW3.out]
 clear HW3 d26 fz
 go_upto_region 11 with fail
 rw [← HW4.out]
 clear HW4 b11 b12 b13 b14 b15 b16 b17 x0 x1 x2 x3 x4 x5 x6 z4
 go_upto_region 12 with fail
 rw [← HW5.out]
 clear HW5 b7 z5
 go_region_held3 (fun Y => Y.cell? ⟨P,0,none⟩ = some (.pointer (some ⟨A,0,none⟩)) ∧ Y.cell? ⟨gb,0,none⟩ = some (.int .i64 hid) ∧ Y.cell? ⟨gb,4,none⟩ = some (.slice oka olk okc) ∧ Y.cell? ⟨gb,5,none⟩ = some (.slice ova olw ovc) ∧ Y.cell? ⟨gb,6,none⟩ = some (.slice oca olc occ)) (go_keep) (first
  | (go_at_call 180; refine (HCL.out _ (HQL.out.below (below_drew (Below.refl _ _)))).mono ?_; rintro e w9 ⟨rfl,hq9,hk9⟩; have HQ9 := hide (HQ.out w9 hq9); obtain ⟨F9,hq9⟩ := hq9; have d0 := (HCP.out w9 _ _ _ hq9 rfl rfl).1; have g9 := (hk9 gb HGF.out HGL.out).trans HG.out; have d10 := (show w9.cell? ⟨gb,0,none⟩ = some (.int .i64 hid) by rw [cell_of_row _ _ _ _ _ _ g9]; rfl); have d14 := (show w9.cell? ⟨gb,4,none⟩ = some (.slice oka olk okc) by rw [cell_of_row _ _ _ _ _ _ g9]; rfl); have d15 := (show w9.cell? ⟨gb,5,none⟩ = some (.slice ova olw ovc) by rw [cell_of_row _ _ _ _ _ _ g9]; rfl); have d16 := (show w9.cell? ⟨gb,6,none⟩ = some (.slice oca olc occ) by rw [cell_of_row _ _ _ _ _ _ g9]; rfl); clear hq9 hk9 g9)
  | fail)
 all_goals (try go_wp2_with fail)
 all_goals exact HQ9.out
end
section
variable {W w1 w2 : World} {P A : Nat} {D F D1 F1 : Nat → Prop} {m m1 : UM} {u u1 u2 : US} {s s1 : AS}
theorem tl_one {Y : World} {a : Nat} {t : Tx} (h : Y.heap[a]? = some (.cells #[t.v] 29 (0,0))) (ht : t.Ok Y) : (⟨some ⟨a,0,none⟩,1,[t]⟩ : TL).Ok Y := by
 refine ⟨fun i hi => ?_,fun x hx => ?_,(fun e => by cases e),(by simp)⟩
 ·obtain rfl : i = 0 := by simp at hi; omega
  exact ⟨a,0,rfl,by rw [cell_of_row _ _ _ _ _ _ h]; rfl⟩
 ·rw [List.mem_singleton.1 hx]; exact ht
theorem il_two {Y : World} {b : Nat} {x y : Int} (h : Y.heap[b]? = some (.cells #[.int .i64 x,.int .i64 y] 3 (0,0))) : (⟨some ⟨b,0,none⟩,2,[x,y]⟩ : IL).Ok Y := by
 refine ⟨fun i hi => ?_,(fun e => by cases e),(by simp)⟩
 match i,hi with
 | 0,_ => exact ⟨b,0,rfl,by rw [cell_of_row _ _ _ _ _ _ h]; rfl⟩
 | 1,_ => exact ⟨b,0,rfl,by rw [cell_of_row _ _ _ _ _ _ h]; rfl⟩
set_option maxHeartbeats 6400000 in
theorem u_layTopBody (q0 : UQ W P A D F m m1 D1 F1 u1 s1 w1) : Calls Tryz.prog 192 #[.pointer (some ⟨P,0,none⟩)] w1 fun e w' => e = .returned (.tuple #[.bool false,.int .i64 (s1.unlE u1.top)]) ∧ ∃ m2 D2 F2,UQ W P A D F m m2 D2 F2 { u1 with nx := 13 } (s1.bodS u1.top [u1.sep] [] [u1.lft,u1.rgt]) w' := by
 obtain ⟨Q,hQ⟩ : ∃ Q : Ending → World → Prop,Q = fun e w' => e = .returned (.tuple #[.bool false,.int .i64 (s1.unlE u1.top)]) ∧ ∃ m2 D2 F2,UQ W P A D F m m2 D2 F2 { u1 with nx := 13 } (s1.bodS u1.top [u1.sep] [] [u1.lft,u1.rgt]) w' := ⟨_,rfl⟩
 rw [← hQ]
 have HQ : Hid (∀ w',(∃ F2,UQ W P A D F m m1 D1 F2 { u1 with nx := 13 } (s1.bodS u1.top [u1.sep] [] [u1.lft,u1.rgt]) w') → Q (.returned (.tuple #[.bool false,.int .i64 (s1.unlE u1.top)])) w') := fun w' h => by rw [hQ]; exact ⟨rfl,m1,D1,h⟩
 clear hQ
 obtain ⟨w2,hw2⟩ : ∃ w2,w2 = w1.setCell ⟨P,7,none⟩ (uxV P 13) := ⟨_,rfl⟩
 have hu2 : Upd (fun k => k = P) w1 w2 := by rw [hw2]; exact updP (Upd.refl _ _) _ _
 have q2 : UQ W P A D F m m1 D1 F1 { u1 with nx := 13 } s1 w2 := q0.own hu2 (by rw [hw2]; exact block_setCell q0.up.c 7 _) ⟨rfl,rfl,rfl,rfl,rfl,rfl⟩
 obtain ⟨sa,sl,sc,hsv⟩ : ∃ a l c,m1.st.v = .slice a l c := ⟨m1.st.a,m1.st.s.length,m1.st.c,rfl⟩
 have HC : Hid (∀ (Y : World) (a b : Nat),Below w2.heap.size w2 Y → Y.heap[a]? = some (.cells #[.slice sa sl sc] 29 (0,0)) → Y.heap[b]? = some (.cells #[.int .i64 u1.lft,.int .i64 u1.rgt] 3 (0,0)) → Calls Tryz.prog 180 #[.pointer (some ⟨A,0,none⟩),.int .i64 u1.top,.agg #[.slice (some ⟨a,0,none⟩) 1 1,.slice none 0 0,.slice (some ⟨b,0,none⟩) 2 2]] Y fun e w' => e = .returned (.int .i64 (s1.unlE u1.top)) ∧ ∃ F2,UQ W P A D F m m1 D1 F2 { u1 with nx := 13 } (s1.bodS u1.top [u1.sep] [] [u1.lft,u1.rgt]) w') := fun Y a b hb h1 h2 => by
  have q3 := q2.below hb
  rw [← hsv] at h1
  have := px_setB q3.px u1.top ⟨some ⟨a,0,none⟩,1,[m1.st]⟩ ⟨none,0,[]⟩ ⟨some ⟨b,0,none⟩,2,[u1.lft,u1.rgt]⟩ (tl_one h1 q3.up.s.ok) (TL.nil_ok _) (il_two h2) (by simp) (by simp) (by simp)
  refine this.mono ?_
  rintro e w' ⟨h3,h4⟩
  have e1 : (⟨some ⟨a,0,none⟩,1,[m1.st]⟩ : TL).p = [u1.sep] := by simp only [TL.p,List.map_cons,List.map_nil]; rw [q3.up.s.s]
  rw [e1] at h4
  exact ⟨h3,q3.arena h4⟩
 have c7 : w1.cell? ⟨P,7,none⟩ = some (uxV P u1.nx) := q0.up.cell 7 _ rfl
 have fz := frozen_of q0.up.c 7
 have c0 : w2.cell? ⟨P,0,none⟩ = some (.pointer (some ⟨A,0,none⟩)) := q2.up.cell 0 _ rfl
 have c9 : w2.cell? ⟨P,9,none⟩ = some (.slice sa sl sc) := by rw [← hsv]; exact q2.up.cell 9 _ rfl
 have c27 : w2.cell? ⟨P,27,none⟩ = some (.int .i64 u1.lft) := q2.up.cell 27 _ rfl
 have c28 : w2.cell? ⟨P,28,none⟩ = some (.int .i64 u1.rgt) := q2.up.cell 28 _ rfl
 have c29 : w2.cell? ⟨P,29,none⟩ = some (.int .i64 u1.top) := q2.up.cell 29 _ rfl
 have HSV := hide hsv
 have hPl := lt_of_block q2.up.c
 have HW2 := hide hw2
 simp only [uxV] at HW2
 generalize uxV P u1.nx = nxv at *
 obtain ⟨E,hE⟩ : ∃ E,s1.unlE u1.top = E := ⟨_,rfl⟩
 rw [hE] at HC HQ
 clear q0 q2 hu2 hw2 hsv hE
 go_enter Tryz.func192,Tryz.ntmps192
 go_upto_region 2 with fail
 rw [← HW2.out]
 clear HW2 c7 fz
 go_region_held3 (fun Y => Y.cell? ⟨P,0,none⟩ = some (.pointer (some ⟨A,0,none⟩)) ∧ Y.cell? ⟨P,9,none⟩ = some (.slice sa sl sc) ∧ Y.cell? ⟨P,27,none⟩ = some (.int .i64 u1.lft) ∧ Y.cell? ⟨P,28,none⟩ = some (.int .i64 u1.rgt) ∧ Y.cell? ⟨P,29,none⟩ = some (.int .i64 u1.top)) (go_keep) (first
  | (go_at_call 180; refine (HC.out _ _ _ (below_drew (((Below.refl _ _).alloc (Nat.le_refl _) _).alloc (by simp) _)) (by first | exact old_at (new_at rfl) | exact new_at (by simp)) (by first | exact old_at (new_at rfl) | exact new_at (by simp))).mono ?_; rintro e w9 ⟨rfl,hq9⟩; have HQ9 := hide (HQ.out w9 hq9); obtain ⟨F9,hq9⟩ := hq9; have d0 : w9.cell? ⟨P,0,none⟩ = some (.pointer (some ⟨A,0,none⟩)) := hq9.up.cell 0 _ rfl; have d9 : w9.cell? ⟨P,9,none⟩ = some (.slice sa sl sc) := (by rw [← HSV.out]; exact hq9.up.cell 9 _ rfl); have d27 : w9.cell? ⟨P,27,none⟩ = some (.int .i64 u1.lft) := hq9.up.cell 27 _ rfl; have d28 : w9.cell? ⟨P,28,none⟩ = some (.int .i64 u1.rgt) := hq9.up.cell 28 _ rfl; have d29 : w9.cell? ⟨P,29,none⟩ = some (.int .i64 u1.top) := hq9.up.cell 29 _ rfl; clear hq9)
  | fail)
 all_goals (try go_wp2_with fail)
 all_goals exact HQ9.out
end
end Go.Proofs.YtljnapejgjffjaaGreat
