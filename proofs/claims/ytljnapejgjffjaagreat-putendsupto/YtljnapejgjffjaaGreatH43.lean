/- Texts of one's own. -/
import Derived.Test.YtljnapejgjffjaaGreatH42
namespace Go.Proofs.YtljnapejgjffjaaGreat
open Go.RowKit
set_option maxRecDepth 100000
def KpP (W : World) (X : Nat → Prop) (B m N A : Nat) (ga : Option Addr) (gc : Nat) (la : Option Addr) (nd lf inn fl bk : Int) (s : AS) (O : List (List Sp)) (ov : List IL) (cur : List Sp) (e : Ending) (w' : World) : Prop :=
 e = .returned (.tuple #[]) ∧ Upd (LMut B m ga la) W w' ∧ ∃ la' lc',LW w' X B m N A ga gc la' lc' nd lf inn fl bk s O ov cur
theorem LW.mut_lt {W : World} {X : Nat → Prop} {B m N A : Nat} {ga la : Option Addr} {gc lc : Nat} {nd lf inn fl bk : Int} {s : AS} {O : List (List Sp)} {ov : List IL} {cur : List Sp} (h : LW W X B m N A ga gc la lc nd lf inn fl bk s O ov cur) : ∀ k,LMut B m ga la k → N ≤ k ∧ k < W.heap.size := by
 rintro k (e | e | ⟨y,e,e2⟩ | ⟨y,e,e2⟩)
 ·rw [e]; exact ⟨h.nB,lt_of_block h.b⟩
 ·rw [e]; exact ⟨h.nm,h.im.lt⟩
 ·exact h.row.lt k (by rw [e]; exact congrArg some e2)
 ·exact h.last.lt k (by rw [e]; exact congrArg some e2)
theorem LQ.mut_lt {W : World} {X : Nat → Prop} {B m N A : Nat} {ga : Option Addr} {gc : Nat} {nd lf inn fl bk : Int} {s : AS} {O : List (List Sp)} {ov : List IL} (h : LQ W X B m N A ga gc nd lf inn fl bk s O ov) : ∀ k,LMut B m ga none k → N ≤ k ∧ k < W.heap.size := by
 rintro k (e | e | ⟨y,e,e2⟩ | ⟨y,e,e2⟩)
 ·rw [e]; exact ⟨h.nB,lt_of_block h.b⟩
 ·rw [e]; exact ⟨h.nm,h.im.lt⟩
 ·exact h.row.lt k (by rw [e]; exact congrArg some e2)
 ·cases e
theorem five_of {W : World} {b : Nat} {T : TypeId} {x0 x1 x2 x3 x4 : Value} (h : W.heap[b]? = some (.cells #[x0,x1,x2,x3,x4] T (0,0))) : W.cell? ⟨b,0,none⟩ = some x0 ∧ W.cell? ⟨b,1,none⟩ = some x1 ∧ W.cell? ⟨b,2,none⟩ = some x2 ∧ W.cell? ⟨b,3,none⟩ = some x3 ∧ W.cell? ⟨b,4,none⟩ = some x4 :=
 ⟨by rw [cell_of_row _ _ _ _ _ _ h]; rfl,by rw [cell_of_row _ _ _ _ _ _ h]; rfl,by rw [cell_of_row _ _ _ _ _ _ h]; rfl,by rw [cell_of_row _ _ _ _ _ _ h]; rfl,by rw [cell_of_row _ _ _ _ _ _ h]; rfl⟩
theorem keep_end {W w3 w4 w5 w6 : World} {X : Nat → Prop} {B m N A : Nat} {ga la : Option Addr} {gc lc : Nat} {nd lf inn fl bk : Int} {s : AS} {O : List (List Sp)} {ov : List IL} {cur : List Sp} (h : LW w3 X B m N A ga gc la lc nd lf inn fl bk s O ov cur) (hb3 : Below W.heap.size W w3) (_hN : N ≤ W.heap.size) {x : Sp} (hx : x.Ok w3 (LAv X B m ga la) s)
  (h4 : IM w4 m (spE (O.flatten ++ cur) ++ [(x.id,x.v)])) (u4 : Upd (fun k => k = m) w3 w4) (b5 : Below w4.heap.size w4 w5) {g g' c' : Nat} (hg : ga = some ⟨g,0,none⟩) (o6 : w6.ownsRow N 3 1 (.slice (some ⟨g',0,none⟩) (cur.length + 1) c') (cur.length + 1) ((cur.map fun x => .int .i64 x.id) ++ [.int .i64 x.id])) (g6 : w5.grownBy w6 (Value.slice la cur.length lc).ownBlock) (k6 : (Value.slice la cur.length lc).ownBlock = some g' ∨ g' = w5.heap.size) :
  KpP W X B m N A ga gc la nd lf inn fl bk s O ov (cur ++ [x]) (.returned (.tuple #[])) (w6.setCell ⟨g,O.length,none⟩ (.slice (some ⟨g',0,none⟩) (cur.length + 1) c')) := by
 refine ⟨rfl,?_,_,_,h.add hx h4 u4 b5 hg o6 g6 (k6.imp id (fun e => Nat.le_of_eq e.symm))⟩
 have hu5 : Upd (fun k => k = m) w3 w5 := u4.then (Upd.of_below b5 (fun k => k = m)) (fun _ _ e => e)
 have hu6 : Upd (LMut B m ga la) w3 w6 := (hu5.mono (fun k _ e => Or.inr (.inl e))).then (Upd.of_grown g6 (S := fun k => ∃ y,la = some y ∧ y.block = k) (fun k hk _ => LW.lc_ob la _ _ k hk)) (fun k _ e => .inr (.inr (.inr e)))
 have hu7 : Upd (LMut B m ga la) w3 (w6.setCell ⟨g,O.length,none⟩ (.slice (some ⟨g',0,none⟩) (cur.length + 1) c')) := hu6.setCell _ _ (fun _ => .inr (.inr (.inl ⟨_,hg,rfl⟩)))
 exact (Upd.of_below hb3 (LMut B m ga la)).then hu7 (fun _ _ e => e)
section
variable {W : World} {X : Nat → Prop} {B m N A : Nat} {ga la : Option Addr} {gc lc : Nat} {nd lf inn fl bk : Int} {s : AS} {O : List (List Sp)} {ov : List IL} {cur : List Sp}
set_option maxHeartbeats 3200000 in
theorem keep_any (h : LW W X B m N A ga gc la lc nd lf inn fl bk s O ov cur) (id : Int) (low : Tx) (n : Nd) (hx : (⟨id,low,n⟩ : Sp).Ok W (LAv X B m ga la) s) (hid : id ∉ (O.flatten ++ cur).map (·.id)) (hNW : N ≤ W.heap.size) (hz1 : O.length ≤ 65536) (hz2 : cur.length ≤ 65536) :
  Calls Tryz.prog 147 #[.pointer (some ⟨B,0,none⟩),.int .i64 id,n.v,low.v] W (KpP W X B m N A ga gc la nd lf inn fl bk s O ov (cur ++ [⟨id,low,n⟩])) := by
 obtain ⟨iI,hiI,hzI0,hzI1,hzI2⟩ := info_parts infoI
 obtain ⟨x,hx0⟩ : ∃ x : Sp,x = ⟨id,low,n⟩ := ⟨_,rfl⟩
 rw [← hx0] at hx ⊢
 have HNI : Hid (id ∉ (spE (O.flatten ++ cur)).map (·.1)) := by show _ ∉ _; rw [spE_ids]; exact hid
 have HXV : Hid (x.v = .agg #[.int .i64 n.lv,low.v,.int .i64 (x.w : Nat),x.kv,x.cv]) := by show _ = _; rw [hx0]; rfl
 have HXI : Hid (x.id = id) := by show _ = _; rw [hx0]
 have hxw : 0 < n.lv → x.w = n.cs.s.length ∧ x.kv = n.ks.v ∧ x.cv = n.cs.v := fun hp => by rw [hx0]; exact ⟨if_pos hp,if_pos hp,if_pos hp⟩
 have hxn : ¬ 0 < n.lv → x.w = n.ks.L.length ∧ x.kv = .slice none 0 0 ∧ x.cv = .slice none 0 0 := fun hp => by rw [hx0]; exact ⟨if_neg hp,if_neg hp,if_neg hp⟩
 have HH := hide h
 have HX := hide hx
 have HNW := hide hNW
 clear hx0 hid h hx hNW
 obtain ⟨lv,⟨ha,hc,hs⟩,ri,⟨ka,kc,K⟩,⟨va,vc,V⟩,⟨ca,cc,C⟩⟩ := n
 obtain ⟨oa,oc,os⟩ := low
 simp only [Nd.v,Tx.v,TL.v,IL.v] at HXV hxw hxn ⊢
 generalize hs.length = lh at *
 generalize K.length = lk at *
 generalize V.length = lw at *
 generalize C.length = lcc at *
 generalize os.length = lo at *
 obtain ⟨w1,hw1⟩ : ∃ x,x = W.alloc (.cells #[.int .i64 lv,.slice ha lh hc,.int .i64 ri,.slice ka lk kc,.slice va lw vc,.slice ca lcc cc] 110) := ⟨_,rfl⟩
 obtain ⟨w2,hw2⟩ : ∃ x,x = w1.alloc (.cells #[.int .i64 lv,.slice oa lo oc,.int .i64 (lk : Nat),.slice none 0 0,.slice none 0 0] 219) := ⟨_,rfl⟩
 have z1 : w1.heap.size = W.heap.size + 1 := by rw [hw1]; simp
 have b1 : Below W.heap.size W w1 := by rw [hw1]; exact (Below.refl _ _).alloc (Nat.le_refl _) _
 have b2 : Below w1.heap.size w1 w2 := by rw [hw2]; exact (Below.refl _ _).alloc (Nat.le_refl _) _
 have g1 : w1.heap[W.heap.size]? = some (.cells #[.int .i64 lv,.slice ha lh hc,.int .i64 ri,.slice ka lk kc,.slice va lw vc,.slice ca lcc cc] 110 (0,0)) := by rw [hw1]; exact heap_alloc_new W _
 have g12 := (b2.block _ (lt_of_block g1)).trans g1
 have g2 : w2.heap[W.heap.size + 1]? = some (.cells #[.int .i64 lv,.slice oa lo oc,.int .i64 (lk : Nat),.slice none 0 0,.slice none 0 0] 219 (0,0)) := by rw [← z1,hw2]; exact heap_alloc_new w1 _
 have HW2 : Hid ((W.alloc (.cells #[.int .i64 lv,.slice ha lh hc,.int .i64 ri,.slice ka lk kc,.slice va lw vc,.slice ca lcc cc] 110)).alloc (.cells #[.int .i64 lv,.slice oa lo oc,.int .i64 (lk : Nat),.slice none 0 0,.slice none 0 0] 219) = w2) := by show _ = _; rw [hw2,hw1]
 have B2 := hide (b1.trans (b2.mono b1.size))
 have G2 := hide g2
 obtain ⟨c0,c1,c2,c3,c4,c5⟩ := Six.of g12
 clear hw1 hw2 z1 b1 b2 g1 g12 g2
 go_enter Tryz.func147,Tryz.ntmps147
 go_upto_region 2 with fail
 rw [HW2.out]
 by_cases hlv : 0 < lv
 ·obtain ⟨e1,e2,e3⟩ := hxw hlv
  have f2 := fun j => frozen_of G2.out j
  obtain ⟨d0,d1,d2,d3,d4⟩ := five_of G2.out
  have n1 : ¬ W.heap.size = W.heap.size + 1 := by omega
  have n2 : ¬ W.heap.size + 1 = W.heap.size := by omega
  go_upto_region 3 with fail
  go_region
  obtain ⟨w3,hw3⟩ : ∃ y,y = (((w2.setCell ⟨W.heap.size + 1,2,none⟩ (.int .i64 (lcc : Nat))).setCell ⟨W.heap.size + 1,3,none⟩ (.slice ka lk kc)).setCell ⟨W.heap.size + 1,4,none⟩ (.slice ca lcc cc)).drew := ⟨_,rfl⟩
  rw [← hw3]
  have B3 : Hid (Below W.heap.size W w3) := by show Below _ _ _; rw [hw3]; exact below_drew (((B2.out.setCell (by simp only; omega) _).setCell (by simp only; omega) _).setCell (by simp only; omega) _)
  have G3 : Hid (w3.heap[W.heap.size + 1]? = some (.cells #[.int .i64 lv,.slice oa lo oc,.int .i64 (lcc : Nat),.slice ka lk kc,.slice ca lcc cc] 219 (0,0))) := by show _ = _; rw [hw3]; exact block_setCell (block_setCell (block_setCell G2.out 2 _) 3 _) 4 _
  clear hw3 d0 d1 d2 d3 d4 f2 c0 c1 c2 c3 c4 c5
  have HXX : Hid (x.v = .agg #[.int .i64 lv,.slice oa lo oc,.int .i64 (lcc : Nat),.slice ka lk kc,.slice ca lcc cc]) := by show _ = _; rw [HXV.out,e1,e2,e3]
  have LW3 := hide (HH.out.below B3.out)
  have X3 := hide (HX.out.move (Upd.of_below B3.out Noth) (fun _ _ e => e.elim) (fun _ _ e => e))
  obtain ⟨g,hg,c7,cl,fz⟩ := LW3.out.row_g
  have c6 : w3.cell? ⟨B,6,none⟩ = some (.map (some m)) := by rw [cell_of_row _ _ _ _ _ _ LW3.out.b]; rfl
  obtain ⟨d0,d1,d2,d3,d4⟩ := five_of G3.out
  have IM3 := hide LW3.out.im.drew
  have hBm := LW3.out.bm
  have hml := HH.out.im.lt
  have hBl : B < W.heap.size := lt_of_block HH.out.b
  have hgB := LW3.out.gB _ hg
  have hgl : g < W.heap.size := (HH.out.row.lt g (by rw [hg]; rfl)).2
  have hlo : Hid (∀ y,la = some y → y.block ≠ B ∧ y.block ≠ m ∧ y.block ≠ g) := fun y e => ⟨(LW3.out.lB y e).1,(LW3.out.lB y e).2.1,(LW3.out.lB y e).2.2 _ hg⟩
  simp only at hgB
  have HG := hide hg
  have KEEP : Hid (∀ X : World,Upd (fun j => j = m) w3.drew X → (X.cell? ⟨B,6,none⟩ = some (.map (some m)) ∧ X.cell? ⟨W.heap.size + 1,0,none⟩ = some (.int .i64 lv) ∧ X.cell? ⟨W.heap.size + 1,1,none⟩ = some (.slice oa lo oc) ∧ X.cell? ⟨W.heap.size + 1,2,none⟩ = some (.int .i64 (lcc : Nat)) ∧ X.cell? ⟨W.heap.size + 1,3,none⟩ = some (.slice ka lk kc) ∧ X.cell? ⟨W.heap.size + 1,4,none⟩ = some (.slice ca lcc cc)) ∧ X.cell? ⟨B,7,none⟩ = some (.slice (some ⟨g,0,none⟩) (O.length + 1) gc) ∧ X.cell? ⟨g,O.length,none⟩ = some (.slice la cur.length lc) ∧ X.frozen? ⟨g,O.length,none⟩ = false) := fun X hu =>
   ⟨⟨hu.cell (p := ⟨B,6,none⟩) c6 hBm,hu.cell (p := ⟨W.heap.size + 1,0,none⟩) d0 (by simp only; omega),hu.cell (p := ⟨W.heap.size + 1,1,none⟩) d1 (by simp only; omega),hu.cell (p := ⟨W.heap.size + 1,2,none⟩) d2 (by simp only; omega),hu.cell (p := ⟨W.heap.size + 1,3,none⟩) d3 (by simp only; omega),hu.cell (p := ⟨W.heap.size + 1,4,none⟩) d4 (by simp only; omega)⟩,hu.cell (p := ⟨B,7,none⟩) c7 hBm,hu.cell (p := ⟨g,O.length,none⟩) cl hgB.2,by
    have : X.heap[g]? = w3.heap[g]? := hu.block g (show g < w3.drew.heap.size from World.block_lt_of_cell? w3 ⟨g,O.length,none⟩ cl) hgB.2
    rw [World.frozen?_of_block this]; exact fz⟩
  clear c7 cl fz hg hxw hxn e1 e2 e3 hlv
  obtain ⟨w4,hrun,him4,hu4⟩ := IM3.out.store Tryz.underlying175 Tryz.underlying3 id (.agg #[.int .i64 lv,.slice oa lo oc,.int .i64 (lcc : Nat),.slice ka lk kc,.slice ca lcc cc]) HNI.out
  have IM4 := hide him4
  have U4 := hide hu4
  obtain ⟨⟨k0,k1,k2,k3,k4,k5⟩,c7,cl,fz⟩ := KEEP.out w4 hu4
  clear him4 hu4
  go_wp2_with fail
  go_region_held3 (fun X => X.cell? ⟨B,6,none⟩ = some (.map (some m)) ∧ X.cell? ⟨W.heap.size + 1,0,none⟩ = some (.int .i64 lv) ∧ X.cell? ⟨W.heap.size + 1,1,none⟩ = some (.slice oa lo oc) ∧ X.cell? ⟨W.heap.size + 1,2,none⟩ = some (.int .i64 (lcc : Nat)) ∧ X.cell? ⟨W.heap.size + 1,3,none⟩ = some (.slice ka lk kc) ∧ X.cell? ⟨W.heap.size + 1,4,none⟩ = some (.slice ca lcc cc)) (go_keep) (fail)
  clear k0 k1 k2 k3 k4 k5 hrun c6 d0 d1 d2 d3 d4
  obtain ⟨k,hk⟩ : ∃ k,O.length = k := ⟨_,rfl⟩
  obtain ⟨nc,hnc⟩ : ∃ nc,cur.length = nc := ⟨_,rfl⟩
  rw [hk] at c7 cl fz hz1
  rw [hnc] at cl hz2
  have HK := hide hk
  have HNC := hide hnc
  have U34 : Hid (Upd (fun j => j = m) w3 w4) := ⟨U4.out.os,U4.out.tape,U4.out.output,U4.out.size,U4.out.block⟩
  have OW4 : Hid (w4.ownsRow N 3 1 (.slice la nc lc) nc (cur.map fun x => .int .i64 x.id)) := by
   show World.ownsRow _ _ _ _ _ _ _
   rw [← hnc]
   exact owns_upd LW3.out.last U34.out (fun j hj e => by obtain ⟨y,e1,e2⟩ := LW.lc_ob la _ _ j hj; exact (hlo.out y e1).2.1 (e2.trans e))
  have HLOW : Hid (∀ X : World,Below w4.heap.size w4 X → Calls Tryz.prog 151 #[.pointer (some ⟨B,0,none⟩)] X fun e w' => e = .returned (.slice la nc lc) ∧ Below X.heap.size X w') := fun X hb => (lowest_at X B g k gc la nc lc ((hb.cell (p := ⟨B,7,none⟩) (World.block_lt_of_cell? w4 ⟨B,7,none⟩ c7)).trans c7) ((hb.cell (p := ⟨g,k,none⟩) (World.block_lt_of_cell? w4 ⟨g,k,none⟩ cl)).trans cl) hz1).mono fun e w' ⟨h1,j,h2⟩ => ⟨h1,by rw [h2]; exact below_drewN (Below.refl _ _) j⟩
  have hN4 : Hid (N ≤ w4.heap.size) := by show _ ≤ _; have h1 := U34.out.size; have h2 := B3.out.size; have h3 := HNW.out; omega
  have KEEP5 : Hid (∀ X Y : World,Below w4.heap.size w4 X → X.grownBy Y (Value.slice la nc lc).ownBlock → Y.cell? ⟨B,7,none⟩ = some (.slice (some ⟨g,0,none⟩) (k + 1) gc) ∧ Y.cell? ⟨g,k,none⟩ = some (.slice la nc lc) ∧ Y.frozen? ⟨g,k,none⟩ = false) := fun X Y hb hgr => by
   have hB : some B ≠ (Value.slice la nc lc).ownBlock := fun e => by obtain ⟨y,e1,e2⟩ := LW.lc_ob la _ _ B e.symm; exact (hlo.out y e1).1 e2
   have hgg : some g ≠ (Value.slice la nc lc).ownBlock := fun e => by obtain ⟨y,e1,e2⟩ := LW.lc_ob la _ _ g e.symm; exact (hlo.out y e1).2.2 e2
   have lB := World.block_lt_of_cell? w4 ⟨B,7,none⟩ c7
   have lg := World.block_lt_of_cell? w4 ⟨g,k,none⟩ cl
   simp only at lB lg
   have hs := hb.size
   have hbg : Y.heap[g]? = w4.heap[g]? := (hgr.block g (by omega) hgg).trans (hb.block g lg)
   refine ⟨(World.cell?_of_block ((hgr.block B (by omega) hB).trans (hb.block B lB))).trans c7,(World.cell?_of_block hbg).trans cl,(World.frozen?_of_block hbg).trans fz⟩
  obtain ⟨q,hq⟩ : ∃ q,k + 1 = q := ⟨_,rfl⟩
  rw [hq] at c7 KEEP5
  have x1 : IntKind.i64.wrap ((q : Int) - 1) = (k : Int) := by unfold IntKind.wrap; simp [IntKind.bits,IntKind.signed]; omega
  have x2 : (k : Int) < (q : Int) := by omega
  have x3 : (0 : Int) ≤ (k : Int) := by omega
  have x4 : k < q := by omega
  clear hq
  have hBg : ¬ B = g := fun e => hgB.1 e.symm
  have hgB' : ¬ g = B := hgB.1
  clear cl fz hk hnc KEEP IM3
  go_wp2_with fail
  go_region_held3 (fun X => X.cell? ⟨B,7,none⟩ = some (.slice (some ⟨g,0,none⟩) q gc)) (go_keep) (first
   | (refine step_append_lies _ (by rfl) (.tmp 52) (.tmp 54) 51 (by rfl) N 3 iI (.int .i64 0) 1 8 Tryz.underlying51 hiI hzI0 hzI1 hzI2 rfl (by decide) (.slice la nc lc) nc (cur.map fun x => .int .i64 x.id) (by simp [Act.eval]) (owns_below OW4.out B4A.out) ⟨w4.heap.size,0,none⟩ 1 1 [.int .i64 id] (by simp [Act.eval]) rfl NEWA.out (by intro u hu; simp at hu; subst hu; rfl) (by omega) (by unfold maxLen; omega) (by omega) (by have := B4A.out.size; have := hN4.out; omega) _ rfl ?_; intro g6 c6 w6 o6 gr6 k6 _; obtain ⟨j7,jl,jz⟩ := KEEP5.out _ w6 B4A.out gr6; have O6 := hide o6; have GR6 := hide gr6; have K6 := hide k6; have B5 := hide B4A.out; clear o6 gr6 k6 NEWA)
   | (refine step_append_lies _ (by rfl) (.tmp 52) (.tmp 54) 51 (by rfl) N 3 iI (.int .i64 0) 1 8 Tryz.underlying51 hiI hzI0 hzI1 hzI2 rfl (by decide) (.slice la nc lc) nc (cur.map fun x => .int .i64 x.id) (by simp [Act.eval]) (owns_below OW4.out (B4B.out.alloc B4B.out.size _)) ⟨wl.heap.size,0,none⟩ 1 1 [.int .i64 id] (by simp [Act.eval]) rfl (cell_one_new _ _ _) (by intro u hu; simp at hu; subst hu; rfl) (by omega) (by unfold maxLen; omega) (by omega) (by have := B4B.out.size; have := hN4.out; simp; omega) _ rfl ?_; intro g6 c6 w6 o6 gr6 k6 _; obtain ⟨j7,jl,jz⟩ := KEEP5.out _ w6 (B4B.out.alloc B4B.out.size _) gr6; have O6 := hide o6; have GR6 := hide gr6; have K6 := hide k6; have B5 := hide (B4B.out.alloc B4B.out.size (.cells #[.int .i64 id] 3)); clear o6 gr6 k6)
   | (go_at_call 151; refine (HLOW.out (w4.drew.alloc (.cells #[.int .i64 id] 3)) ((below_drew (Below.refl _ _)).alloc (Nat.le_refl _) _)).mono ?_; rintro e wl ⟨rfl,hbl⟩; have B4A : Hid (Below w4.heap.size w4 wl) := ((below_drew (Below.refl _ _)).alloc (Nat.le_refl _) _).trans (hbl.mono (by simp)); have j7 := (B4A.out.cell (p := ⟨B,7,none⟩) (World.block_lt_of_cell? w4 ⟨B,7,none⟩ c7)).trans c7; have NEWA : Hid (∀ j u,[Value.int .i64 id][j]? = some u → wl.cell? ((⟨w4.heap.size,0,none⟩ : Addr).add j) = some u) := fun j u hu => by { have h1 := cell_one_new w4.drew (.int .i64 id) 3 j u hu; exact (hbl.cell (p := (⟨w4.heap.size,0,none⟩ : Addr).add j) (by rw [Addr.add_lit]; simp)).trans h1 }; clear hbl)
   | (go_at_call 151; refine (HLOW.out w4.drew (below_drew (Below.refl _ _))).mono ?_; rintro e wl ⟨rfl,hbl⟩; have B4B : Hid (Below w4.heap.size w4 wl) := (below_drew (Below.refl _ _)).trans (hbl.mono (Nat.le_refl _)); have j7 := (B4B.out.cell (p := ⟨B,7,none⟩) (World.block_lt_of_cell? w4 ⟨B,7,none⟩ c7)).trans c7; clear hbl)
   | fail)
  all_goals
   go_end0
   have E := keep_end (x := x) LW3.out B3.out HNW.out X3.out (by rw [HXI.out,HXX.out]; exact IM4.out) U34.out B5.out HG.out (by rw [HNC.out,HXI.out]; exact O6.out) (by rw [HNC.out]; exact GR6.out) (by rw [HNC.out]; exact K6.out)
   rw [HK.out,HNC.out] at E
   exact E
 ·obtain ⟨e1,e2,e3⟩ := hxn hlv
  have G3 := G2
  have B3 := B2
  generalize w2 = w3 at *
  go_upto_region 4 with fail
  have HXX : Hid (x.v = .agg #[.int .i64 lv,.slice oa lo oc,.int .i64 (lk : Nat),.slice none 0 0,.slice none 0 0]) := by show _ = _; rw [HXV.out,e1,e2,e3]
  have LW3 := hide (HH.out.below B3.out)
  have X3 := hide (HX.out.move (Upd.of_below B3.out Noth) (fun _ _ e => e.elim) (fun _ _ e => e))
  obtain ⟨g,hg,c7,cl,fz⟩ := LW3.out.row_g
  have c6 : w3.cell? ⟨B,6,none⟩ = some (.map (some m)) := by rw [cell_of_row _ _ _ _ _ _ LW3.out.b]; rfl
  obtain ⟨d0,d1,d2,d3,d4⟩ := five_of G3.out
  have IM3 := hide LW3.out.im.drew
  have hBm := LW3.out.bm
  have hml := HH.out.im.lt
  have hBl : B < W.heap.size := lt_of_block HH.out.b
  have hgB := LW3.out.gB _ hg
  have hgl : g < W.heap.size := (HH.out.row.lt g (by rw [hg]; rfl)).2
  have hlo : Hid (∀ y,la = some y → y.block ≠ B ∧ y.block ≠ m ∧ y.block ≠ g) := fun y e => ⟨(LW3.out.lB y e).1,(LW3.out.lB y e).2.1,(LW3.out.lB y e).2.2 _ hg⟩
  simp only at hgB
  have HG := hide hg
  have KEEP : Hid (∀ X : World,Upd (fun j => j = m) w3.drew X → (X.cell? ⟨B,6,none⟩ = some (.map (some m)) ∧ X.cell? ⟨W.heap.size + 1,0,none⟩ = some (.int .i64 lv) ∧ X.cell? ⟨W.heap.size + 1,1,none⟩ = some (.slice oa lo oc) ∧ X.cell? ⟨W.heap.size + 1,2,none⟩ = some (.int .i64 (lk : Nat)) ∧ X.cell? ⟨W.heap.size + 1,3,none⟩ = some (.slice none 0 0) ∧ X.cell? ⟨W.heap.size + 1,4,none⟩ = some (.slice none 0 0)) ∧ X.cell? ⟨B,7,none⟩ = some (.slice (some ⟨g,0,none⟩) (O.length + 1) gc) ∧ X.cell? ⟨g,O.length,none⟩ = some (.slice la cur.length lc) ∧ X.frozen? ⟨g,O.length,none⟩ = false) := fun X hu =>
   ⟨⟨hu.cell (p := ⟨B,6,none⟩) c6 hBm,hu.cell (p := ⟨W.heap.size + 1,0,none⟩) d0 (by simp only; omega),hu.cell (p := ⟨W.heap.size + 1,1,none⟩) d1 (by simp only; omega),hu.cell (p := ⟨W.heap.size + 1,2,none⟩) d2 (by simp only; omega),hu.cell (p := ⟨W.heap.size + 1,3,none⟩) d3 (by simp only; omega),hu.cell (p := ⟨W.heap.size + 1,4,none⟩) d4 (by simp only; omega)⟩,hu.cell (p := ⟨B,7,none⟩) c7 hBm,hu.cell (p := ⟨g,O.length,none⟩) cl hgB.2,by
    have : X.heap[g]? = w3.heap[g]? := hu.block g (show g < w3.drew.heap.size from World.block_lt_of_cell? w3 ⟨g,O.length,none⟩ cl) hgB.2
    rw [World.frozen?_of_block this]; exact fz⟩
  clear c7 cl fz hg hxw hxn e1 e2 e3 hlv
  obtain ⟨w4,hrun,him4,hu4⟩ := IM3.out.store Tryz.underlying175 Tryz.underlying3 id (.agg #[.int .i64 lv,.slice oa lo oc,.int .i64 (lk : Nat),.slice none 0 0,.slice none 0 0]) HNI.out
  have IM4 := hide him4
  have U4 := hide hu4
  obtain ⟨⟨k0,k1,k2,k3,k4,k5⟩,c7,cl,fz⟩ := KEEP.out w4 hu4
  clear him4 hu4
  go_wp2_with fail
  go_region_held3 (fun X => X.cell? ⟨B,6,none⟩ = some (.map (some m)) ∧ X.cell? ⟨W.heap.size + 1,0,none⟩ = some (.int .i64 lv) ∧ X.cell? ⟨W.heap.size + 1,1,none⟩ = some (.slice oa lo oc) ∧ X.cell? ⟨W.heap.size + 1,2,none⟩ = some (.int .i64 (lk : Nat)) ∧ X.cell? ⟨W.heap.size + 1,3,none⟩ = some (.slice none 0 0) ∧ X.cell? ⟨W.heap.size + 1,4,none⟩ = some (.slice none 0 0)) (go_keep) (fail)
  clear k0 k1 k2 k3 k4 k5 hrun c6 d0 d1 d2 d3 d4
  obtain ⟨k,hk⟩ : ∃ k,O.length = k := ⟨_,rfl⟩
  obtain ⟨nc,hnc⟩ : ∃ nc,cur.length = nc := ⟨_,rfl⟩
  rw [hk] at c7 cl fz hz1
  rw [hnc] at cl hz2
  have HK := hide hk
  have HNC := hide hnc
  have U34 : Hid (Upd (fun j => j = m) w3 w4) := ⟨U4.out.os,U4.out.tape,U4.out.output,U4.out.size,U4.out.block⟩
  have OW4 : Hid (w4.ownsRow N 3 1 (.slice la nc lc) nc (cur.map fun x => .int .i64 x.id)) := by
   show World.ownsRow _ _ _ _ _ _ _
   rw [← hnc]
   exact owns_upd LW3.out.last U34.out (fun j hj e => by obtain ⟨y,e1,e2⟩ := LW.lc_ob la _ _ j hj; exact (hlo.out y e1).2.1 (e2.trans e))
  have HLOW : Hid (∀ X : World,Below w4.heap.size w4 X → Calls Tryz.prog 151 #[.pointer (some ⟨B,0,none⟩)] X fun e w' => e = .returned (.slice la nc lc) ∧ Below X.heap.size X w') := fun X hb => (lowest_at X B g k gc la nc lc ((hb.cell (p := ⟨B,7,none⟩) (World.block_lt_of_cell? w4 ⟨B,7,none⟩ c7)).trans c7) ((hb.cell (p := ⟨g,k,none⟩) (World.block_lt_of_cell? w4 ⟨g,k,none⟩ cl)).trans cl) hz1).mono fun e w' ⟨h1,j,h2⟩ => ⟨h1,by rw [h2]; exact below_drewN (Below.refl _ _) j⟩
  have hN4 : Hid (N ≤ w4.heap.size) := by show _ ≤ _; have h1 := U34.out.size; have h2 := B3.out.size; have h3 := HNW.out; omega
  have KEEP5 : Hid (∀ X Y : World,Below w4.heap.size w4 X → X.grownBy Y (Value.slice la nc lc).ownBlock → Y.cell? ⟨B,7,none⟩ = some (.slice (some ⟨g,0,none⟩) (k + 1) gc) ∧ Y.cell? ⟨g,k,none⟩ = some (.slice la nc lc) ∧ Y.frozen? ⟨g,k,none⟩ = false) := fun X Y hb hgr => by
   have hB : some B ≠ (Value.slice la nc lc).ownBlock := fun e => by obtain ⟨y,e1,e2⟩ := LW.lc_ob la _ _ B e.symm; exact (hlo.out y e1).1 e2
   have hgg : some g ≠ (Value.slice la nc lc).ownBlock := fun e => by obtain ⟨y,e1,e2⟩ := LW.lc_ob la _ _ g e.symm; exact (hlo.out y e1).2.2 e2
   have lB := World.block_lt_of_cell? w4 ⟨B,7,none⟩ c7
   have lg := World.block_lt_of_cell? w4 ⟨g,k,none⟩ cl
   simp only at lB lg
   have hs := hb.size
   have hbg : Y.heap[g]? = w4.heap[g]? := (hgr.block g (by omega) hgg).trans (hb.block g lg)
   refine ⟨(World.cell?_of_block ((hgr.block B (by omega) hB).trans (hb.block B lB))).trans c7,(World.cell?_of_block hbg).trans cl,(World.frozen?_of_block hbg).trans fz⟩
  obtain ⟨q,hq⟩ : ∃ q,k + 1 = q := ⟨_,rfl⟩
  rw [hq] at c7 KEEP5
  have x1 : IntKind.i64.wrap ((q : Int) - 1) = (k : Int) := by unfold IntKind.wrap; simp [IntKind.bits,IntKind.signed]; omega
  have x2 : (k : Int) < (q : Int) := by omega
  have x3 : (0 : Int) ≤ (k : Int) := by omega
  have x4 : k < q := by omega
  clear hq
  have hBg : ¬ B = g := fun e => hgB.1 e.symm
  have hgB' : ¬ g = B := hgB.1
  clear cl fz hk hnc KEEP IM3
  go_wp2_with fail
  go_region_held3 (fun X => X.cell? ⟨B,7,none⟩ = some (.slice (some ⟨g,0,none⟩) q gc)) (go_keep) (first
   | (refine step_append_lies _ (by rfl) (.tmp 52) (.tmp 54) 51 (by rfl) N 3 iI (.int .i64 0) 1 8 Tryz.underlying51 hiI hzI0 hzI1 hzI2 rfl (by decide) (.slice la nc lc) nc (cur.map fun x => .int .i64 x.id) (by simp [Act.eval]) (owns_below OW4.out B4A.out) ⟨w4.heap.size,0,none⟩ 1 1 [.int .i64 id] (by simp [Act.eval]) rfl NEWA.out (by intro u hu; simp at hu; subst hu; rfl) (by omega) (by unfold maxLen; omega) (by omega) (by have := B4A.out.size; have := hN4.out; omega) _ rfl ?_; intro g6 c6 w6 o6 gr6 k6 _; obtain ⟨j7,jl,jz⟩ := KEEP5.out _ w6 B4A.out gr6; have O6 := hide o6; have GR6 := hide gr6; have K6 := hide k6; have B5 := hide B4A.out; clear o6 gr6 k6 NEWA)
   | (refine step_append_lies _ (by rfl) (.tmp 52) (.tmp 54) 51 (by rfl) N 3 iI (.int .i64 0) 1 8 Tryz.underlying51 hiI hzI0 hzI1 hzI2 rfl (by decide) (.slice la nc lc) nc (cur.map fun x => .int .i64 x.id) (by simp [Act.eval]) (owns_below OW4.out (B4B.out.alloc B4B.out.size _)) ⟨wl.heap.size,0,none⟩ 1 1 [.int .i64 id] (by simp [Act.eval]) rfl (cell_one_new _ _ _) (by intro u hu; simp at hu; subst hu; rfl) (by omega) (by unfold maxLen; omega) (by omega) (by have := B4B.out.size; have := hN4.out; simp; omega) _ rfl ?_; intro g6 c6 w6 o6 gr6 k6 _; obtain ⟨j7,jl,jz⟩ := KEEP5.out _ w6 (B4B.out.alloc B4B.out.size _) gr6; have O6 := hide o6; have GR6 := hide gr6; have K6 := hide k6; have B5 := hide (B4B.out.alloc B4B.out.size (.cells #[.int .i64 id] 3)); clear o6 gr6 k6)
   | (go_at_call 151; refine (HLOW.out (w4.drew.alloc (.cells #[.int .i64 id] 3)) ((below_drew (Below.refl _ _)).alloc (Nat.le_refl _) _)).mono ?_; rintro e wl ⟨rfl,hbl⟩; have B4A : Hid (Below w4.heap.size w4 wl) := ((below_drew (Below.refl _ _)).alloc (Nat.le_refl _) _).trans (hbl.mono (by simp)); have j7 := (B4A.out.cell (p := ⟨B,7,none⟩) (World.block_lt_of_cell? w4 ⟨B,7,none⟩ c7)).trans c7; have NEWA : Hid (∀ j u,[Value.int .i64 id][j]? = some u → wl.cell? ((⟨w4.heap.size,0,none⟩ : Addr).add j) = some u) := fun j u hu => by { have h1 := cell_one_new w4.drew (.int .i64 id) 3 j u hu; exact (hbl.cell (p := (⟨w4.heap.size,0,none⟩ : Addr).add j) (by rw [Addr.add_lit]; simp)).trans h1 }; clear hbl)
   | (go_at_call 151; refine (HLOW.out w4.drew (below_drew (Below.refl _ _))).mono ?_; rintro e wl ⟨rfl,hbl⟩; have B4B : Hid (Below w4.heap.size w4 wl) := (below_drew (Below.refl _ _)).trans (hbl.mono (Nat.le_refl _)); have j7 := (B4B.out.cell (p := ⟨B,7,none⟩) (World.block_lt_of_cell? w4 ⟨B,7,none⟩ c7)).trans c7; clear hbl)
   | fail)
  all_goals
   go_end0
   have E := keep_end (x := x) LW3.out B3.out HNW.out X3.out (by rw [HXI.out,HXX.out]; exact IM4.out) U34.out B5.out HG.out (by rw [HNC.out,HXI.out]; exact O6.out) (by rw [HNC.out]; exact GR6.out) (by rw [HNC.out]; exact K6.out)
   rw [HK.out,HNC.out] at E
   exact E
end
end Go.Proofs.YtljnapejgjffjaaGreat
