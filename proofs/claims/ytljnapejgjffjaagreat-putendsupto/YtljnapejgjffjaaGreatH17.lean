/- Texts of one's own. -/
import Derived.Test.YtljnapejgjffjaaGreatH16
import Derived.Test.YtljnapejgjffjaaGreatH14
namespace Go.Proofs.YtljnapejgjffjaaGreat
open Go.RowKit
set_option maxRecDepth 100000
structure TL.Own (W : World) (N : Nat) (t : TL) : Prop where
 row : W.ownsRow N 29 1 t.v t.L.length (t.L.map Tx.v)
 each : ∀ x ∈ t.L,OwnB W N 5 x.v x.s
 b8 : ∀ x ∈ t.L,B8 x.s ∧ x.s.length ≤ 140737488351232
theorem ownB_ok {W : World} {N : Nat} {x : Tx} (h : OwnB W N 5 x.v x.s) (h8 : B8 x.s) (hz : x.s.length ≤ 140737488351232) : x.Ok W := by
 obtain ⟨a,c,hv,hr,hn,hlc⟩ := h.slice
 obtain ⟨xa,xc,xs⟩ := x
 simp only [Tx.v,Value.slice.injEq,true_and] at hv
 obtain ⟨rfl,rfl⟩ := hv
 exact ⟨hr,hn,hlc,h8,hz⟩
theorem vok_tl {W : World} {t : TL} (h : VOk W t.a t.c (t.L.map Tx.v)) (hok : ∀ x ∈ t.L,x.Ok W) : t.Ok W := by
 refine ⟨fun i hi => ?_,hok,fun e => by have := h.n e; rw [List.length_map] at this; exact this,by have := h.lc; rwa [List.length_map] at this⟩
 obtain ⟨b,o,ha,hc⟩ := h.r i (by rw [List.length_map]; exact hi)
 exact ⟨b,o,ha,by rw [hc,List.getElem_map]⟩
theorem TL.Ok.vok {W : World} {t : TL} (h : t.Ok W) : VOk W t.a t.c (t.L.map Tx.v) := by
 refine ⟨fun i hi => ?_,fun e => by rw [List.length_map]; exact h.n e,by rw [List.length_map]; exact h.lc⟩
 obtain ⟨b,o,ha,hc⟩ := h.r i (by rwa [List.length_map] at hi)
 exact ⟨b,o,ha,by rw [hc,List.getElem_map]⟩
theorem tx_slices (L : List Tx) : ∀ u ∈ L.map Tx.v,∃ xa xn xc,u = .slice xa xn xc := by
 intro u hu
 obtain ⟨x,_,rfl⟩ := List.mem_map.1 hu
 exact ⟨_,_,_,rfl⟩
theorem TL.Own.ok {W : World} {N : Nat} {t : TL} (h : t.Own W N) : t.Ok W := by
 obtain ⟨a,c,hv,hok,_⟩ := vok_of_owns h.row
 simp only [TL.v,Value.slice.injEq,true_and] at hv
 obtain ⟨rfl,rfl⟩ := hv
 exact vok_tl hok fun x hx => ownB_ok (h.each x hx) (h.b8 x hx).1 (h.b8 x hx).2
theorem TL.Own.below {W W' : World} {N : Nat} {t : TL} (h : t.Own W N) (hb : Below W.heap.size W W') : t.Own W' N :=
 ⟨owns_below h.row hb,fun x hx => (h.each x hx).below hb,h.b8⟩
theorem TL.Own.mono {W : World} {N M : Nat} {t : TL} (h : t.Own W N) (hb : M ≤ N) : t.Own W M :=
 ⟨owns_mono h.row hb,fun x hx => (h.each x hx).mono hb,h.b8⟩
theorem TL.Own.upd {W W' : World} {N : Nat} {S : Nat → Prop} {t : TL} (h : t.Own W N) (hb : Upd S W W') (hs : ∀ b,N ≤ b → b < W.heap.size → ¬ S b) : t.Own W' N :=
 ⟨owns_upd h.row hb (fun k hk => hs k (h.row.lt k hk).1 (h.row.lt k hk).2),fun x hx => (h.each x hx).upd hb (fun k hk => hs k ((h.each x hx).owns.lt k hk).1 ((h.each x hx).owns.lt k hk).2),h.b8⟩
theorem own_setV {w : World} {base g n cap : Nat} {e : TypeId} {xs : List Value} (h : w.ownsRow base e 1 (.slice (some ⟨g,0,none⟩) n cap) n xs) (j : Nat) (u : Value) :
  (w.setCell ⟨g,j,none⟩ u).ownsRow base e 1 (.slice (some ⟨g,0,none⟩) n cap) n (xs.set j u) := by
 refine ⟨by rw [List.length_set]; exact h.1,?_⟩
 rcases h.2 with ⟨hv,_⟩ | ⟨g',cap',cur,hv,hb,hh,h1,h2,h3,h4⟩
 ·cases hv
 ·cases hv
  refine .inr ⟨g,cap,cur.setIfInBounds j u,rfl,hb,block_setCell hh j _,h1,h2,by rw [Array.size_setIfInBounds]; exact h3,?_⟩
  rw [← h4,Array.toList_setIfInBounds,List.take_set]
theorem set_mid {C D : List Tx} {i : Nat} (y x : Tx) (hi : C.length = i) : ((C ++ y :: D).map Tx.v).set i x.v = ((C ++ [x]) ++ D).map Tx.v := by
 subst hi
 rw [List.map_append,List.set_append_right _ _ (by simp)]
 simp
theorem get_mid {C D : List Tx} {i : Nat} (y : Tx) (hi : C.length = i) : ((C ++ y :: D).map Tx.v)[i]? = some y.v := by
 subst hi
 rw [List.map_append,List.getElem?_append_right (by simp)]
 simp
theorem upd_set (S : Nat → Prop) (w : World) (g j : Nat) (u : Value) (h : S g) : Upd S w (w.setCell ⟨g,j,none⟩ u) := (Upd.refl S w).setCell _ _ (fun _ => h)
def CtPost (w : World) (L : List Tx) (e : Ending) (w' : World) : Prop :=
 ∃ t : TL,e = .returned t.v ∧ t.p = L.map (·.s) ∧ t.Own w' w.heap.size ∧ Below w.heap.size w w'
structure CtI (w W : World) (v : Value) (L C : List Tx) : Prop where
 le : C.length ≤ L.length
 row : W.ownsRow w.heap.size 29 1 v L.length ((C ++ L.drop C.length).map Tx.v)
 each : ∀ x ∈ C,OwnB W w.heap.size 5 x.v x.s
 s : C.map (·.s) = (L.take C.length).map (·.s)
 b : Below w.heap.size w W
theorem typ_ne {W : World} {N g : Nat} {cur : Array Value} {x : Tx} (h : OwnB W N 5 x.v x.s) (hg : W.heap[g]? = some (.cells cur 29 (0,0))) : ∀ k,x.v.ownBlock = some k → k ≠ g := by
 intro k hk e
 subst e
 rcases h with ⟨hv,_⟩ | ⟨g',c',cur',hv,_,hh,_⟩
 ·rw [hv] at hk; cases hk
 ·rw [hv] at hk
  cases hk
  rw [hh] at hg
  simp at hg
set_option maxHeartbeats 1600000 in
theorem cloneTexts_any (t : TL) (w : World) (ht : t.Ok w) (hm : t.L.length * 24 ≤ 140737488355000) :
  Calls Tryz.prog 162 #[t.v] w (CtPost w t.L) := by
 obtain ⟨ka,kc,L⟩ := t
 simp only [TL.v] at hm ⊢
 obtain ⟨l,hl⟩ : ∃ l,L.length = l := ⟨_,rfl⟩
 have HCL := hide (clnT_any ka l kc (L.map Tx.v) w (by rw [List.length_map]; exact hl) ht.vok (tx_oneCell L) (by rw [← hl]; omega))
 have HOK : Hid (∀ W,Below w.heap.size w W → ∀ x ∈ L,x.Ok W) := fun W h x hx => (ht.ok x hx).below h
 rw [hl] at hm ⊢
 replace hl := hide hl
 clear ht
 go_enter Tryz.func162,Tryz.ntmps162
 go_wp2_with fail
 refine HCL.out.mono ?_
 rintro e w1 ⟨v,rfl,hown,hb1⟩
 obtain ⟨oa,oc,rfl,_,_⟩ := vok_of_owns hown
 rw [List.length_map,hl.out] at hown ⊢
 have H0 : Hid (CtI w w1 (.slice oa l oc) L []) := ⟨Nat.zero_le _,by rw [hl.out]; simpa using hown,fun x hx => (by cases hx),rfl,hb1⟩
 clear hown hb1 HCL
 go_wp2_with fail
 go_loopw [10] (fun q wr => ∃ C : List Tx,q = .int .i64 (C.length : Nat) ∧ Hid (CtI w wr (.slice oa l oc) L C)) (fun q _ => l - (intOf q).toNat)
 case atStart => exact ⟨[],rfl,H0⟩
 case round =>
  clear H0
  obtain ⟨C,rfl,HI⟩ := hrel
  rename World => wr
  have hle := HI.out.le
  rw [hl.out] at hle
  obtain ⟨i,hi⟩ : ∃ i,C.length = i := ⟨_,rfl⟩
  rw [hi] at hle ⊢
  replace hi := hide hi
  by_cases hlt : i < l
  ·have j1 : (i : Int) < (l : Int) := by omega
   have hiL : i < L.length := by rw [hl.out]; exact hlt
   have hrow := HI.out.row
   rw [hi.out,List.drop_eq_getElem_cons hiL,hl.out] at hrow
   obtain ⟨g,rfl,hgN,cur,hg,hcs,hcm⟩ : ∃ g,oa = some ⟨g,0,none⟩ ∧ w.heap.size ≤ g ∧ ∃ cur,wr.heap[g]? = some (.cells cur 29 (0,0)) ∧ cur.size = oc ∧ oc ≤ maxLen := by
    rcases hrow.2 with ⟨hv,h0⟩ | ⟨g,cap,cur,hv,hb,hh,h1,h2,h3,h4⟩
    ·omega
    ·cases hv; exact ⟨g,rfl,hb,cur,hh,by omega,h2⟩
   have s0 := hrow.cells (g := g) rfl i L[i].v (get_mid _ hi.out)
   rw [Addr.add_lit,Nat.zero_add] at s0
   have OK := hide (HOK.out wr HI.out.b L[i] (List.getElem_mem hiL))
   obtain ⟨x,hx⟩ : ∃ x,x = L[i] := ⟨_,rfl⟩
   rw [← hx] at s0 OK hrow
   have HRW := hide hrow
   have HX := hide hx
   have HG := hide hg
   unfold Tx.v at s0
   obtain ⟨nk,hnk⟩ : ∃ nk,x.s.length = nk := ⟨_,rfl⟩
   rw [hnk] at s0
   have hlg := lt_of_block hg
   have HBC := hide (bclone_any x.a nk x.c x.s wr hnk (by have := OK.out.z; omega) (by have := OK.out.n; rw [hnk] at this; exact this) OK.out.r)
   replace hnk := hide hnk
   clear hrow hx hg
   go_wp2_with fail
   refine HBC.out.mono ?_
   rintro e w2 ⟨v2,rfl,hv2,hb2⟩
   obtain ⟨na,nc,hve,_,_,_⟩ := hv2.slice
   rw [hnk.out] at hve
   subst hve
   have c2 : w2.cell? ⟨g,i,none⟩ = some (.slice x.a nk x.c) := (hb2.cell (p := ⟨g,i,none⟩) hlg).trans s0
   have g2 : w2.heap[g]? = some (.cells cur 29 (0,0)) := (hb2.block g hlg).trans HG.out
   have f2 : w2.frozen? ⟨g,i,none⟩ = false := by simp [World.frozen?,g2]
   have G2 := hide g2
   have V2 := hide hv2
   have B2 := hide hb2
   clear s0 g2 hv2 hb2 HBC
   go_wp2_with fail
   have HNEW : Hid (CtI w (w2.setCell ⟨g,i,none⟩ (.slice na nk nc)) (.slice (some ⟨g,0,none⟩) l oc) L (C ++ [⟨na,nc,x.s⟩])) := by
    have hci := hi.out
    have hnv : (⟨na,nc,x.s⟩ : Tx).v = .slice na nk nc := by simp only [Tx.v,hnk.out]
    have hbw : Below w.heap.size w w2 := HI.out.b.trans (B2.out.mono HI.out.b.size)
    have U : Upd (fun b => b = g) w2 (w2.setCell ⟨g,i,none⟩ (.slice na nk nc)) := upd_set _ _ _ _ _ rfl
    refine ⟨by rw [List.length_append,List.length_singleton,hci]; omega,?_,?_,?_,?_⟩
    ·have h1 := own_setV (owns_below HRW.out B2.out) i (.slice na nk nc)
     have h2 := set_mid (D := L.drop (i + 1)) x ⟨na,nc,x.s⟩ hci
     rw [hnv] at h2
     rw [h2] at h1
     rw [hl.out,List.length_append,List.length_singleton,hci]
     exact h1
    ·intro y hy
     rcases List.mem_append.1 hy with hy | hy
     ·exact ((HI.out.each y hy).below B2.out).upd U (typ_ne ((HI.out.each y hy).below B2.out) G2.out)
     ·obtain rfl : y = ⟨na,nc,x.s⟩ := by simpa using hy
      have h1 : OwnB w2 w.heap.size 5 (⟨na,nc,x.s⟩ : Tx).v x.s := by rw [hnv]; exact V2.out.mono HI.out.b.size
      exact h1.upd U (typ_ne h1 G2.out)
    ·rw [List.map_append,HI.out.s,List.length_append,List.length_singleton,hci,take_next hiL,List.map_append,HX.out]
     rfl
    ·exact hbw.trans (U.below (by have := hbw.size; omega) (fun k hk e => by omega))
   clear G2 V2 B2 c2 f2
   go_roundw
   case rel => exact ⟨_,by rw [List.length_append,List.length_singleton,hi.out]; go_num,HNEW⟩
   case measure => simp [intOf]; omega
  ·have j1 : ¬ (i : Int) < (l : Int) := by omega
   obtain rfl : i = l := by omega
   have HF : Hid (CtPost w L (.returned (.slice oa i oc)) wr) := by
    have hd : L.drop C.length = [] := List.drop_eq_nil_of_le (by rw [hl.out,hi.out]; exact Nat.le_refl _)
    have hs := HI.out.s
    rw [List.take_of_length_le (by rw [hl.out,hi.out]; exact Nat.le_refl _)] at hs
    have hr := HI.out.row
    rw [hd,List.append_nil,hl.out] at hr
    refine ⟨⟨oa,oc,C⟩,by simp only [TL.v,hi.out],hs,⟨by simp only [TL.v,hi.out]; exact hr,HI.out.each,fun x hx => ?_⟩,HI.out.b⟩
    have : x.s ∈ L.map (·.s) := by rw [← hs]; exact List.mem_map.2 ⟨x,hx,rfl⟩
    obtain ⟨y,hy,hys⟩ := List.mem_map.1 this
    have := HOK.out w (Below.refl _ _) y hy
    rw [← hys]
    exact ⟨this.b8,this.z⟩
   go_wp2_with fail
   go_ret
   exact HF.out
def Six (W : World) (b : Nat) (x0 x1 x2 x3 x4 x5 : Value) : Prop :=
 W.cell? ⟨b,0,none⟩ = some x0 ∧ W.cell? ⟨b,1,none⟩ = some x1 ∧ W.cell? ⟨b,2,none⟩ = some x2 ∧ W.cell? ⟨b,3,none⟩ = some x3 ∧ W.cell? ⟨b,4,none⟩ = some x4 ∧ W.cell? ⟨b,5,none⟩ = some x5
theorem Six.below {W W' : World} {b : Nat} {x0 x1 x2 x3 x4 x5 : Value} (h : Six W b x0 x1 x2 x3 x4 x5) (hb : Below W.heap.size W W') : Six W' b x0 x1 x2 x3 x4 x5 := by
 have hl : b < W.heap.size := World.block_lt_of_cell? W ⟨b,0,none⟩ h.1
 obtain ⟨h0,h1,h2,h3,h4,h5⟩ := h
 exact ⟨(hb.cell (p := ⟨b,0,none⟩) hl).trans h0,(hb.cell (p := ⟨b,1,none⟩) hl).trans h1,(hb.cell (p := ⟨b,2,none⟩) hl).trans h2,(hb.cell (p := ⟨b,3,none⟩) hl).trans h3,(hb.cell (p := ⟨b,4,none⟩) hl).trans h4,(hb.cell (p := ⟨b,5,none⟩) hl).trans h5⟩
theorem Six.of {W : World} {b : Nat} {T : TypeId} {x0 x1 x2 x3 x4 x5 : Value} (h : W.heap[b]? = some (.cells #[x0,x1,x2,x3,x4,x5] T (0,0))) : Six W b x0 x1 x2 x3 x4 x5 := by
 refine ⟨?_,?_,?_,?_,?_,?_⟩ <;> (rw [cell_of_row _ _ _ _ _ _ h]; rfl)
theorem frozen_of {W : World} {b : Nat} {T : TypeId} {cur : Array Value} (h : W.heap[b]? = some (.cells cur T (0,0))) (j : Nat) : W.frozen? ⟨b,j,none⟩ = false := by
 simp [World.frozen?,h]
def six6 (W : World) (b : Nat) (x0 x1 x2 x3 x4 x5 : Value) : World := (((((W.setCell ⟨b,0,none⟩ x0).setCell ⟨b,1,none⟩ x1).setCell ⟨b,2,none⟩ x2).setCell ⟨b,3,none⟩ x3).setCell ⟨b,4,none⟩ x4).setCell ⟨b,5,none⟩ x5
theorem six_block {W : World} {b : Nat} {T : TypeId} {a0 a1 a2 a3 a4 a5 : Value} (h : W.heap[b]? = some (.cells #[a0,a1,a2,a3,a4,a5] T (0,0))) (x0 x1 x2 x3 x4 x5 : Value) :
  (six6 W b x0 x1 x2 x3 x4 x5).heap[b]? = some (.cells #[x0,x1,x2,x3,x4,x5] T (0,0)) := by
 have := block_setCell (block_setCell (block_setCell (block_setCell (block_setCell (block_setCell h 0 x0) 1 x1) 2 x2) 3 x3) 4 x4) 5 x5
 exact this
theorem six_upd (S : Nat → Prop) (W : World) (b : Nat) (x0 x1 x2 x3 x4 x5 : Value) (h : S b) : Upd S W (six6 W b x0 x1 x2 x3 x4 x5) :=
 ((((((Upd.refl S W).setCell _ _ (fun _ => h)).setCell _ _ (fun _ => h)).setCell _ _ (fun _ => h)).setCell _ _ (fun _ => h)).setCell _ _ (fun _ => h)).setCell _ _ (fun _ => h)
theorem ownsI_upd {S : Nat → Prop} {w w' : World} {base : Nat} {e : TypeId} {v : Value} {n : Nat} {xs : List Value} (h : w.ownsRow base e 1 v n xs) (hb : Upd S w w') (hs : ∀ b,base ≤ b → b < w.heap.size → ¬ S b) : w'.ownsRow base e 1 v n xs :=
 owns_upd h hb (fun k hk => hs k (h.lt k hk).1 (h.lt k hk).2)
theorem ownB_upd' {S : Nat → Prop} {w w' : World} {base : Nat} {v : Value} {zs : List Int} (h : OwnB w base 5 v zs) (hb : Upd S w w') (hs : ∀ b,base ≤ b → b < w.heap.size → ¬ S b) : OwnB w' base 5 v zs :=
 h.upd hb (fun k hk => hs k (h.owns.lt k hk).1 (h.owns.lt k hk).2)
structure Nd.Own (W : World) (N : Nat) (n : Nd) : Prop where
 h : OwnB W N 5 n.hi.v n.hi.s
 hb : B8 n.hi.s ∧ n.hi.s.length ≤ 140737488351232
 k : n.ks.Own W N
 v : n.vs.Own W N
 c : W.ownsRow N 3 1 n.cs.v n.cs.s.length (n.cs.s.map (Value.int .i64))
 kz : n.ks.L.length * 24 ≤ 140737488352000
 vz : n.vs.L.length * 24 ≤ 140737488352000
 cz : n.cs.s.length * 8 ≤ 140737488352000
theorem il_of_owns {W : World} {N : Nat} {t : IL} (h : W.ownsRow N 3 1 t.v t.s.length (t.s.map (Value.int .i64))) : t.Ok W := by
 obtain ⟨a,c,hv,hok,_⟩ := vok_of_owns h
 simp only [IL.v,Value.slice.injEq,true_and] at hv
 obtain ⟨rfl,rfl⟩ := hv
 exact ⟨row_of_owns2 h,fun e => by have := hok.n e; rw [List.length_map] at this; exact this,by have := hok.lc; rwa [List.length_map] at this⟩
theorem IL.Ok.vok {W : World} {t : IL} (h : t.Ok W) : VOk W t.a t.c (t.s.map (Value.int .i64)) := by
 refine ⟨fun i hi => ?_,fun e => by rw [List.length_map]; exact h.n e,by rw [List.length_map]; exact h.lc⟩
 have hi' : i < t.s.length := by rwa [List.length_map] at hi
 obtain ⟨b,o,ha,hc⟩ := h.r i hi'
 exact ⟨b,o,ha,by rw [hc,List.getElem_map]; simp [hi']⟩
theorem vok_il {W : World} {t : IL} (h : VOk W t.a t.c (t.s.map (Value.int .i64))) : t.Ok W := by
 refine ⟨fun i hi => ?_,fun e => by have := h.n e; rw [List.length_map] at this; exact this,by have := h.lc; rwa [List.length_map] at this⟩
 obtain ⟨b,o,ha,hc⟩ := h.r i (by rw [List.length_map]; exact hi)
 exact ⟨b,o,ha,by rw [hc,List.getElem_map]; simp [hi]⟩
theorem Nd.Own.ok {W : World} {N : Nat} {n : Nd} (h : n.Own W N) : n.Ok W := ⟨ownB_ok h.h h.hb.1 h.hb.2,h.k.ok,h.v.ok,il_of_owns h.c,h.kz,h.vz,h.cz⟩
theorem Nd.Own.below {W W' : World} {N : Nat} {n : Nd} (h : n.Own W N) (hb : Below W.heap.size W W') : n.Own W' N := ⟨h.h.below hb,h.hb,h.k.below hb,h.v.below hb,owns_below h.c hb,h.kz,h.vz,h.cz⟩
theorem Nd.Own.mono {W : World} {N M : Nat} {n : Nd} (h : n.Own W N) (hb : M ≤ N) : n.Own W M := ⟨h.h.mono hb,h.hb,h.k.mono hb,h.v.mono hb,owns_mono h.c hb,h.kz,h.vz,h.cz⟩
theorem Nd.Own.upd {W W' : World} {N : Nat} {S : Nat → Prop} {n : Nd} (h : n.Own W N) (hb : Upd S W W') (hs : ∀ b,N ≤ b → b < W.heap.size → ¬ S b) : n.Own W' N :=
 ⟨h.h.upd hb (fun k hk => hs k (h.h.owns.lt k hk).1 (h.h.owns.lt k hk).2),h.hb,h.k.upd hb hs,h.v.upd hb hs,owns_upd h.c hb (fun k hk => hs k (h.c.lt k hk).1 (h.c.lt k hk).2),h.kz,h.vz,h.cz⟩
theorem i_oneCell (zs : List Int) : ∀ u ∈ zs.map (Value.int .i64),u.oneCell' = true := by
 intro u hu
 obtain ⟨x,_,rfl⟩ := List.mem_map.1 hu
 rfl
def ClPost (w : World) (n : Nd) (e : Ending) (w' : World) : Prop :=
 ∃ m : Nd,e = .returned m.v ∧ m.p = n.p ∧ m.Own w' w.heap.size ∧ Below w.heap.size w w'
theorem below_drew {B : Nat} {w w' : World} (h : Below B w w') : Below B w w'.drew := ⟨h.os,h.tape,h.output,h.size,h.block⟩
def CtP (W : World) (L : List Tx) (l : Nat) (e : Ending) (w' : World) : Prop :=
 ∃ a c L',e = .returned (.slice a l c) ∧ L'.map (·.s) = L.map (·.s) ∧ L'.length = l ∧ (⟨a,c,L'⟩ : TL).Own w' W.heap.size ∧ Below W.heap.size W w'
theorem cloneTexts_p (a : Option Addr) (l c : Nat) (L : List Tx) (W : World) (h : (⟨a,c,L⟩ : TL).Ok W) (hl : L.length = l) (hm : l * 24 ≤ 140737488355000) : Calls Tryz.prog 162 #[.slice a l c] W (CtP W L l) := by
 subst hl
 refine (cloneTexts_any ⟨a,c,L⟩ W h hm).mono ?_
 rintro e w' ⟨⟨a',c',L'⟩,rfl,hp,ho,hb⟩
 have hl : L'.length = L.length := by have := congrArg List.length hp; simpa [TL.p] using this
 exact ⟨a',c',L',by simp only [TL.v,hl],hp,hl,ho,hb⟩
set_option maxHeartbeats 3200000 in
theorem clone_any (n : Nd) (w : World) (hn : n.Ok w) :
  Calls Tryz.prog 141 #[n.v] w (ClPost w n) := by
 obtain ⟨lv,⟨ha,hc,hs⟩,ri,⟨ka,kc,K⟩,⟨va,vc,V⟩,⟨ca,cc,C⟩⟩ := n
 have HH : Hid (∀ W,Below w.heap.size w W → Calls Tryz.prog 50 #[.slice ha hs.length hc] W fun e w' => ∃ v,e = .returned v ∧ OwnB w' W.heap.size 5 v hs ∧ Below W.heap.size W w') := fun W h => bclone_any ha hs.length hc hs W rfl (by have := hn.h.z; simp only at this; omega) hn.h.n (hn.h.below h).r
 have HK : Hid (∀ W,Below w.heap.size w W → Calls Tryz.prog 162 #[.slice ka K.length kc] W (CtP W K K.length)) := fun W h => cloneTexts_p ka K.length kc K W (hn.k.below h) rfl (by have := hn.kz; simp only at this; omega)
 have HV : Hid (∀ W,Below w.heap.size w W → Calls Tryz.prog 162 #[.slice va V.length vc] W (CtP W V V.length)) := fun W h => cloneTexts_p va V.length vc V W (hn.v.below h) rfl (by have := hn.vz; simp only at this; omega)
 have HC : Hid (∀ W,Below w.heap.size w W → Calls Tryz.prog 163 #[.slice ca C.length cc] W (ClnI W (C.map (Value.int .i64)))) := fun W h => clnI_any ca C.length cc (C.map (Value.int .i64)) W (by simp) (hn.c.below h).vok (i_oneCell C) (by have := hn.cz; simp only at this; omega)
 have hkz := hn.kz
 have hvz := hn.vz
 have hcz := hn.cz
 have HB8 : Hid (B8 hs ∧ hs.length ≤ 140737488351232) := ⟨hn.h.b8,hn.h.z⟩
 clear hn
 simp only at hkz hvz hcz
 have HKZ := hide hkz
 have HVZ := hide hvz
 have HCZ := hide hcz
 simp only [Nd.v,Tx.v,TL.v,IL.v]
 obtain ⟨lh,hlh⟩ : ∃ lh,hs.length = lh := ⟨_,rfl⟩
 obtain ⟨lk,hlk⟩ : ∃ lk,K.length = lk := ⟨_,rfl⟩
 obtain ⟨lw,hlw⟩ : ∃ lw,V.length = lw := ⟨_,rfl⟩
 obtain ⟨lc,hlc⟩ : ∃ lc,C.length = lc := ⟨_,rfl⟩
 rw [hlh] at HH
 rw [hlk] at HK
 rw [hlw] at HV
 rw [hlc] at HC
 rw [hlh,hlk,hlw,hlc]
 replace hlh := hide hlh
 replace hlk := hide hlk
 replace hlw := hide hlw
 replace hlc := hide hlc
 obtain ⟨w0,hw0⟩ : ∃ w0,w0 = w.alloc (.cells #[.int .i64 lv,.slice ha lh hc,.int .i64 ri,.slice ka lk kc,.slice va lw vc,.slice ca lc cc] 110) := ⟨_,rfl⟩
 obtain ⟨w1,hw1⟩ : ∃ w1,w1 = w0.alloc (.cells #[.int .i64 0,.slice none 0 0,.int .i64 0,.slice none 0 0,.slice none 0 0,.slice none 0 0] 110) := ⟨_,rfl⟩
 have z0 : w0.heap.size = w.heap.size + 1 := by rw [hw0]; simp
 have z1 : w1.heap.size = w.heap.size + 2 := by rw [hw1]; simp; omega
 have b0 : Below w.heap.size w w0 := by rw [hw0]; exact (Below.refl _ _).alloc (Nat.le_refl _) _
 have b1 : Below w0.heap.size w0 w1 := by rw [hw1]; exact (Below.refl _ _).alloc (Nat.le_refl _) _
 have B1 : Hid (Below w.heap.size w w1) := b0.trans (b1.mono b0.size)
 have g0 : w0.heap[w.heap.size]? = some (.cells #[.int .i64 lv,.slice ha lh hc,.int .i64 ri,.slice ka lk kc,.slice va lw vc,.slice ca lc cc] 110 (0,0)) := by rw [hw0]; exact heap_alloc_new w _
 have G1 : Hid (w1.heap[w.heap.size + 1]? = some (.cells #[.int .i64 0,.slice none 0 0,.int .i64 0,.slice none 0 0,.slice none 0 0,.slice none 0 0] 110 (0,0))) := by show _ = _; rw [← z0,hw1]; exact heap_alloc_new w0 _
 have S1 := hide ((Six.of g0).below b1)
 obtain ⟨c0,c1,c2,c3,c4,c5⟩ := S1.out
 have HW : Hid ((w.alloc (.cells #[.int .i64 lv,.slice ha lh hc,.int .i64 ri,.slice ka lk kc,.slice va lw vc,.slice ca lc cc] 110)).alloc (.cells #[.int .i64 0,.slice none 0 0,.int .i64 0,.slice none 0 0,.slice none 0 0,.slice none 0 0] 110) = w1) := by show _ = _; rw [hw1,hw0]
 have Z1 := hide z1
 clear hw0 hw1 z0 z1 b0 b1 g0
 go_enter Tryz.func141,Tryz.ntmps141
 go_wp2_with fail
 rw [HW.out]
 clear HW
 go_region_held3 (fun W => W.cell? ⟨w.heap.size,0,none⟩ = some (.int .i64 lv) ∧ W.cell? ⟨w.heap.size,1,none⟩ = some (.slice ha lh hc) ∧ W.cell? ⟨w.heap.size,2,none⟩ = some (.int .i64 ri) ∧ W.cell? ⟨w.heap.size,3,none⟩ = some (.slice ka lk kc) ∧ W.cell? ⟨w.heap.size,4,none⟩ = some (.slice va lw vc) ∧ W.cell? ⟨w.heap.size,5,none⟩ = some (.slice ca lc cc)) (go_keep) (first
  | (go_at_call 163; refine (HC.out w4 B4.out).mono ?_; rintro e w5 ⟨v5,rfl,hv5,hb5⟩; obtain ⟨cn,cd,rfl,_⟩ := vok_of_owns hv5; rw [List.length_map,hlc.out] at hv5 ⊢; have V5 := hide hv5; have B45 := hide hb5; have B5 := hide (B4.out.trans (hb5.mono B4.out.size)); obtain ⟨i0,i1,i2,i3,i4,i5⟩ := S4.out.below hb5; have G5 : Hid (w5.heap[w.heap.size + 1]? = some (.cells #[.int .i64 0,.slice none 0 0,.int .i64 0,.slice none 0 0,.slice none 0 0,.slice none 0 0] 110 (0,0))) := (hb5.block _ (lt_of_block G4.out)).trans G4.out; obtain ⟨y0,y1,y2,y3,y4,y5⟩ := Six.of G5.out; have F5 := fun j => frozen_of G5.out j; clear hv5 hb5)
  | (go_at_call 162; refine (HV.out w3 B3.out).mono ?_; rintro e w4 ⟨vn,vd,V',rfl,hp4,hl4,ho4,hb4⟩; have P4 := hide hp4; have O4 := hide ho4; have L4 := hide hl4; have B34 := hide hb4; have B4 := hide (B3.out.trans (hb4.mono B3.out.size)); have S4 := hide (S3.out.below hb4); obtain ⟨f0,f1,f2,f3,f4,f5⟩ := S4.out; have G4 : Hid (w4.heap[w.heap.size + 1]? = some (.cells #[.int .i64 0,.slice none 0 0,.int .i64 0,.slice none 0 0,.slice none 0 0,.slice none 0 0] 110 (0,0))) := (hb4.block _ (lt_of_block G3.out)).trans G3.out; clear hp4 ho4 hb4 hl4)
  | (go_at_call 162; refine (HK.out w2 B2.out).mono ?_; rintro e w3 ⟨kn,kd,K',rfl,hp3,hl3,ho3,hb3⟩; have P3 := hide hp3; have O3 := hide ho3; have L3 := hide hl3; have B23 := hide hb3; have B3 := hide (B2.out.trans (hb3.mono B2.out.size)); have S3 := hide (S2.out.below hb3); obtain ⟨e0,e1,e2,e3,e4,e5⟩ := S3.out; have G3 : Hid (w3.heap[w.heap.size + 1]? = some (.cells #[.int .i64 0,.slice none 0 0,.int .i64 0,.slice none 0 0,.slice none 0 0,.slice none 0 0] 110 (0,0))) := (hb3.block _ (lt_of_block G2.out)).trans G2.out; clear hp3 ho3 hb3 hl3)
  | (go_at_call 50; refine (HH.out w1.drew (below_drew B1.out)).mono ?_; rintro e w2 ⟨v2,rfl,hv2,hb2'⟩; have hb2 : Below w1.heap.size w1 w2 := ⟨hb2'.os,hb2'.tape,hb2'.output,hb2'.size,hb2'.block⟩; obtain ⟨hn',hd',hve,_,_,_⟩ := hv2.slice; rw [hlh.out] at hve; subst hve; have V2 := hide hv2; have B12 := hide hb2; have B2 := hide (B1.out.trans (hb2.mono B1.out.size)); have S2 := hide (S1.out.below hb2); obtain ⟨d0,d1,d2,d3,d4,d5⟩ := S2.out; have G2 : Hid (w2.heap[w.heap.size + 1]? = some (.cells #[.int .i64 0,.slice none 0 0,.int .i64 0,.slice none 0 0,.slice none 0 0,.slice none 0 0] 110 (0,0))) := (hb2.block _ (lt_of_block G1.out)).trans G1.out; clear hv2 hb2 hb2')
  | fail)
 go_wp2_with fail
 (try simp only [Exit.inBlock,Exit.then])
 clear HH HK HV HC c0 c1 c2 c3 c4 c5 d0 d1 d2 d3 d4 d5 e0 e1 e2 e3 e4 e5 f0 f1 f2 f3 f4 f5
 have hz1 := Z1.out
 have h12 := B12.out.size
 have h23 := B23.out.size
 have h34 := B34.out.size
 have h45 := B45.out.size
 have G6 := six_block G5.out (.int .i64 lv) (.slice hn' lh hd') (.int .i64 ri) (.slice kn lk kd) (.slice vn lw vd) (.slice cn lc cd)
 have U6 : Upd (fun b => b = w.heap.size + 1) w5 (six6 w5 (w.heap.size + 1) (.int .i64 lv) (.slice hn' lh hd') (.int .i64 ri) (.slice kn lk kd) (.slice vn lw vd) (.slice cn lc cd)) := six_upd _ _ _ _ _ _ _ _ _ rfl
 obtain ⟨q0,q1,q2,q3,q4,q5⟩ := Six.of G6
 show bodyPost _ _ _ _ _ (six6 w5 (w.heap.size + 1) (.int .i64 lv) (.slice hn' lh hd') (.int .i64 ri) (.slice kn lk kd) (.slice vn lw vd) (.slice cn lc cd))
 generalize six6 w5 (w.heap.size + 1) (.int .i64 lv) (.slice hn' lh hd') (.int .i64 ri) (.slice kn lk kd) (.slice vn lw vd) (.slice cn lc cd) = w6 at *
 refine bodyPost_ret (v := .agg #[.int .i64 lv,.slice hn' lh hd',.int .i64 ri,.slice kn lk kd,.slice vn lw vd,.slice cn lc cd]) (by simp [results,Tryz.results141,go_sem,q0,q1,q2,q3,q4,q5]) rfl ⟨⟨lv,⟨hn',hd',hs⟩,ri,⟨kn,kd,K'⟩,⟨vn,vd,V'⟩,⟨cn,cd,C⟩⟩,?_,?_,?_,?_⟩
 ·simp only [Nd.v,Tx.v,TL.v,IL.v,hlh.out,L3.out,L4.out,hlc.out]
 ·simp only [Nd.p,TL.p]
  rw [show K'.map (·.s) = K.map (·.s) from P3.out,show V'.map (·.s) = V.map (·.s) from P4.out]
 ·have b35 : Below w3.heap.size w3 w5 := B34.out.trans (B45.out.mono B34.out.size)
  have b25 : Below w2.heap.size w2 w5 := B23.out.trans (b35.mono B23.out.size)
  have a2 : OwnB w2 w1.heap.size 5 (.slice hn' lh hd') hs := V2.out
  have far : ∀ N b,w1.heap.size ≤ N → N ≤ b → b < w5.heap.size → ¬ (b = w.heap.size + 1) := fun N b h1 h2 _ h3 => by omega
  refine ⟨?_,HB8.out,?_,?_,?_,by have := HKZ.out; rw [hlk.out] at this; simp only [L3.out]; exact this,by have := HVZ.out; rw [hlw.out] at this; simp only [L4.out]; exact this,HCZ.out⟩
  ·simp only [Tx.v,hlh.out]
   exact (ownB_upd' (a2.below b25) U6 (fun b => far _ b (Nat.le_refl _))).mono (by omega)
  ·exact ((O3.out.below b35).upd U6 (fun b => far _ b h12)).mono (by omega)
  ·exact ((O4.out.below B45.out).upd U6 (fun b => far _ b (by omega))).mono (by omega)
  ·simp only [IL.v,hlc.out]
   exact owns_mono (ownsI_upd V5.out U6 (fun b => far _ b (by omega))) (by omega)
 ·exact B5.out.trans (U6.below (by have := B5.out.size; omega) (fun k hk e => by omega))
def LiPost (w : World) (t : TypeId) (xs : List Value) (e : Ending) (w' : World) : Prop :=
 ∃ v,e = .returned v ∧ w'.ownsRow w.heap.size t 1 v xs.length xs ∧ Below w.heap.size w w'
set_option maxHeartbeats 800000 in
theorem clistT_any (a : Option Addr) (n c : Nat) (xs : List Value) (w : World) (hl : xs.length = n) (h : VOk w a c xs) (h1 : ∀ u ∈ xs,u.oneCell' = true) (hm : n * 24 ≤ 140737488355000) :
  Calls Tryz.prog 160 #[.slice a n c] w (LiPost w 29 xs) := by
 obtain ⟨i0,hi,hz0,hz1,hz2⟩ := info_parts infoT
 have HV := hide h
 have HL := hide hl
 have HN : Hid (a = none → n = 0 ∧ c = 0) := fun e => by have := h.n e; rw [hl] at this; exact this
 clear h hl
 go_enter Tryz.func160,Tryz.ntmps160
 go_wp2_with (first
  | (at_builtin; refine append_own_any rfl (.const (.slice none 0 0)) (.tmp 3) 106 rfl w.heap.size 29 i0 (.slice none 0 0) 1 24 Tryz.underlying106 hi hz0 hz1 hz2 rfl (by decide) (.slice none 0 0) 0 [] rfl (World.ownsRow_nil _ _ _ _) a n c xs rfl (by rw [HL.out]; omega) HN.out HV.out.r.news h1 (by unfold maxLen; omega) (by omega) (Nat.le_refl _) ?_; intro v4 w4 hown4 hg4; have HO4 := hide hown4; have HG4 := hide hg4; clear hown4 hg4)
  | fail)
 go_ret
 refine ⟨v4,rfl,?_,(Below.refl _ _).grown HG4.out (Nat.le_refl _) (fun k hk => by cases hk)⟩
 have := HO4.out
 simp only [List.nil_append,Nat.zero_add] at this
 rw [HL.out]; exact this
set_option maxHeartbeats 800000 in
theorem clistI_any (a : Option Addr) (n c : Nat) (xs : List Value) (w : World) (hl : xs.length = n) (h : VOk w a c xs) (h1 : ∀ u ∈ xs,u.oneCell' = true) (hm : n * 8 ≤ 140737488355000) :
  Calls Tryz.prog 139 #[.slice a n c] w (LiPost w 3 xs) := by
 obtain ⟨i0,hi,hz0,hz1,hz2⟩ := info_parts infoI
 have HV := hide h
 have HL := hide hl
 have HN : Hid (a = none → n = 0 ∧ c = 0) := fun e => by have := h.n e; rw [hl] at this; exact this
 clear h hl
 go_enter Tryz.func139,Tryz.ntmps139
 go_wp2_with (first
  | (at_builtin; refine append_own_any rfl (.const (.slice none 0 0)) (.tmp 3) 51 rfl w.heap.size 3 i0 (.int .i64 0) 1 8 Tryz.underlying51 hi hz0 hz1 hz2 rfl (by decide) (.slice none 0 0) 0 [] rfl (World.ownsRow_nil _ _ _ _) a n c xs rfl (by rw [HL.out]; omega) HN.out HV.out.r.news h1 (by unfold maxLen; omega) (by omega) (Nat.le_refl _) ?_; intro v4 w4 hown4 hg4; have HO4 := hide hown4; have HG4 := hide hg4; clear hown4 hg4)
  | fail)
 go_ret
 refine ⟨v4,rfl,?_,(Below.refl _ _).grown HG4.out (Nat.le_refl _) (fun k hk => by cases hk)⟩
 have := HO4.out
 simp only [List.nil_append,Nat.zero_add] at this
 rw [HL.out]; exact this
set_option maxHeartbeats 1600000 in
theorem copyTexts_any (t : TL) (w : World) (ht : t.Ok w) (hm : t.L.length * 24 ≤ 140737488355000) :
  Calls Tryz.prog 138 #[t.v] w (CtPost w t.L) := by
 obtain ⟨ka,kc,L⟩ := t
 simp only [TL.v] at hm ⊢
 obtain ⟨l,hl⟩ : ∃ l,L.length = l := ⟨_,rfl⟩
 have HCL := hide (clistT_any ka l kc (L.map Tx.v) w (by rw [List.length_map]; exact hl) ht.vok (tx_oneCell L) (by rw [← hl]; omega))
 have HOK : Hid (∀ W,Below w.heap.size w W → ∀ x ∈ L,x.Ok W) := fun W h x hx => (ht.ok x hx).below h
 rw [hl] at hm ⊢
 replace hl := hide hl
 clear ht
 go_enter Tryz.func138,Tryz.ntmps138
 go_wp2_with fail
 refine HCL.out.mono ?_
 rintro e w1 ⟨v,rfl,hown,hb1⟩
 obtain ⟨oa,oc,rfl,_,_⟩ := vok_of_owns hown
 rw [List.length_map,hl.out] at hown ⊢
 have H0 : Hid (CtI w w1 (.slice oa l oc) L []) := ⟨Nat.zero_le _,by rw [hl.out]; simpa using hown,fun x hx => (by cases hx),rfl,hb1⟩
 clear hown hb1 HCL
 go_wp2_with fail
 go_loopw [10] (fun q wr => ∃ C : List Tx,q = .int .i64 (C.length : Nat) ∧ Hid (CtI w wr (.slice oa l oc) L C)) (fun q _ => l - (intOf q).toNat)
 case atStart => exact ⟨[],rfl,H0⟩
 case round =>
  clear H0
  obtain ⟨C,rfl,HI⟩ := hrel
  rename World => wr
  have hle := HI.out.le
  rw [hl.out] at hle
  obtain ⟨i,hi⟩ : ∃ i,C.length = i := ⟨_,rfl⟩
  rw [hi] at hle ⊢
  replace hi := hide hi
  by_cases hlt : i < l
  ·have j1 : (i : Int) < (l : Int) := by omega
   have hiL : i < L.length := by rw [hl.out]; exact hlt
   have hrow := HI.out.row
   rw [hi.out,List.drop_eq_getElem_cons hiL,hl.out] at hrow
   obtain ⟨g,rfl,hgN,cur,hg,hcs,hcm⟩ : ∃ g,oa = some ⟨g,0,none⟩ ∧ w.heap.size ≤ g ∧ ∃ cur,wr.heap[g]? = some (.cells cur 29 (0,0)) ∧ cur.size = oc ∧ oc ≤ maxLen := by
    rcases hrow.2 with ⟨hv,h0⟩ | ⟨g,cap,cur,hv,hb,hh,h1,h2,h3,h4⟩
    ·omega
    ·cases hv; exact ⟨g,rfl,hb,cur,hh,by omega,h2⟩
   have s0 := hrow.cells (g := g) rfl i L[i].v (get_mid _ hi.out)
   rw [Addr.add_lit,Nat.zero_add] at s0
   have OK := hide (HOK.out wr HI.out.b L[i] (List.getElem_mem hiL))
   obtain ⟨x,hx⟩ : ∃ x,x = L[i] := ⟨_,rfl⟩
   rw [← hx] at s0 OK hrow
   have HRW := hide hrow
   have HX := hide hx
   have HG := hide hg
   unfold Tx.v at s0
   obtain ⟨nk,hnk⟩ : ∃ nk,x.s.length = nk := ⟨_,rfl⟩
   rw [hnk] at s0
   have hlg := lt_of_block hg
   have HBC := hide (bclone_any x.a nk x.c x.s wr hnk (by have := OK.out.z; omega) (by have := OK.out.n; rw [hnk] at this; exact this) OK.out.r)
   replace hnk := hide hnk
   clear hrow hx hg
   go_wp2_with fail
   refine HBC.out.mono ?_
   rintro e w2 ⟨v2,rfl,hv2,hb2⟩
   obtain ⟨na,nc,hve,_,_,_⟩ := hv2.slice
   rw [hnk.out] at hve
   subst hve
   have c2 : w2.cell? ⟨g,i,none⟩ = some (.slice x.a nk x.c) := (hb2.cell (p := ⟨g,i,none⟩) hlg).trans s0
   have g2 : w2.heap[g]? = some (.cells cur 29 (0,0)) := (hb2.block g hlg).trans HG.out
   have f2 : w2.frozen? ⟨g,i,none⟩ = false := by simp [World.frozen?,g2]
   have G2 := hide g2
   have V2 := hide hv2
   have B2 := hide hb2
   clear s0 g2 hv2 hb2 HBC
   go_wp2_with fail
   have HNEW : Hid (CtI w (w2.setCell ⟨g,i,none⟩ (.slice na nk nc)) (.slice (some ⟨g,0,none⟩) l oc) L (C ++ [⟨na,nc,x.s⟩])) := by
    have hci := hi.out
    have hnv : (⟨na,nc,x.s⟩ : Tx).v = .slice na nk nc := by simp only [Tx.v,hnk.out]
    have hbw : Below w.heap.size w w2 := HI.out.b.trans (B2.out.mono HI.out.b.size)
    have U : Upd (fun b => b = g) w2 (w2.setCell ⟨g,i,none⟩ (.slice na nk nc)) := upd_set _ _ _ _ _ rfl
    refine ⟨by rw [List.length_append,List.length_singleton,hci]; omega,?_,?_,?_,?_⟩
    ·have h1 := own_setV (owns_below HRW.out B2.out) i (.slice na nk nc)
     have h2 := set_mid (D := L.drop (i + 1)) x ⟨na,nc,x.s⟩ hci
     rw [hnv] at h2
     rw [h2] at h1
     rw [hl.out,List.length_append,List.length_singleton,hci]
     exact h1
    ·intro y hy
     rcases List.mem_append.1 hy with hy | hy
     ·exact ((HI.out.each y hy).below B2.out).upd U (typ_ne ((HI.out.each y hy).below B2.out) G2.out)
     ·obtain rfl : y = ⟨na,nc,x.s⟩ := by simpa using hy
      have h1 : OwnB w2 w.heap.size 5 (⟨na,nc,x.s⟩ : Tx).v x.s := by rw [hnv]; exact V2.out.mono HI.out.b.size
      exact h1.upd U (typ_ne h1 G2.out)
    ·rw [List.map_append,HI.out.s,List.length_append,List.length_singleton,hci,take_next hiL,List.map_append,HX.out]
     rfl
    ·exact hbw.trans (U.below (by have := hbw.size; omega) (fun k hk e => by omega))
   clear G2 V2 B2 c2 f2
   go_roundw
   case rel => exact ⟨_,by rw [List.length_append,List.length_singleton,hi.out]; go_num,HNEW⟩
   case measure => simp [intOf]; omega
  ·have j1 : ¬ (i : Int) < (l : Int) := by omega
   obtain rfl : i = l := by omega
   have HF : Hid (CtPost w L (.returned (.slice oa i oc)) wr) := by
    have hd : L.drop C.length = [] := List.drop_eq_nil_of_le (by rw [hl.out,hi.out]; exact Nat.le_refl _)
    have hs := HI.out.s
    rw [List.take_of_length_le (by rw [hl.out,hi.out]; exact Nat.le_refl _)] at hs
    have hr := HI.out.row
    rw [hd,List.append_nil,hl.out] at hr
    refine ⟨⟨oa,oc,C⟩,by simp only [TL.v,hi.out],hs,⟨by simp only [TL.v,hi.out]; exact hr,HI.out.each,fun x hx => ?_⟩,HI.out.b⟩
    have : x.s ∈ L.map (·.s) := by rw [← hs]; exact List.mem_map.2 ⟨x,hx,rfl⟩
    obtain ⟨y,hy,hys⟩ := List.mem_map.1 this
    have := HOK.out w (Below.refl _ _) y hy
    rw [← hys]
    exact ⟨this.b8,this.z⟩
   go_wp2_with fail
   go_ret
   exact HF.out
def Tri (W : World) (b : Nat) (x0 x1 x2 : Value) : Prop := W.cell? ⟨b,0,none⟩ = some x0 ∧ W.cell? ⟨b,1,none⟩ = some x1 ∧ W.cell? ⟨b,2,none⟩ = some x2
theorem Tri.below {W W' : World} {b : Nat} {x0 x1 x2 : Value} (h : Tri W b x0 x1 x2) (hb : Below W.heap.size W W') : Tri W' b x0 x1 x2 := by
 have hl : b < W.heap.size := World.block_lt_of_cell? W ⟨b,0,none⟩ h.1
 obtain ⟨h0,h1,h2⟩ := h
 exact ⟨(hb.cell (p := ⟨b,0,none⟩) hl).trans h0,(hb.cell (p := ⟨b,1,none⟩) hl).trans h1,(hb.cell (p := ⟨b,2,none⟩) hl).trans h2⟩
theorem Tri.of {W : World} {b : Nat} {T : TypeId} {x0 x1 x2 : Value} (h : W.heap[b]? = some (.cells #[x0,x1,x2] T (0,0))) : Tri W b x0 x1 x2 := by
 refine ⟨?_,?_,?_⟩ <;> (rw [cell_of_row _ _ _ _ _ _ h]; rfl)
def tri3 (W : World) (b : Nat) (x0 x1 x2 : Value) : World := ((W.setCell ⟨b,0,none⟩ x0).setCell ⟨b,1,none⟩ x1).setCell ⟨b,2,none⟩ x2
theorem tri_block {W : World} {b : Nat} {T : TypeId} {a0 a1 a2 : Value} (h : W.heap[b]? = some (.cells #[a0,a1,a2] T (0,0))) (x0 x1 x2 : Value) : (tri3 W b x0 x1 x2).heap[b]? = some (.cells #[x0,x1,x2] T (0,0)) := by
 have := block_setCell (block_setCell (block_setCell h 0 x0) 1 x1) 2 x2
 exact this
theorem tri_upd (S : Nat → Prop) (W : World) (b : Nat) (x0 x1 x2 : Value) (h : S b) : Upd S W (tri3 W b x0 x1 x2) :=
 (((Upd.refl S W).setCell _ _ (fun _ => h)).setCell _ _ (fun _ => h)).setCell _ _ (fun _ => h)
def HcPost (w : World) (lv ri : Int) (l : Nat) (hs : List Int) (e : Ending) (w' : World) : Prop :=
 ∃ a c,e = .returned (.agg #[.int .i64 lv,.slice a l c,.int .i64 ri]) ∧ OwnB w' w.heap.size 5 (.slice a l c) hs ∧ Below w.heap.size w w'
set_option maxHeartbeats 1600000 in
theorem copyHead_any (lv ri : Int) (t : Tx) (w : World) (ht : t.Ok w) :
  Calls Tryz.prog 112 #[.agg #[.int .i64 lv,t.v,.int .i64 ri]] w (HcPost w lv ri t.s.length t.s) := by
 obtain ⟨ha,hc,hs⟩ := t
 have HH : Hid (∀ W,Below w.heap.size w W → Calls Tryz.prog 50 #[.slice ha hs.length hc] W fun e w' => ∃ v,e = .returned v ∧ OwnB w' W.heap.size 5 v hs ∧ Below W.heap.size W w') := fun W h => bclone_any ha hs.length hc hs W rfl (by have := ht.z; simp only at this; omega) ht.n (ht.below h).r
 clear ht
 simp only [Tx.v]
 obtain ⟨lh,hlh⟩ : ∃ lh,hs.length = lh := ⟨_,rfl⟩
 rw [hlh] at HH ⊢
 replace hlh := hide hlh
 obtain ⟨w0,hw0⟩ : ∃ w0,w0 = w.alloc (.cells #[.int .i64 lv,.slice ha lh hc,.int .i64 ri] 105) := ⟨_,rfl⟩
 obtain ⟨w1,hw1⟩ : ∃ w1,w1 = w0.alloc (.cells #[.int .i64 0,.slice none 0 0,.int .i64 0] 105) := ⟨_,rfl⟩
 have z0 : w0.heap.size = w.heap.size + 1 := by rw [hw0]; simp
 have z1 : w1.heap.size = w.heap.size + 2 := by rw [hw1]; simp; omega
 have b0 : Below w.heap.size w w0 := by rw [hw0]; exact (Below.refl _ _).alloc (Nat.le_refl _) _
 have b1 : Below w0.heap.size w0 w1 := by rw [hw1]; exact (Below.refl _ _).alloc (Nat.le_refl _) _
 have B1 : Hid (Below w.heap.size w w1) := b0.trans (b1.mono b0.size)
 have g0 : w0.heap[w.heap.size]? = some (.cells #[.int .i64 lv,.slice ha lh hc,.int .i64 ri] 105 (0,0)) := by rw [hw0]; exact heap_alloc_new w _
 have G1 : Hid (w1.heap[w.heap.size + 1]? = some (.cells #[.int .i64 0,.slice none 0 0,.int .i64 0] 105 (0,0))) := by show _ = _; rw [← z0,hw1]; exact heap_alloc_new w0 _
 have S1 := hide ((Tri.of g0).below b1)
 obtain ⟨c0,c1,c2⟩ := S1.out
 have HW : Hid ((w.alloc (.cells #[.int .i64 lv,.slice ha lh hc,.int .i64 ri] 105)).alloc (.cells #[.int .i64 0,.slice none 0 0,.int .i64 0] 105) = w1) := by show _ = _; rw [hw1,hw0]
 have Z1 := hide z1
 clear hw0 hw1 z0 z1 b0 b1 g0
 go_enter Tryz.func112,Tryz.ntmps112
 go_wp2_with fail
 rw [HW.out]
 clear HW
 go_region_held3 (fun W => W.cell? ⟨w.heap.size,0,none⟩ = some (.int .i64 lv) ∧ W.cell? ⟨w.heap.size,1,none⟩ = some (.slice ha lh hc) ∧ W.cell? ⟨w.heap.size,2,none⟩ = some (.int .i64 ri)) (go_keep) (first
  | (go_at_call 50; refine (HH.out w1.drew (below_drew B1.out)).mono ?_; rintro e w2 ⟨v2,rfl,hv2,hb2'⟩; have hb2 : Below w1.heap.size w1 w2 := ⟨hb2'.os,hb2'.tape,hb2'.output,hb2'.size,hb2'.block⟩; obtain ⟨hn',hd',hve,_,_,_⟩ := hv2.slice; rw [hlh.out] at hve; subst hve; have V2 := hide hv2; have B12 := hide hb2; have B2 := hide (B1.out.trans (hb2.mono B1.out.size)); have S2 := hide (S1.out.below hb2); obtain ⟨d0,d1,d2⟩ := S2.out; have G2 : Hid (w2.heap[w.heap.size + 1]? = some (.cells #[.int .i64 0,.slice none 0 0,.int .i64 0] 105 (0,0))) := (hb2.block _ (lt_of_block G1.out)).trans G1.out; obtain ⟨y0,y1,y2⟩ := Tri.of G2.out; have F5 := fun j => frozen_of G2.out j; clear hv2 hb2 hb2')
  | fail)
 go_wp2_with fail
 (try simp only [Exit.inBlock,Exit.then])
 clear HH c0 c1 c2 d0 d1 d2
 have hz1 := Z1.out
 have h12 := B12.out.size
 have G6 := tri_block G2.out (.int .i64 lv) (.slice hn' lh hd') (.int .i64 ri)
 have U6 : Upd (fun b => b = w.heap.size + 1) w2 (tri3 w2 (w.heap.size + 1) (.int .i64 lv) (.slice hn' lh hd') (.int .i64 ri)) := tri_upd _ _ _ _ _ _ rfl
 obtain ⟨q0,q1,q2⟩ := Tri.of G6
 show bodyPost _ _ _ _ _ (tri3 w2 (w.heap.size + 1) (.int .i64 lv) (.slice hn' lh hd') (.int .i64 ri))
 generalize tri3 w2 (w.heap.size + 1) (.int .i64 lv) (.slice hn' lh hd') (.int .i64 ri) = w6 at *
 refine bodyPost_ret (v := .agg #[.int .i64 lv,.slice hn' lh hd',.int .i64 ri]) (by simp [results,Tryz.results112,go_sem,q0,q1,q2]) rfl ⟨hn',hd',rfl,?_,?_⟩
 ·have a2 : OwnB w2 w1.heap.size 5 (.slice hn' lh hd') hs := V2.out
  exact (ownB_upd' a2 U6 (fun b h1 h2 h3 => by omega)).mono (by omega)
 ·exact B2.out.trans (U6.below (by have := B2.out.size; omega) (fun k hk e => by omega))
theorem copyTexts_p (a : Option Addr) (l c : Nat) (L : List Tx) (W : World) (h : (⟨a,c,L⟩ : TL).Ok W) (hl : L.length = l) (hm : l * 24 ≤ 140737488355000) : Calls Tryz.prog 138 #[.slice a l c] W (CtP W L l) := by
 subst hl
 refine (copyTexts_any ⟨a,c,L⟩ W h hm).mono ?_
 rintro e w' ⟨⟨a',c',L'⟩,rfl,hp,ho,hb⟩
 have hp' : L'.map (·.s) = L.map (·.s) := hp
 have hll : L'.length = L.length := by have := congrArg List.length hp'; simpa using this
 exact ⟨a',c',L',by simp only [TL.v,hll],hp',hll,ho,hb⟩
def BcPost (w : World) (lk lw lc : Nat) (K V : List Tx) (C : List Int) (e : Ending) (w' : World) : Prop :=
 ∃ kn kd K' vn vd V' cn cd,e = .returned (.agg #[.slice kn lk kd,.slice vn lw vd,.slice cn lc cd]) ∧ K'.map (·.s) = K.map (·.s) ∧ V'.map (·.s) = V.map (·.s) ∧ K'.length = lk ∧ V'.length = lw ∧
  (⟨kn,kd,K'⟩ : TL).Own w' w.heap.size ∧ (⟨vn,vd,V'⟩ : TL).Own w' w.heap.size ∧ w'.ownsRow w.heap.size 3 1 (.slice cn lc cd) lc (C.map (Value.int .i64)) ∧ Below w.heap.size w w'
set_option maxHeartbeats 3200000 in
theorem copyBody_any (k v : TL) (c : IL) (w : World) (hk : k.Ok w) (hv : v.Ok w) (hc : c.Ok w) (kz : k.L.length * 24 ≤ 140737488352000) (vz : v.L.length * 24 ≤ 140737488352000) (cz : c.s.length * 8 ≤ 140737488352000) :
  Calls Tryz.prog 113 #[.agg #[k.v,v.v,c.v]] w (BcPost w k.L.length v.L.length c.s.length k.L v.L c.s) := by
 obtain ⟨ka,kc,K⟩ := k
 obtain ⟨va,vc,V⟩ := v
 obtain ⟨ca,cc,C⟩ := c
 simp only at kz vz cz
 have HK : Hid (∀ W,Below w.heap.size w W → Calls Tryz.prog 138 #[.slice ka K.length kc] W (CtP W K K.length)) := fun W h => copyTexts_p ka K.length kc K W (hk.below h) rfl (by omega)
 have HV : Hid (∀ W,Below w.heap.size w W → Calls Tryz.prog 138 #[.slice va V.length vc] W (CtP W V V.length)) := fun W h => copyTexts_p va V.length vc V W (hv.below h) rfl (by omega)
 have HC : Hid (∀ W,Below w.heap.size w W → Calls Tryz.prog 139 #[.slice ca C.length cc] W (LiPost W 3 (C.map (Value.int .i64)))) := fun W h => clistI_any ca C.length cc _ W (by simp) (hc.below h).vok (i_oneCell C) (by omega)
 clear hk hv hc kz vz cz
 simp only [TL.v,IL.v]
 obtain ⟨lk,hlk⟩ : ∃ lk,K.length = lk := ⟨_,rfl⟩
 obtain ⟨lw,hlw⟩ : ∃ lw,V.length = lw := ⟨_,rfl⟩
 obtain ⟨lc,hlc⟩ : ∃ lc,C.length = lc := ⟨_,rfl⟩
 rw [hlk] at HK
 rw [hlw] at HV
 rw [hlc] at HC
 rw [hlk,hlw,hlc]
 replace hlk := hide hlk
 replace hlw := hide hlw
 replace hlc := hide hlc
 obtain ⟨w0,hw0⟩ : ∃ w0,w0 = w.alloc (.cells #[.slice ka lk kc,.slice va lw vc,.slice ca lc cc] 108) := ⟨_,rfl⟩
 obtain ⟨w1,hw1⟩ : ∃ w1,w1 = w0.alloc (.cells #[.slice none 0 0,.slice none 0 0,.slice none 0 0] 108) := ⟨_,rfl⟩
 have z0 : w0.heap.size = w.heap.size + 1 := by rw [hw0]; simp
 have z1 : w1.heap.size = w.heap.size + 2 := by rw [hw1]; simp; omega
 have b0 : Below w.heap.size w w0 := by rw [hw0]; exact (Below.refl _ _).alloc (Nat.le_refl _) _
 have b1 : Below w0.heap.size w0 w1 := by rw [hw1]; exact (Below.refl _ _).alloc (Nat.le_refl _) _
 have B1 : Hid (Below w.heap.size w w1) := b0.trans (b1.mono b0.size)
 have g0 : w0.heap[w.heap.size]? = some (.cells #[.slice ka lk kc,.slice va lw vc,.slice ca lc cc] 108 (0,0)) := by rw [hw0]; exact heap_alloc_new w _
 have G1 : Hid (w1.heap[w.heap.size + 1]? = some (.cells #[.slice none 0 0,.slice none 0 0,.slice none 0 0] 108 (0,0))) := by show _ = _; rw [← z0,hw1]; exact heap_alloc_new w0 _
 have S1 := hide ((Tri.of g0).below b1)
 obtain ⟨c0,c1,c2⟩ := S1.out
 have HW : Hid ((w.alloc (.cells #[.slice ka lk kc,.slice va lw vc,.slice ca lc cc] 108)).alloc (.cells #[.slice none 0 0,.slice none 0 0,.slice none 0 0] 108) = w1) := by show _ = _; rw [hw1,hw0]
 have Z1 := hide z1
 clear hw0 hw1 z0 z1 b0 b1 g0
 go_enter Tryz.func113,Tryz.ntmps113
 go_wp2_with fail
 rw [HW.out]
 clear HW
 go_region_held3 (fun W => W.cell? ⟨w.heap.size,0,none⟩ = some (.slice ka lk kc) ∧ W.cell? ⟨w.heap.size,1,none⟩ = some (.slice va lw vc) ∧ W.cell? ⟨w.heap.size,2,none⟩ = some (.slice ca lc cc)) (go_keep) (first
  | (go_at_call 139; refine (HC.out w4 B4.out).mono ?_; rintro e w5 ⟨v5,rfl,hv5,hb5⟩; obtain ⟨cn,cd,rfl,_⟩ := vok_of_owns hv5; rw [List.length_map,hlc.out] at hv5 ⊢; have V5 := hide hv5; have B45 := hide hb5; have B5 := hide (B4.out.trans (hb5.mono B4.out.size)); obtain ⟨i0,i1,i2⟩ := S4.out.below hb5; have G5 : Hid (w5.heap[w.heap.size + 1]? = some (.cells #[.slice none 0 0,.slice none 0 0,.slice none 0 0] 108 (0,0))) := (hb5.block _ (lt_of_block G4.out)).trans G4.out; obtain ⟨y0,y1,y2⟩ := Tri.of G5.out; have F5 := fun j => frozen_of G5.out j; clear hv5 hb5)
  | (go_at_call 138; refine (HV.out w3 B3.out).mono ?_; rintro e w4 ⟨vn,vd,V',rfl,hp4,hl4,ho4,hb4⟩; have P4 := hide hp4; have O4 := hide ho4; have L4 := hide hl4; have B34 := hide hb4; have B4 := hide (B3.out.trans (hb4.mono B3.out.size)); have S4 := hide (S3.out.below hb4); obtain ⟨f0,f1,f2⟩ := S4.out; have G4 : Hid (w4.heap[w.heap.size + 1]? = some (.cells #[.slice none 0 0,.slice none 0 0,.slice none 0 0] 108 (0,0))) := (hb4.block _ (lt_of_block G3.out)).trans G3.out; clear hp4 ho4 hb4 hl4)
  | (go_at_call 138; refine (HK.out w1.drew (below_drew B1.out)).mono ?_; rintro e w3 ⟨kn,kd,K',rfl,hp3,hl3,ho3,hb3'⟩; have hb3 : Below w1.heap.size w1 w3 := ⟨hb3'.os,hb3'.tape,hb3'.output,hb3'.size,hb3'.block⟩; have P3 := hide hp3; have O3 := hide ho3; have L3 := hide hl3; have B23 := hide hb3; have B3 := hide (B1.out.trans (hb3.mono B1.out.size)); have S3 := hide (S1.out.below hb3); obtain ⟨e0,e1,e2⟩ := S3.out; have G3 : Hid (w3.heap[w.heap.size + 1]? = some (.cells #[.slice none 0 0,.slice none 0 0,.slice none 0 0] 108 (0,0))) := (hb3.block _ (lt_of_block G1.out)).trans G1.out; clear hp3 ho3 hb3 hb3' hl3)
  | fail)
 go_wp2_with fail
 (try simp only [Exit.inBlock,Exit.then])
 clear HK HV HC c0 c1 c2 e0 e1 e2 f0 f1 f2
 have hz1 := Z1.out
 have h23 := B23.out.size
 have h34 := B34.out.size
 have h45 := B45.out.size
 have G6 := tri_block G5.out (.slice kn lk kd) (.slice vn lw vd) (.slice cn lc cd)
 have U6 : Upd (fun b => b = w.heap.size + 1) w5 (tri3 w5 (w.heap.size + 1) (.slice kn lk kd) (.slice vn lw vd) (.slice cn lc cd)) := tri_upd _ _ _ _ _ _ rfl
 obtain ⟨q0,q1,q2⟩ := Tri.of G6
 show bodyPost _ _ _ _ _ (tri3 w5 (w.heap.size + 1) (.slice kn lk kd) (.slice vn lw vd) (.slice cn lc cd))
 generalize tri3 w5 (w.heap.size + 1) (.slice kn lk kd) (.slice vn lw vd) (.slice cn lc cd) = w6 at *
 have b35 : Below w3.heap.size w3 w5 := B34.out.trans (B45.out.mono B34.out.size)
 refine bodyPost_ret (v := .agg #[.slice kn lk kd,.slice vn lw vd,.slice cn lc cd]) (by simp [results,Tryz.results113,go_sem,q0,q1,q2]) rfl ⟨kn,kd,K',vn,vd,V',cn,cd,rfl,P3.out,P4.out,L3.out,L4.out,?_,?_,?_,?_⟩
 ·have a3 : (⟨kn,kd,K'⟩ : TL).Own w3 w1.heap.size := O3.out
  exact ((a3.below b35).upd U6 (fun b h1 h2 h3 => by omega)).mono (by omega)
 ·exact ((O4.out.below B45.out).upd U6 (fun b h1 h2 h3 => by omega)).mono (by omega)
 ·exact owns_mono (ownsI_upd V5.out U6 (fun b h1 h2 h3 => by omega)) (by omega)
 ·exact B5.out.trans (U6.below (by have := B5.out.size; omega) (fun k hk e => by omega))
end Go.Proofs.YtljnapejgjffjaaGreat
