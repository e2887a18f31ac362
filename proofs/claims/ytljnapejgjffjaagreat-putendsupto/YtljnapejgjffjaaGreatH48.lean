/- Texts of one's own. -/
import Derived.Test.YtljnapejgjffjaaGreatH41
import Derived.WalkMore
import Derived.Deep.LoopGhost
namespace Go.Proofs.YtljnapejgjffjaaGreat
open Go.RowKit
set_option maxRecDepth 100000
theorem own_tyE {w : World} {N : Nat} {e : TypeId} {size : Nat} {v : Value} {n : Nat} {xs : List Value} (h : w.ownsRow N e size v n xs) {k : Nat} (hk : v.ownBlock = some k) : ∃ cur,w.heap[k]? = some (.cells cur e (0,0)) ∧ N ≤ k := by
 rcases h.2 with ⟨hv,_⟩ | ⟨g,cap,cur,hv,hb,hh,_⟩
 ·rw [hv] at hk; cases hk
 ·rw [hv] at hk
  cases hk
  exact ⟨cur,hh,hb⟩
structure TOwn (W : World) (N : Nat) (t : Tx) : Prop where
 o : OwnB W N 5 t.v t.s
 b : B8 t.s
 z : t.s.length ≤ 140737488351232
theorem TOwn.nil (W : World) (N : Nat) : TOwn W N nilT := ⟨OwnB.nil _ _ _,B8.nil,Nat.zero_le _⟩
theorem TOwn.ok {W : World} {N : Nat} {t : Tx} (h : TOwn W N t) : t.Ok W := ownB_ok h.o h.b h.z
theorem TOwn.below {W W' : World} {N : Nat} {t : Tx} (h : TOwn W N t) (hb : Below W.heap.size W W') : TOwn W' N t := ⟨h.o.below hb,h.b,h.z⟩
theorem TOwn.mono {W : World} {N M : Nat} {t : Tx} (h : TOwn W N t) (hm : M ≤ N) : TOwn W M t := ⟨h.o.mono hm,h.b,h.z⟩
theorem TL.Own.at_ {W : World} {N : Nat} {t : TL} (h : t.Own W N) (i : Nat) : TOwn W N (t.L.getD i nilT) := by
 rcases Nat.lt_or_ge i t.L.length with hi | hi
 ·rw [getD_tx hi]
  exact ⟨h.each _ (List.getElem_mem hi),(h.b8 _ (List.getElem_mem hi)).1,(h.b8 _ (List.getElem_mem hi)).2⟩
 ·rw [List.getD_eq_getElem?_getD,List.getElem?_eq_none hi]
  exact TOwn.nil _ _
theorem TOwn.upd {S : Nat → Prop} {W W' : World} {N : Nat} {t : Tx} (h : TOwn W N t) (hu : Upd S W W') (hs : ∀ k cur,W.heap[k]? = some (.cells cur 5 (0,0)) → ¬ S k) : TOwn W' N t :=
 ⟨h.o.upd hu (fun k hk => by
  obtain ⟨cur,hh,_⟩ := own_tyE h.o.owns hk
  exact hs k cur hh),h.b,h.z⟩
def EnO (W : World) (N : Nat) (E : List En) : Prop := ∀ x ∈ E,TOwn W N x.1 ∧ TOwn W N x.2
theorem zip_own {W : World} {N : Nat} {k v : TL} (hk : k.Own W N) (hv : v.Own W N) : EnO W N (zipE k.L v.L) := fun x hx => by
 obtain ⟨i,_,rfl⟩ := List.mem_map.1 hx
 exact ⟨hk.at_ i,hv.at_ i⟩
theorem tl_p_getD (t : TL) (i : Nat) : (t.L.getD i nilT).s = t.p.getD i [] := by
 unfold TL.p
 rw [List.getD_eq_getElem?_getD,List.getD_eq_getElem?_getD,List.getElem?_map]
 cases t.L[i]? <;> rfl
theorem zip_ents {n : Nd} {p : NP} (h : n.p = p) : (zipE n.ks.L n.vs.L).map enP = p.ents := by
 subst h
 unfold zipE NP.ents
 rw [List.map_map]
 have e : n.p.ks.length = n.ks.L.length := n.ks.p_len
 rw [e]
 refine List.map_congr_left fun i _ => ?_
 show ((n.ks.L.getD i nilT).s,(n.vs.L.getD i nilT).s) = _
 rw [tl_p_getD,tl_p_getD]
 rfl
structure MpW (W0 : World) (w : World) (N A m : Nat) (F : Nat → Prop) (s : AS) (met : List Int) (ov : Value) (E : List En) : Prop where
 im : ∃ Em,IM w m Em ∧ Em.map (·.1) = met ∧ ∀ p ∈ Em,∃ q : Int,p.2 = .int .i64 q
 mt : Met s met
 row : w.ownsRow N 48 2 ov E.length (E.flatMap EnC)
 own : EnO w N E
 nm : N ≤ m
 bel : Below N W0 w
 px : PX w A F s
 lt : ∀ k,F k → k < N
 nw : N ≤ w.heap.size
def MpP (W : World) (R : List (List Int × List Int)) (e : Ending) (w' : World) : Prop := ∃ (E : List En) (v : Value),e = .returned v ∧ w'.ownsRow W.heap.size 48 2 v E.length (E.flatMap EnC) ∧ EnO w' W.heap.size E ∧ E.map enP = R ∧ Below W.heap.size W w'
section
variable {W0 w w' : World} {N A m : Nat} {F : Nat → Prop} {s : AS} {met : List Int} {ov : Value} {E : List En}
theorem MpW.below (h : MpW W0 w N A m F s met ov E) (hb : Below w.heap.size w w') : MpW W0 w' N A m F s met ov E := by
 obtain ⟨Em,h1,h2,h3⟩ := h.im
 exact ⟨⟨Em,h1.below hb,h2,h3⟩,h.mt,owns_blkN h.row (fun k hk => hb.block k (by obtain ⟨c,hh,_⟩ := own_tyE h.row hk; exact lt_of_block hh)),fun x hx => ⟨(h.own x hx).1.below hb,(h.own x hx).2.below hb⟩,h.nm,h.bel.trans (hb.mono h.nw),h.px.below hb,h.lt,Nat.le_trans h.nw hb.size⟩
theorem MpW.meet (h : MpW W0 w N A m F s met ov E) {Em : List (Int × Value)} {id q : Int} (h1 : IM w' m (Em ++ [(id,.int .i64 q)])) (h2 : Em.map (·.1) = met) (h3 : ∀ p ∈ Em,∃ q : Int,p.2 = .int .i64 q) (hu : Upd (fun k => k = m) w w') (hm : Met s (met ++ [id])) : MpW W0 w' N A m F s (met ++ [id]) ov E := by
 have hmm : ∀ k cur T,w.heap[k]? = some (.cells cur T (0,0)) → ¬ k = m := fun k cur T hh e => by
  obtain ⟨Em',h4,_⟩ := h.im
  obtain ⟨es,cl,hb,_⟩ := h4.e
  rw [e,hb] at hh
  cases hh
 refine ⟨⟨_,h1,by rw [List.map_append,h2]; rfl,fun p hp => ?_⟩,hm,owns_blkN h.row (fun k hk => ?_),fun x hx => ⟨(h.own x hx).1.upd hu (fun k cur hh => hmm k cur _ hh),(h.own x hx).2.upd hu (fun k cur hh => hmm k cur _ hh)⟩,h.nm,h.bel.trans (hu.below h.nw (fun k hk e => by have := h.nm; omega)),h.px.upd hu (fun k hk e => by have := h.lt k hk; have := h.nm; omega),h.lt,Nat.le_trans h.nw hu.size⟩
 ·rcases List.mem_append.1 hp with hp | hp
  ·exact h3 p hp
  ·rw [List.mem_singleton.1 hp]; exact ⟨q,rfl⟩
 ·obtain ⟨c,hh,_⟩ := own_tyE h.row hk
  exact hu.block k (lt_of_block hh) (hmm k _ _ hh)
theorem MpW.more (h : MpW W0 w N A m F s met ov E) {E' : List En} {v' : Value} (ho : EnO w N E') (h1 : w'.ownsRow N 48 2 v' (E ++ E').length ((E ++ E').flatMap EnC)) (hg : w.grownBy w' ov.ownBlock) : MpW W0 w' N A m F s met v' (E ++ E') := by
 have hu : Upd (fun k => ov.ownBlock = some k) w w' := Upd.of_grown hg (fun k hk _ => hk)
 have hT : ∀ k cur T,w.heap[k]? = some (.cells cur T (0,0)) → T ≠ 48 → ¬ ov.ownBlock = some k := fun k cur T hh hT e => by
  obtain ⟨c,h2,_⟩ := own_tyE h.row e
  rw [hh] at h2
  cases h2
  exact hT rfl
 obtain ⟨Em,h2,h3,h4⟩ := h.im
 refine ⟨⟨Em,h2.upd hu (fun e => ?_),h3,h4⟩,h.mt,h1,fun x hx => ?_,h.nm,h.bel.trans (hu.below h.nw (fun k hk e => ?_)),h.px.upd hu (fun k hk e => ?_),h.lt,Nat.le_trans h.nw hu.size⟩
 ·obtain ⟨c,h5,_⟩ := own_tyE h.row e
  obtain ⟨es,cl,hb,_⟩ := h2.e
  rw [hb] at h5
  cases h5
 ·rcases List.mem_append.1 hx with hx | hx
  ·exact ⟨(h.own x hx).1.upd hu (fun k cur hh => hT k cur _ hh (by decide)),(h.own x hx).2.upd hu (fun k cur hh => hT k cur _ hh (by decide))⟩
  ·exact ⟨(ho x hx).1.upd hu (fun k cur hh => hT k cur _ hh (by decide)),(ho x hx).2.upd hu (fun k cur hh => hT k cur _ hh (by decide))⟩
 ·obtain ⟨c,_,h5⟩ := own_tyE h.row e
  omega
 ·obtain ⟨c,_,h5⟩ := own_tyE h.row e
  have := h.lt k hk
  omega
end
theorem imAt_int {Em : List (Int × Value)} (h3 : ∀ p ∈ Em,∃ q : Int,p.2 = .int .i64 q) (id : Int) : ∃ q : Int,(imAt Em id).getD (.int .i64 0) = .int .i64 q := by
 cases h : imAt Em id with
 | none => exact ⟨0,rfl⟩
 | some v =>
  obtain ⟨q,hq⟩ := h3 _ (imAt_mem h)
  exact ⟨q,hq⟩
theorem imAt_isSome {Em : List (Int × Value)} (hn : (Em.map (·.1)).Nodup) (id : Int) : (imAt Em id).isSome = decide (id ∈ Em.map (·.1)) := by
 by_cases h : id ∈ Em.map (·.1)
 ·obtain ⟨p,hp,rfl⟩ := List.mem_map.1 h
  rw [imAt_some hn hp,decide_eq_true h]; rfl
 ·rw [imAt_none h,decide_eq_false h]; rfl
set_option maxHeartbeats 12800000 in
theorem smap_any {W : World} {A : Nat} {F : Nat → Prop} {s : AS} (hp : PX W A F s) (C0 : Int → Prop) (hC0 : C0 s.root) (hC1 : ∀ id,C0 id → s.inn id → (s.n id).lv ≤ 0 → C0 (s.n id).ri) (hC2 : ∀ id,C0 id → s.inn id → ¬ (s.n id).lv ≤ 0 → C0 ((s.n id).cs.getD 0 0)) (hB : ∀ id,C0 id → s.inn id → (s.n id).ks.length ≤ 1048576) :
  Calls Tryz.prog 28 #[.pointer (some ⟨A,0,none⟩)] W (MpP W s.map) := by
 obtain ⟨iE,hiE,hzE0,hzE1,hzE2⟩ := info_parts infoEn
 obtain ⟨iI,hiI,hzI0,hzI1,hzI2⟩ := info_parts infoI
 have MM := fun t => run_makeMap (P := Tryz.prog) t W
 obtain ⟨w1,hw1⟩ : ∃ x,x = W.alloc (.map #[] 0) := ⟨_,rfl⟩
 have b1 : Below W.heap.size W w1 := by rw [hw1]; exact (Below.refl _ _).alloc (Nat.le_refl _) _
 have H1 : Hid (MpW W w1 W.heap.size A W.heap.size F s [] (.slice none 0 0) []) := ⟨⟨[],by rw [hw1]; exact IM.new W,rfl,fun p hp => (by cases hp)⟩,Met.nil s,World.ownsRow_nil _ _ _ _,fun x hx => (by cases hx),Nat.le_refl _,b1,hp.below b1,hp.lt,b1.size⟩
 rw [← hw1] at MM
 have HRT := hide (px_root (hp.below b1))
 have HBB := hide hB
 have HC1 := hide hC1
 have HC2 := hide hC2
 have hsl := (px_len hp).1
 obtain ⟨R,hR⟩ : ∃ R,R = s.map := ⟨_,rfl⟩
 rw [← hR]
 have HR : Hid (R = s.mapF (s.sl.length + 1) [] false s.root (([] : List En).map enP)) := hR
 obtain ⟨root,hroot⟩ : ∃ root,root = s.root := ⟨_,rfl⟩
 rw [← hroot] at HRT HR hC0
 have HC0 := hide hC0
 obtain ⟨m,hm⟩ : ∃ m,m = W.heap.size := ⟨_,rfl⟩
 rw [← hm] at MM
 have H1' : Hid (MpW W w1 W.heap.size A m F s [] (.slice none 0 0) []) := by rw [hm]; exact H1.out
 clear hw1 b1 hp hB hR hroot hm H1 hC0 hC1 hC2
 go_enter Tryz.func28,Tryz.ntmps28
 go_wp2_with fail
 go_step3
 go_wp2_with fail
 refine keep HRT.out ?_
 clear MM HRT
 go_wp2_with fail
 go_step3
 go_wp2_with fail
 go_loopg [3,5,6] (s.sl.length + 1) (fun gn q3 q5 q6 wr => ∃ id leaf oa on oc,q3 = .slice oa on oc ∧ q5 = .int .i64 id ∧ q6 = .bool leaf ∧ Hid (∃ met E,MpW W wr W.heap.size A m F s met (.slice oa on oc) E ∧ E.length = on ∧ R = s.mapF gn met leaf id (E.map enP) ∧ gn + met.length = s.sl.length + 1 ∧ E.length ≤ met.length * 1048576 ∧ C0 id))
 case atStart => exact ⟨root,false,none,0,0,rfl,rfl,rfl,[],[],H1'.out,rfl,HR.out,rfl,Nat.zero_le _,HC0.out⟩
 case round =>
  clear H1' HR HC0
  obtain ⟨id,leaf,oa,on,oc,rfl,rfl,rfl,HD⟩ := hrel
  rename World => wr
  obtain ⟨met,E,hmw,hon,hr,hgn,hEz,hcid⟩ := HD.out
  have HCI := hide hcid
  have hml := hmw.mt.len
  obtain ⟨g',hg'⟩ : ∃ g',gk = g' + 1 := ⟨gk - 1,by omega⟩
  subst hg'
  have HRD := hide (sread_any hmw.px id)
  have HMW := hide hmw
  have HRR := hide hr
  have HN : Hid (E.length = on ∧ g' + 1 + met.length = s.sl.length + 1 ∧ E.length ≤ met.length * 1048576 ∧ met.length ≤ s.sl.length) := ⟨hon,hgn,hEz,hml⟩
  obtain ⟨er,her⟩ : ∃ er,er = s.wordE id := ⟨_,rfl⟩
  rw [← her] at HRD
  have HER := hide her
  clear hmw hon hr hgn hEz hml HD her hcid
  go_wp2_with fail
  refine HRD.out.mono ?_
  rintro e w3 ⟨⟨lv,⟨ha,hc,hs⟩,ri,⟨ka,kc,K⟩,⟨va,vc,V⟩,⟨ca,cc,C⟩⟩,rfl,hnp,hno,hb3⟩
  have HNP := hide hnp
  simp only [Nd.v,Tx.v,TL.v,IL.v]
  obtain ⟨lh,hq1⟩ : ∃ z,hs.length = z := ⟨_,rfl⟩
  obtain ⟨lk,hq2⟩ : ∃ z,K.length = z := ⟨_,rfl⟩
  obtain ⟨lw,hq3⟩ : ∃ z,V.length = z := ⟨_,rfl⟩
  obtain ⟨lc,hq4⟩ : ∃ z,C.length = z := ⟨_,rfl⟩
  rw [hq1,hq2,hq3,hq4]
  obtain ⟨w4,hw4⟩ : ∃ z,z = w3.alloc (.cells #[.int .i64 lv,.slice ha lh hc,.int .i64 ri,.slice ka lk kc,.slice va lw vc,.slice ca lc cc] 110) := ⟨_,rfl⟩
  have b4 : Below w3.heap.size w3 w4 := by rw [hw4]; exact (Below.refl _ _).alloc (Nat.le_refl _) _
  have G4 : Hid (w4.heap[w3.heap.size]? = some (.cells #[.int .i64 lv,.slice ha lh hc,.int .i64 ri,.slice ka lk kc,.slice va lw vc,.slice ca lc cc] 110 (0,0))) := by show _ = _; rw [hw4]; exact heap_alloc_new w3 _
  have HW4 := hide hw4
  have HNO : Hid ((⟨lv,⟨ha,hc,hs⟩,ri,⟨ka,kc,K⟩,⟨va,vc,V⟩,⟨ca,cc,C⟩⟩ : Nd).Own w4 W.heap.size) := (hno.below b4).mono HMW.out.nw
  have MW4 := hide (HMW.out.below (hb3.trans (b4.mono hb3.size)))
  have HQ := hide (And.intro hq1 (And.intro hq2 (And.intro hq3 hq4)))
  have HZ4 : Hid (m < w3.heap.size) := by obtain ⟨Em,h1,_⟩ := HMW.out.im; exact Nat.lt_of_lt_of_le h1.lt hb3.size
  clear hq1 hq2 hq3 hq4 hw4 b4 hnp hno hb3 HRD HMW
  go_upto_region 7 with fail
  rw [← HW4.out]
  clear HW4
  obtain ⟨Em,him,hem,hei⟩ := MW4.out.im
  obtain ⟨q,hq⟩ := imAt_int hei id
  have LK := him.look (P := Tryz.prog) Tryz.underlying139 Tryz.underlying3 (z0 := .int .i64 0) (by simp [zeroValue,typeInfo,hiI,hzI0]) id true
  rw [if_pos rfl,hq,imAt_isSome him.nd,hem] at LK
  have hnd := him.nd
  have LN := fun ty => him.len (P := Tryz.prog) Tryz.underlying139 ty
  have HIM := hide him
  have HEM := hide hem
  have HEI := hide hei
  clear him hem hei hq hnd
  have HOUT : Hid (∀ Y,MpW W Y W.heap.size A m F s met (.slice oa on oc) E → R = E.map enP → MpP W R (.returned (.slice oa on oc)) Y) := fun Y h1 h2 => ⟨E,_,rfl,h1.row,h1.own,h2.symm,h1.bel⟩
  by_cases hgo : s.inn id ∧ id ∉ met
  ·have her0 : er = 0 := HER.out.trans (if_pos hgo.1)
   subst her0
   rw [decide_eq_false hgo.2] at LK
   obtain ⟨lE,hlE⟩ : ∃ x,Em.length = x := ⟨_,rfl⟩
   rw [hlE] at LN
   obtain ⟨w5,hrun,him5,hu5⟩ := HIM.out.store (P := Tryz.prog) Tryz.underlying139 Tryz.underlying3 id (.int .i64 (lE : Nat)) (by rw [HEM.out]; exact hgo.2)
   have hmt : Met s (met ++ [id]) := Met.snoc MW4.out.mt hgo.1 hgo.2
   have MW5 := hide (MW4.out.meet him5 HEM.out HEI.out hu5 hmt)
   have hne : ¬ w3.heap.size = m := by have := HZ4.out; omega
   have G5 : Hid (w5.heap[w3.heap.size]? = some (.cells #[.int .i64 lv,.slice ha lh hc,.int .i64 ri,.slice ka lk kc,.slice va lw vc,.slice ca lc cc] 110 (0,0))) := hu5.heap G4.out hne
   have hTyp : ∀ k cur T,w4.heap[k]? = some (.cells cur T (0,0)) → ¬ k = m := fun k cur T hh e => by
    obtain ⟨es,cl,hb,_⟩ := HIM.out.e
    rw [e,hb] at hh
    cases hh
   have hrd : s.rd id = s.n id := if_pos hgo.1
   have hnp2 := HNP.out
   rw [hrd] at hnp2
   have HN2 := hide hnp2
   have HGO := hide hgo
   have HNO5 : Hid ((⟨ka,kc,K⟩ : TL).Own w5 W.heap.size ∧ (⟨va,vc,V⟩ : TL).Own w5 W.heap.size ∧ w5.ownsRow W.heap.size 3 1 (.slice ca C.length cc) C.length (C.map (Value.int .i64)) ∧ V.length * 24 ≤ 140737488352000) := by
    have ow : ∀ {e : TypeId} {v : Value} {n : Nat} {xs : List Value},w4.ownsRow W.heap.size e 1 v n xs → w5.ownsRow W.heap.size e 1 v n xs := fun ho => owns_blkN ho (fun k hk => by
     obtain ⟨c,hh,_⟩ := own_tyE ho hk
     exact hu5.block k (lt_of_block hh) (hTyp k _ _ hh))
    have ob : ∀ {t : TL},t.Own w4 W.heap.size → t.Own w5 W.heap.size := fun ht => ⟨ow ht.row,fun x hx => (ht.each x hx).upd hu5 (fun k hk => by
     obtain ⟨c,hh,_⟩ := own_tyE (ht.each x hx).owns hk
     exact hTyp k _ _ hh),ht.b8⟩
    exact ⟨ob HNO.out.k,ob HNO.out.v,ow HNO.out.c,HNO.out.vz⟩
   clear hgo him5 hu5 hlE hnp2 hrd hTyp hmt HIM HEM HEI
   go_upto_region 8 with fail
   clear LK
   obtain ⟨z0,z1,z2,z3,z4,z5⟩ := Six.of G5.out
   by_cases hlv : lv ≤ 0
   ·-- LEAF
    have hk6 : lk ≤ 1048576 := by
     have h1 := HBB.out id HCI.out HGO.out.1
     rw [← HN2.out] at h1
     have h2 : (⟨ka,kc,K⟩ : TL).p.length ≤ 1048576 := h1
     rw [TL.p_len] at h2
     rw [← HQ.out.2.1]; exact h2
    have HEN := hide (sentries_any ⟨ka,kc,K⟩ ⟨va,vc,V⟩ ⟨ca,cc,C⟩ w5 HNO5.out.1.ok HNO5.out.2.1.ok (by show K.length ≤ _; rw [HQ.out.2.1]; exact hk6) (by show V.length ≤ _; have := HNO5.out.2.2.2; omega))
    simp only [TL.v,IL.v,HQ.out.2.1,HQ.out.2.2.1,HQ.out.2.2.2] at HEN
    obtain ⟨E',hE'⟩ : ∃ E',E' = zipE K V := ⟨_,rfl⟩
    rw [← hE'] at HEN
    have hEl : E'.length = lk := by rw [hE',zipE_len]; exact HQ.out.2.1
    have HOE : Hid (EnO w5 W.heap.size E') := by rw [hE']; exact zip_own HNO5.out.1 HNO5.out.2.1
    have HPE : Hid (E'.map enP = (s.n id).ents) := by rw [hE']; exact zip_ents HN2.out
    have HEL := hide hEl
    clear hE' hEl
    go_upto_region 12 with fail
    go_wp2_with fail
    refine HEN.out.mono ?_
    rintro e w6 ⟨ge,rfl,hrow6,hb6⟩
    rw [HEL.out] at hrow6 ⊢
    have MW6 := hide (MW5.out.below hb6)
    have HROW6 : Hid (w6.ownsRow W.heap.size 48 2 (.slice oa on oc) on (E.flatMap EnC)) := by
     have h1 := MW6.out.row
     rw [HN.out.1] at h1
     exact h1
    have HCE : Hid (∀ j u,(E'.flatMap EnC)[j]? = some u → w6.cell? ((⟨ge,0,none⟩ : Addr).add j) = some u) := fun j u hu => hrow6.cells (g := ge) rfl j u hu
    have HLE : Hid ((E'.flatMap EnC).length = lk * 2) := by show _ = _; rw [enC_len,HEL.out]
    have H1C : Hid (∀ u ∈ E'.flatMap EnC,u.oneCell' = true) := fun u hu => by
     obtain ⟨x,_,hx⟩ := List.mem_flatMap.1 hu
     simp only [EnC,List.mem_cons,List.not_mem_nil,or_false] at hx
     rcases hx with rfl | rfl <;> rfl
    have G6 : Hid (w6.heap[w3.heap.size]? = some (.cells #[.int .i64 lv,.slice ha lh hc,.int .i64 ri,.slice ka lk kc,.slice va lw vc,.slice ca lc cc] 110 (0,0))) := (hb6.block _ (lt_of_block G5.out)).trans G5.out
    have HO6 : Hid (EnO w6 W.heap.size E') := fun x hx => ⟨(HOE.out x hx).1.below hb6,(HOE.out x hx).2.below hb6⟩
    have hon6 : on ≤ 68719476736 := by have := HN.out; omega
    have HNW : Hid (W.heap.size ≤ w6.heap.size) := MW6.out.nw
    clear hrow6 hb6 HEN z0 z1 z2 z3 z4 z5
    go_upto_region 13 with (first
     | (at_builtin; refine append_own_any rfl (.tmp 47) (.tmp 50) 35 rfl W.heap.size 48 iE (.agg #[.slice none 0 0,.slice none 0 0]) 2 48 Tryz.underlying35 hiE hzE0 hzE1 hzE2 rfl (by decide) (.slice oa on oc) on (E.flatMap EnC) rfl HROW6.out (some ⟨ge,0,none⟩) lk lk (E'.flatMap EnC) rfl HLE.out (fun e => by cases e) (fun ad e => by cases e; exact HCE.out) H1C.out (by unfold maxLen; omega) (by omega) HNW.out ?_; intro v7 w7 h7 g7; have HR7 := hide h7; have HG7 := hide g7; clear h7 g7)
     | fail)
    have MW7 : Hid (MpW W w7 W.heap.size A m F s (met ++ [id]) v7 (E ++ E')) := by
     refine MW6.out.more HO6.out ?_ HG7.out
     rw [List.flatMap_append,List.length_append,HN.out.1,HEL.out]
     exact HR7.out
    obtain ⟨oa7,oc7,hv7⟩ : ∃ a c,v7 = .slice a (on + lk) c := by
     rcases HR7.out.2 with ⟨h1,h2⟩ | ⟨g,cap,cur,h1,_⟩
     ·exact ⟨none,0,by rw [h1,h2]⟩
     ·exact ⟨_,_,h1⟩
    subst hv7
    have G7 : w7.heap[w3.heap.size]? = some (.cells #[.int .i64 lv,.slice ha lh hc,.int .i64 ri,.slice ka lk kc,.slice va lw vc,.slice ca lc cc] 110 (0,0)) := (HG7.out.block _ (lt_of_block G6.out) (fun e => by
     obtain ⟨c,hh,_⟩ := own_tyE HROW6.out e.symm
     rw [G6.out] at hh
     cases hh)).trans G6.out
    obtain ⟨z0,z1,z2,z3,z4,z5⟩ := Six.of G7
    have HNX : Hid (∃ met' E'',MpW W w7 W.heap.size A m F s met' (.slice oa7 (on + lk) oc7) E'' ∧ E''.length = on + lk ∧ R = s.mapF g' met' true ri (E''.map enP) ∧ g' + met'.length = s.sl.length + 1 ∧ E''.length ≤ met'.length * 1048576 ∧ C0 ri) := by
     refine ⟨met ++ [id],E ++ E',MW7.out,by rw [List.length_append,HN.out.1,HEL.out],?_,?_,?_,?_⟩
     ·have h0 : (s.n id).lv ≤ 0 := by rw [← HN2.out]; exact hlv
      have h1 : (s.n id).ri = ri := by rw [← HN2.out]; rfl
      rw [HRR.out,mapF_leaf HGO.out h0,List.map_append,HPE.out,h1]
     ·rw [List.length_append,List.length_singleton]; have := HN.out.2.1; omega
     ·rw [List.length_append,List.length_append,List.length_singleton,HEL.out]; have := HN.out; omega
     ·have h0 : (s.n id).lv ≤ 0 := by rw [← HN2.out]; exact hlv
      have h1 := HC1.out id HCI.out HGO.out.1 (by first | exact h0 | omega)
      rw [← HN2.out] at h1
      exact h1
    clear G7
    go_wp2_with fail
    go_roundg g'
    case rel => exact ⟨ri,true,oa7,on + lk,oc7,rfl,rfl,rfl,HNX.out⟩
    case measure => omega
   ·-- INNER
    have h0 : ¬ (s.n id).lv ≤ 0 := by rw [← HN2.out]; exact hlv
    have hcs : (s.n id).cs = C := by rw [← HN2.out]; rfl
    by_cases hend : leaf = true ∨ C = []
    ·have hRE : R = E.map enP := by rw [HRR.out]; exact mapF_end HGO.out h0 (by rw [hcs]; exact hend)
     have HFIN : Hid (MpP W R (.returned (.slice oa on oc)) w5) := ⟨E,_,rfl,MW5.out.row,MW5.out.own,hRE.symm,MW5.out.bel⟩
     have hlc : leaf = false → lc = 0 := fun h => by
      rcases hend with h1 | h1
      ·rw [h] at h1; cases h1
      ·rw [← HQ.out.2.2.2,h1]; rfl
     clear h0 hcs hend hRE
     cases leaf with
     | true =>
      go_wp2_with fail
      (try rw [Exit.noGoto_ret])
      go_ret
      exact HFIN.out
     | false =>
      obtain rfl := hlc rfl
      clear hlc
      try simp only [show (((0 : Nat)) : Int) = 0 from rfl] at *
      go_wp2_with fail
      (try rw [Exit.noGoto_ret])
      go_ret
      exact HFIN.out
    ·obtain ⟨hlf,hC⟩ : leaf = false ∧ C ≠ [] := ⟨by cases leaf with | true => exact absurd (.inl rfl) hend | false => rfl,fun e => hend (.inr e)⟩
     have hl0 : 0 < C.length := List.length_pos_iff.2 hC
     have hrow := (il_of_owns (t := ⟨ca,cc,C⟩) HNO5.out.2.2.1).r
     simp only at hrow
     obtain ⟨bC,oC,hca,cC⟩ := hrow 0 hl0
     subst hca
     rw [Nat.add_zero] at cC
     have hRN : R = s.mapF g' (met ++ [id]) leaf (C.getD 0 0) (E.map enP) := by
      rw [HRR.out,mapF_down HGO.out h0 (by rw [hcs]; exact hend),hcs]
     subst hlf
     obtain ⟨nid,hnid⟩ : ∃ x,C.getD 0 0 = x := ⟨_,rfl⟩
     rw [hnid] at cC hRN
     have hl : 0 < lc := by rw [← HQ.out.2.2.2]; exact hl0
     have jl : ¬ (lc : Int) = 0 := by omega
     have jl2 : (0 : Int) < (lc : Int) := by omega
     have HNX : Hid (∃ met' E'',MpW W w5 W.heap.size A m F s met' (.slice oa on oc) E'' ∧ E''.length = on ∧ R = s.mapF g' met' false nid (E''.map enP) ∧ g' + met'.length = s.sl.length + 1 ∧ E''.length ≤ met'.length * 1048576 ∧ C0 nid) := by
      refine ⟨met ++ [id],E,MW5.out,HN.out.1,hRN,?_,?_,?_⟩
      ·rw [List.length_append,List.length_singleton]; have := HN.out.2.1; omega
      ·rw [List.length_append,List.length_singleton]; have := HN.out; omega
      ·have h1 := HC2.out id HCI.out HGO.out.1 (by first | exact h0 | omega)
       rw [hcs,hnid] at h1
       exact h1
     clear h0 hcs hend hC hl0 hrow hRN hnid
     go_wp2_with fail
     go_roundg g'
     case rel => exact ⟨nid,false,oa,on,oc,rfl,rfl,rfl,HNX.out⟩
     case measure => omega
  ·-- OUT
   have hRE : R = E.map enP := by rw [HRR.out]; exact mapF_stop hgo
   have HFIN := hide (HOUT.out w4 MW4.out hRE)
   by_cases hmem : id ∈ met
   ·rw [decide_eq_true hmem] at LK
    clear hRE hgo
    go_wp2_with fail
    (try rw [Exit.noGoto_ret])
    go_ret
    exact HFIN.out
   ·have her0 : er = 101 := HER.out.trans (if_neg (fun h => hgo ⟨h,hmem⟩))
    subst her0
    rw [decide_eq_false hmem] at LK
    clear hRE hgo
    go_wp2_with fail
    (try rw [Exit.noGoto_ret])
    go_ret
    exact HFIN.out
def EnRd (W : World) (oa : Option Addr) (E : List En) : Prop := ∀ j (h : j < E.length),∃ g,oa = some ⟨g,0,none⟩ ∧ W.cell? ⟨g,j * 2,none⟩ = some E[j].1.v ∧ W.cell? ⟨g,j * 2 + 1,none⟩ = some E[j].2.v ∧ E[j].1.Ok W ∧ E[j].2.Ok W
theorem EnRd.below {W Y : World} {oa : Option Addr} {E : List En} (h : EnRd W oa E) (hb : Below W.heap.size W Y) : EnRd Y oa E := fun j hj => by
 obtain ⟨g,h1,h2,h3,h4,h5⟩ := h j hj
 exact ⟨g,h1,(hb.cell (p := ⟨g,j * 2,none⟩) (World.block_lt_of_cell? W ⟨g,j * 2,none⟩ h2)).trans h2,(hb.cell (p := ⟨g,j * 2 + 1,none⟩) (World.block_lt_of_cell? W ⟨g,j * 2 + 1,none⟩ h3)).trans h3,h4.below hb,h5.below hb⟩
theorem EnRd.of {W : World} {N : Nat} {oa : Option Addr} {n oc : Nat} {E : List En} (hrow : W.ownsRow N 48 2 (.slice oa n oc) E.length (E.flatMap EnC)) (hown : EnO W N E) : EnRd W oa E := fun j h => by
 rcases hrow.2 with ⟨q1,q2⟩ | ⟨g,cap,cur,q1,q2,q3,q4,q5,q6,q7⟩
 ·omega
 ·simp only [Value.slice.injEq] at q1
  have e0 := enC_at E j 0 h (by omega)
  have e1 := enC_at E j 1 h (by omega)
  have cl : ∀ k u,(E.flatMap EnC)[k]? = some u → W.cell? ⟨g,k,none⟩ = some u := fun k u hu => by
   rw [cell_of_row _ _ _ _ _ _ q3,← Array.getElem?_toList]
   rw [← q7,List.getElem?_take] at hu
   split at hu
   ·exact hu
   ·cases hu
  have ho := hown E[j] (List.getElem_mem h)
  exact ⟨g,q1.1,cl _ _ e0,cl _ _ e1,ho.1.ok,ho.2.ok⟩
end Go.Proofs.YtljnapejgjffjaaGreat
