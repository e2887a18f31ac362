/- Texts of one's own. -/
import Derived.Test.YtljnapejgjffjaaGreatH17
namespace Go.Proofs.YtljnapejgjffjaaGreat
open Go.RowKit
set_option maxRecDepth 100000
def insL {α : Type} (l : List α) (i : Nat) (x : α) : List α := l.take i ++ x :: l.drop i
def remL {α : Type} (l : List α) (i : Nat) : List α := l.take i ++ l.drop (i + 1)
theorem insL_map {α β : Type} (f : α → β) (l : List α) (i : Nat) (x : α) : (insL l i x).map f = insL (l.map f) i (f x) := by simp [insL,List.map_take,List.map_drop]
theorem remL_map {α β : Type} (f : α → β) (l : List α) (i : Nat) : (remL l i).map f = remL (l.map f) i := by simp [remL,List.map_take,List.map_drop]
theorem insL_len {α : Type} (l : List α) (i : Nat) (x : α) : (insL l i x).length = l.length + 1 := by simp only [insL,List.length_append,List.length_take,List.length_cons,List.length_drop]; omega
theorem remL_len {α : Type} (l : List α) (i : Nat) : (remL l i).length ≤ l.length := by simp only [remL,List.length_append,List.length_take,List.length_drop]; omega
theorem insL_mem {α : Type} {l : List α} {i : Nat} {x y : α} (h : y ∈ insL l i x) : y = x ∨ y ∈ l := by
 rcases List.mem_append.1 h with h | h
 ·exact .inr (List.mem_of_mem_take h)
 ·rcases List.mem_cons.1 h with h | h
  ·exact .inl h
  ·exact .inr (List.mem_of_mem_drop h)
theorem remL_mem {α : Type} {l : List α} {i : Nat} {y : α} (h : y ∈ remL l i) : y ∈ l := by
 rcases List.mem_append.1 h with h | h
 ·exact List.mem_of_mem_take h
 ·exact List.mem_of_mem_drop h
def InTP (W : World) (L : List Tx) (i : Nat) (x : Tx) (l : Nat) (e : Ending) (w' : World) : Prop :=
 ∃ a c,e = .returned (.slice a (l + 1) c) ∧ VOk w' a c ((insL L i x).map Tx.v) ∧ (∀ y,a = some y → W.heap.size ≤ y.block) ∧ Below W.heap.size W w'
theorem insT_p (a : Option Addr) (l c i : Nat) (L : List Tx) (x : Tx) (W : World) (hO : VOk W a c (L.map Tx.v)) (hl : L.length = l) (hm : l * 24 ≤ 140737488355000) (hi : i ≤ 4611686018427387904) :
  Calls Tryz.prog 201 #[.slice a l c,.int .i64 (i : Int),.slice x.a x.s.length x.c] W (InTP W L i x l) := by
 refine (insT_any a l c i (L.map Tx.v) x.v W (by rw [List.length_map]; exact hl) hO (tx_oneCell L) ⟨_,_,_,rfl⟩ hm hi).mono ?_
 rintro e w' ⟨v,rfl,ho,hb⟩
 rw [List.length_map,hl] at ho
 obtain ⟨a',c',rfl,hok,hf⟩ := vok_of_owns ho
 refine ⟨a',c',rfl,?_,fun y hy => (hf y hy).1,hb⟩
 rw [insL_map]; exact hok
def ReTP (W : World) (a0 : Option Addr) (L : List Tx) (i : Nat) (e : Ending) (w' : World) : Prop :=
 ∃ a c,e = .returned (.slice a (remL L i).length c) ∧ VOk w' a c ((remL L i).map Tx.v) ∧ (∀ x,a = some x → (∃ y,a0 = some y ∧ y.block = x.block ∧ 0 < L.length) ∨ W.heap.size ≤ x.block ∨ (remL L i).length = 0) ∧ Below W.heap.size W w'
theorem remT_p (a : Option Addr) (l c i : Nat) (L : List Tx) (W : World) (hO : VOk W a c (L.map Tx.v)) (hl : L.length = l) (hm : l * 24 ≤ 140737488355000) (hi : i ≤ 4611686018427387904) :
  Calls Tryz.prog 156 #[.slice a l c,.int .i64 (i : Int)] W (ReTP W a L i) := by
 refine (rem_any a l c i (L.map Tx.v) W (by rw [List.length_map]; exact hl) hO (tx_slices L) hm hi).mono ?_
 rintro e w' ⟨a',c',rfl,hok,hb,hf⟩
 have e1 : (L.map Tx.v).take i ++ (L.map Tx.v).drop (i + 1) = (remL L i).map Tx.v := (remL_map Tx.v L i).symm
 rw [e1] at hok hf ⊢
 simp only [List.length_map] at hf ⊢
 exact ⟨a',c',rfl,hok,hf,hb⟩
def InIP (W : World) (s : List Int) (i : Nat) (x : Int) (l : Nat) (e : Ending) (w' : World) : Prop :=
 ∃ a c,e = .returned (.slice a (l + 1) c) ∧ VOk w' a c ((insL s i x).map (Value.int .i64)) ∧ (∀ y,a = some y → W.heap.size ≤ y.block) ∧ Below W.heap.size W w'
theorem insI_p (a : Option Addr) (l c i : Nat) (s : List Int) (x : Int) (W : World) (hO : VOk W a c (s.map (Value.int .i64))) (hl : s.length = l) (hm : l * 8 ≤ 140737488355000) (hi : i ≤ 4611686018427387904) :
  Calls Tryz.prog 202 #[.slice a l c,.int .i64 (i : Int),.int .i64 x] W (InIP W s i x l) := by
 refine (insI_any a l c i (s.map (Value.int .i64)) (.int .i64 x) W (by rw [List.length_map]; exact hl) hO (i_oneCell s) ⟨_,rfl⟩ hm hi).mono ?_
 rintro e w' ⟨v,rfl,ho,hb⟩
 rw [List.length_map,hl] at ho
 obtain ⟨a',c',rfl,hok,hf⟩ := vok_of_owns ho
 refine ⟨a',c',rfl,?_,fun y hy => (hf y hy).1,hb⟩
 rw [insL_map]; exact hok
def NP.with_ (p : NP) (key value : List Int) : NP :=
 if isIn p.ks key then { p with vs := insL (remL p.vs (cntB p.ks key)) (cntB p.ks key) value }
 else { p with ks := insL p.ks (cntB p.ks key) key,vs := insL p.vs (cntB p.ks key) value }
def NP.joined (p : NP) (key : List Int) (kid : Int) : NP :=
 if isIn p.ks key then p else { p with ks := insL p.ks (cntB p.ks key) key,cs := insL p.cs (cntB p.ks key + 1) kid }
theorem blk_one {W : World} {b : Nat} {T : TypeId} {x0 x1 x2 x3 x4 x5 : Value} (h : W.heap[b]? = some (.cells #[x0,x1,x2,x3,x4,x5] T (0,0))) (y : Value) :
  (W.setCell ⟨b,3,none⟩ y).heap[b]? = some (.cells #[x0,x1,x2,y,x4,x5] T (0,0)) ∧ (W.setCell ⟨b,4,none⟩ y).heap[b]? = some (.cells #[x0,x1,x2,x3,y,x5] T (0,0)) ∧ (W.setCell ⟨b,5,none⟩ y).heap[b]? = some (.cells #[x0,x1,x2,x3,x4,y] T (0,0)) :=
 ⟨block_setCell h 3 y,block_setCell h 4 y,block_setCell h 5 y⟩
def NdPost (w : World) (p : NP) (e : Ending) (w' : World) : Prop :=
 ∃ m : Nd,e = .returned m.v ∧ m.p = p ∧ m.Own w' w.heap.size ∧ Below w.heap.size w w'
def sixN (W : World) (b : Nat) (m : Nd) : World := six6 W b (.int .i64 m.lv) m.hi.v (.int .i64 m.ri) m.ks.v m.vs.v m.cs.v
theorem tail_six {w w5 : World} {m : Nd} {p : NP} {b N : Nat} {T : TypeId} {a0 a1 a2 a3 a4 a5 : Value} (hG : w5.heap[b]? = some (.cells #[a0,a1,a2,a3,a4,a5] T (0,0))) (hown : m.Own w5 N) (hp : m.p = p) (hw : w.heap.size ≤ b) (hN : b < N) (hb : Below w.heap.size w w5) :
  NdPost w p (.returned m.v) (sixN w5 b m) ∧ Six (sixN w5 b m) b (.int .i64 m.lv) m.hi.v (.int .i64 m.ri) m.ks.v m.vs.v m.cs.v := by
 have U : Upd (fun i => i = b) w5 (sixN w5 b m) := six_upd _ _ _ _ _ _ _ _ _ rfl
 exact ⟨⟨m,rfl,hp,(hown.upd U (fun i h1 _ e => by omega)).mono (by omega),hb.trans (U.below hb.size (fun k hk e => by omega))⟩,Six.of (six_block hG _ _ _ _ _ _)⟩
def NdBPost (w : World) (p : NP) (b : Bool) (e : Ending) (w' : World) : Prop :=
 ∃ v,e = .returned (.tuple #[v,.bool b]) ∧ NdPost w p (.returned v) w'
set_option maxHeartbeats 3200000 in
theorem with_any (n : Nd) (k v : Tx) (w : World) (hn : n.Ok w) (hk : k.Ok w) (hv : v.Ok w) (hz1 : n.ks.L.length * 24 ≤ 140737488351900) (hz2 : n.vs.L.length * 24 ≤ 140737488351900) :
  Calls Tryz.prog 184 #[n.v,k.v,v.v] w (NdPost w (n.p.with_ k.s v.s)) := by
 have HFI : Hid (∀ W,Below w.heap.size w W → Calls Tryz.prog 155 #[n.v,k.v] W fun e w' => e = .returned (.tuple #[.int .i64 (cntB n.ks.p k.s : Nat),.bool (isIn n.ks.p k.s)]) ∧ Below W.heap.size W w') := fun W h => find_any n k W (hn.below h) (hk.below h)
 have hcb := cntB_le n.ks.p k.s
 rw [TL.p_len] at hcb
 have HP : Hid (n.p.with_ k.s v.s = if isIn n.ks.p k.s then { n.p with vs := insL (remL n.vs.p (cntB n.ks.p k.s)) (cntB n.ks.p k.s) v.s } else { n.p with ks := insL n.ks.p (cntB n.ks.p k.s) k.s,vs := insL n.vs.p (cntB n.ks.p k.s) v.s }) := rfl
 have HOKN : Hid (∀ W,Below w.heap.size w W → n.Ok W) := fun W h => hn.below h
 have HOKK : Hid (∀ W,Below w.heap.size w W → k.Ok W) := fun W h => hk.below h
 have HOKV : Hid (∀ W,Below w.heap.size w W → v.Ok W) := fun W h => hv.below h
 obtain ⟨cb,hcb'⟩ : ∃ cb,cb = cntB n.ks.p k.s := ⟨_,rfl⟩
 obtain ⟨ib,hib⟩ : ∃ ib,ib = isIn n.ks.p k.s := ⟨_,rfl⟩
 rw [← hcb'] at HFI HP hcb
 rw [← hib] at HFI HP
 obtain ⟨P,hP⟩ : ∃ P,P = n.p.with_ k.s v.s := ⟨_,rfl⟩
 rw [← hP] at HP ⊢
 clear hcb' hib hP hn hk hv
 obtain ⟨lv,⟨ha,hc,hs⟩,ri,⟨ka,kc,K⟩,⟨va,vc,V⟩,⟨ca,cc,C⟩⟩ := n
 simp only [Nd.v,Tx.v,TL.v,IL.v] at *
 obtain ⟨lh,hlh⟩ : ∃ lh,hs.length = lh := ⟨_,rfl⟩
 obtain ⟨lk,hlk⟩ : ∃ lk,K.length = lk := ⟨_,rfl⟩
 obtain ⟨lw,hlw⟩ : ∃ lw,V.length = lw := ⟨_,rfl⟩
 obtain ⟨lc,hlc⟩ : ∃ lc,C.length = lc := ⟨_,rfl⟩
 obtain ⟨lx,hlx⟩ : ∃ lx,k.s.length = lx := ⟨_,rfl⟩
 obtain ⟨ly,hly⟩ : ∃ ly,v.s.length = ly := ⟨_,rfl⟩
 rw [hlh,hlk,hlw,hlc,hlx] at HFI
 rw [hlk] at hz1 hcb
 rw [hlw] at hz2
 rw [hlh,hlk,hlw,hlc,hlx,hly]
 replace hlh := hide hlh
 replace hlk := hide hlk
 replace hlw := hide hlw
 replace hlc := hide hlc
 replace hlx := hide hlx
 replace hly := hide hly
 obtain ⟨w0,hw0⟩ : ∃ w0,w0 = w.alloc (.cells #[.int .i64 lv,.slice ha lh hc,.int .i64 ri,.slice ka lk kc,.slice va lw vc,.slice ca lc cc] 110) := ⟨_,rfl⟩
 obtain ⟨w1,hw1⟩ : ∃ w1,w1 = w0.alloc (.cells #[.int .i64 0,.slice none 0 0,.int .i64 0,.slice none 0 0,.slice none 0 0,.slice none 0 0] 110) := ⟨_,rfl⟩
 have z0 : w0.heap.size = w.heap.size + 1 := by rw [hw0]; simp
 have z1 : w1.heap.size = w.heap.size + 2 := by rw [hw1]; simp; omega
 have b0 : Below w.heap.size w w0 := by rw [hw0]; exact (Below.refl _ _).alloc (Nat.le_refl _) _
 have b1 : Below w0.heap.size w0 w1 := by rw [hw1]; exact (Below.refl _ _).alloc (Nat.le_refl _) _
 have B1 : Hid (Below w.heap.size w w1) := b0.trans (b1.mono b0.size)
 have g0 : w0.heap[w.heap.size]? = some (.cells #[.int .i64 lv,.slice ha lh hc,.int .i64 ri,.slice ka lk kc,.slice va lw vc,.slice ca lc cc] 110 (0,0)) := by rw [hw0]; exact heap_alloc_new w _
 have A1 : Hid (w1.heap[w.heap.size]? = some (.cells #[.int .i64 lv,.slice ha lh hc,.int .i64 ri,.slice ka lk kc,.slice va lw vc,.slice ca lc cc] 110 (0,0))) := (b1.block _ (by omega)).trans g0
 have G1 : Hid (w1.heap[w.heap.size + 1]? = some (.cells #[.int .i64 0,.slice none 0 0,.int .i64 0,.slice none 0 0,.slice none 0 0,.slice none 0 0] 110 (0,0))) := by show _ = _; rw [← z0,hw1]; exact heap_alloc_new w0 _
 have HW : Hid ((w.alloc (.cells #[.int .i64 lv,.slice ha lh hc,.int .i64 ri,.slice ka lk kc,.slice va lw vc,.slice ca lc cc] 110)).alloc (.cells #[.int .i64 0,.slice none 0 0,.int .i64 0,.slice none 0 0,.slice none 0 0,.slice none 0 0] 110) = w1) := by show _ = _; rw [hw1,hw0]
 have Z1 := hide z1
 obtain ⟨c0,c1,c2,c3,c4,c5⟩ := Six.of A1.out
 clear hw0 hw1 z0 z1 b0 b1 g0
 have hzi1 : cb ≤ 4611686018427387904 := by omega
 have hzi2 : cb ≤ 4611686018427387904 := by omega
 go_enter Tryz.func184,Tryz.ntmps184
 go_wp2_with fail
 rw [HW.out]
 go_wp2_with fail
 refine (HFI.out w1 B1.out).mono ?_
 rintro e w2 ⟨rfl,b2⟩
 have B12 := hide b2
 have B2 := hide (B1.out.trans (b2.mono B1.out.size))
 have A2 : Hid (w2.heap[w.heap.size]? = _) := (b2.block _ (lt_of_block A1.out)).trans A1.out
 have G2 : Hid (w2.heap[w.heap.size + 1]? = _) := (b2.block _ (lt_of_block G1.out)).trans G1.out
 obtain ⟨d0,d1,d2,d3,d4,d5⟩ := Six.of A2.out
 clear b2 HFI HW c0 c1 c2 c3 c4 c5
 have hs12 := B12.out.size
 have hz1' := Z1.out
 cases ib with
 | true =>
  have HR := hide (remT_p va lw vc cb (V) w2 ((HOKN.out w2 B2.out).v.vok) hlw.out (by omega) hzi1)
  have hll := remL_len V cb
  rw [hlw.out] at hll
  obtain ⟨lr,hlr⟩ : ∃ lr,lr = (remL (V) cb).length := ⟨_,rfl⟩
  unfold ReTP at HR
  rw [← hlr] at HR hll
  replace hlr := hide hlr
  go_wp2_with fail
  refine HR.out.mono ?_
  rintro e w3 ⟨ra,rc,rfl,hr3,hf3,b3⟩
  have B3 := hide (B2.out.trans (b3.mono B2.out.size))
  have A3 : Hid (w3.heap[w.heap.size]? = _) := (b3.block _ (lt_of_block A2.out)).trans A2.out
  have G3 : Hid (w3.heap[w.heap.size + 1]? = _) := (b3.block _ (lt_of_block G2.out)).trans G2.out
  obtain ⟨e0,e1,e2,e3,e4,e5⟩ := Six.of A3.out
  have f3 := frozen_of A3.out 4
  have U3 := upd_set (fun i => i = w.heap.size) w3 w.heap.size 4 (.slice ra (lr) rc) rfl
  have B3' : Hid (Below w.heap.size w (w3.setCell ⟨w.heap.size,4,none⟩ (.slice ra (lr) rc))) := B3.out.trans (U3.below B3.out.size (fun k hk e => by omega))
  have A3' : Hid ((w3.setCell ⟨w.heap.size,4,none⟩ (.slice ra (lr) rc)).heap[w.heap.size]? = _) := (blk_one A3.out (.slice ra (lr) rc)).2.1
  have G3' : Hid ((w3.setCell ⟨w.heap.size,4,none⟩ (.slice ra (lr) rc)).heap[w.heap.size + 1]? = _) := U3.heap G3.out (by omega)
  have FR3 : Hid (∀ x,ra = some x → 0 < ((remL (V) cb).map Tx.v).length → ¬ x.block = w.heap.size) := (fun x hx hp e => by
   rw [List.length_map,← hlr.out] at hp
   rcases hf3 x hx with ⟨y,hy,hyx,hV⟩ | h | h
   ·have := (HOKN.out w (Below.refl _ _)).v.vok.r.lt y hy (by rw [List.length_map]; exact hV)
    omega
   ·omega
   ·omega)
  have R3 : Hid (VOk (w3.setCell ⟨w.heap.size,4,none⟩ (.slice ra (lr) rc)) ra rc ((remL (V) cb).map Tx.v)) := hr3.upd U3 FR3.out
  have HI := hide (insT_p ra lr rc cb (remL (V) cb) v _ (R3.out) hlr.out.symm (by omega) hzi2)
  unfold InTP at HI
  rw [hly.out] at HI
  clear hr3 hf3 b3 U3 d0 d1 d2 d3 d4 d5 HR
  go_wp2_with fail
  generalize w3.setCell ⟨w.heap.size,4,none⟩ (.slice ra (lr) rc) = w3s at *
  refine HI.out.mono ?_
  rintro e w4 ⟨na,nc,rfl,hv4,hf4,b4⟩
  have B4 := hide (B3'.out.trans (b4.mono B3'.out.size))
  have A4 : Hid (w4.heap[w.heap.size]? = _) := (b4.block _ (lt_of_block A3'.out)).trans A3'.out
  have G4 : Hid (w4.heap[w.heap.size + 1]? = _) := (b4.block _ (lt_of_block G3'.out)).trans G3'.out
  have hlg := lt_of_block G3'.out
  have U4 := upd_set (fun i => i = w.heap.size) w4 w.heap.size 4 (.slice na (lr + 1) nc) rfl
  have B5 : Hid (Below w.heap.size w (w4.setCell ⟨w.heap.size,4,none⟩ (.slice na (lr + 1) nc))) := B4.out.trans (U4.below B4.out.size (fun k hk e => by omega))
  have A5 : Hid ((w4.setCell ⟨w.heap.size,4,none⟩ (.slice na (lr + 1) nc)).heap[w.heap.size]? = _) := (blk_one A4.out (.slice na (lr + 1) nc)).2.1
  have G5 : Hid ((w4.setCell ⟨w.heap.size,4,none⟩ (.slice na (lr + 1) nc)).heap[w.heap.size + 1]? = _) := U4.heap G4.out (by omega)
  have N5 : Hid (w.heap.size + 1 < (w4.setCell ⟨w.heap.size,4,none⟩ (.slice na (lr + 1) nc)).heap.size) := lt_of_block G5.out
  have HL1 : Hid ((remL (V) cb).length = lr) := hlr.out.symm
  have HL2 : Hid ((insL (remL (V) cb) (cb) v).length = lr + 1) := by show _ = _; rw [insL_len,hlr.out]
  have FR4 : Hid (∀ x,na = some x → 0 < ((insL (remL (V) cb) (cb) v).map Tx.v).length → ¬ x.block = w.heap.size) := (fun x hx hp e => by
   have := hf4 x hx
   omega)
  have HCL : Hid (Calls Tryz.prog 141 #[.agg #[.int .i64 lv,.slice ha lh hc,.int .i64 ri,.slice ka (lk) kc,.slice na (lr + 1) nc,.slice ca (lc) cc]] (w4.setCell ⟨w.heap.size,4,none⟩ (.slice na (lr + 1) nc)) (ClPost (w4.setCell ⟨w.heap.size,4,none⟩ (.slice na (lr + 1) nc)) ⟨lv,⟨ha,hc,hs⟩,ri,⟨ka,kc,K⟩,⟨na,nc,insL (remL (V) cb) (cb) v⟩,⟨ca,cc,C⟩⟩)) := by
   have hN := HOKN.out _ B5.out
   have h := clone_any ⟨lv,⟨ha,hc,hs⟩,ri,⟨ka,kc,K⟩,⟨na,nc,insL (remL (V) cb) (cb) v⟩,⟨ca,cc,C⟩⟩ _ ⟨hN.h,hN.k,vok_tl (hv4.upd U4 FR4.out) (fun x hx => (insL_mem hx).elim (fun e => by rw [e]; exact HOKV.out _ B5.out) (fun h => hN.v.ok x (remL_mem h))),hN.c,hN.kz,by simp only; rw [HL2.out]; omega,hN.cz⟩
   simp only [Nd.v,Tx.v,TL.v,IL.v,hlh.out,hlk.out,hlc.out,HL2.out] at h
   exact h
  obtain ⟨i0,i1,i2,i3,i4,i5⟩ := Six.of A4.out
  have f4 := frozen_of A4.out 4
  clear hv4 hf4 b4 U4 e0 e1 e2 e3 e4 e5 HI f3
  go_wp2_with fail
  generalize w4.setCell ⟨w.heap.size,4,none⟩ (.slice na (lr + 1) nc) = w5 at *
  refine HCL.out.mono ?_
  rintro e w6 ⟨m,rfl,hp6,ho6,b6⟩
  have HPP : Hid (m.p = P) := by
   show _ = _
   rw [hp6,HP.out]
   simp only [Nd.p,TL.p,if_true,insL_map,remL_map]
  have G6 : Hid (w6.heap[w.heap.size + 1]? = _) := (b6.block _ (lt_of_block G5.out)).trans G5.out
  have HT := hide (tail_six (w := w) G6.out ho6 HPP.out (by omega) N5.out (B5.out.trans (b6.mono B5.out.size)))
  obtain ⟨y0,y1,y2,y3,y4,y5⟩ := Six.of G6.out
  have F6 := fun j => frozen_of G6.out j
  clear hp6 ho6 b6 i0 i1 i2 i3 i4 i5 f4 HCL
  obtain ⟨lv6,⟨ha6,hc6,hs6⟩,ri6,⟨ka6,kc6,K6⟩,⟨va6,vc6,V6⟩,⟨ca6,cc6,C6⟩⟩ := m
  simp only [Nd.v,Tx.v,TL.v,IL.v]
  go_wp2_with fail
  (try simp only [Exit.inBlock,Exit.then])
  obtain ⟨hF,q0,q1,q2,q3,q4,q5⟩ := HT.out
  simp only [Nd.v,Tx.v,TL.v,IL.v] at q0 q1 q2 q3 q4 q5 hF
  show bodyPost _ _ _ _ _ (sixN w6 (w.heap.size + 1) ⟨lv6,⟨ha6,hc6,hs6⟩,ri6,⟨ka6,kc6,K6⟩,⟨va6,vc6,V6⟩,⟨ca6,cc6,C6⟩⟩)
  exact bodyPost_ret (v := .agg #[.int .i64 lv6,.slice ha6 hs6.length hc6,.int .i64 ri6,.slice ka6 K6.length kc6,.slice va6 V6.length vc6,.slice ca6 C6.length cc6]) (by simp [results,Tryz.results184,go_sem,q0,q1,q2,q3,q4,q5]) rfl hF
 | false =>
  have HR := hide (insT_p ka lk kc cb (K) k w2 ((HOKN.out w2 B2.out).k.vok) hlk.out (by omega) hzi1)
  unfold InTP at HR
  rw [hlx.out] at HR
  go_wp2_with fail
  refine HR.out.mono ?_
  rintro e w3 ⟨ra,rc,rfl,hr3,hf3,b3⟩
  have B3 := hide (B2.out.trans (b3.mono B2.out.size))
  have A3 : Hid (w3.heap[w.heap.size]? = _) := (b3.block _ (lt_of_block A2.out)).trans A2.out
  have G3 : Hid (w3.heap[w.heap.size + 1]? = _) := (b3.block _ (lt_of_block G2.out)).trans G2.out
  obtain ⟨e0,e1,e2,e3,e4,e5⟩ := Six.of A3.out
  have f3 := frozen_of A3.out 3
  have U3 := upd_set (fun i => i = w.heap.size) w3 w.heap.size 3 (.slice ra (lk + 1) rc) rfl
  have B3' : Hid (Below w.heap.size w (w3.setCell ⟨w.heap.size,3,none⟩ (.slice ra (lk + 1) rc))) := B3.out.trans (U3.below B3.out.size (fun k hk e => by omega))
  have A3' : Hid ((w3.setCell ⟨w.heap.size,3,none⟩ (.slice ra (lk + 1) rc)).heap[w.heap.size]? = _) := (blk_one A3.out (.slice ra (lk + 1) rc)).1
  have G3' : Hid ((w3.setCell ⟨w.heap.size,3,none⟩ (.slice ra (lk + 1) rc)).heap[w.heap.size + 1]? = _) := U3.heap G3.out (by omega)
  have FR3 : Hid (∀ x,ra = some x → 0 < ((insL (K) (cb) k).map Tx.v).length → ¬ x.block = w.heap.size) := (fun x hx hp e => by
   have := hf3 x hx
   omega)
  have R3 : Hid (VOk (w3.setCell ⟨w.heap.size,3,none⟩ (.slice ra (lk + 1) rc)) ra rc ((insL (K) (cb) k).map Tx.v)) := hr3.upd U3 FR3.out
  have HI := hide (insT_p va lw vc cb (V) v (w3.setCell ⟨w.heap.size,3,none⟩ (.slice ra (lk + 1) rc)) ((HOKN.out _ B3'.out).v.vok) hlw.out (by omega) hzi2)
  unfold InTP at HI
  rw [hly.out] at HI
  clear hr3 hf3 b3 U3 d0 d1 d2 d3 d4 d5 HR
  go_wp2_with fail
  generalize w3.setCell ⟨w.heap.size,3,none⟩ (.slice ra (lk + 1) rc) = w3s at *
  refine HI.out.mono ?_
  rintro e w4 ⟨na,nc,rfl,hv4,hf4,b4⟩
  have B4 := hide (B3'.out.trans (b4.mono B3'.out.size))
  have A4 : Hid (w4.heap[w.heap.size]? = _) := (b4.block _ (lt_of_block A3'.out)).trans A3'.out
  have G4 : Hid (w4.heap[w.heap.size + 1]? = _) := (b4.block _ (lt_of_block G3'.out)).trans G3'.out
  have hlg := lt_of_block G3'.out
  have U4 := upd_set (fun i => i = w.heap.size) w4 w.heap.size 4 (.slice na (lw + 1) nc) rfl
  have B5 : Hid (Below w.heap.size w (w4.setCell ⟨w.heap.size,4,none⟩ (.slice na (lw + 1) nc))) := B4.out.trans (U4.below B4.out.size (fun k hk e => by omega))
  have A5 : Hid ((w4.setCell ⟨w.heap.size,4,none⟩ (.slice na (lw + 1) nc)).heap[w.heap.size]? = _) := (blk_one A4.out (.slice na (lw + 1) nc)).2.1
  have G5 : Hid ((w4.setCell ⟨w.heap.size,4,none⟩ (.slice na (lw + 1) nc)).heap[w.heap.size + 1]? = _) := U4.heap G4.out (by omega)
  have N5 : Hid (w.heap.size + 1 < (w4.setCell ⟨w.heap.size,4,none⟩ (.slice na (lw + 1) nc)).heap.size) := lt_of_block G5.out
  have HL1 : Hid ((insL (K) (cb) k).length = lk + 1) := by show _ = _; rw [insL_len,hlk.out]
  have HL2 : Hid ((insL (V) (cb) v).length = lw + 1) := by show _ = _; rw [insL_len,hlw.out]
  have FR4 : Hid (∀ x,na = some x → 0 < ((insL (V) (cb) v).map Tx.v).length → ¬ x.block = w.heap.size) := (fun x hx hp e => by
   have := hf4 x hx
   omega)
  have HCL : Hid (Calls Tryz.prog 141 #[.agg #[.int .i64 lv,.slice ha lh hc,.int .i64 ri,.slice ra (lk + 1) rc,.slice na (lw + 1) nc,.slice ca (lc) cc]] (w4.setCell ⟨w.heap.size,4,none⟩ (.slice na (lw + 1) nc)) (ClPost (w4.setCell ⟨w.heap.size,4,none⟩ (.slice na (lw + 1) nc)) ⟨lv,⟨ha,hc,hs⟩,ri,⟨ra,rc,insL (K) (cb) k⟩,⟨na,nc,insL (V) (cb) v⟩,⟨ca,cc,C⟩⟩)) := by
   have hN := HOKN.out _ B5.out
   have h := clone_any ⟨lv,⟨ha,hc,hs⟩,ri,⟨ra,rc,insL (K) (cb) k⟩,⟨na,nc,insL (V) (cb) v⟩,⟨ca,cc,C⟩⟩ _ ⟨hN.h,vok_tl ((R3.out.below b4).upd U4 FR3.out) (fun x hx => (insL_mem hx).elim (fun e => by rw [e]; exact HOKK.out _ B5.out) (fun h => hN.k.ok x h)),vok_tl (hv4.upd U4 FR4.out) (fun x hx => (insL_mem hx).elim (fun e => by rw [e]; exact HOKV.out _ B5.out) (fun h => hN.v.ok x h)),hN.c,by simp only; rw [HL1.out]; omega,by simp only; rw [HL2.out]; omega,hN.cz⟩
   simp only [Nd.v,Tx.v,TL.v,IL.v,hlh.out,hlc.out,HL1.out,HL2.out] at h
   exact h
  obtain ⟨i0,i1,i2,i3,i4,i5⟩ := Six.of A4.out
  have f4 := frozen_of A4.out 4
  clear hv4 hf4 b4 U4 e0 e1 e2 e3 e4 e5 HI f3
  go_wp2_with fail
  generalize w4.setCell ⟨w.heap.size,4,none⟩ (.slice na (lw + 1) nc) = w5 at *
  refine HCL.out.mono ?_
  rintro e w6 ⟨m,rfl,hp6,ho6,b6⟩
  have HPP : Hid (m.p = P) := by
   show _ = _
   rw [hp6,HP.out]
   simp only [Nd.p,TL.p,Bool.false_eq_true,if_false,insL_map]
  have G6 : Hid (w6.heap[w.heap.size + 1]? = _) := (b6.block _ (lt_of_block G5.out)).trans G5.out
  have HT := hide (tail_six (w := w) G6.out ho6 HPP.out (by omega) N5.out (B5.out.trans (b6.mono B5.out.size)))
  obtain ⟨y0,y1,y2,y3,y4,y5⟩ := Six.of G6.out
  have F6 := fun j => frozen_of G6.out j
  clear hp6 ho6 b6 i0 i1 i2 i3 i4 i5 f4 HCL
  obtain ⟨lv6,⟨ha6,hc6,hs6⟩,ri6,⟨ka6,kc6,K6⟩,⟨va6,vc6,V6⟩,⟨ca6,cc6,C6⟩⟩ := m
  simp only [Nd.v,Tx.v,TL.v,IL.v]
  go_wp2_with fail
  (try simp only [Exit.inBlock,Exit.then])
  obtain ⟨hF,q0,q1,q2,q3,q4,q5⟩ := HT.out
  simp only [Nd.v,Tx.v,TL.v,IL.v] at q0 q1 q2 q3 q4 q5 hF
  show bodyPost _ _ _ _ _ (sixN w6 (w.heap.size + 1) ⟨lv6,⟨ha6,hc6,hs6⟩,ri6,⟨ka6,kc6,K6⟩,⟨va6,vc6,V6⟩,⟨ca6,cc6,C6⟩⟩)
  exact bodyPost_ret (v := .agg #[.int .i64 lv6,.slice ha6 hs6.length hc6,.int .i64 ri6,.slice ka6 K6.length kc6,.slice va6 V6.length vc6,.slice ca6 C6.length cc6]) (by simp [results,Tryz.results184,go_sem,q0,q1,q2,q3,q4,q5]) rfl hF
set_option maxHeartbeats 3200000 in
theorem joined_any (n : Nd) (k : Tx) (kid : Int) (w : World) (hn : n.Ok w) (hk : k.Ok w) (hz1 : n.ks.L.length * 24 ≤ 140737488351900) (hz3 : n.cs.s.length * 8 ≤ 140737488351900) :
  Calls Tryz.prog 185 #[n.v,k.v,.int .i64 kid] w (NdBPost w (n.p.joined k.s kid) (!isIn n.ks.p k.s)) := by
 have HFI : Hid (∀ W,Below w.heap.size w W → Calls Tryz.prog 155 #[n.v,k.v] W fun e w' => e = .returned (.tuple #[.int .i64 (cntB n.ks.p k.s : Nat),.bool (isIn n.ks.p k.s)]) ∧ Below W.heap.size W w') := fun W h => find_any n k W (hn.below h) (hk.below h)
 have hcb := cntB_le n.ks.p k.s
 rw [TL.p_len] at hcb
 have HP : Hid (n.p.joined k.s kid = if isIn n.ks.p k.s then n.p else { n.p with ks := insL n.ks.p (cntB n.ks.p k.s) k.s,cs := insL n.cs.s (cntB n.ks.p k.s + 1) kid }) := rfl
 have HOKN : Hid (∀ W,Below w.heap.size w W → n.Ok W) := fun W h => hn.below h
 have HOKK : Hid (∀ W,Below w.heap.size w W → k.Ok W) := fun W h => hk.below h
 obtain ⟨cb,hcb'⟩ : ∃ cb,cb = cntB n.ks.p k.s := ⟨_,rfl⟩
 obtain ⟨ib,hib⟩ : ∃ ib,ib = isIn n.ks.p k.s := ⟨_,rfl⟩
 rw [← hcb'] at HFI HP hcb
 rw [← hib] at HFI HP ⊢
 obtain ⟨P,hP⟩ : ∃ P,P = n.p.joined k.s kid := ⟨_,rfl⟩
 rw [← hP] at HP ⊢
 clear hcb' hib hP hn hk
 obtain ⟨lv,⟨ha,hc,hs⟩,ri,⟨ka,kc,K⟩,⟨va,vc,V⟩,⟨ca,cc,C⟩⟩ := n
 simp only [Nd.v,Tx.v,TL.v,IL.v] at *
 obtain ⟨lh,hlh⟩ : ∃ lh,hs.length = lh := ⟨_,rfl⟩
 obtain ⟨lk,hlk⟩ : ∃ lk,K.length = lk := ⟨_,rfl⟩
 obtain ⟨lw,hlw⟩ : ∃ lw,V.length = lw := ⟨_,rfl⟩
 obtain ⟨lc,hlc⟩ : ∃ lc,C.length = lc := ⟨_,rfl⟩
 obtain ⟨lx,hlx⟩ : ∃ lx,k.s.length = lx := ⟨_,rfl⟩
 rw [hlh,hlk,hlw,hlc,hlx] at HFI
 rw [hlk] at hz1 hcb
 rw [hlc] at hz3
 rw [hlh,hlk,hlw,hlc,hlx]
 replace hlh := hide hlh
 replace hlk := hide hlk
 replace hlw := hide hlw
 replace hlc := hide hlc
 replace hlx := hide hlx
 obtain ⟨w0,hw0⟩ : ∃ w0,w0 = w.alloc (.cells #[.int .i64 lv,.slice ha lh hc,.int .i64 ri,.slice ka lk kc,.slice va lw vc,.slice ca lc cc] 110) := ⟨_,rfl⟩
 obtain ⟨w1,hw1⟩ : ∃ w1,w1 = w0.alloc (.cells #[.int .i64 0,.slice none 0 0,.int .i64 0,.slice none 0 0,.slice none 0 0,.slice none 0 0] 110) := ⟨_,rfl⟩
 have z0 : w0.heap.size = w.heap.size + 1 := by rw [hw0]; simp
 have z1 : w1.heap.size = w.heap.size + 2 := by rw [hw1]; simp; omega
 have b0 : Below w.heap.size w w0 := by rw [hw0]; exact (Below.refl _ _).alloc (Nat.le_refl _) _
 have b1 : Below w0.heap.size w0 w1 := by rw [hw1]; exact (Below.refl _ _).alloc (Nat.le_refl _) _
 have B1 : Hid (Below w.heap.size w w1) := b0.trans (b1.mono b0.size)
 have g0 : w0.heap[w.heap.size]? = some (.cells #[.int .i64 lv,.slice ha lh hc,.int .i64 ri,.slice ka lk kc,.slice va lw vc,.slice ca lc cc] 110 (0,0)) := by rw [hw0]; exact heap_alloc_new w _
 have A1 : Hid (w1.heap[w.heap.size]? = some (.cells #[.int .i64 lv,.slice ha lh hc,.int .i64 ri,.slice ka lk kc,.slice va lw vc,.slice ca lc cc] 110 (0,0))) := (b1.block _ (by omega)).trans g0
 have G1 : Hid (w1.heap[w.heap.size + 1]? = some (.cells #[.int .i64 0,.slice none 0 0,.int .i64 0,.slice none 0 0,.slice none 0 0,.slice none 0 0] 110 (0,0))) := by show _ = _; rw [← z0,hw1]; exact heap_alloc_new w0 _
 have HW : Hid ((w.alloc (.cells #[.int .i64 lv,.slice ha lh hc,.int .i64 ri,.slice ka lk kc,.slice va lw vc,.slice ca lc cc] 110)).alloc (.cells #[.int .i64 0,.slice none 0 0,.int .i64 0,.slice none 0 0,.slice none 0 0,.slice none 0 0] 110) = w1) := by show _ = _; rw [hw1,hw0]
 have Z1 := hide z1
 obtain ⟨c0,c1,c2,c3,c4,c5⟩ := Six.of A1.out
 clear hw0 hw1 z0 z1 b0 b1 g0
 have hzi1 : cb ≤ 4611686018427387904 := by omega
 have hzi2 : cb ≤ 4611686018427387904 := by omega
 go_enter Tryz.func185,Tryz.ntmps185
 go_wp2_with fail
 rw [HW.out]
 go_wp2_with fail
 refine (HFI.out w1 B1.out).mono ?_
 rintro e w2 ⟨rfl,b2⟩
 have B12 := hide b2
 have B2 := hide (B1.out.trans (b2.mono B1.out.size))
 have A2 : Hid (w2.heap[w.heap.size]? = _) := (b2.block _ (lt_of_block A1.out)).trans A1.out
 have G2 : Hid (w2.heap[w.heap.size + 1]? = _) := (b2.block _ (lt_of_block G1.out)).trans G1.out
 obtain ⟨d0,d1,d2,d3,d4,d5⟩ := Six.of A2.out
 clear b2 HFI HW c0 c1 c2 c3 c4 c5
 have hs12 := B12.out.size
 have hz1' := Z1.out
 cases ib with
 | true =>
  have HCL : Hid (Calls Tryz.prog 141 #[.agg #[.int .i64 lv,.slice ha lh hc,.int .i64 ri,.slice ka lk kc,.slice va lw vc,.slice ca lc cc]] w2 (ClPost w2 ⟨lv,⟨ha,hc,hs⟩,ri,⟨ka,kc,K⟩,⟨va,vc,V⟩,⟨ca,cc,C⟩⟩)) := by
   have h := clone_any _ w2 (HOKN.out _ B2.out)
   simp only [Nd.v,Tx.v,TL.v,IL.v,hlh.out,hlk.out,hlw.out,hlc.out] at h
   exact h
  have B5 := B2
  have G5 := G2
  have N5 : Hid (w.heap.size + 1 < w2.heap.size) := lt_of_block G2.out
  go_wp2_with fail
  refine HCL.out.mono ?_
  rintro e w6 ⟨m,rfl,hp6,ho6,b6⟩
  have HPP : Hid (m.p = P) := by
   show _ = _
   rw [hp6,HP.out]
   simp only [if_true]
  have G6 : Hid (w6.heap[w.heap.size + 1]? = _) := (b6.block _ (lt_of_block G5.out)).trans G5.out
  have HT := hide (tail_six (w := w) G6.out ho6 HPP.out (by omega) N5.out (B5.out.trans (b6.mono B5.out.size)))
  obtain ⟨y0,y1,y2,y3,y4,y5⟩ := Six.of G6.out
  have F6 := fun j => frozen_of G6.out j
  clear hp6 ho6 b6 d0 d1 d2 d3 d4 d5 HCL
  obtain ⟨lv6,⟨ha6,hc6,hs6⟩,ri6,⟨ka6,kc6,K6⟩,⟨va6,vc6,V6⟩,⟨ca6,cc6,C6⟩⟩ := m
  simp only [Nd.v,Tx.v,TL.v,IL.v]
  go_wp2_with fail
  (try simp only [Exit.inBlock,Exit.then])
  obtain ⟨hF,q0,q1,q2,q3,q4,q5⟩ := HT.out
  simp only [Nd.v,Tx.v,TL.v,IL.v] at q0 q1 q2 q3 q4 q5 hF
  show bodyPost _ _ _ _ _ (sixN w6 (w.heap.size + 1) ⟨lv6,⟨ha6,hc6,hs6⟩,ri6,⟨ka6,kc6,K6⟩,⟨va6,vc6,V6⟩,⟨ca6,cc6,C6⟩⟩)
  exact bodyPost_ret (v := .tuple #[.agg #[.int .i64 lv6,.slice ha6 hs6.length hc6,.int .i64 ri6,.slice ka6 K6.length kc6,.slice va6 V6.length vc6,.slice ca6 C6.length cc6],.bool false]) (by simp [results,Tryz.results185,go_sem,q0,q1,q2,q3,q4,q5]) rfl ⟨_,rfl,hF⟩
 | false =>
  have HR := hide (insT_p ka lk kc cb (K) k w2 ((HOKN.out w2 B2.out).k.vok) hlk.out (by omega) hzi1)
  unfold InTP at HR
  rw [hlx.out] at HR
  go_wp2_with fail
  refine HR.out.mono ?_
  rintro e w3 ⟨ra,rc,rfl,hr3,hf3,b3⟩
  have B3 := hide (B2.out.trans (b3.mono B2.out.size))
  have A3 : Hid (w3.heap[w.heap.size]? = _) := (b3.block _ (lt_of_block A2.out)).trans A2.out
  have G3 : Hid (w3.heap[w.heap.size + 1]? = _) := (b3.block _ (lt_of_block G2.out)).trans G2.out
  obtain ⟨e0,e1,e2,e3,e4,e5⟩ := Six.of A3.out
  have f3 := frozen_of A3.out 3
  have U3 := upd_set (fun i => i = w.heap.size) w3 w.heap.size 3 (.slice ra (lk + 1) rc) rfl
  have B3' : Hid (Below w.heap.size w (w3.setCell ⟨w.heap.size,3,none⟩ (.slice ra (lk + 1) rc))) := B3.out.trans (U3.below B3.out.size (fun k hk e => by omega))
  have A3' : Hid ((w3.setCell ⟨w.heap.size,3,none⟩ (.slice ra (lk + 1) rc)).heap[w.heap.size]? = _) := (blk_one A3.out (.slice ra (lk + 1) rc)).1
  have G3' : Hid ((w3.setCell ⟨w.heap.size,3,none⟩ (.slice ra (lk + 1) rc)).heap[w.heap.size + 1]? = _) := U3.heap G3.out (by omega)
  have FR3 : Hid (∀ x,ra = some x → 0 < ((insL (K) (cb) k).map Tx.v).length → ¬ x.block = w.heap.size) := (fun x hx hp e => by
   have := hf3 x hx
   omega)
  have R3 : Hid (VOk (w3.setCell ⟨w.heap.size,3,none⟩ (.slice ra (lk + 1) rc)) ra rc ((insL (K) (cb) k).map Tx.v)) := hr3.upd U3 FR3.out
  have HI := hide (insI_p ca lc cc (cb + 1) (C) kid (w3.setCell ⟨w.heap.size,3,none⟩ (.slice ra (lk + 1) rc)) ((HOKN.out _ B3'.out).c.vok) hlc.out (by omega) (by omega))
  unfold InIP at HI
  clear hr3 hf3 b3 U3 d0 d1 d2 d3 d4 d5 HR
  go_wp2_with fail
  generalize w3.setCell ⟨w.heap.size,3,none⟩ (.slice ra (lk + 1) rc) = w3s at *
  refine HI.out.mono ?_
  rintro e w4 ⟨na,nc,rfl,hv4,hf4,b4⟩
  have B4 := hide (B3'.out.trans (b4.mono B3'.out.size))
  have A4 : Hid (w4.heap[w.heap.size]? = _) := (b4.block _ (lt_of_block A3'.out)).trans A3'.out
  have G4 : Hid (w4.heap[w.heap.size + 1]? = _) := (b4.block _ (lt_of_block G3'.out)).trans G3'.out
  have hlg := lt_of_block G3'.out
  have U4 := upd_set (fun i => i = w.heap.size) w4 w.heap.size 5 (.slice na (lc + 1) nc) rfl
  have B5 : Hid (Below w.heap.size w (w4.setCell ⟨w.heap.size,5,none⟩ (.slice na (lc + 1) nc))) := B4.out.trans (U4.below B4.out.size (fun k hk e => by omega))
  have A5 : Hid ((w4.setCell ⟨w.heap.size,5,none⟩ (.slice na (lc + 1) nc)).heap[w.heap.size]? = _) := (blk_one A4.out (.slice na (lc + 1) nc)).2.2
  have G5 : Hid ((w4.setCell ⟨w.heap.size,5,none⟩ (.slice na (lc + 1) nc)).heap[w.heap.size + 1]? = _) := U4.heap G4.out (by omega)
  have N5 : Hid (w.heap.size + 1 < (w4.setCell ⟨w.heap.size,5,none⟩ (.slice na (lc + 1) nc)).heap.size) := lt_of_block G5.out
  have HL1 : Hid ((insL (K) (cb) k).length = lk + 1) := by show _ = _; rw [insL_len,hlk.out]
  have HL2 : Hid ((insL (C) (cb + 1) kid).length = lc + 1) := by show _ = _; rw [insL_len,hlc.out]
  have FR4 : Hid (∀ x,na = some x → 0 < ((insL (C) (cb + 1) kid).map (Value.int .i64)).length → ¬ x.block = w.heap.size) := (fun x hx hp e => by
   have := hf4 x hx
   omega)
  have HCL : Hid (Calls Tryz.prog 141 #[.agg #[.int .i64 lv,.slice ha lh hc,.int .i64 ri,.slice ra (lk + 1) rc,.slice va (lw) vc,.slice na (lc + 1) nc]] (w4.setCell ⟨w.heap.size,5,none⟩ (.slice na (lc + 1) nc)) (ClPost (w4.setCell ⟨w.heap.size,5,none⟩ (.slice na (lc + 1) nc)) ⟨lv,⟨ha,hc,hs⟩,ri,⟨ra,rc,insL (K) (cb) k⟩,⟨va,vc,V⟩,⟨na,nc,insL (C) (cb + 1) kid⟩⟩)) := by
   have hN := HOKN.out _ B5.out
   have h := clone_any ⟨lv,⟨ha,hc,hs⟩,ri,⟨ra,rc,insL (K) (cb) k⟩,⟨va,vc,V⟩,⟨na,nc,insL (C) (cb + 1) kid⟩⟩ _ ⟨hN.h,vok_tl ((R3.out.below b4).upd U4 FR3.out) (fun x hx => (insL_mem hx).elim (fun e => by rw [e]; exact HOKK.out _ B5.out) (fun h => hN.k.ok x h)),hN.v,vok_il (hv4.upd U4 FR4.out),by simp only; rw [HL1.out]; omega,hN.vz,by simp only; rw [HL2.out]; omega⟩
   simp only [Nd.v,Tx.v,TL.v,IL.v,hlh.out,hlw.out,HL1.out,HL2.out] at h
   exact h
  obtain ⟨i0,i1,i2,i3,i4,i5⟩ := Six.of A4.out
  have f4 := frozen_of A4.out 5
  clear hv4 hf4 b4 U4 e0 e1 e2 e3 e4 e5 HI f3
  go_wp2_with fail
  generalize w4.setCell ⟨w.heap.size,5,none⟩ (.slice na (lc + 1) nc) = w5 at *
  refine HCL.out.mono ?_
  rintro e w6 ⟨m,rfl,hp6,ho6,b6⟩
  have HPP : Hid (m.p = P) := by
   show _ = _
   rw [hp6,HP.out]
   simp only [Nd.p,TL.p,Bool.false_eq_true,if_false,insL_map]
  have G6 : Hid (w6.heap[w.heap.size + 1]? = _) := (b6.block _ (lt_of_block G5.out)).trans G5.out
  have HT := hide (tail_six (w := w) G6.out ho6 HPP.out (by omega) N5.out (B5.out.trans (b6.mono B5.out.size)))
  obtain ⟨y0,y1,y2,y3,y4,y5⟩ := Six.of G6.out
  have F6 := fun j => frozen_of G6.out j
  clear hp6 ho6 b6 i0 i1 i2 i3 i4 i5 f4 HCL
  obtain ⟨lv6,⟨ha6,hc6,hs6⟩,ri6,⟨ka6,kc6,K6⟩,⟨va6,vc6,V6⟩,⟨ca6,cc6,C6⟩⟩ := m
  simp only [Nd.v,Tx.v,TL.v,IL.v]
  go_wp2_with fail
  (try simp only [Exit.inBlock,Exit.then])
  obtain ⟨hF,q0,q1,q2,q3,q4,q5⟩ := HT.out
  simp only [Nd.v,Tx.v,TL.v,IL.v] at q0 q1 q2 q3 q4 q5 hF
  show bodyPost _ _ _ _ _ (sixN w6 (w.heap.size + 1) ⟨lv6,⟨ha6,hc6,hs6⟩,ri6,⟨ka6,kc6,K6⟩,⟨va6,vc6,V6⟩,⟨ca6,cc6,C6⟩⟩)
  exact bodyPost_ret (v := .tuple #[.agg #[.int .i64 lv6,.slice ha6 hs6.length hc6,.int .i64 ri6,.slice ka6 K6.length kc6,.slice va6 V6.length vc6,.slice ca6 C6.length cc6],.bool true]) (by simp [results,Tryz.results185,go_sem,q0,q1,q2,q3,q4,q5]) rfl ⟨_,rfl,hF⟩
end Go.Proofs.YtljnapejgjffjaaGreat
