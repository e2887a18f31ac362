/- Texts of one's own. -/
import Derived.Test.YtljnapejgjffjaaGreatH18
import Derived.Lib.SlBytesConst
namespace Go.Proofs.YtljnapejgjffjaaGreat
open Go.RowKit
set_option maxRecDepth 100000
theorem new_at {W : World} {o : Obj} {K : Nat} (h : W.heap.size = K) : (W.alloc o).heap[K]? = some o := by subst h; exact heap_alloc_new W o
theorem old_at {W : World} {o x : Obj} {k : Nat} (h : W.heap[k]? = some x) : (W.alloc o).heap[k]? = some x := (Below.heap_alloc W o k (lt_of_block h)).trans h
structure TxT (W : World) (x : Tx) : Prop where
 ok : x.Ok W
 ty : ∀ ad,x.a = some ad → ∃ cur fz,W.heap[ad.block]? = some (.cells cur 5 fz)
theorem TxT.blk {W W' : World} {x : Tx} (h : TxT W x) (hb : ∀ ad,x.a = some ad → W'.heap[ad.block]? = W.heap[ad.block]?) : TxT W' x := by
 refine ⟨⟨fun i hi => ?_,h.ok.n,h.ok.lc,h.ok.b8,h.ok.z⟩,fun ad had => ?_⟩
 ·obtain ⟨b,o,ha,hc⟩ := h.ok.r i hi
  have h2 : W'.heap[b]? = W.heap[b]? := hb ⟨b,o,none⟩ ha
  exact ⟨b,o,ha,by rw [← hc]; exact World.cell?_of_block h2⟩
 ·obtain ⟨cur,fz,hh⟩ := h.ty ad had
  exact ⟨cur,fz,by rw [hb ad had]; exact hh⟩
theorem TxT.below {W W' : World} {x : Tx} (h : TxT W x) (hb : Below W.heap.size W W') : TxT W' x := h.blk fun ad had => by
 obtain ⟨cur,fz,hh⟩ := h.ty ad had
 exact hb.block _ (lt_of_block hh)
theorem TxT.upd {W W' : World} {S : Nat → Prop} {x : Tx} (h : TxT W x) (hb : Upd S W W') (hs : ∀ b,S b → ∀ cur fz,W.heap[b]? ≠ some (.cells cur 5 fz)) : TxT W' x := h.blk fun ad had => by
 obtain ⟨cur,fz,hh⟩ := h.ty ad had
 exact hb.block _ (lt_of_block hh) (fun e => hs _ e cur fz hh)
structure LtS (w W : World) (X : Nat) (lv ri : Int) (ha ka va ca : Option Addr) (hc kc vc cc : Nat) (hs hx : List Int) (K kx V vx : List Tx) (C cx : List Int) : Prop where
 box : W.heap[X]? = some (.cells #[.int .i64 lv,.slice ha hs.length hc,.int .i64 ri,.slice ka K.length kc,.slice va V.length vc,.slice ca C.length cc] 110 (0,0))
 res : W.heap[w.heap.size + 1]? = some (.cells #[.int .i64 0,.slice none 0 0,.int .i64 0,.slice none 0 0,.slice none 0 0,.slice none 0 0] 110 (0,0))
 bel : Below w.heap.size w W
 hX : w.heap.size + 2 ≤ X
 h : W.ownsRow (w.heap.size + 2) 5 1 (.slice ha (hs ++ hx).length hc) (hs ++ hx).length ((hs ++ hx).map (Value.int .u8))
 k : W.ownsRow (w.heap.size + 2) 29 1 (.slice ka (K ++ kx).length kc) (K ++ kx).length ((K ++ kx).map Tx.v)
 v : W.ownsRow (w.heap.size + 2) 29 1 (.slice va (V ++ vx).length vc) (V ++ vx).length ((V ++ vx).map Tx.v)
 c : W.ownsRow (w.heap.size + 2) 3 1 (.slice ca (C ++ cx).length cc) (C ++ cx).length ((C ++ cx).map (Value.int .i64))
 kt : ∀ x ∈ K ++ kx,TxT W x
 vt : ∀ x ∈ V ++ vx,TxT W x
 kv : ∀ x y,ka = some x → va = some y → x.block ≠ y.block
theorem LtS.below {w W W' : World} {X : Nat} {lv ri : Int} {ha ka va ca : Option Addr} {hc kc vc cc : Nat} {hs hx : List Int} {K kx V vx : List Tx} {C cx : List Int} (s : LtS w W X lv ri ha ka va ca hc kc vc cc hs hx K kx V vx C cx) (hb : Below W.heap.size W W') : LtS w W' X lv ri ha ka va ca hc kc vc cc hs hx K kx V vx C cx :=
 ⟨(hb.block _ (lt_of_block s.box)).trans s.box,(hb.block _ (lt_of_block s.res)).trans s.res,s.bel.trans (hb.mono s.bel.size),s.hX,owns_below s.h hb,owns_below s.k hb,owns_below s.v hb,owns_below s.c hb,fun x hx => (s.kt x hx).below hb,fun x hx => (s.vt x hx).below hb,s.kv⟩
section
variable {w W W2 : World} {X : Nat} {lv ri : Int} {ha ka va ca : Option Addr} {hc kc vc cc : Nat} {hs hx : List Int} {K kx V vx : List Tx} {C cx : List Int}
end
structure SpN (W : World) (x : Nd) : Prop where
 hc : x.hi.s.length + 2 ≤ x.hi.c
 h : ∃ b,x.hi.a = some ⟨b,0,none⟩ ∧ W.cell? ⟨b,x.hi.s.length,none⟩ = some (.int .u8 7) ∧ W.cell? ⟨b,x.hi.s.length + 1,none⟩ = some (.int .u8 7)
 kc : x.ks.L.length + 1 ≤ x.ks.c
 k : ∃ b,∃ t : Tx,x.ks.a = some ⟨b,0,none⟩ ∧ W.cell? ⟨b,x.ks.L.length,none⟩ = some t.v ∧ t.Ok W ∧ t.s = [115,112,97,114,101]
 vc : x.vs.L.length + 1 ≤ x.vs.c
 v : ∃ b,∃ t : Tx,x.vs.a = some ⟨b,0,none⟩ ∧ W.cell? ⟨b,x.vs.L.length,none⟩ = some t.v ∧ t.Ok W ∧ t.s = [115,112,97,114,101]
 cc : x.cs.s.length + 1 ≤ x.cs.c
 c : ∃ b,x.cs.a = some ⟨b,0,none⟩ ∧ W.cell? ⟨b,x.cs.s.length,none⟩ = some (.int .i64 777)
theorem SpN.below {W W' : World} {x : Nd} (h : SpN W x) (hb : Below W.heap.size W W') : SpN W' x := by
 have hc : ∀ b j u,W.cell? ⟨b,j,none⟩ = some u → W'.cell? ⟨b,j,none⟩ = some u := fun b j u hu => (hb.cell (p := ⟨b,j,none⟩) (World.block_lt_of_cell? W ⟨b,j,none⟩ hu)).trans hu
 obtain ⟨b,h1,h2,h3⟩ := h.h
 obtain ⟨b',t,k1,k2,k3,k4⟩ := h.k
 obtain ⟨b'',t',v1,v2,v3,v4⟩ := h.v
 obtain ⟨b3,c1,c2⟩ := h.c
 exact ⟨h.hc,⟨b,h1,hc _ _ _ h2,hc _ _ _ h3⟩,h.kc,⟨b',t,k1,hc _ _ _ k2,k3.below hb,k4⟩,h.vc,⟨b'',t',v1,hc _ _ _ v2,v3.below hb,v4⟩,h.cc,⟨b3,c1,hc _ _ _ c2⟩⟩
theorem uptoI (k : Option Addr) (l c m : Nat) (hm : m ≤ c) (W : World) : (Instr.slice 51 (.slice k l c) none (some (.int .i64 (m : Int))) none).run Tryz.prog W = .ok (.slice k m c) W := by
 rw [run_slice_h (P := Tryz.prog) W 51 k l c undI .i64 (m : Int) (by omega) (by omega),elemI,sizeI]
 cases k <;> simp [Result.andThen,sliced,Addr.add]
def isAt (s : List Int) (l : Nat) (x : Int) : Prop := ∃ j,j < l ∧ s.getD j 0 = x
instance (s : List Int) (l : Nat) (x : Int) : Decidable (isAt s l x) := by unfold isAt; exact inferInstance
set_option maxHeartbeats 800000 in
theorem index_any (a : Option Addr) (l c : Nat) (s : List Int) (x : Int) (w : World) (hr : Row w .i64 a s) (hl : l ≤ s.length) (hz : l * 8 ≤ 140737488355000) :
  Calls Tryz.prog 211 #[.slice a l c,.int .i64 x] w fun e w' => (∃ v : Int,e = .returned (.int .i64 v) ∧ (0 ≤ v ↔ isAt s l x)) ∧ w' = w := by
 have HR := hide hr
 replace hl := hide hl
 clear hr
 go_enter Tryz.func211,Tryz.ntmps211
 go_wp2_with fail
 go_loopw [8] (fun q wr => ∃ i : Nat,q = .int .i64 (i : Int) ∧ i ≤ l ∧ Hid (wr = w) ∧ Hid (∀ j,j < i → s.getD j 0 ≠ x)) (fun q _ => l - (intOf q).toNat)
 case atStart => exact ⟨0,rfl,Nat.zero_le _,rfl,fun j hj => absurd hj (Nat.not_lt_zero j)⟩
 case round =>
  obtain ⟨i,rfl,hle,HW,HE⟩ := hrel
  rename World => wr
  obtain rfl : wr = w := HW.out
  by_cases hlt : i < l
  ·have j1 : (i : Int) < (l : Int) := by omega
   have j2 : (0 : Int) ≤ (i : Int) := by omega
   obtain ⟨b,o,hae,s0⟩ := HR.out i (by have := hl.out; omega)
   subst hae
   obtain ⟨y,hy⟩ : ∃ y,y = s.getD i 0 := ⟨_,rfl⟩
   rw [← hy] at s0
   by_cases hxy : x = y
   ·have HF : Hid (isAt s l x) := ⟨i,hlt,by rw [hxy,hy]⟩
    have HI : Hid (0 ≤ (i : Int)) := j2
    subst hxy
    clear hy HE
    go_wp2_with fail
    go_ret
    exact ⟨⟨_,rfl,fun _ => HF.out,fun _ => HI.out⟩,rfl⟩
   ·have HE2 : Hid (∀ j,j < i + 1 → s.getD j 0 ≠ x) := fun j hj => by
     by_cases e : j = i
     ·rw [e,← hy]; exact fun h => hxy h.symm
     ·exact HE.out j (by omega)
    have j3 : (x == y) = false := by rw [beq_eq_false_iff_ne]; exact hxy
    clear hy HE
    go_wp2_with fail
    go_roundw
    case rel => exact ⟨i + 1,by go_num,by omega,True.intro,HE2⟩
    case measure => simp [intOf]; omega
  ·have j1 : ¬ (i : Int) < (l : Int) := by omega
   obtain rfl : i = l := by omega
   have HF : Hid (¬ isAt s i x) := fun ⟨j,h1,h2⟩ => HE.out j h1 h2
   go_wp2_with fail
   go_ret
   exact ⟨⟨_,rfl,fun h => absurd h (by decide),fun h => absurd h HF.out⟩,rfl⟩
set_option maxHeartbeats 400000 in
theorem contains_any (a : Option Addr) (l c : Nat) (s : List Int) (x : Int) (w : World) (hr : Row w .i64 a s) (hl : l ≤ s.length) (hz : l * 8 ≤ 140737488355000) :
  Calls Tryz.prog 207 #[.slice a l c,.int .i64 x] w fun e w' => e = .returned (.bool (decide (isAt s l x))) ∧ w' = w := by
 have HC := hide (index_any a l c s x w hr hl hz)
 clear hr hl hz
 go_enter Tryz.func207,Tryz.ntmps207
 go_wp2_with fail
 refine HC.out.mono ?_
 rintro e w' ⟨⟨v,rfl,hv⟩,rfl⟩
 have HV : Hid (decide (0 ≤ v) = decide (isAt s l x)) := by show _ = _; exact decide_eq_decide.2 hv
 clear hv HC
 go_wp2
 go_ret
 exact ⟨by rw [HV.out]; rfl,rfl⟩
def VlP (vs : List (List Int)) : Prop := ∀ j,j < vs.length → (vs.getD j []).length ≤ 256
instance (vs : List (List Int)) : Decidable (VlP vs) := by unfold VlP; exact inferInstance
set_option maxHeartbeats 800000 in
theorem values_any (a : Option Addr) (l c : Nat) (K : List Tx) (w : World) (hK : (⟨a,c,K⟩ : TL).Ok w) (hl : K.length = l) (hz : l * 24 ≤ 140737488355000) :
  Calls Tryz.prog 195 #[.slice a l c] w fun e w' => e = .returned (.bool (decide (VlP (K.map (·.s))))) ∧ w' = w := by
 have HK := hide hK
 replace hl := hide hl
 obtain ⟨rv,hrv⟩ : ∃ rv,rv = decide (VlP (K.map (·.s))) := ⟨_,rfl⟩
 rw [← hrv]
 replace hrv := hide hrv
 clear hK
 have HPL : Hid ((K.map (·.s)).length = l) := by show _ = _; rw [List.length_map,hl.out]
 have HGE : Hid (∀ i (h : i < K.length),(K.map (·.s)).getD i [] = K[i].s) := fun i h => by simp [h]
 go_enter Tryz.func195,Tryz.ntmps195
 go_wp2_with fail
 go_loopw [7] (fun q wr => ∃ i : Nat,q = .int .i64 (i : Int) ∧ i ≤ l ∧ Hid (wr = w) ∧ Hid (∀ j,j < i → ((K.map (·.s)).getD j []).length ≤ 256)) (fun q _ => l - (intOf q).toNat)
 case atStart => exact ⟨0,rfl,Nat.zero_le _,rfl,fun j hj => absurd hj (Nat.not_lt_zero j)⟩
 case round =>
  obtain ⟨i,rfl,hle,HW,HE⟩ := hrel
  rename World => wr
  obtain rfl : wr = w := HW.out
  by_cases hlt : i < l
  ·have j1 : (i : Int) < (l : Int) := by omega
   have j2 : (0 : Int) ≤ (i : Int) := by omega
   have h1 : i < K.length := by rw [hl.out]; omega
   obtain ⟨b1,o1,ha1,s1⟩ := HK.out.r i h1
   simp only at ha1
   subst ha1
   have O1 := hide (HK.out.ok K[i] (List.getElem_mem h1))
   have e1 := HGE.out i h1
   obtain ⟨x,hx⟩ : ∃ x,K[i] = x := ⟨_,rfl⟩
   simp only [hx] at s1 O1 e1
   clear hx
   unfold Tx.v at s1
   obtain ⟨n1,hn1⟩ : ∃ n,x.s.length = n := ⟨_,rfl⟩
   rw [hn1] at s1
   have hz1 : n1 ≤ 140737488351232 := by have := O1.out.z; omega
   by_cases hc : n1 ≤ 256
   ·have HE2 : Hid (∀ j,j < i + 1 → ((K.map (·.s)).getD j []).length ≤ 256) := fun j hj => by
     by_cases e : j = i
     ·rw [e,e1,hn1]; exact hc
     ·exact HE.out j (by omega)
    have hc2 : ¬ (256 : Int) < (n1 : Int) := by omega
    clear HE e1 hn1
    go_wp2_with fail
    go_roundw
    case rel => exact ⟨i + 1,by go_num,by omega,True.intro,HE2⟩
    case measure => simp [intOf]; omega
   ·have HF : Hid (rv = false) := by
     show _ = _
     rw [hrv.out]
     refine decide_eq_false fun h => hc ?_
     have := h i (by rw [HPL.out]; exact hlt)
     rw [e1,hn1] at this
     exact this
    have hc2 : (256 : Int) < (n1 : Int) := by omega
    clear HE e1 hn1
    go_wp2_with fail
    go_ret
    exact ⟨by rw [HF.out]; rfl,rfl⟩
  ·have j1 : ¬ (i : Int) < (l : Int) := by omega
   have HF : Hid (rv = true) := by
    show _ = _
    rw [hrv.out]
    refine decide_eq_true fun j hj => HE.out j ?_
    rw [HPL.out] at hj
    omega
   go_wp2_with fail
   go_ret
   exact ⟨by rw [HF.out]; rfl,rfl⟩
def KdP (cs : List Int) (nd : Int) : Prop := ∀ i,i < cs.length → (1 ≤ cs.getD i 0 ∧ cs.getD i 0 ≤ nd) ∧ ¬ isAt cs i (cs.getD i 0)
instance (cs : List Int) (nd : Int) : Decidable (KdP cs nd) := by unfold KdP; exact inferInstance
set_option maxHeartbeats 800000 in
theorem kids_any (a : Option Addr) (l c : Nat) (s : List Int) (nd : Int) (w : World) (hr : Row w .i64 a s) (hl : s.length = l) (hlc : l ≤ c) (hz : l * 8 ≤ 140737488355000) :
  Calls Tryz.prog 196 #[.slice a l c,.int .i64 nd] w fun e w' => e = .returned (.bool (decide (KdP s nd))) ∧ w' = w := by
 have HR := hide hr
 replace hl := hide hl
 obtain ⟨rv,hrv⟩ : ∃ rv,rv = decide (KdP s nd) := ⟨_,rfl⟩
 rw [← hrv]
 replace hrv := hide hrv
 clear hr
 have HCO : Hid (∀ i,i ≤ l → ∀ x,Calls Tryz.prog 207 #[.slice a i c,.int .i64 x] w fun e w' => e = .returned (.bool (decide (isAt s i x))) ∧ w' = w) := fun i hi x => contains_any a i c s x w HR.out (by rw [hl.out]; exact hi) (by omega)
 go_enter Tryz.func196,Tryz.ntmps196
 go_wp2_with fail
 go_loopw [9] (fun q wr => ∃ i : Nat,q = .int .i64 (i : Int) ∧ i ≤ l ∧ Hid (wr = w) ∧ Hid (∀ j,j < i → (1 ≤ s.getD j 0 ∧ s.getD j 0 ≤ nd) ∧ ¬ isAt s j (s.getD j 0))) (fun q _ => l - (intOf q).toNat)
 case atStart => exact ⟨0,rfl,Nat.zero_le _,rfl,fun j hj => absurd hj (Nat.not_lt_zero j)⟩
 case round =>
  obtain ⟨i,rfl,hle,HW,HE⟩ := hrel
  rename World => wr
  obtain rfl : wr = w := HW.out
  by_cases hlt : i < l
  ·have j1 : (i : Int) < (l : Int) := by omega
   have j2 : (0 : Int) ≤ (i : Int) := by omega
   obtain ⟨b,o,hae,s0⟩ := HR.out i (by rw [hl.out]; exact hlt)
   subst hae
   obtain ⟨y,hy⟩ : ∃ y,y = s.getD i 0 := ⟨_,rfl⟩
   rw [← hy] at s0
   have HY := hide hy
   clear hy
   by_cases hin : 1 ≤ y ∧ y ≤ nd
   ·have qq := fun W => uptoI (some ⟨b,o,none⟩) l c i (by omega) W
    have HC1 := hide (HCO.out i hle y)
    by_cases hat : isAt s i y
    ·have HF : Hid (rv = false) := by
      show _ = _
      rw [hrv.out]
      refine decide_eq_false fun h => (h i (by rw [hl.out]; exact hlt)).2 ?_
      rw [← HY.out]; exact hat
     rw [decide_eq_true hat] at HC1
     have HIN := hide hin
     clear HE hat hin
     go_wp2_with fail
     refine keep (within_yes _ _ _ _ HIN.out.1 HIN.out.2) ?_
     go_wp2_with fail
     refine keep HC1.out ?_
     go_wp2_with fail
     go_ret
     exact ⟨by rw [HF.out]; rfl,rfl⟩
    ·have HE2 : Hid (∀ j,j < i + 1 → (1 ≤ s.getD j 0 ∧ s.getD j 0 ≤ nd) ∧ ¬ isAt s j (s.getD j 0)) := fun j hj => by
      by_cases e : j = i
      ·rw [e,← HY.out]; exact ⟨hin,hat⟩
      ·exact HE.out j (by omega)
     rw [decide_eq_false hat] at HC1
     have HIN := hide hin
     clear HE hat hin
     go_wp2_with fail
     refine keep (within_yes _ _ _ _ HIN.out.1 HIN.out.2) ?_
     go_wp2_with fail
     refine keep HC1.out ?_
     go_wp2_with fail
     go_roundw
     case rel => exact ⟨i + 1,by go_num,by omega,True.intro,HE2⟩
     case measure => simp [intOf]; omega
   ·have HF : Hid (rv = false) := by
     show _ = _
     rw [hrv.out]
     refine decide_eq_false fun h => hin ?_
     have := (h i (by rw [hl.out]; exact hlt)).1
     rw [← HY.out] at this
     exact this
    have HIN : Hid (¬ (1 ≤ y ∧ y ≤ nd)) := hin
    clear HE hin
    go_wp2_with fail
    refine keep (within_no _ _ _ _ HIN.out) ?_
    go_wp2_with fail
    go_ret
    exact ⟨by rw [HF.out]; rfl,rfl⟩
  ·have j1 : ¬ (i : Int) < (l : Int) := by omega
   have HF : Hid (rv = true) := by
    show _ = _
    rw [hrv.out]
    refine decide_eq_true fun j hj => HE.out j ?_
    rw [hl.out] at hj
    omega
   go_wp2_with fail
   go_ret
   exact ⟨by rw [HF.out]; rfl,rfl⟩
set_option maxHeartbeats 400000 in
theorem isLeaf_any (n : Nd) (w : World) : Calls Tryz.prog 187 #[n.v] w fun e w' => e = .returned (.bool (decide (n.lv = 0))) ∧ Below w.heap.size w w' := by
 obtain ⟨lv,⟨ha,hc,hs⟩,ri,⟨ka,kc,K⟩,⟨va,vc,V⟩,⟨ca,cc,C⟩⟩ := n
 simp only [Nd.v,Tx.v,TL.v,IL.v]
 have HD : Hid ((lv == 0) = decide (lv = 0)) := by show _ = _; by_cases h : lv = 0 <;> simp [h]
 rw [← HD.out]
 go_enter Tryz.func187,Tryz.ntmps187
 go_wp2
 go_ret
 exact ⟨rfl,(Below.refl _ _).alloc (Nat.le_refl _) _⟩
def wid (lv : Int) (lk lc : Nat) : Nat := if lv = 0 then lk else lc
set_option maxHeartbeats 800000 in
theorem width_any (n : Nd) (w : World) : Calls Tryz.prog 188 #[n.v] w fun e w' => e = .returned (.int .i64 (wid n.lv n.ks.L.length n.cs.s.length : Nat)) ∧ Below w.heap.size w w' := by
 have HL : Hid (∀ W,Calls Tryz.prog 187 #[n.v] W fun e w' => e = .returned (.bool (decide (n.lv = 0))) ∧ Below W.heap.size W w') := fun W => isLeaf_any n W
 obtain ⟨lv,⟨ha,hc,hs⟩,ri,⟨ka,kc,K⟩,⟨va,vc,V⟩,⟨ca,cc,C⟩⟩ := n
 simp only [Nd.v,Tx.v,TL.v,IL.v,wid] at HL ⊢
 generalize hs.length = lh at *
 generalize K.length = lk at *
 generalize V.length = lw at *
 generalize C.length = lc at *
 obtain ⟨w0,hw0⟩ : ∃ w0,w0 = w.alloc (.cells #[.int .i64 lv,.slice ha lh hc,.int .i64 ri,.slice ka lk kc,.slice va lw vc,.slice ca lc cc] 110) := ⟨_,rfl⟩
 have B0 : Hid (Below w.heap.size w w0) := by show Below _ _ _; rw [hw0]; exact (Below.refl _ _).alloc (Nat.le_refl _) _
 have G0 : Hid (w0.heap[w.heap.size]? = some (.cells #[.int .i64 lv,.slice ha lh hc,.int .i64 ri,.slice ka lk kc,.slice va lw vc,.slice ca lc cc] 110 (0,0))) := by show _ = _; rw [hw0]; exact heap_alloc_new w _
 have HW0 := hide hw0
 clear hw0
 by_cases h : lv = 0
 ·rw [if_pos h]
  have HL2 := hide (HL.out w0)
  rw [decide_eq_true h] at HL2
  clear HL h
  go_enter Tryz.func188,Tryz.ntmps188
  go_wp2_with fail
  rw [← HW0.out]
  refine HL2.out.mono ?_
  rintro e w1 ⟨rfl,b⟩
  have B1 := hide (B0.out.trans (b.mono B0.out.size))
  have G1 : Hid (w1.heap[w.heap.size]? = _) := (b.block _ (lt_of_block G0.out)).trans G0.out
  clear b HW0
  obtain ⟨c0,c1,c2,c3,c4,c5⟩ := Six.of G1.out
  go_wp2_with fail
  go_ret
  exact ⟨rfl,B1.out⟩
 ·rw [if_neg h]
  have HL2 := hide (HL.out w0)
  rw [decide_eq_false h] at HL2
  clear HL h
  go_enter Tryz.func188,Tryz.ntmps188
  go_wp2_with fail
  rw [← HW0.out]
  refine HL2.out.mono ?_
  rintro e w1 ⟨rfl,b⟩
  have B1 := hide (B0.out.trans (b.mono B0.out.size))
  have G1 : Hid (w1.heap[w.heap.size]? = _) := (b.block _ (lt_of_block G0.out)).trans G0.out
  clear b HW0
  obtain ⟨c0,c1,c2,c3,c4,c5⟩ := Six.of G1.out
  go_wp2_with fail
  go_ret
  exact ⟨rfl,B1.out⟩
def HdP (lv : Int) (lh : Nat) (ri nd : Int) : Prop := ((0 ≤ lv ∧ lv ≤ 32) ∧ (0 ≤ ri ∧ ri ≤ nd)) ∧ (lh = 0 ↔ ri = 0) ∧ lh ≤ 64
instance (lv : Int) (lh : Nat) (ri nd : Int) : Decidable (HdP lv lh ri nd) := by unfold HdP; exact inferInstance
set_option maxHeartbeats 1600000 in
theorem headMay_any (lv ri : Int) (ha : Option Addr) (lh hc : Nat) (nd lf inn fl bk : Int) (w : World) (hz : lh ≤ 140737488355328) : Calls Tryz.prog 172 #[.agg #[.int .i64 lv,.slice ha lh hc,.int .i64 ri],.agg #[.int .i64 nd,.int .i64 lf,.int .i64 inn,.int .i64 fl,.int .i64 bk]] w fun e w' => e = .returned (.bool (decide (HdP lv lh ri nd))) ∧ Below w.heap.size w w' := by
 by_cases h0 : 0 ≤ lv ∧ lv ≤ 32
 ·by_cases h1 : 0 ≤ ri ∧ ri ≤ nd
  ·by_cases h2 : (lh = 0 ↔ ri = 0)
   ·have b2 : (((lh : Int) == 0) == (ri == 0)) = true := by
     by_cases a : lh = 0
     ·have b := h2.1 a; subst a; subst b; rfl
     ·have b : ¬ ri = 0 := fun h => a (h2.2 h)
      rw [beq_eq_false_iff_ne.2 (show (lh : Int) ≠ 0 by omega),beq_eq_false_iff_ne.2 b]; rfl
    have HE : Hid (decide (HdP lv lh ri nd) = decide ((lh : Int) ≤ 64)) := by show _ = _; exact decide_eq_decide.2 ⟨fun h => by have := h.2.2; omega,fun h => ⟨⟨h0,h1⟩,h2,by omega⟩⟩
    rw [HE.out]
    have H0 := hide h0
    have H1 := hide h1
    clear h2 h0 h1 HE
    go_enter Tryz.func172,Tryz.ntmps172
    go_wp2_with fail
    refine keep (within_yes _ _ _ _ H0.out.1 H0.out.2) ?_
    go_wp2_with fail
    refine keep (within_yes _ _ _ _ H1.out.1 H1.out.2) ?_
    go_wp2_with fail
    go_ret
    exact ⟨rfl,((Below.refl _ _).alloc (Nat.le_refl _) _).alloc (by simp) _⟩
   ·have b2 : (((lh : Int) == 0) == (ri == 0)) = false := by
     by_cases a : lh = 0
     ·have b : ¬ ri = 0 := fun h => h2 ⟨fun _ => h,fun _ => a⟩
      subst a
      rw [beq_eq_false_iff_ne.2 b]; rfl
     ·have b : ri = 0 := Classical.byContradiction fun h => h2 ⟨fun h' => absurd h' a,fun h' => absurd h' h⟩
      subst b
      rw [beq_eq_false_iff_ne.2 (show (lh : Int) ≠ 0 by omega)]; rfl
    have HE : Hid (decide (HdP lv lh ri nd) = false) := by show _ = _; exact decide_eq_false fun h => h2 h.2.1
    rw [HE.out]
    have H0 := hide h0
    have H1 := hide h1
    clear h2 h0 h1 HE
    go_enter Tryz.func172,Tryz.ntmps172
    go_wp2_with fail
    refine keep (within_yes _ _ _ _ H0.out.1 H0.out.2) ?_
    go_wp2_with fail
    refine keep (within_yes _ _ _ _ H1.out.1 H1.out.2) ?_
    go_wp2_with fail
    go_ret
    exact ⟨rfl,((Below.refl _ _).alloc (Nat.le_refl _) _).alloc (by simp) _⟩
  ·have HE : Hid (decide (HdP lv lh ri nd) = false) := by show _ = _; exact decide_eq_false fun h => h1 h.1.2
   rw [HE.out]
   have H0 := hide h0
   have H1 : Hid (¬ (0 ≤ ri ∧ ri ≤ nd)) := h1
   clear h0 h1 HE
   go_enter Tryz.func172,Tryz.ntmps172
   go_wp2_with fail
   refine keep (within_yes _ _ _ _ H0.out.1 H0.out.2) ?_
   go_wp2_with fail
   refine keep (within_no _ _ _ _ H1.out) ?_
   go_wp2_with fail
   go_ret
   exact ⟨rfl,((Below.refl _ _).alloc (Nat.le_refl _) _).alloc (by simp) _⟩
 ·have HE : Hid (decide (HdP lv lh ri nd) = false) := by show _ = _; exact decide_eq_false fun h => h0 h.1.1
  rw [HE.out]
  have H0 : Hid (¬ (0 ≤ lv ∧ lv ≤ 32)) := h0
  clear h0 HE
  go_enter Tryz.func172,Tryz.ntmps172
  go_wp2_with fail
  refine keep (within_no _ _ _ _ H0.out) ?_
  go_wp2_with fail
  go_ret
  exact ⟨rfl,((Below.refl _ _).alloc (Nat.le_refl _) _).alloc (by simp) _⟩
def OvP (lv : Int) (lk lc : Nat) (lf inn : Int) : Prop := if lv = 0 then lf < (lk : Int) else inn < (lc : Int)
instance (lv : Int) (lk lc : Nat) (lf inn : Int) : Decidable (OvP lv lk lc lf inn) := by unfold OvP; exact inferInstance
set_option maxHeartbeats 1600000 in
theorem over_any (n : Nd) (nd lf inn fl bk : Int) (w : World) : Calls Tryz.prog 167 #[n.v,.agg #[.int .i64 nd,.int .i64 lf,.int .i64 inn,.int .i64 fl,.int .i64 bk]] w fun e w' => e = .returned (.bool (decide (OvP n.lv n.ks.L.length n.cs.s.length lf inn))) ∧ Below w.heap.size w w' := by
 have HL : Hid (∀ W,Calls Tryz.prog 187 #[n.v] W fun e w' => e = .returned (.bool (decide (n.lv = 0))) ∧ Below W.heap.size W w') := fun W => isLeaf_any n W
 have HWD : Hid (∀ W : World,Calls Tryz.prog 188 #[n.v] W.drew fun e w' => e = .returned (.int .i64 (wid n.lv n.ks.L.length n.cs.s.length : Nat)) ∧ Below W.heap.size W w') := fun W => (width_any n W.drew).mono fun e w' ⟨h,b⟩ => ⟨h,⟨b.os,b.tape,b.output,b.size,b.block⟩⟩
 obtain ⟨lv,⟨ha,hc,hs⟩,ri,⟨ka,kc,K⟩,⟨va,vc,V⟩,⟨ca,cc,C⟩⟩ := n
 simp only [Nd.v,Tx.v,TL.v,IL.v,wid,OvP] at HL HWD ⊢
 generalize hs.length = lh at *
 generalize K.length = lk at *
 generalize V.length = lw at *
 generalize C.length = lc at *
 obtain ⟨w0,hw0⟩ : ∃ w0,w0 = (w.alloc (.cells #[.int .i64 lv,.slice ha lh hc,.int .i64 ri,.slice ka lk kc,.slice va lw vc,.slice ca lc cc] 110)).alloc (.cells #[.int .i64 nd,.int .i64 lf,.int .i64 inn,.int .i64 fl,.int .i64 bk] 23) := ⟨_,rfl⟩
 have B0 : Hid (Below w.heap.size w w0) := by show Below _ _ _; rw [hw0]; exact ((Below.refl _ _).alloc (Nat.le_refl _) _).alloc (by simp) _
 have G0 : Hid (w0.heap[w.heap.size]? = some (.cells #[.int .i64 lv,.slice ha lh hc,.int .i64 ri,.slice ka lk kc,.slice va lw vc,.slice ca lc cc] 110 (0,0))) := by show _ = _; rw [hw0]; exact old_at (new_at rfl)
 have F0 : Hid (w0.heap[w.heap.size + 1]? = some (.cells #[.int .i64 nd,.int .i64 lf,.int .i64 inn,.int .i64 fl,.int .i64 bk] 23 (0,0))) := by show _ = _; rw [hw0]; exact new_at (by simp)
 have HW0 := hide hw0
 clear hw0
 by_cases h : lv = 0
 ·simp only [if_pos h] at HWD ⊢
  have HL2 := hide (HL.out w0)
  rw [decide_eq_true h] at HL2
  clear HL h
  go_enter Tryz.func167,Tryz.ntmps167
  go_wp2_with fail
  rw [← HW0.out]
  refine HL2.out.mono ?_
  rintro e w1 ⟨rfl,b⟩
  have B1 := hide (B0.out.trans (b.mono B0.out.size))
  have G1 : Hid (w1.heap[w.heap.size]? = _) := (b.block _ (lt_of_block G0.out)).trans G0.out
  have F1 : Hid (w1.heap[w.heap.size + 1]? = some (.cells #[.int .i64 nd,.int .i64 lf,.int .i64 inn,.int .i64 fl,.int .i64 bk] 23 (0,0))) := (b.block _ (lt_of_block F0.out)).trans F0.out
  clear b HW0
  obtain ⟨c0,c1,c2,c3,c4,c5⟩ := Six.of G1.out
  have x1 : w1.cell? ⟨w.heap.size + 1,1,none⟩ = some (.int .i64 lf) := by rw [cell_of_row _ _ _ _ _ _ F1.out]; rfl
  have hf1 := lt_of_block F1.out
  go_wp2_with fail
  go_region_held3 (fun W => W.cell? ⟨w.heap.size,0,none⟩ = some (.int .i64 lv) ∧ W.cell? ⟨w.heap.size,1,none⟩ = some (.slice ha lh hc) ∧ W.cell? ⟨w.heap.size,2,none⟩ = some (.int .i64 ri) ∧ W.cell? ⟨w.heap.size,3,none⟩ = some (.slice ka lk kc) ∧ W.cell? ⟨w.heap.size,4,none⟩ = some (.slice va lw vc) ∧ W.cell? ⟨w.heap.size,5,none⟩ = some (.slice ca lc cc) ∧ W.cell? ⟨w.heap.size + 1,1,none⟩ = some (.int .i64 lf)) (go_keep) (first
   | (go_at_call 188; refine (HWD.out w1).mono ?_; rintro e w2 ⟨rfl,b⟩; have y := Six.of ((b.block _ (lt_of_block G1.out)).trans G1.out); obtain ⟨y0,y1,y2,y3,y4,y5⟩ := y; have z1 := (b.cell (p := ⟨w.heap.size + 1,1,none⟩) hf1).trans x1; have B2 := hide (B1.out.trans (b.mono B1.out.size)); clear b)
   | fail)
  go_wp2_with fail
  go_ret
  exact ⟨rfl,B2.out⟩
 ·simp only [if_neg h] at HWD ⊢
  have HL2 := hide (HL.out w0)
  rw [decide_eq_false h] at HL2
  clear HL h
  go_enter Tryz.func167,Tryz.ntmps167
  go_wp2_with fail
  rw [← HW0.out]
  refine HL2.out.mono ?_
  rintro e w1 ⟨rfl,b⟩
  have B1 := hide (B0.out.trans (b.mono B0.out.size))
  have G1 : Hid (w1.heap[w.heap.size]? = _) := (b.block _ (lt_of_block G0.out)).trans G0.out
  have F1 : Hid (w1.heap[w.heap.size + 1]? = some (.cells #[.int .i64 nd,.int .i64 lf,.int .i64 inn,.int .i64 fl,.int .i64 bk] 23 (0,0))) := (b.block _ (lt_of_block F0.out)).trans F0.out
  clear b HW0
  obtain ⟨c0,c1,c2,c3,c4,c5⟩ := Six.of G1.out
  have x1 : w1.cell? ⟨w.heap.size + 1,2,none⟩ = some (.int .i64 inn) := by rw [cell_of_row _ _ _ _ _ _ F1.out]; rfl
  have hf1 := lt_of_block F1.out
  go_wp2_with fail
  go_region_held3 (fun W => W.cell? ⟨w.heap.size,0,none⟩ = some (.int .i64 lv) ∧ W.cell? ⟨w.heap.size,1,none⟩ = some (.slice ha lh hc) ∧ W.cell? ⟨w.heap.size,2,none⟩ = some (.int .i64 ri) ∧ W.cell? ⟨w.heap.size,3,none⟩ = some (.slice ka lk kc) ∧ W.cell? ⟨w.heap.size,4,none⟩ = some (.slice va lw vc) ∧ W.cell? ⟨w.heap.size,5,none⟩ = some (.slice ca lc cc) ∧ W.cell? ⟨w.heap.size + 1,2,none⟩ = some (.int .i64 inn)) (go_keep) (first
   | (go_at_call 188; refine (HWD.out w1).mono ?_; rintro e w2 ⟨rfl,b⟩; have y := Six.of ((b.block _ (lt_of_block G1.out)).trans G1.out); obtain ⟨y0,y1,y2,y3,y4,y5⟩ := y; have z1 := (b.cell (p := ⟨w.heap.size + 1,2,none⟩) hf1).trans x1; have B2 := hide (B1.out.trans (b.mono B1.out.size)); clear b)
   | fail)
  go_wp2_with fail
  go_ret
  exact ⟨rfl,B2.out⟩
def KyP (hi : List Int) (ks : List (List Int)) : Prop := ∀ j,j < ks.length → ((1 ≤ (ks.getD j []).length ∧ (ks.getD j []).length ≤ 64) ∧ beyB hi (ks.getD j []) = false) ∧ (0 < j → cmpI (ks.getD (j - 1) []) (ks.getD j []) < 0)
instance (hi : List Int) (ks : List (List Int)) : Decidable (KyP hi ks) := by unfold KyP; exact inferInstance
set_option maxHeartbeats 3200000 in
theorem keysMay_any (n : Nd) (w : World) (hn : n.Ok w) : Calls Tryz.prog 173 #[n.v] w fun e w' => e = .returned (.bool (decide (KyP n.hi.s n.ks.p))) ∧ Below w.heap.size w w' := by
 have HBE : Hid (∀ (x : Tx) (W : World),Below w.heap.size w W → x.Ok W → Calls Tryz.prog 194 #[n.v,x.v] W fun e w' => e = .returned (.bool (beyB n.hi.s x.s)) ∧ Below W.heap.size W w') := fun x W h hx => beyond_any n x W (hn.below h) hx
 obtain ⟨rv,hrv⟩ : ∃ rv,rv = decide (KyP n.hi.s n.ks.p) := ⟨_,rfl⟩
 rw [← hrv]
 have hkz := hn.kz
 have HK : Hid (∀ W,Below w.heap.size w W → n.ks.Ok W) := fun W h => (hn.below h).k
 clear hn
 obtain ⟨lv,⟨ha,hc,hs⟩,ri,⟨ka,kc,K⟩,⟨va,vc,V⟩,⟨ca,cc,C⟩⟩ := n
 simp only [Nd.v,Tx.v,TL.v,IL.v,TL.p] at HBE HK hkz hrv ⊢
 replace hrv := hide hrv
 obtain ⟨l,hl⟩ : ∃ l,K.length = l := ⟨_,rfl⟩
 rw [hl] at hkz HBE ⊢
 replace hl := hide hl
 generalize hs.length = lh at *
 generalize V.length = lw at *
 generalize C.length = lc at *
 have HPL : Hid ((K.map (·.s)).length = l) := by show _ = _; rw [List.length_map,hl.out]
 have HGE : Hid (∀ i (h : i < K.length),(K.map (·.s)).getD i [] = K[i].s) := fun i h => tl_getD (t := ⟨ka,kc,K⟩) h
 obtain ⟨w0,hw0⟩ : ∃ w0,w0 = w.alloc (.cells #[.int .i64 lv,.slice ha lh hc,.int .i64 ri,.slice ka l kc,.slice va lw vc,.slice ca lc cc] 110) := ⟨_,rfl⟩
 have B0 : Hid (Below w.heap.size w w0) := by show Below _ _ _; rw [hw0]; exact (Below.refl _ _).alloc (Nat.le_refl _) _
 have G0 : Hid (w0.heap[w.heap.size]? = some (.cells #[.int .i64 lv,.slice ha lh hc,.int .i64 ri,.slice ka l kc,.slice va lw vc,.slice ca lc cc] 110 (0,0))) := by show _ = _; rw [hw0]; exact heap_alloc_new w _
 have HW0 := hide hw0
 clear hw0
 go_enter Tryz.func173,Tryz.ntmps173
 go_wp2_with fail
 rw [← HW0.out]
 go_loopw [9] (fun q wr => ∃ i : Nat,q = .int .i64 (i : Int) ∧ i ≤ l ∧ Hid (Below w.heap.size w wr) ∧ Hid (wr.heap[w.heap.size]? = some (.cells #[.int .i64 lv,.slice ha lh hc,.int .i64 ri,.slice ka l kc,.slice va lw vc,.slice ca lc cc] 110 (0,0))) ∧ Hid (∀ j,j < i → ((1 ≤ ((K.map (·.s)).getD j []).length ∧ ((K.map (·.s)).getD j []).length ≤ 64) ∧ beyB hs ((K.map (·.s)).getD j []) = false) ∧ (0 < j → cmpI ((K.map (·.s)).getD (j - 1) []) ((K.map (·.s)).getD j []) < 0))) (fun q _ => l - (intOf q).toNat)
 case atStart => exact ⟨0,rfl,Nat.zero_le _,B0,G0,fun j hj => absurd hj (Nat.not_lt_zero j)⟩
 case round =>
  clear B0 G0 HW0
  obtain ⟨i,rfl,hle,B1,G1,HE⟩ := hrel
  rename World => wr
  by_cases hlt : i < l
  ·have j1 : (i : Int) < (l : Int) := by omega
   have j2 : (0 : Int) ≤ (i : Int) := by omega
   have h1 : i < K.length := by rw [hl.out]; exact hlt
   obtain ⟨b1,o1,ha1,s1⟩ := (HK.out wr B1.out).r i h1
   simp only at ha1
   subst ha1
   have HXO : Hid (∀ W,Below w.heap.size w W → K[i].Ok W) := fun W h => (HK.out W h).ok K[i] (List.getElem_mem h1)
   have e1 := HGE.out i h1
   obtain ⟨x,hx⟩ : ∃ x,x = K[i] := ⟨_,rfl⟩
   simp only [← hx] at s1 HXO e1
   clear hx
   replace e1 := hide e1
   unfold Tx.v at s1
   have HB := hide (HBE.out x wr B1.out (HXO.out wr B1.out))
   obtain ⟨bb,hbb⟩ : ∃ bb,bb = beyB hs x.s := ⟨_,rfl⟩
   rw [← hbb] at HB
   replace hbb := hide hbb
   obtain ⟨n1,hn1⟩ : ∃ n1,x.s.length = n1 := ⟨_,rfl⟩
   rw [hn1] at s1 HB
   replace hn1 := hide hn1
   have hz1 : n1 ≤ 140737488351232 := by have := (HXO.out wr B1.out).z; rw [hn1.out] at this; exact this
   have HNO : Hid (∀ P : Prop,(((1 ≤ n1 ∧ n1 ≤ 64) ∧ bb = false) ∧ (0 < i → cmpI ((K.map (·.s)).getD (i - 1) []) x.s < 0) → P) → ¬ P → rv = false) := fun P h1 h2 => by
    rw [hrv.out]
    refine decide_eq_false fun h => h2 (h1 ?_)
    have := h i (by rw [HPL.out]; exact hlt)
    rw [e1.out,hn1.out,← hbb.out] at this
    exact this
   by_cases hin : 1 ≤ n1 ∧ n1 ≤ 64
   ·have HIN : Hid ((1 : Int) ≤ (n1 : Int) ∧ (n1 : Int) ≤ 64) := ⟨by omega,by omega⟩
    cases bb with
    | true =>
     have HF : Hid (rv = false) := HNO.out False (fun h => absurd h.1.2 (by decide)) id
     obtain ⟨c0,c1,c2,c3,c4,c5⟩ := Six.of G1.out
     clear hin HNO HE
     go_wp2_with fail
     refine keep (within_yes _ _ _ _ HIN.out.1 HIN.out.2) ?_
     go_wp2_with fail
     refine HB.out.mono ?_
     rintro e w2 ⟨rfl,b⟩
     have B2 := hide (B1.out.trans (b.mono B1.out.size))
     clear b
     go_wp2_with fail
     go_ret
     exact ⟨by rw [HF.out]; rfl,B2.out⟩
    | false =>
     obtain ⟨c0,c1,c2,c3,c4,c5⟩ := Six.of G1.out
     have HI2 := hide hin
     clear hin
     go_wp2_with fail
     refine keep (within_yes _ _ _ _ HIN.out.1 HIN.out.2) ?_
     go_wp2_with fail
     refine HB.out.mono ?_
     rintro e w2 ⟨rfl,b⟩
     have B2 := hide (B1.out.trans (b.mono B1.out.size))
     have G2 : Hid (w2.heap[w.heap.size]? = _) := (b.block _ (lt_of_block G1.out)).trans G1.out
     clear b c0 c1 c2 c3 c4 c5 HB s1 G1
     by_cases h0 : i = 0
     ·subst h0
      have HE2 : Hid (∀ j,j < 0 + 1 → ((1 ≤ ((K.map (·.s)).getD j []).length ∧ ((K.map (·.s)).getD j []).length ≤ 64) ∧ beyB hs ((K.map (·.s)).getD j []) = false) ∧ (0 < j → cmpI ((K.map (·.s)).getD (j - 1) []) ((K.map (·.s)).getD j []) < 0)) := fun j hj => by
       obtain rfl : j = 0 := by omega
       rw [e1.out,hn1.out,← hbb.out]
       exact ⟨⟨HI2.out,rfl⟩,fun h => absurd h (Nat.lt_irrefl 0)⟩
      clear HNO HE
      go_wp2_with fail
      go_roundw
      case rel => exact ⟨1,by go_num,by omega,B2,G2,HE2⟩
      case measure => simp [intOf]; omega
     ·obtain ⟨j,rfl⟩ : ∃ j,i = j + 1 := ⟨i - 1,by omega⟩
      have h2 : j < K.length := by omega
      obtain ⟨b2,o2,ha2,s2⟩ := (HK.out w2 B2.out).r j h2
      simp only [Option.some.injEq,Addr.mk.injEq,and_true] at ha2
      obtain ⟨rfl,rfl⟩ := ha2
      have HYO := hide ((HK.out w2 B2.out).ok K[j] (List.getElem_mem h2))
      have e2 := HGE.out j h2
      obtain ⟨y,hy⟩ : ∃ y,y = K[j] := ⟨_,rfl⟩
      simp only [← hy] at s2 HYO e2
      clear hy
      replace e2 := hide e2
      unfold Tx.v at s2
      obtain ⟨n2,hn2⟩ : ∃ n2,y.s.length = n2 := ⟨_,rfl⟩
      rw [hn2] at s2
      obtain ⟨d,hd⟩ : ∃ d,d = decide (cmpI y.s x.s < 0) := ⟨_,rfl⟩
      have HBL := hide (nbelow_any y.a x.a n2 y.c n1 x.c y.s x.s w2 hn2 hn1.out HYO.out.r (HXO.out w2 B2.out).r HYO.out.b8 (HXO.out w2 B2.out).b8)
      rw [← hd] at HBL
      replace hd := hide hd
      obtain ⟨c0,c1,c2,c3,c4,c5⟩ := Six.of G2.out
      have hw1 : IntKind.i64.wrap ((j : Int) + 1 - 1) = (j : Int) := by rw [IntKind.wrap_i64]; omega
      have hw2 : IntKind.i64.wrap (((j + 1 : Nat) : Int) - 1) = (j : Int) := by rw [IntKind.wrap_i64]; omega
      have hw3 : IntKind.i64.wrap (j : Int) = (j : Int) := by rw [IntKind.wrap_i64]; omega
      have j4 : (0 : Int) < (j : Int) + 1 := by omega
      have j5 : (0 : Int) ≤ (j : Int) := by omega
      have j3 : (j : Int) < (l : Int) := by omega
      cases d with
      | true =>
       have HE2 : Hid (∀ j',j' < j + 1 + 1 → ((1 ≤ ((K.map (·.s)).getD j' []).length ∧ ((K.map (·.s)).getD j' []).length ≤ 64) ∧ beyB hs ((K.map (·.s)).getD j' []) = false) ∧ (0 < j' → cmpI ((K.map (·.s)).getD (j' - 1) []) ((K.map (·.s)).getD j' []) < 0)) := fun j' hj => by
        by_cases e : j' = j + 1
        ·rw [e,e1.out,hn1.out,← hbb.out,Nat.add_sub_cancel,e2.out]
         exact ⟨⟨HI2.out,rfl⟩,fun _ => of_decide_eq_true hd.out.symm⟩
        ·exact HE.out j' (by omega)
       clear HNO HE
       go_wp2_with fail
       refine keep HBL.out ?_
       go_wp2_with fail
       go_roundw
       case rel => exact ⟨j + 1 + 1,by go_num,by omega,B2,G2,HE2⟩
       case measure => simp [intOf]; omega
      | false =>
       have HF : Hid (rv = false) := HNO.out False (fun h => by
        have := h.2 (Nat.succ_pos j)
        rw [Nat.add_sub_cancel,e2.out] at this
        exact of_decide_eq_false hd.out.symm this) id
       clear HNO HE
       go_wp2_with fail
       refine keep HBL.out ?_
       go_wp2_with fail
       go_ret
       exact ⟨by rw [HF.out]; rfl,B2.out⟩
   ·have HF : Hid (rv = false) := HNO.out False (fun h => hin h.1.1) id
    have HIN : Hid (¬ ((1 : Int) ≤ (n1 : Int) ∧ (n1 : Int) ≤ 64)) := fun h => hin ⟨by omega,by omega⟩
    clear hin HNO HE
    go_wp2_with fail
    refine keep (within_no _ _ _ _ HIN.out) ?_
    go_wp2_with fail
    go_ret
    exact ⟨by rw [HF.out]; rfl,B1.out⟩
  ·have j1 : ¬ (i : Int) < (l : Int) := by omega
   have HF : Hid (rv = true) := by
    show _ = _
    rw [hrv.out]
    refine decide_eq_true fun j hj => HE.out j ?_
    rw [HPL.out] at hj
    omega
   go_wp2_with fail
   go_ret
   exact ⟨by rw [HF.out]; rfl,B1.out⟩
end Go.Proofs.YtljnapejgjffjaaGreat
