/- Texts of one's own. -/
import Derived.Test.YtljnapejgjffjaaGreatH26
import Derived.Test.YtljnapejgjffjaaGreatH11
import Derived.Deep.CutBlock
namespace Go.Proofs.YtljnapejgjffjaaGreat
open Go.RowKit
set_option maxRecDepth 100000
abbrev z6 : Array Value := #[.int .i64 0,.slice none 0 0,.int .i64 0,.slice none 0 0,.slice none 0 0,.slice none 0 0]
theorem tri_at {W : World} {b : Nat} {T : TypeId} {x0 x1 x2 : Value} (h : W.heap[b]? = some (.cells #[x0,x1,x2] T (0,0))) : W.cell? ⟨b,0,none⟩ = some x0 ∧ W.cell? ⟨b,1,none⟩ = some x1 ∧ W.cell? ⟨b,2,none⟩ = some x2 :=
 ⟨by rw [cell_of_row _ _ _ _ _ _ h]; rfl,by rw [cell_of_row _ _ _ _ _ _ h]; rfl,by rw [cell_of_row _ _ _ _ _ _ h]; rfl⟩
theorem Nd.zero_own (W : World) (N : Nat) : Nd.zero.Own W N := ⟨OwnB.nil _ _ _,⟨B8.nil,Nat.zero_le _⟩,tl_own_nil _ _,tl_own_nil _ _,World.ownsRow_nil _ _ _ _,Nat.zero_le _,Nat.zero_le _,Nat.zero_le _⟩
def RdP (W : World) (p : NP) (er : Int) (e : Ending) (w' : World) : Prop := ∃ n : Nd,e = .returned (.tuple #[n.v,.int .i64 er]) ∧ n.p = p ∧ n.Own w' W.heap.size ∧ Below W.heap.size W w'
theorem PX.below {W W' : World} {A : Nat} {F : Nat → Prop} {s : AS} (h : PX W A F s) (hb : Below W.heap.size W W') : PX W' A F s := h.upd (S := Noth) (Upd.of_below hb _) (fun _ _ e => e)
set_option maxHeartbeats 1600000 in
theorem sread_any {W : World} {A : Nat} {F : Nat → Prop} {s : AS} (h : PX W A F s) (id : Int) : Calls Tryz.prog 64 #[.pointer (some ⟨A,0,none⟩),.int .i64 id] W (RdP W (s.rd id) (s.wordE id)) := by
 obtain ⟨w1,hw1⟩ : ∃ x,x = W.alloc (.cells #[.int .i64 0,.slice none 0 0,.int .i64 0,.slice none 0 0,.slice none 0 0,.slice none 0 0] 110) := ⟨_,rfl⟩
 have b1 : Below W.heap.size W w1 := by rw [hw1]; exact (Below.refl _ _).alloc (Nat.le_refl _) _
 have g1 : w1.heap[W.heap.size]? = some (.cells z6 110 (0,0)) := by rw [hw1]; exact heap_alloc_new W _
 have HB1 := hide b1
 have HG1 := hide g1
 have HP1 := hide (h.below b1)
 have HHD := hide (px_head HP1.out id)
 have HBD : Hid (∀ W',Below w1.heap.size w1 W' → Calls Tryz.prog 82 #[.pointer (some ⟨A,0,none⟩),.int .i64 id] W' (BdP2 W' (s.rd id) (s.wordE id))) := fun W' hb => px_body (HP1.out.below hb) id
 have HW1 : Hid (W.alloc (.cells #[.int .i64 0,.slice none 0 0,.int .i64 0,.slice none 0 0,.slice none 0 0,.slice none 0 0] 110) = w1) := hw1.symm
 clear hw1 b1 g1 h
 by_cases hin : s.inn id
 ·have e0 : s.wordE id = 0 := if_pos hin
  rw [e0] at HHD HBD ⊢
  generalize s.rd id = q at *
  clear e0 hin
  go_enter Tryz.func64,Tryz.ntmps64
  go_upto_region 1 with fail
  rw [HW1.out]
  go_wp2_with fail
  refine HHD.out.mono ?_
  rintro e w2 ⟨⟨ta,tc,ts⟩,rfl,ht1,ht2,ht3,ht4,hb2⟩
  simp only [Tx.v] at ht2 ⊢
  obtain ⟨lt,hltt⟩ : ∃ lt,ts.length = lt := ⟨_,rfl⟩
  rw [hltt]
  have HT := hide (And.intro ht1 (And.intro ht2 (And.intro ht3 ht4)))
  have HLT := hide hltt
  have B12 := hide hb2
  obtain ⟨w3,hw3⟩ : ∃ w3,w3 = w2.alloc (.cells #[.int .i64 q.lv,.slice ta lt tc,.int .i64 q.ri] 105) := ⟨_,rfl⟩
  have b3 : Below w2.heap.size w2 w3 := by rw [hw3]; exact (Below.refl _ _).alloc (Nat.le_refl _) _
  have G3 : Hid (w3.heap[w2.heap.size]? = some (.cells #[.int .i64 q.lv,.slice ta lt tc,.int .i64 q.ri] 105 (0,0))) := by show _ = _; rw [hw3]; exact heap_alloc_new w2 _
  have B23 := hide b3
  have B13 := hide (hb2.trans (b3.mono hb2.size))
  have HW3 := hide hw3
  have HBD3 := hide (HBD.out w3 B13.out)
  clear ht1 ht2 ht3 ht4 hltt hb2 hw3 b3 HBD
  go_upto_region 2 with fail
  rw [← HW3.out]
  go_wp2_with fail
  refine HBD3.out.mono ?_
  rintro e w4 ⟨⟨k8,kc8,K8⟩,⟨v8,vc8,V8⟩,⟨c8,cc8,C8⟩,rfl,hk1,hk2,hk3,ho1,ho2,ho3,hz8,hb4⟩
  simp only [TL.v,IL.v] at ho3 ⊢
  obtain ⟨l1,hl1⟩ : ∃ l1,K8.length = l1 := ⟨_,rfl⟩
  obtain ⟨l2,hl2⟩ : ∃ l2,V8.length = l2 := ⟨_,rfl⟩
  obtain ⟨l3,hl3⟩ : ∃ l3,C8.length = l3 := ⟨_,rfl⟩
  rw [hl1,hl2,hl3]
  obtain ⟨w5,hw5⟩ : ∃ w5,w5 = w4.alloc (.cells #[.slice k8 l1 kc8,.slice v8 l2 vc8,.slice c8 l3 cc8] 108) := ⟨_,rfl⟩
  have b5 : Below w4.heap.size w4 w5 := by rw [hw5]; exact (Below.refl _ _).alloc (Nat.le_refl _) _
  have G5 : w5.heap[w4.heap.size]? = some (.cells #[.slice k8 l1 kc8,.slice v8 l2 vc8,.slice c8 l3 cc8] 108 (0,0)) := by rw [hw5]; exact heap_alloc_new w4 _
  have b35 := hb4.trans (b5.mono hb4.size)
  have G35 := (b35.block _ (lt_of_block G3.out)).trans G3.out
  have b15 := B13.out.trans (b35.mono B13.out.size)
  have G15 := (b15.block _ (lt_of_block HG1.out)).trans HG1.out
  have b25 := B23.out.trans (b35.mono B23.out.size)
  have hsz1 : W.heap.size < w1.heap.size := lt_of_block HG1.out
  have hs12 := B12.out.size
  have hs23 := B23.out.size
  have hs34 := hb4.size
  have OWN : (⟨q.lv,⟨ta,tc,ts⟩,q.ri,⟨k8,kc8,K8⟩,⟨v8,vc8,V8⟩,⟨c8,cc8,C8⟩⟩ : Nd).Own w5 w1.heap.size :=
   ⟨HT.out.2.1.below b25,⟨HT.out.2.2.1,HT.out.2.2.2⟩,(ho1.below b5).mono (by omega),(ho2.below b5).mono (by omega),owns_mono (owns_below ho3 b5) (by omega),hz8.1,hz8.2.1,hz8.2.2⟩
  have HOWN := hide OWN
  have HPP : Hid ((⟨q.lv,⟨ta,tc,ts⟩,q.ri,⟨k8,kc8,K8⟩,⟨v8,vc8,V8⟩,⟨c8,cc8,C8⟩⟩ : Nd).p = q) := by
   show _ = _
   obtain ⟨q1,q2,q3,q4,q5,q6⟩ := q
   simp only [Nd.p,NP.mk.injEq]
   exact ⟨trivial,HT.out.1,trivial,hk1,hk2,hk3⟩
  obtain ⟨y0,y1,y2,y3,y4,y5⟩ := Six.of G15
  have F5 := fun j => frozen_of G15 j
  obtain ⟨m0,m1,m2⟩ := tri_at G35
  obtain ⟨n0,n1,n2⟩ := tri_at G5
  have HW5 := hide hw5
  have HL8 := hide (And.intro hl1 (And.intro hl2 hl3))
  have HG15 := hide G15
  have B05 := hide (HB1.out.trans (b15.mono HB1.out.size))
  have HSZ := hide hsz1
  clear hw5 hl1 hl2 hl3 hk1 hk2 hk3 ho1 ho2 ho3 hz8 hb4 b5 G5 b35 G35 b15 G15 b25 hsz1 hs12 hs23 hs34 OWN
  go_upto_region 5 with fail
  rw [← HW5.out]
  go_wp2_with fail
  (try simp only [Exit.inBlock,Exit.then])
  have G6 := six_block HG15.out (.int .i64 q.lv) (.slice ta lt tc) (.int .i64 q.ri) (.slice k8 l1 kc8) (.slice v8 l2 vc8) (.slice c8 l3 cc8)
  have U6 : Upd (fun b => b = W.heap.size) w5 (six6 w5 W.heap.size (.int .i64 q.lv) (.slice ta lt tc) (.int .i64 q.ri) (.slice k8 l1 kc8) (.slice v8 l2 vc8) (.slice c8 l3 cc8)) := six_upd _ _ _ _ _ _ _ _ _ rfl
  obtain ⟨q0,q1,q2,q3,q4,q5⟩ := Six.of G6
  show bodyPost _ _ _ _ _ (six6 w5 W.heap.size (.int .i64 q.lv) (.slice ta lt tc) (.int .i64 q.ri) (.slice k8 l1 kc8) (.slice v8 l2 vc8) (.slice c8 l3 cc8))
  generalize six6 w5 W.heap.size (.int .i64 q.lv) (.slice ta lt tc) (.int .i64 q.ri) (.slice k8 l1 kc8) (.slice v8 l2 vc8) (.slice c8 l3 cc8) = w6 at *
  refine bodyPost_ret (v := .tuple #[.agg #[.int .i64 q.lv,.slice ta lt tc,.int .i64 q.ri,.slice k8 l1 kc8,.slice v8 l2 vc8,.slice c8 l3 cc8],.int .i64 0]) (by simp [results,Tryz.results64,go_sem,q0,q1,q2,q3,q4,q5]) rfl ⟨⟨q.lv,⟨ta,tc,ts⟩,q.ri,⟨k8,kc8,K8⟩,⟨v8,vc8,V8⟩,⟨c8,cc8,C8⟩⟩,?_,HPP.out,?_,?_⟩
  ·simp only [Nd.v,Tx.v,TL.v,IL.v,HLT.out,HL8.out.1,HL8.out.2.1,HL8.out.2.2]
  ·have := HSZ.out
   exact (HOWN.out.upd U6 (fun b h1 _ e => by omega)).mono (by omega)
  ·exact B05.out.trans (U6.below B05.out.size (fun k hk e => by omega))
 ·have e0 : s.wordE id = 101 := if_neg hin
  have e1 : s.rd id = NP.zero := if_neg hin
  rw [e0] at HHD ⊢
  rw [e1] at HHD ⊢
  clear e0 e1 hin HBD
  go_enter Tryz.func64,Tryz.ntmps64
  go_upto_region 1 with fail
  rw [HW1.out]
  go_wp2_with fail
  refine HHD.out.mono ?_
  rintro e w2 ⟨⟨ta,tc,ts⟩,rfl,ht1,ht2,ht3,ht4,hb2⟩
  simp only [Tx.v,NP.zero] at ht2 ⊢
  obtain ⟨lt,hltt⟩ : ∃ lt,ts.length = lt := ⟨_,rfl⟩
  rw [hltt]
  obtain ⟨w3,hw3⟩ : ∃ w3,w3 = w2.alloc (.cells #[.int .i64 0,.slice ta lt tc,.int .i64 0] 105) := ⟨_,rfl⟩
  have b3 : Below w2.heap.size w2 w3 := by rw [hw3]; exact (Below.refl _ _).alloc (Nat.le_refl _) _
  have b13 := hb2.trans (b3.mono hb2.size)
  have G13 := (b13.block _ (lt_of_block HG1.out)).trans HG1.out
  obtain ⟨y0,y1,y2,y3,y4,y5⟩ := Six.of G13
  have F5 := fun j => frozen_of G13 j
  have HG13 := hide G13
  have HW3 := hide hw3
  have B03 := hide (HB1.out.trans (b13.mono HB1.out.size))
  clear ht1 ht2 ht3 ht4 hltt hb2 hw3 b3 b13 G13
  go_upto_region 2 with fail
  rw [← HW3.out]
  go_wp2_with fail
  (try simp only [Exit.inBlock,Exit.then])
  have G6 := six_block HG13.out (.int .i64 0) (.slice none 0 0) (.int .i64 0) (.slice none 0 0) (.slice none 0 0) (.slice none 0 0)
  have U6 : Upd (fun b => b = W.heap.size) w3 (six6 w3 W.heap.size (.int .i64 0) (.slice none 0 0) (.int .i64 0) (.slice none 0 0) (.slice none 0 0) (.slice none 0 0)) := six_upd _ _ _ _ _ _ _ _ _ rfl
  obtain ⟨q0,q1,q2,q3,q4,q5⟩ := Six.of G6
  show bodyPost _ _ _ _ _ (six6 w3 W.heap.size (.int .i64 0) (.slice none 0 0) (.int .i64 0) (.slice none 0 0) (.slice none 0 0) (.slice none 0 0))
  generalize six6 w3 W.heap.size (.int .i64 0) (.slice none 0 0) (.int .i64 0) (.slice none 0 0) (.slice none 0 0) (.slice none 0 0) = w6 at *
  refine bodyPost_ret (v := .tuple #[.agg #[.int .i64 0,.slice none 0 0,.int .i64 0,.slice none 0 0,.slice none 0 0,.slice none 0 0],.int .i64 101]) (by simp [results,Tryz.results64,go_sem,q0,q1,q2,q3,q4,q5]) rfl ⟨Nd.zero,rfl,rfl,Nd.zero_own _ _,?_⟩
  exact B03.out.trans (U6.below B03.out.size (fun k hk e => by omega))
set_option maxHeartbeats 1600000 in
theorem lies_any (n : Nd) (k : Tx) (w : World) (hn : n.Ok w) (hk : k.Ok w) :
  Calls Tryz.prog 146 #[n.v,k.v] w fun e w' => e = .returned (.bool (decide (liesP k.s n.p))) ∧ Below w.heap.size w w' := by
 obtain ⟨lv,⟨ha,hc,hs⟩,ri,⟨ka,kc,K⟩,⟨va,vc,V⟩,⟨ca,cc,C⟩⟩ := n
 obtain ⟨xa,xc,xs⟩ := k
 have HS : Hid (∀ W,Below w.heap.size w W → (⟨ka,kc,K⟩ : TL).Ok W) := fun W h => hn.k.below h
 have HH : Hid (∀ W,Below w.heap.size w W → (⟨ha,hc,hs⟩ : Tx).Ok W) := fun W h => hn.h.below h
 have HK : Hid (∀ W,Below w.heap.size w W → (⟨xa,xc,xs⟩ : Tx).Ok W) := fun W h => hk.below h
 have hz := hn.kz
 clear hn hk
 have hz2 : K.length ≤ 140737488352000 := by simp only at hz; omega
 obtain ⟨D,hD⟩ : ∃ D,D = decide (liesP xs (Nd.mk lv ⟨ha,hc,hs⟩ ri ⟨ka,kc,K⟩ ⟨va,vc,V⟩ ⟨ca,cc,C⟩).p) := ⟨_,rfl⟩
 have HD : Hid (D = true ↔ (∀ j,j < K.length → 0 ≤ cmpI ((K.map (·.s)).getD j []) xs) ∧ (hs.length = 0 ∨ 0 < cmpI hs xs)) := by
  show _ ↔ _
  rw [hD,decide_eq_true_iff]
  unfold liesP Nd.p TL.p
  simp only [List.length_map]
 simp only [Nd.v,Tx.v,TL.v,IL.v] at hD ⊢
 rw [← hD]
 clear hD hz
 obtain ⟨ps,hps⟩ : ∃ ps,ps = K.map (·.s) := ⟨_,rfl⟩
 rw [← hps] at HD
 have HPS : Hid (∀ i (h : i < K.length),ps.getD i [] = K[i].s) := fun i h => by rw [hps]; simp [h]
 obtain ⟨lk,hlk⟩ : ∃ lk,K.length = lk := ⟨_,rfl⟩
 obtain ⟨lx,hlx⟩ : ∃ lx,xs.length = lx := ⟨_,rfl⟩
 obtain ⟨lh,hlh⟩ : ∃ lh,hs.length = lh := ⟨_,rfl⟩
 rw [hlk] at hz2 HD
 rw [hlh] at HD
 rw [hlk,hlx,hlh]
 replace hlk := hide hlk
 replace hlx := hide hlx
 replace hlh := hide hlh
 clear hps
 go_enter Tryz.func146,Tryz.ntmps146
 go_wp2_with fail
 go_loopw [11] (fun q11 wr => ∃ i : Nat,i ≤ lk ∧ q11 = .int .i64 (i : Int) ∧ Hid (∀ j,j < i → 0 ≤ cmpI (ps.getD j []) xs) ∧ Hid (Below w.heap.size w wr) ∧ Hid (Six wr w.heap.size (.int .i64 lv) (.slice ha lh hc) (.int .i64 ri) (.slice ka lk kc) (.slice va V.length vc) (.slice ca C.length cc))) (fun q11 _ => lk - (intOf q11).toNat)
 case atStart => exact ⟨0,Nat.zero_le _,rfl,fun j hj => absurd hj (Nat.not_lt_zero j),(Below.refl _ _).alloc (Nat.le_refl _) _,Six.of (heap_alloc_new w _)⟩
 case round =>
  obtain ⟨i,hi,rfl,HA,HB,HX⟩ := hrel
  rename World => wr
  by_cases hlt : i < lk
  ·have j1 : (i : Int) < (lk : Int) := by omega
   have hiK : i < K.length := by rw [hlk.out]; exact hlt
   have hS := HS.out wr HB.out
   obtain ⟨b,o,hka,s0⟩ := hS.r i hiK
   simp only at hka
   subst hka
   have OK := hide (hS.ok K[i] (List.getElem_mem hiK))
   have HPI := hide (HPS.out i hiK)
   obtain ⟨kk,hkk⟩ : ∃ kk,K[i] = kk := ⟨_,rfl⟩
   simp only [hkk] at s0 OK HPI
   unfold Tx.v at s0
   obtain ⟨nk,hnk⟩ : ∃ nk,kk.s.length = nk := ⟨_,rfl⟩
   rw [hnk] at s0
   have HBL := hide (bcompare_any kk.a xa nk kk.c lx xc kk.s xs wr hnk hlx.out OK.out.r (HK.out wr HB.out).r OK.out.b8 (HK.out wr HB.out).b8)
   obtain ⟨cm,hcm⟩ : ∃ cm,cm = cmpI kk.s xs := ⟨_,rfl⟩
   rw [← hcm] at HBL
   have HCM := hide hcm
   clear hS hkk hnk hcm
   by_cases hc0 : cm < 0
   ·have HF : D = false := by
     cases D with
     | false => rfl
     | true => have := (HD.out.1 rfl).1 i hlt; rw [HPI.out,← HCM.out] at this; omega
    subst HF
    go_wp2_with fail
    refine keep HBL.out ?_
    go_wp2_with fail
    go_ret
    exact ⟨rfl,HB.out⟩
   ·have HC0 := hide hc0
    go_wp2_with fail
    refine keep HBL.out ?_
    go_wp2_with fail
    go_roundw
    case rel =>
     refine ⟨i + 1,by omega,by go_num,fun j hj => ?_,HB,HX⟩
     rcases Nat.lt_or_ge j i with h | h
     ·exact HA.out j h
     ·obtain rfl : j = i := by omega
      rw [HPI.out,← HCM.out]
      have := HC0.out; omega
    case measure => simp [intOf]; omega
  ·have j1 : ¬ (i : Int) < (lk : Int) := by omega
   obtain rfl : i = lk := by omega
   obtain ⟨c0,c1,c2,c3,c4,c5⟩ := HX.out
   by_cases h0 : lh = 0
   ·subst h0
    have HT : D = true := HD.out.2 ⟨HA.out,.inl rfl⟩
    subst HT
    go_wp2_with fail
    go_ret
    exact ⟨rfl,HB.out⟩
   ·have HBL := hide (bcompare_any ha xa lh hc lx xc hs xs wr hlh.out hlx.out (HH.out wr HB.out).r (HK.out wr HB.out).r (HH.out wr HB.out).b8 (HK.out wr HB.out).b8)
    have HT : Hid (D = decide (0 < cmpI hs xs)) := by
     show _ = _
     cases D with
     | true =>
      rcases (HD.out.1 rfl).2 with h | h
      ·exact absurd h h0
      ·exact (decide_eq_true h).symm
     | false =>
      refine (decide_eq_false fun h => ?_).symm
      have := HD.out.2 ⟨HA.out,.inr h⟩
      cases this
    generalize cmpI hs xs = cm at *
    have i1 : ((lh : Int) == 0) = false := by rw [beq_eq_false_iff_ne]; omega
    have i2 : ¬ (lh : Int) = 0 := by omega
    have hT := HT.out
    clear HT HD
    subst hT
    go_wp2_with fail
    refine keep HBL.out ?_
    go_wp2_with fail
    go_ret
    exact ⟨rfl,HB.out⟩
structure Sp where
 id : Int
 low : Tx
 n : Nd
def Sp.w (x : Sp) : Nat := if 0 < x.n.lv then x.n.cs.s.length else x.n.ks.L.length
def Sp.kv (x : Sp) : Value := if 0 < x.n.lv then x.n.ks.v else .slice none 0 0
def Sp.cv (x : Sp) : Value := if 0 < x.n.lv then x.n.cs.v else .slice none 0 0
def Sp.v (x : Sp) : Value := .agg #[.int .i64 x.n.lv,x.low.v,.int .i64 (x.w : Nat),x.kv,x.cv]
def LMut (B m : Nat) (ga la : Option Addr) (k : Nat) : Prop := k = B ∨ k = m ∨ (∃ y,ga = some y ∧ y.block = k) ∨ (∃ y,la = some y ∧ y.block = k)
def LAv (X : Nat → Prop) (B m : Nat) (ga la : Option Addr) (k : Nat) : Prop := LMut B m ga la k ∨ X k
structure Sp.Ok (W : World) (S : Nat → Prop) (s : AS) (x : Sp) : Prop where
 n : x.n.Ok W
 l : x.low.Ok W
 ni : x.n.In (fun k => ¬ S k)
 li : ∀ y,x.low.a = some y → 0 < x.low.s.length → ¬ S y.block
 p : x.n.p = s.n x.id
theorem Nd.In.both {D E : Nat → Prop} {n : Nd} (h : n.In D) (g : n.In E) : n.In (fun k => D k ∧ E k) :=
 ⟨fun x e l => ⟨h.h x e l,g.h x e l⟩,fun x e l => ⟨h.k x e l,g.k x e l⟩,fun t ht x e l => ⟨h.ke t ht x e l,g.ke t ht x e l⟩,fun x e l => ⟨h.v x e l,g.v x e l⟩,fun t ht x e l => ⟨h.ve t ht x e l,g.ve t ht x e l⟩,fun x e l => ⟨h.c x e l,g.c x e l⟩⟩
theorem row_lt {W : World} {k : IntKind} {a : Option Addr} {zs : List Int} (r : Row W k a zs) : ∀ x,a = some x → 0 < zs.length → x.block < W.heap.size := fun x e l => by
 obtain ⟨b,o,ha,hc⟩ := r 0 l
 rw [e] at ha
 cases ha
 exact World.block_lt_of_cell? W ⟨b,o + 0,none⟩ hc
theorem Sp.Ok.move {W W' : World} {S S' T : Nat → Prop} {s : AS} {x : Sp} (h : x.Ok W S s) (hu : Upd T W W') (hT : ∀ k,k < W.heap.size → T k → S k) (hS : ∀ k,k < W.heap.size → S' k → S k) : x.Ok W' S' s := by
 have hi := h.ni.both h.n.in_
 refine ⟨h.n.upd hi hu (fun k hk e => hk.1 (hT k hk.2 e)),h.l.updL hu (fun y e l e2 => h.li y e l (hT _ (row_lt h.l.r y e l) e2)),hi.mono (fun k hk e => hk.1 (hS k hk.2 e)),fun y e l e2 => h.li y e l (hS _ (row_lt h.l.r y e l) e2),h.p⟩
def spE (L : List Sp) : List (Int × Value) := L.map fun x => (x.id,x.v)
theorem spE_ids (L : List Sp) : (spE L).map (·.1) = L.map (·.id) := by simp [spE]
def lookC (A : Nat) (nd lf inn fl bk : Int) (m : Nat) (v : Value) : Array Value := #[.pointer (some ⟨A,0,none⟩),.int .i64 nd,.int .i64 lf,.int .i64 inn,.int .i64 fl,.int .i64 bk,.map (some m),v]
structure Olds (W : World) (S : Nat → Prop) (O : List (List Sp)) (ov : List IL) : Prop where
 ok : ∀ v ∈ ov,v.Ok W
 ap : ∀ v ∈ ov,∀ y,v.a = some y → 0 < v.s.length → ¬ S y.block
 s : ov.map (·.s) = O.map fun c => c.map (·.id)
theorem Olds.len {W : World} {S : Nat → Prop} {O : List (List Sp)} {ov : List IL} (h : Olds W S O ov) : ov.length = O.length := by have := congrArg List.length h.s; simpa using this
theorem Olds.move {W W' : World} {S S' T : Nat → Prop} {O : List (List Sp)} {ov : List IL} (h : Olds W S O ov) (hu : Upd T W W') (hT : ∀ k,k < W.heap.size → T k → S k) (hS : ∀ k,k < W.heap.size → S' k → S k) : Olds W' S' O ov :=
 ⟨fun v hv => (h.ok v hv).upd hu (fun y e l e2 => h.ap v hv y e l (hT _ (row_lt (h.ok v hv).r y e l) e2)),fun v hv y e l e2 => h.ap v hv y e l (hS _ (row_lt (h.ok v hv).r y e l) e2),h.s⟩
structure LQ (W : World) (X : Nat → Prop) (B m N A : Nat) (ga : Option Addr) (gc : Nat) (nd lf inn fl bk : Int) (s : AS) (O : List (List Sp)) (ov : List IL) : Prop where
 b : W.heap[B]? = some (.cells (lookC A nd lf inn fl bk m (.slice ga O.length gc)) 178 (0,0))
 im : IM W m (spE O.flatten)
 row : W.ownsRow N 51 1 (.slice ga O.length gc) O.length (ov.map IL.v)
 old : Olds W (LAv X B m ga none) O ov
 sp : ∀ x ∈ O.flatten,x.Ok W (LAv X B m ga none) s
 x : ∀ k,X k → k < W.heap.size ∧ ¬ LMut B m ga none k
 nB : N ≤ B
 nm : N ≤ m
 bm : B ≠ m
 gB : ∀ y,ga = some y → y.block ≠ B ∧ y.block ≠ m
structure LW (W : World) (X : Nat → Prop) (B m N A : Nat) (ga : Option Addr) (gc : Nat) (la : Option Addr) (lc : Nat) (nd lf inn fl bk : Int) (s : AS) (O : List (List Sp)) (ov : List IL) (cur : List Sp) : Prop where
 b : W.heap[B]? = some (.cells (lookC A nd lf inn fl bk m (.slice ga (O.length + 1) gc)) 178 (0,0))
 im : IM W m (spE (O.flatten ++ cur))
 row : W.ownsRow N 51 1 (.slice ga (O.length + 1) gc) (O.length + 1) (ov.map IL.v ++ [.slice la cur.length lc])
 last : W.ownsRow N 3 1 (.slice la cur.length lc) cur.length (cur.map fun x => .int .i64 x.id)
 old : Olds W (LAv X B m ga la) O ov
 sp : ∀ x ∈ O.flatten ++ cur,x.Ok W (LAv X B m ga la) s
 x : ∀ k,X k → k < W.heap.size ∧ ¬ LMut B m ga la k
 nB : N ≤ B
 nm : N ≤ m
 bm : B ≠ m
 gB : ∀ y,ga = some y → y.block ≠ B ∧ y.block ≠ m
 lB : ∀ y,la = some y → y.block ≠ B ∧ y.block ≠ m ∧ ∀ z,ga = some z → y.block ≠ z.block
section
variable {W W' : World} {X : Nat → Prop} {B m N A : Nat} {ga la : Option Addr} {gc lc : Nat} {nd lf inn fl bk : Int} {s : AS} {O : List (List Sp)} {ov : List IL} {cur : List Sp}
theorem LQ.below (h : LQ W X B m N A ga gc nd lf inn fl bk s O ov) (hb : Below W.heap.size W W') : LQ W' X B m N A ga gc nd lf inn fl bk s O ov := by
 have hu : Upd Noth W W' := Upd.of_below hb _
 exact ⟨hu.heap h.b (fun e => e),h.im.below hb,owns_below h.row hb,h.old.move hu (fun _ _ e => e.elim) (fun _ _ e => e),fun x hx => (h.sp x hx).move hu (fun _ _ e => e.elim) (fun _ _ e => e),fun k hk => ⟨Nat.lt_of_lt_of_le (h.x k hk).1 hb.size,(h.x k hk).2⟩,h.nB,h.nm,h.bm,h.gB⟩
theorem LW.below (h : LW W X B m N A ga gc la lc nd lf inn fl bk s O ov cur) (hb : Below W.heap.size W W') : LW W' X B m N A ga gc la lc nd lf inn fl bk s O ov cur := by
 have hu : Upd Noth W W' := Upd.of_below hb _
 exact ⟨hu.heap h.b (fun e => e),h.im.below hb,owns_below h.row hb,owns_below h.last hb,h.old.move hu (fun _ _ e => e.elim) (fun _ _ e => e),fun x hx => (h.sp x hx).move hu (fun _ _ e => e.elim) (fun _ _ e => e),fun k hk => ⟨Nat.lt_of_lt_of_le (h.x k hk).1 hb.size,(h.x k hk).2⟩,h.nB,h.nm,h.bm,h.gB,h.lB⟩
theorem LW.shut (h : LW W X B m N A ga gc la lc nd lf inn fl bk s O ov cur) : LQ W X B m N A ga gc nd lf inn fl bk s (O ++ [cur]) (ov ++ [⟨la,lc,cur.map (·.id)⟩]) := by
 have hS : ∀ k,LMut B m ga none k → LMut B m ga la k := fun k hk => by
  rcases hk with e | e | e | ⟨y,e,_⟩
  ·exact .inl e
  ·exact .inr (.inl e)
  ·exact .inr (.inr (.inl e))
  ·cases e
 have hf : (O ++ [cur]).flatten = O.flatten ++ cur := by simp
 have hS' : ∀ k,LAv X B m ga none k → LAv X B m ga la k := fun k hk => hk.imp (hS k) id
 refine ⟨by rw [List.length_append]; exact h.b,by rw [hf]; exact h.im,?_,⟨fun v hv => ?_,fun v hv y e l e2 => ?_,?_⟩,fun x hx => ?_,fun k hk => ⟨(h.x k hk).1,fun e => (h.x k hk).2 (hS k e)⟩,h.nB,h.nm,h.bm,h.gB⟩
 ·rw [List.length_append,List.map_append]
  have := h.row
  simpa [IL.v] using this
 ·rcases List.mem_append.1 hv with hv | hv
  ·exact h.old.ok v hv
  ·rw [List.mem_singleton.1 hv]
   refine il_of_owns (N := N) ?_
   have := h.last
   simpa [IL.v,Function.comp_def] using this
 ·rcases List.mem_append.1 hv with hv | hv
  ·exact h.old.ap v hv y e l (hS' _ e2)
  ·rw [List.mem_singleton.1 hv] at e
   simp only at e
   obtain ⟨h1,h2,h3⟩ := h.lB y e
   rcases e2 with (e2 | e2 | ⟨z,e2,e3⟩ | ⟨z,e2,_⟩) | e2
   ·exact h1 e2
   ·exact h2 e2
   ·exact h3 z e2 e3.symm
   ·cases e2
   ·exact (h.x _ e2).2 (.inr (.inr (.inr ⟨y,e,rfl⟩)))
 ·rw [List.map_append,List.map_append,h.old.s]; rfl
 ·rw [hf] at hx
  exact (h.sp x hx).move (Upd.refl Noth W) (fun _ _ e => e.elim) (fun k _ hk => hS' k hk)
theorem LW.other (h : LW W X B m N A ga gc la lc nd lf inn fl bk s O ov cur) (hu : Upd X W W') : LW W' X B m N A ga gc la lc nd lf inn fl bk s O ov cur := by
 have hx : ∀ k,LMut B m ga la k → ¬ X k := fun k hk e => (h.x k e).2 hk
 exact ⟨hu.heap h.b (hx _ (.inl rfl)),h.im.upd hu (hx _ (.inr (.inl rfl))),owns_upd h.row hu (fun k hk => hx k (.inr (.inr (.inl (by cases hg : ga with
   | none => rw [hg] at hk; cases hk
   | some y => rw [hg] at hk; exact ⟨y,rfl,Option.some.inj hk⟩))))),owns_upd h.last hu (fun k hk => hx k (.inr (.inr (.inr (by cases hg : la with
   | none => rw [hg] at hk; cases hk
   | some y => rw [hg] at hk; exact ⟨y,rfl,Option.some.inj hk⟩))))),h.old.move hu (fun _ _ e => .inr e) (fun _ _ e => e),fun x hx => (h.sp x hx).move hu (fun _ _ e => .inr e) (fun _ _ e => e),fun k hk => ⟨Nat.lt_of_lt_of_le (h.x k hk).1 hu.size,(h.x k hk).2⟩,h.nB,h.nm,h.bm,h.gB,h.lB⟩
theorem LQ.other (h : LQ W X B m N A ga gc nd lf inn fl bk s O ov) (hu : Upd X W W') : LQ W' X B m N A ga gc nd lf inn fl bk s O ov := by
 have hx : ∀ k,LMut B m ga none k → ¬ X k := fun k hk e => (h.x k e).2 hk
 exact ⟨hu.heap h.b (hx _ (.inl rfl)),h.im.upd hu (hx _ (.inr (.inl rfl))),owns_upd h.row hu (fun k hk => hx k (.inr (.inr (.inl (by cases hg : ga with
   | none => rw [hg] at hk; cases hk
   | some y => rw [hg] at hk; exact ⟨y,rfl,Option.some.inj hk⟩))))),h.old.move hu (fun _ _ e => .inr e) (fun _ _ e => e),fun x hx => (h.sp x hx).move hu (fun _ _ e => .inr e) (fun _ _ e => e),fun k hk => ⟨Nat.lt_of_lt_of_le (h.x k hk).1 hu.size,(h.x k hk).2⟩,h.nB,h.nm,h.bm,h.gB⟩
theorem LW.more (h : LW W X B m N A ga gc la lc nd lf inn fl bk s O ov cur) (hb : Below W.heap.size W W') {X' : Nat → Prop} (hX : ∀ k,X' k → X k ∨ (W.heap.size ≤ k ∧ k < W'.heap.size)) (hm : ∀ k,LMut B m ga la k → k < W.heap.size) : LW W' X' B m N A ga gc la lc nd lf inn fl bk s O ov cur := by
 have hu : Upd Noth W W' := Upd.of_below hb _
 have hS : ∀ k,k < W.heap.size → LAv X' B m ga la k → LAv X B m ga la k := fun k hk e => by
  rcases e with e | e
  ·exact .inl e
  ·rcases hX k e with e | e
   ·exact .inr e
   ·omega
 refine ⟨hu.heap h.b (fun e => e),h.im.below hb,owns_below h.row hb,owns_below h.last hb,h.old.move hu (fun _ _ e => e.elim) hS,fun x hx => (h.sp x hx).move hu (fun _ _ e => e.elim) hS,fun k hk => ?_,h.nB,h.nm,h.bm,h.gB,h.lB⟩
 rcases hX k hk with e | e
 ·exact ⟨Nat.lt_of_lt_of_le (h.x k e).1 hb.size,(h.x k e).2⟩
 ·exact ⟨e.2,fun e2 => by have := hm k e2; omega⟩
theorem LQ.more (h : LQ W X B m N A ga gc nd lf inn fl bk s O ov) (hb : Below W.heap.size W W') {X' : Nat → Prop} (hX : ∀ k,X' k → X k ∨ (W.heap.size ≤ k ∧ k < W'.heap.size)) (hm : ∀ k,LMut B m ga none k → k < W.heap.size) : LQ W' X' B m N A ga gc nd lf inn fl bk s O ov := by
 have hu : Upd Noth W W' := Upd.of_below hb _
 have hS : ∀ k,k < W.heap.size → LAv X' B m ga none k → LAv X B m ga none k := fun k hk e => by
  rcases e with e | e
  ·exact .inl e
  ·rcases hX k e with e | e
   ·exact .inr e
   ·omega
 refine ⟨hu.heap h.b (fun e => e),h.im.below hb,owns_below h.row hb,h.old.move hu (fun _ _ e => e.elim) hS,fun x hx => (h.sp x hx).move hu (fun _ _ e => e.elim) hS,fun k hk => ?_,h.nB,h.nm,h.bm,h.gB⟩
 rcases hX k hk with e | e
 ·exact ⟨Nat.lt_of_lt_of_le (h.x k e).1 hb.size,(h.x k e).2⟩
 ·exact ⟨e.2,fun e2 => by have := hm k e2; omega⟩
theorem LQ.row_at (h : LQ W X B m N A ga gc nd lf inn fl bk s O ov) {i : Nat} (hi : i < O.length) : ∃ g,ga = some ⟨g,0,none⟩ ∧ ∃ (hi' : i < ov.length),W.cell? ⟨g,i,none⟩ = some ov[i].v ∧ ov[i].Ok W ∧ ov[i].s = O[i].map (·.id) := by
 have hl := h.old.len
 rcases h.row.2 with ⟨hv,h0⟩ | ⟨g,cap,cu,hv,_⟩
 ·simp only [Value.slice.injEq] at hv; omega
 ·simp only [Value.slice.injEq] at hv
  obtain ⟨hg,_,_⟩ := hv
  refine ⟨g,hg,by omega,?_,h.old.ok _ (List.getElem_mem _),?_⟩
  ·have := h.row.cells (g := g) (by rw [hg]; rfl) i ov[i].v (by rw [List.getElem?_map,List.getElem?_eq_getElem (by omega)]; rfl)
   rw [Addr.add_lit,Nat.zero_add] at this
   exact this
  ·have h1 : (ov.map (·.s))[i]'(by rw [List.length_map]; omega) = (O.map fun c => c.map (·.id))[i]'(by rw [List.length_map]; omega) := by
    congr 1
    exact h.old.s
   rw [List.getElem_map,List.getElem_map] at h1
   exact h1
theorem LQ.cells (h : LQ W X B m N A ga gc nd lf inn fl bk s O ov) : W.cell? ⟨B,0,none⟩ = some (.pointer (some ⟨A,0,none⟩)) ∧ W.cell? ⟨B,6,none⟩ = some (.map (some m)) ∧ W.cell? ⟨B,7,none⟩ = some (.slice ga O.length gc) :=
 ⟨by rw [cell_of_row _ _ _ _ _ _ h.b]; rfl,by rw [cell_of_row _ _ _ _ _ _ h.b]; rfl,by rw [cell_of_row _ _ _ _ _ _ h.b]; rfl⟩
theorem LQ.cfg (h : LQ W X B m N A ga gc nd lf inn fl bk s O ov) : W.cell? ⟨B,1,none⟩ = some (.int .i64 nd) ∧ W.cell? ⟨B,2,none⟩ = some (.int .i64 lf) ∧ W.cell? ⟨B,3,none⟩ = some (.int .i64 inn) ∧ W.cell? ⟨B,4,none⟩ = some (.int .i64 fl) ∧ W.cell? ⟨B,5,none⟩ = some (.int .i64 bk) :=
 ⟨by rw [cell_of_row _ _ _ _ _ _ h.b]; rfl,by rw [cell_of_row _ _ _ _ _ _ h.b]; rfl,by rw [cell_of_row _ _ _ _ _ _ h.b]; rfl,by rw [cell_of_row _ _ _ _ _ _ h.b]; rfl,by rw [cell_of_row _ _ _ _ _ _ h.b]; rfl⟩
theorem LQ.at (h : LQ W X B m N A ga gc nd lf inn fl bk s O ov) {x : Sp} (hx : x ∈ O.flatten) : imAt (spE O.flatten) x.id = some x.v := imAt_some h.im.nd (List.mem_map.2 ⟨x,hx,rfl⟩)
theorem LQ.uniq (h : LQ W X B m N A ga gc nd lf inn fl bk s O ov) : (O.flatten.map (·.id)).Nodup := by have := h.im.nd; rwa [spE_ids] at this
end
def Sp.q (x : Sp) : Int × List Int := (x.id,x.low.s)
def chQ (O : List (List Sp)) : List Chn := O.map fun c => c.map Sp.q
theorem chQ_ids (O : List (List Sp)) : idsOf (chQ O) = O.flatten.map (·.id) := by
 unfold idsOf chQ
 simp [List.flatMap,List.map_flatten,Sp.q,Function.comp_def]
def rpt (b : Bool) (id er lv no en : Int) : Value := .agg #[.bool b,.int .i64 id,.int .i64 er,.int .i64 lv,.int .i64 no,.int .i64 en]
set_option maxHeartbeats 400000 in
theorem swrong_any (id er : Int) (w : World) : Calls Tryz.prog 90 #[.int .i64 id,.int .i64 er] w fun e w' => e = .returned (rpt false id er 0 0 0) ∧ Below w.heap.size w w' := by
 obtain ⟨w1,hw1⟩ : ∃ x,x = w.alloc (.cells #[.bool false,.int .i64 0,.int .i64 0,.int .i64 0,.int .i64 0,.int .i64 0] 54) := ⟨_,rfl⟩
 have b1 : Below w.heap.size w w1 := by rw [hw1]; exact (Below.refl _ _).alloc (Nat.le_refl _) _
 have g1 : w1.heap[w.heap.size]? = some (.cells #[.bool false,.int .i64 0,.int .i64 0,.int .i64 0,.int .i64 0,.int .i64 0] 54 (0,0)) := by rw [hw1]; exact heap_alloc_new w _
 have HW1 : Hid (w.alloc (.cells #[.bool false,.int .i64 0,.int .i64 0,.int .i64 0,.int .i64 0,.int .i64 0] 54) = w1) := hw1.symm
 obtain ⟨y0,y1,y2,y3,y4,y5⟩ := Six.of g1
 have F5 := fun j => frozen_of g1 j
 have G6 := six_block g1 (.bool false) (.int .i64 id) (.int .i64 er) (.int .i64 0) (.int .i64 0) (.int .i64 0)
 have U6 : Upd (fun b => b = w.heap.size) w1 (six6 w1 w.heap.size (.bool false) (.int .i64 id) (.int .i64 er) (.int .i64 0) (.int .i64 0) (.int .i64 0)) := six_upd _ _ _ _ _ _ _ _ _ rfl
 have B6 := hide (b1.trans (U6.below b1.size (fun k hk e => by omega)))
 have HG6 := hide G6
 clear b1 g1 hw1 U6 G6
 go_enter Tryz.func90,Tryz.ntmps90
 go_upto_region 1 with fail
 rw [HW1.out]
 go_wp2_with fail
 (try simp only [Exit.inBlock,Exit.then])
 obtain ⟨q0,q1,q2,q3,q4,q5⟩ := Six.of HG6.out
 show bodyPost _ _ _ _ _ (six6 w1 w.heap.size (.bool false) (.int .i64 id) (.int .i64 er) (.int .i64 0) (.int .i64 0) (.int .i64 0))
 exact bodyPost_ret (v := rpt false id er 0 0 0) (by simp [results,Tryz.results90,go_sem,q0,q1,q2,q3,q4,q5,rpt]) rfl ⟨rfl,B6.out⟩
section
variable {W : World} {X : Nat → Prop} {B m N A : Nat} {ga : Option Addr} {gc : Nat} {nd lf inn fl bk : Int} {s : AS} {O : List (List Sp)} {ov : List IL}
set_option maxHeartbeats 400000 in
theorem lowest_at (W : World) (B g k gc : Nat) (va : Option Addr) (vl vc : Nat) (c7 : W.cell? ⟨B,7,none⟩ = some (.slice (some ⟨g,0,none⟩) (k + 1) gc)) (hc : W.cell? ⟨g,k,none⟩ = some (.slice va vl vc)) (hz : k ≤ 65536) :
  Calls Tryz.prog 151 #[.pointer (some ⟨B,0,none⟩)] W fun e w' => e = .returned (.slice va vl vc) ∧ ∃ j,w' = W.drewN j := by
 have e1 : IntKind.i64.wrap (((k + 1 : Nat) : Int) - 1) = (k : Int) := by unfold IntKind.wrap; simp [IntKind.bits,IntKind.signed]; omega
 have e2 : (k : Int) < ((k + 1 : Nat) : Int) := by omega
 go_enter Tryz.func151,Tryz.ntmps151
 go_wp2_with fail
 go_quiet (fail)
 go_wp2_with fail
 go_ret
 exact ⟨rfl,_,rfl⟩
theorem lowest_any (h : LQ W X B m N A ga gc nd lf inn fl bk s O ov) (k : Nat) (hk : O.length = k + 1) (hz : k ≤ 65536) : ∃ (hk' : k < ov.length),Calls Tryz.prog 151 #[.pointer (some ⟨B,0,none⟩)] W fun e w' => e = .returned ov[k].v ∧ ∃ j,w' = W.drewN j := by
 obtain ⟨_,_,c7⟩ := h.cells
 obtain ⟨g,rfl,hk',hc,_⟩ := h.row_at (i := k) (by omega)
 rw [hk] at c7
 exact ⟨hk',lowest_at W B g k gc _ _ _ c7 hc hz⟩
def wdS (c : List Sp) : Nat := (c.map Sp.w).sum
set_option maxHeartbeats 800000 in
theorem sahead_any (x : Sp) (S : Nat → Prop) (w : World) (hx : x.Ok w S s) (hlv : 0 < x.n.lv) (k : Nat) (hk : k ≤ x.n.ks.L.length) :
  Calls Tryz.prog 149 #[x.v,.int .i64 (k : Nat)] w fun e w' => ∃ t : Tx,e = .returned t.v ∧ t.Ok w ∧ t.s = (if k = 0 then x.low.s else x.n.p.ks.getD (k - 1) []) ∧ Below w.heap.size w w' := by
 have hkz := hx.n.kz
 have hko := hx.n.k
 have hlo := hx.l
 have hxv : x.v = .agg #[.int .i64 x.n.lv,x.low.v,.int .i64 (x.w : Nat),x.n.ks.v,x.n.cs.v] := by unfold Sp.v Sp.kv Sp.cv; rw [if_pos hlv,if_pos hlv]
 rw [hxv]
 have hp : x.n.p.ks = x.n.ks.p := rfl
 rw [hp]
 clear hxv hx hp
 generalize x.n.cs = C at *
 generalize x.n.ks = K at *
 generalize x.low = L at *
 generalize x.n.lv = lv at *
 generalize x.w = xw at *
 obtain ⟨la,lc,ls⟩ := L
 obtain ⟨ca,cc,cs⟩ := C
 obtain ⟨ka,kc,ks⟩ := K
 by_cases h0 : k = 0
 ·subst h0
  have HLO := hide hlo
  simp only [TL.v,IL.v,Tx.v]
  generalize hll : ls.length = ll at *
  have HLL := hide hll
  clear hlo hko hll
  go_enter Tryz.func149,Tryz.ntmps149
  go_wp2_with fail
  go_ret
  exact ⟨⟨la,lc,ls⟩,by simp only [HLL.out]; rfl,HLO.out,rfl,(Below.refl _ _).alloc (Nat.le_refl _) _⟩
 ·obtain ⟨j,rfl⟩ : ∃ j,k = j + 1 := ⟨k - 1,by omega⟩
  simp only at hk hkz
  obtain ⟨b,o,hka,hc⟩ := hko.r j (by simp only; omega)
  simp only at hka hc
  subst hka
  have HOK := hide (hko.ok ks[j] (List.getElem_mem _))
  have HPS : Hid ((⟨some ⟨b,o,none⟩,kc,ks⟩ : TL).p.getD (j + 1 - 1) [] = ks[j].s) := by show _ = _; simp [TL.p,show j < ks.length by omega]
  have hjl : j < ks.length := by omega
  generalize ks[j] = t at *
  obtain ⟨ta,tc,ts⟩ := t
  have hbl : b < w.heap.size := World.block_lt_of_cell? w ⟨b,o + j,none⟩ hc
  simp only [TL.v,IL.v,Tx.v] at hc ⊢
  generalize hll : ls.length = ll at *
  generalize htl : ts.length = tl at *
  have HTL := hide htl
  generalize hkl : ks.length = kl at *
  have HKL := hide hkl
  clear hlo hko hll htl hkl
  have e1 : IntKind.i64.wrap (((j + 1 : Nat) : Int) - 1) = (j : Int) := by unfold IntKind.wrap; simp [IntKind.bits,IntKind.signed]; omega
  have e2 : (j : Int) < (kl : Int) := by omega
  have e3 : ¬ (((j + 1 : Nat) : Int) = 0) := by omega
  have e4 : ((((j + 1 : Nat) : Int)) == 0) = false := by rw [beq_eq_false_iff_ne]; exact e3
  have n1 : ¬ b = w.heap.size := by omega
  have n2 : ¬ w.heap.size = b := by omega
  rw [if_neg (by omega)]
  go_enter Tryz.func149,Tryz.ntmps149
  go_wp2_with fail
  go_ret
  exact ⟨⟨ta,tc,ts⟩,by simp only [HTL.out]; rfl,HOK.out,HPS.out.symm,(Below.refl _ _).alloc (Nat.le_refl _) _⟩
end
theorem zero_spot2 (w : World) : (zeroValue 219).run Tryz.prog w = .ok (.agg #[.int .i64 0,.slice none 0 0,.int .i64 0,.slice none 0 0,.slice none 0 0]) w := by kernel_rfl
theorem Sp.form2 (x : Sp) : ∃ a l c ka kl kc ca cl cc,x.v = .agg #[.int .i64 x.n.lv,.slice a l c,.int .i64 (x.w : Nat),.slice ka kl kc,.slice ca cl cc] := by
 unfold Sp.v Sp.kv Sp.cv
 by_cases h : 0 < x.n.lv
 ·rw [if_pos h,if_pos h]; exact ⟨_,_,_,_,_,_,_,_,_,rfl⟩
 ·rw [if_neg h,if_neg h]; exact ⟨_,_,_,_,_,_,_,_,_,rfl⟩
theorem wdS_take {c : List Sp} {i : Nat} (h : i < c.length) : wdS (c.take (i + 1)) = wdS (c.take i) + c[i].w := by
 unfold wdS
 rw [← List.take_append_getElem h,List.map_append,List.sum_append]
 simp
section
variable {W : World} {X : Nat → Prop} {B m N A : Nat} {ga : Option Addr} {gc : Nat} {nd lf inn fl bk : Int} {s : AS} {O : List (List Sp)} {ov : List IL}
theorem Sp.Ok.w_le {W : World} {S : Nat → Prop} {s : AS} {x : Sp} (h : x.Ok W S s) : x.w ≤ 140737488352000 := by
 have h1 := h.n.kz
 have h2 := h.n.cz
 unfold Sp.w
 split <;> omega
theorem wdS_le {W : World} {S : Nat → Prop} {s : AS} : ∀ (c : List Sp),(∀ x ∈ c,x.Ok W S s) → wdS c ≤ c.length * 140737488352000
 | [],_ => Nat.le_refl _
 | x :: r,h => by
  have h1 := wdS_le r (fun y hy => h y (.tail _ hy))
  have h2 := (h x (.head _)).w_le
  unfold wdS at h1 ⊢
  simp only [List.map_cons,List.sum_cons,List.length_cons]
  omega
set_option maxHeartbeats 800000 in
theorem width_sp (h : LQ W X B m N A ga gc nd lf inn fl bk s O ov) (v : IL) (hv : v.Ok W) (c : List Sp) (hc : ∀ x ∈ c,x ∈ O.flatten) (hs : v.s = c.map (·.id)) (hz : c.length ≤ 65536) :
  Calls Tryz.prog 150 #[.pointer (some ⟨B,0,none⟩),v.v] W fun e w' => e = .returned (.int .i64 (wdS c : Nat)) ∧ w' = W := by
 obtain ⟨_,c6,_⟩ := h.cells
 have HH := hide h
 have HC := hide hc
 obtain ⟨va,vc,vs⟩ := v
 simp only at hs
 have hlen : vs.length = c.length := by rw [hs,List.length_map]
 have HV := hide hv
 have HS := hide hs
 have HWL : Hid (wdS c ≤ c.length * 140737488352000) := wdS_le c (fun x hx => h.sp x (hc x hx))
 have hwb : Hid (∀ i,i ≤ c.length → wdS (c.take i) ≤ i * 140737488352000) := fun i hi => by
  have := wdS_le (c.take i) (fun x hx => h.sp x (hc x (List.mem_of_mem_take hx)))
  rw [List.length_take,Nat.min_eq_left hi] at this
  exact this
 simp only [IL.v]
 obtain ⟨l,hl⟩ : ∃ l,vs.length = l := ⟨_,rfl⟩
 rw [hl] at hlen ⊢
 have HL := hide hl
 have HLC := hide hlen.symm
 have hlz : l ≤ 65536 := by omega
 clear h hc hv hs hl hlen hz
 obtain ⟨R,hR⟩ : ∃ R,wdS c = R := ⟨_,rfl⟩
 rw [hR]
 have HR := hide hR
 clear hR
 go_enter Tryz.func150,Tryz.ntmps150
 go_wp2_with fail
 go_loopw [5,10] (fun q5 q10 wr => ∃ i : Nat,i ≤ l ∧ q5 = .int .i64 (wdS (c.take i) : Nat) ∧ q10 = .int .i64 (i : Int) ∧ W = wr) (fun _ q10 _ => l - (intOf q10).toNat)
 case atStart => exact ⟨0,Nat.zero_le _,by simp [wdS],rfl,rfl⟩
 case round =>
  obtain ⟨i,hi,rfl,rfl,rfl⟩ := hrel
  by_cases hlt : i < l
  ·have j1 : (i : Int) < (l : Int) := by omega
   have hic : i < c.length := by rw [HLC.out]; exact hlt
   obtain ⟨b,o,hva,hcell⟩ := HV.out.r i (by simp only; rw [HL.out]; exact hlt)
   simp only at hva hcell
   subst hva
   have hgi : vs.getD i 0 = c[i].id := by rw [HS.out]; simp [hic]
   rw [hgi] at hcell
   have LOOK := HH.out.im.look (P := Tryz.prog) (t := 175) Tryz.underlying175 Tryz.underlying3 (zero_spot2 W) c[i].id false
   rw [HH.out.at (HC.out c[i] (List.getElem_mem hic))] at LOOK
   obtain ⟨fa,fl',fc,fka,fkl,fkc,fca,fcl,fcc,hform⟩ := c[i].form2
   rw [hform] at LOOK
   simp only [Option.getD_some,Bool.false_eq_true,if_false] at LOOK
   have hE := wdS_take hic
   have hb1 := hwb.out i (by omega)
   have hb2 := hwb.out (i + 1) (by omega)
   rw [hE] at hb2
   have HE := hide hE
   generalize c[i].w = xw at *
   generalize c[i].id = xid at *
   generalize c[i].n.lv = xlv at *
   obtain ⟨sw,hsw⟩ : ∃ sw,wdS (c.take i) = sw := ⟨_,rfl⟩
   rw [hsw] at hb1 hb2 HE ⊢
   have FLD : ∀ w,(Instr.field 219 (.agg #[.int .i64 xlv,.slice fa fl' fc,.int .i64 (xw : Nat),.slice fka fkl fkc,.slice fca fcl fcc]) 2).run Tryz.prog w = .ok (.int .i64 (xw : Nat)) w := fun w => by kernel_rfl
   have a1 : (sw : Int) + (xw : Int) ≤ 9223372036854775807 := by omega
   have a2 : IntKind.i64.wrap ((sw : Int) + (xw : Int)) = (sw : Int) + (xw : Int) := by unfold IntKind.wrap; simp [IntKind.bits,IntKind.signed]; omega
   clear hE hform hgi hb1 hb2 hsw
   go_wp2_with fail
   go_roundw
   case rel => exact ⟨i + 1,by omega,by rw [HE.out]; go_num,by go_num,trivial⟩
   case measure => simp [intOf]; omega
  ·have j1 : ¬ (i : Int) < (l : Int) := by omega
   obtain rfl : i = l := by omega
   have HT : Hid (c.take i = c) := List.take_of_length_le (by rw [HLC.out]; exact Nat.le_refl _)
   rw [HT.out,HR.out]
   go_wp2_with fail
   go_ret
   exact ⟨rfl,rfl⟩
end
end Go.Proofs.YtljnapejgjffjaaGreat
