/- Texts of one's own. -/
import Derived.Test.YtljnapejgjffjaaGreatH37
import Derived.Test.YtljnapejgjffjaaGreatH48
namespace Go.Proofs.YtljnapejgjffjaaGreat
open Go.RowKit
set_option maxRecDepth 100000
structure SetW (W w : World) (E : List En) (k v : Tx) (D : List En) (a : Option Addr) (n c : Nat) : Prop where
 row : w.ownsRow (W.heap.size + 1) 48 2 (.slice a n c) D.length (D.flatMap EnC)
 len : D.length = n
 mem : ∀ x ∈ D,x ∈ E ∨ x = (k,v)
 box : w.heap[W.heap.size]? = some (.cells #[k.v,v.v] 48 (0,0))
 bel : Below W.heap.size W w
section
variable {W w w' : World} {E D : List En} {k v : Tx} {a : Option Addr} {n c : Nat}
theorem SetW.size (h : SetW W w E k v D a n c) : W.heap.size + 1 ≤ w.heap.size := lt_of_block h.box
theorem SetW.below (h : SetW W w E k v D a n c) (hb : Below w.heap.size w w') : SetW W w' E k v D a n c :=
 ⟨owns_blkN h.row (fun g hg => hb.block g (by obtain ⟨c,hh,_⟩ := own_tyE h.row hg; exact lt_of_block hh)),h.len,h.mem,(hb.block _ (lt_of_block h.box)).trans h.box,h.bel.trans (hb.mono h.bel.size)⟩
theorem SetW.more (h : SetW W w E k v D a n c) {x : En} {v' : Value} (hx : x ∈ E ∨ x = (k,v)) (h1 : w'.ownsRow (W.heap.size + 1) 48 2 v' (n + 1) (D.flatMap EnC ++ [x.1.v,x.2.v])) (hg : w.grownBy w' (Value.slice a n c).ownBlock) : ∃ a' c',v' = .slice a' (n + 1) c' ∧ SetW W w' E k v (D ++ [x]) a' (n + 1) c' := by
 obtain ⟨a',c',rfl⟩ : ∃ a' c',v' = .slice a' (n + 1) c' := by
  rcases h1.2 with ⟨_,h2⟩ | ⟨g,cap,cur,h1,_⟩
  ·omega
  ·exact ⟨_,_,h1⟩
 have hne : ∀ g,(Value.slice a n c).ownBlock = some g → W.heap.size + 1 ≤ g := fun g hg => by
  obtain ⟨_,_,h5⟩ := own_tyE h.row hg
  exact h5
 refine ⟨a',c',rfl,?_,by rw [List.length_append,h.len]; rfl,fun y hy => ?_,?_,?_⟩
 ·have e : (D ++ [x]).flatMap EnC = D.flatMap EnC ++ [x.1.v,x.2.v] := by rw [List.flatMap_append,List.flatMap_cons,List.flatMap_nil,List.append_nil]; rfl
  rw [e,List.length_append,h.len]
  exact h1
 ·rcases List.mem_append.1 hy with g | g
  ·exact h.mem y g
  ·rw [List.mem_singleton.1 g]; exact hx
 ·exact (hg.block _ (lt_of_block h.box) (fun e => by have := hne _ e.symm; omega)).trans h.box
 ·exact h.bel.trans ((Upd.of_grown hg (fun g hk _ => hk) : Upd (fun g => (Value.slice a n c).ownBlock = some g) w w').below (by have := h.size; omega) (fun g hk e => by have := hne _ e; omega))
end
def USetR (W : World) (E : List En) (k v : Tx) (e : Ending) (w' : World) : Prop := ∃ D a n c,e = .returned (.slice a n c) ∧ SetW W w' E k v D a n c ∧ D.map enP = mset k.s v.s (E.map enP)
theorem takeE (E : List En) (i : Nat) (h : i < E.length) : (E.map enP).take (i + 1) = (E.map enP).take i ++ [enP E[i]] := by
 rw [List.take_succ_eq_append_getElem (by simpa using h)]
 simp
set_option maxHeartbeats 6400000 in
theorem uset_any (oa : Option Addr) (on oc : Nat) (E : List En) (k v : Tx) (W : World) (hE : E.length = on) (hz : on ≤ 1099511627776) (hr : EnRd W oa E) (hk : k.Ok W) (hv : v.Ok W) (hs : Rise (E.map enP)) : Calls Tryz.prog 68 #[.slice oa on oc,k.v,v.v] W (USetR W E k v) := by
 obtain ⟨iE,hiE,hzE0,hzE1,hzE2⟩ := info_parts infoEn
 obtain ⟨w1,hw1⟩ : ∃ x,x = W.alloc (.cells #[k.v,v.v] 48) := ⟨_,rfl⟩
 have b1 : Below W.heap.size W w1 := by rw [hw1]; exact (Below.refl _ _).alloc (Nat.le_refl _) _
 have g1 : w1.heap[W.heap.size]? = some (.cells #[k.v,v.v] 48 (0,0)) := by rw [hw1]; exact heap_alloc_new W _
 have H1 : Hid (SetW W w1 E k v [] none 0 0) := ⟨World.ownsRow_nil _ _ _ _,rfl,fun x hx => (by cases hx),g1,b1⟩
 have HR := hide hr
 have HK := hide hk
 have HV := hide hv
 have HS := hide hs
 have HE := hide hE
 have HW1 := hide hw1
 obtain ⟨Q,hQ⟩ : ∃ Q,Q = USetR W E k v := ⟨_,rfl⟩
 have HQ : Hid (∀ e w',USetR W E k v e w' → Q e w') := fun e w' h => by rw [hQ]; exact h
 rw [← hQ]
 obtain ⟨ka,kl,kc,hkv⟩ : ∃ a l c,k.v = .slice a l c := ⟨_,_,_,rfl⟩
 obtain ⟨va,vl,vc,hvv⟩ : ∃ a l c,v.v = .slice a l c := ⟨_,_,_,rfl⟩
 have HKL : Hid (k.a = ka ∧ k.s.length = kl ∧ k.c = kc) := by
  unfold Tx.v at hkv
  simp only [Value.slice.injEq] at hkv
  exact hkv
 have HKV := hide (And.intro hkv hvv)
 rw [hkv,hvv] at HW1 ⊢
 have HCP : Hid (∀ (x : Tx) (xa : Option Addr) (xl xc : Nat) (Y : World),x.v = .slice xa xl xc → x.Ok Y → Below W.heap.size W Y → Calls Tryz.prog 106 #[.slice xa xl xc,.slice ka kl kc] Y fun e w' => e = .returned (.int .i64 (cmpI x.s k.s)) ∧ ∃ m,w' = Y.drewN m) := fun x xa xl xc Y hx ho hb => by
  unfold Tx.v at hx
  simp only [Value.slice.injEq] at hx
  obtain ⟨rfl,rfl,rfl⟩ := hx
  obtain ⟨e1,e2,e3⟩ := HKL.out
  have hk2 := HK.out.below hb
  rw [← e1,← e3]
  have hz1 := ho.z
  have hz2 := hk2.z
  exact rcmp_any x.a k.a _ x.c kl k.c x.s k.s Y rfl e2 (by omega) (by omega) ho.r hk2.r
 clear hr hk hv hs hE hw1 b1 g1 hQ hkv hvv HKL
 go_enter Tryz.func68,Tryz.ntmps68
 go_upto_region 4 with fail
 rw [HW1.out.symm]
 clear HW1
 go_wp2_with fail
 go_loopw [7,8,10] (fun q7 q8 q10 wr => ∃ (i : Nat) (a : Option Addr) (n c : Nat) (b : Bool),i ≤ on ∧ q7 = .slice a n c ∧ q8 = .bool b ∧ q10 = .int .i64 (i : Int) ∧ n ≤ i + b.toNat ∧ Hid (∃ D,SetW W wr E k v D a n c ∧ b = hitE k.s ((E.map enP).take i) ∧ D.map enP = outE k.s v.s ((E.map enP).take i))) (fun _ _ q10 _ => on - (intOf q10).toNat)
 case atStart => exact ⟨0,none,0,0,false,Nat.zero_le _,rfl,rfl,rfl,Nat.zero_le _,[],H1.out,rfl,rfl⟩
 case round =>
  clear H1
  obtain ⟨i,a,n,c,b,hi,rfl,rfl,rfl,hn,HD⟩ := hrel
  rename World => wr
  by_cases hlt : i < on
  ·have i1 : (i : Int) < (on : Int) := by omega
   have hiL : i < E.length := by rw [HE.out]; exact hlt
   obtain ⟨D,hS,hb,hD⟩ := HD.out
   obtain ⟨g,rfl,c1,c2,o1,o2⟩ := HR.out i hiL
   have ht := takeE E i hiL
   have hmem := List.getElem_mem hiL
   generalize E[i] = x at *
   have HX := hide hmem
   have hbz := Bool.toNat_le b
   obtain ⟨xa,xl,xc,hx1⟩ : ∃ a l c,x.1.v = .slice a l c := ⟨_,_,_,rfl⟩
   obtain ⟨ya,yl,yc,hx2⟩ : ∃ a l c,x.2.v = .slice a l c := ⟨_,_,_,rfl⟩
   have HXV := hide (And.intro hx1 hx2)
   rw [hx1] at c1
   rw [hx2] at c2
   have HC := hide (HCP.out x.1 xa xl xc wr hx1 (o1.below hS.bel) hS.bel)
   have HG : Hid (∀ Y,Below W.heap.size W Y → Y.cell? ⟨g,i * 2,none⟩ = some (.slice xa xl xc) ∧ Y.cell? ⟨g,i * 2 + 1,none⟩ = some (.slice ya yl yc)) := fun Y hb => ⟨(hb.cell (p := ⟨g,i * 2,none⟩) (World.block_lt_of_cell? W ⟨g,i * 2,none⟩ c1)).trans c1,(hb.cell (p := ⟨g,i * 2 + 1,none⟩) (World.block_lt_of_cell? W ⟨g,i * 2 + 1,none⟩ c2)).trans c2⟩
   clear c1 c2
   obtain ⟨c1,c2⟩ := HG.out wr hS.bel
   have HOS : Hid (hitE k.s ((E.map enP).take (i + 1)) = (hitE k.s ((E.map enP).take i) || decide (0 ≤ cmpI x.1.s k.s))) := by
    show _ = _
    rw [ht]; exact hit_snoc
   have HOT : Hid (outE k.s v.s ((E.map enP).take (i + 1)) = (if 0 ≤ cmpI x.1.s k.s ∧ hitE k.s ((E.map enP).take i) = false then outE k.s v.s ((E.map enP).take i) ++ [(k.s,v.s)] else outE k.s v.s ((E.map enP).take i)) ++ (if cmpI x.1.s k.s ≠ 0 then [enP x] else [])) := by
    show _ = _
    rw [ht]
    refine out_snoc ?_
    rw [← ht]
    exact HS.out.sublist (List.take_sublist _ _)
   rw [← hb] at HOS HOT
   have HDO := hide hD
   have HS0 := hide hS
   have hcr := cmpI_range x.1.s k.s
   generalize cmpI x.1.s k.s = cv at *
   clear hS hb hD o1 o2 ht hmem HD hx1 hx2
   go_wp2_with fail
   refine HC.out.mono ?_
   rintro e w2 ⟨rfl,m,hw2⟩
   have b2 : Below wr.heap.size wr w2 := by rw [hw2]; exact below_drewN (Below.refl _ _) m
   have S2 := hide (HS0.out.below b2)
   obtain ⟨d1,d2⟩ := HG.out w2 S2.out.bel
   have gb := S2.out.box
   rw [HKV.out.1,HKV.out.2] at gb
   have y0 : w2.cell? ⟨W.heap.size,0,none⟩ = some (.slice ka kl kc) := by rw [cell_of_row _ _ _ _ _ _ gb]; rfl
   have y1 : w2.cell? ⟨W.heap.size,1,none⟩ = some (.slice va vl vc) := by rw [cell_of_row _ _ _ _ _ _ gb]; rfl
   clear hw2 b2 c1 c2 HC HS0 gb
   by_cases hA : 0 ≤ cv ∧ b = false
   ·obtain ⟨hA1,rfl⟩ := hA
    simp only [Bool.toNat_false,Nat.add_zero] at hn
    rw [if_pos ⟨hA1,rfl⟩] at HOT
    rw [Bool.false_or,decide_eq_true hA1] at HOS
    obtain ⟨q3,hq3⟩ : ∃ y,y = w2.alloc (.cells #[(.slice ka kl kc),(.slice va vl vc)] 48) := ⟨_,rfl⟩
    have bq3 : Below w2.heap.size w2 q3 := by rw [hq3]; exact (Below.refl _ _).alloc (Nat.le_refl _) _
    have SQ3 := hide (S2.out.below bq3)
    have CQ3 : Hid (∀ j u,([(.slice ka kl kc),(.slice va vl vc)] : List Value)[j]? = some u → q3.cell? ((⟨w2.heap.size,0,none⟩ : Addr).add j) = some u) := by
     show ∀ j u,_ → _
     rw [hq3]
     intro j u hu
     rw [Addr.add_lit,cell_of_row _ _ _ _ _ _ (heap_alloc_new w2 _)]
     match j,hu with
     | 0,hu => exact hu
     | 1,hu => exact hu
    have EQ3 : Hid (w2.alloc (.cells #[(.slice ka kl kc),(.slice va vl vc)] 48) = q3) := hq3.symm
    have NQ3 : Hid (W.heap.size + 1 ≤ q3.heap.size) := SQ3.out.size
    have RQ3 : Hid (q3.ownsRow (W.heap.size + 1) 48 2 (.slice a (n) c) (n) ((D).flatMap EnC)) := by
     have := SQ3.out.row
     rw [SQ3.out.len] at this
     exact this
    clear hq3 bq3
    go_upto_region 10 with (first
     | (at_builtin; rw [EQ3.out]; refine append_own_any rfl (.tmp 34) (.tmp 36) 35 rfl (W.heap.size + 1) 48 iE (.agg #[.slice none 0 0,.slice none 0 0]) 2 48 Tryz.underlying35 hiE hzE0 hzE1 hzE2 rfl (by decide) (.slice a (n) c) (n) ((D).flatMap EnC) rfl RQ3.out (some ⟨w2.heap.size,0,none⟩) 1 1 [(.slice ka kl kc),(.slice va vl vc)] rfl rfl (fun e => by cases e) (fun ad e => by cases e; exact CQ3.out) (by intro u hu; simp at hu; rcases hu with rfl | rfl <;> rfl) (by unfold maxLen; omega) (by omega) NQ3.out ?_; intro v3 w3 h3 g3; have RR3 := hide h3; have GG3 := hide g3; clear h3 g3)
     | fail)
    obtain ⟨a3,c3,hv3,hS3⟩ := SQ3.out.more (x := (k,v)) (.inr rfl) (by rw [show (k,v).1.v = _ from HKV.out.1,show (k,v).2.v = _ from HKV.out.2]; exact RR3.out) GG3.out
    subst hv3
    have S3 := hide hS3
    clear hS3 RR3 GG3 SQ3 CQ3 EQ3 NQ3 RQ3
    obtain ⟨e1,e2⟩ := HG.out w3 S3.out.bel
    clear d1 d2 y0 y1
    rcases (show cv = 0 ∨ cv = 1 by omega) with rfl | rfl
    ·rw [if_neg (by simp),List.append_nil] at HOT
     go_wp2_with fail
     go_roundw
     case rel => exact ⟨i + 1,_,_,_,true,by omega,rfl,rfl,by go_num,by first | omega | (simp only [Bool.toNat_true]; omega),D ++ [(k,v)],S3.out,HOS.out.symm,by rw [HOT.out,List.map_append,HDO.out]; rfl⟩
     case measure => simp [intOf]; omega
    ·rw [if_pos (by simp)] at HOT
     obtain ⟨q4,hq4⟩ : ∃ y,y = w3.alloc (.cells #[(.slice xa xl xc),(.slice ya yl yc)] 48) := ⟨_,rfl⟩
     have bq4 : Below w3.heap.size w3 q4 := by rw [hq4]; exact (Below.refl _ _).alloc (Nat.le_refl _) _
     have SQ4 := hide (S3.out.below bq4)
     have CQ4 : Hid (∀ j u,([(.slice xa xl xc),(.slice ya yl yc)] : List Value)[j]? = some u → q4.cell? ((⟨w3.heap.size,0,none⟩ : Addr).add j) = some u) := by
      show ∀ j u,_ → _
      rw [hq4]
      intro j u hu
      rw [Addr.add_lit,cell_of_row _ _ _ _ _ _ (heap_alloc_new w3 _)]
      match j,hu with
      | 0,hu => exact hu
      | 1,hu => exact hu
     have EQ4 : Hid (w3.alloc (.cells #[(.slice xa xl xc),(.slice ya yl yc)] 48) = q4) := hq4.symm
     have NQ4 : Hid (W.heap.size + 1 ≤ q4.heap.size) := SQ4.out.size
     have RQ4 : Hid (q4.ownsRow (W.heap.size + 1) 48 2 (.slice a3 (n + 1) c3) (n + 1) ((D ++ [(k,v)]).flatMap EnC)) := by
      have := SQ4.out.row
      rw [SQ4.out.len] at this
      exact this
     clear hq4 bq4
     go_upto_region 6 with (first
      | (at_builtin; rw [EQ4.out]; refine append_own_any rfl (.tmp 40) (.tmp 45) 35 rfl (W.heap.size + 1) 48 iE (.agg #[.slice none 0 0,.slice none 0 0]) 2 48 Tryz.underlying35 hiE hzE0 hzE1 hzE2 rfl (by decide) (.slice a3 (n + 1) c3) (n + 1) ((D ++ [(k,v)]).flatMap EnC) rfl RQ4.out (some ⟨w3.heap.size,0,none⟩) 1 1 [(.slice xa xl xc),(.slice ya yl yc)] rfl rfl (fun e => by cases e) (fun ad e => by cases e; exact CQ4.out) (by intro u hu; simp at hu; rcases hu with rfl | rfl <;> rfl) (by unfold maxLen; omega) (by omega) NQ4.out ?_; intro v4 w4 h4 g4; have RR4 := hide h4; have GG4 := hide g4; clear h4 g4)
      | fail)
     obtain ⟨a4,c4,hv4,hS4⟩ := SQ4.out.more (x := x) (.inl HX.out) (by rw [HXV.out.1,HXV.out.2]; exact RR4.out) GG4.out
     subst hv4
     have S4 := hide hS4
     clear hS4 RR4 GG4 SQ4 CQ4 EQ4 NQ4 RQ4
     go_wp2_with fail
     go_roundw
     case rel => exact ⟨i + 1,_,_,_,true,by omega,rfl,rfl,by go_num,by first | omega | (simp only [Bool.toNat_true]; omega),D ++ [(k,v)] ++ [x],S4.out,HOS.out.symm,by rw [HOT.out,List.map_append,List.map_append,HDO.out]; rfl⟩
     case measure => simp [intOf]; omega
   ·rw [if_neg hA] at HOT
    rcases hcr with rfl | rfl | rfl
    ·rw [if_pos (by decide)] at HOT
     have HB1 : Hid (b = hitE k.s ((E.map enP).take (i + 1))) := by
      show _ = _
      have := HOS.out
      simpa using this.symm
     obtain ⟨q5,hq5⟩ : ∃ y,y = w2.alloc (.cells #[(.slice xa xl xc),(.slice ya yl yc)] 48) := ⟨_,rfl⟩
     have bq5 : Below w2.heap.size w2 q5 := by rw [hq5]; exact (Below.refl _ _).alloc (Nat.le_refl _) _
     have SQ5 := hide (S2.out.below bq5)
     have CQ5 : Hid (∀ j u,([(.slice xa xl xc),(.slice ya yl yc)] : List Value)[j]? = some u → q5.cell? ((⟨w2.heap.size,0,none⟩ : Addr).add j) = some u) := by
      show ∀ j u,_ → _
      rw [hq5]
      intro j u hu
      rw [Addr.add_lit,cell_of_row _ _ _ _ _ _ (heap_alloc_new w2 _)]
      match j,hu with
      | 0,hu => exact hu
      | 1,hu => exact hu
     have EQ5 : Hid (w2.alloc (.cells #[(.slice xa xl xc),(.slice ya yl yc)] 48) = q5) := hq5.symm
     have NQ5 : Hid (W.heap.size + 1 ≤ q5.heap.size) := SQ5.out.size
     have RQ5 : Hid (q5.ownsRow (W.heap.size + 1) 48 2 (.slice a (n) c) (n) ((D).flatMap EnC)) := by
      have := SQ5.out.row
      rw [SQ5.out.len] at this
      exact this
     clear hq5 bq5
     go_upto_region 6 with (first
      | (at_builtin; rw [EQ5.out]; refine append_own_any rfl (.tmp 40) (.tmp 45) 35 rfl (W.heap.size + 1) 48 iE (.agg #[.slice none 0 0,.slice none 0 0]) 2 48 Tryz.underlying35 hiE hzE0 hzE1 hzE2 rfl (by decide) (.slice a (n) c) (n) ((D).flatMap EnC) rfl RQ5.out (some ⟨w2.heap.size,0,none⟩) 1 1 [(.slice xa xl xc),(.slice ya yl yc)] rfl rfl (fun e => by cases e) (fun ad e => by cases e; exact CQ5.out) (by intro u hu; simp at hu; rcases hu with rfl | rfl <;> rfl) (by unfold maxLen; omega) (by omega) NQ5.out ?_; intro v5 w5 h5 g5; have RR5 := hide h5; have GG5 := hide g5; clear h5 g5)
      | fail)
     obtain ⟨a5,c5,hv5,hS5⟩ := SQ5.out.more (x := x) (.inl HX.out) (by rw [HXV.out.1,HXV.out.2]; exact RR5.out) GG5.out
     subst hv5
     have S5 := hide hS5
     clear hS5 RR5 GG5 SQ5 CQ5 EQ5 NQ5 RQ5
     go_wp2_with fail
     go_roundw
     case rel => exact ⟨i + 1,_,_,_,b,by omega,rfl,rfl,by go_num,by first | omega | (simp only [Bool.toNat_true]; omega),D ++ [x],S5.out,HB1.out,by rw [HOT.out,List.map_append,HDO.out]; rfl⟩
     case measure => simp [intOf]; omega
    ·obtain rfl : b = true := by
      cases b
      ·exact absurd ⟨by decide,rfl⟩ hA
      ·rfl
     simp only [Bool.toNat_true] at hn
     rw [if_neg (by simp),List.append_nil] at HOT
     have HB1 : Hid (true = hitE k.s ((E.map enP).take (i + 1))) := by
      show _ = _
      have := HOS.out
      simpa using this.symm
     go_wp2_with fail
     go_roundw
     case rel => exact ⟨i + 1,_,_,_,true,by omega,rfl,rfl,by go_num,by first | omega | (simp only [Bool.toNat_true]; omega),D,S2.out,HB1.out,by rw [HOT.out,HDO.out]⟩
     case measure => simp [intOf]; omega
    ·obtain rfl : b = true := by
      cases b
      ·exact absurd ⟨by decide,rfl⟩ hA
      ·rfl
     simp only [Bool.toNat_true] at hn
     rw [if_pos (by decide)] at HOT
     have HB1 : Hid (true = hitE k.s ((E.map enP).take (i + 1))) := by
      show _ = _
      have := HOS.out
      simpa using this.symm
     obtain ⟨q6,hq6⟩ : ∃ y,y = w2.alloc (.cells #[(.slice xa xl xc),(.slice ya yl yc)] 48) := ⟨_,rfl⟩
     have bq6 : Below w2.heap.size w2 q6 := by rw [hq6]; exact (Below.refl _ _).alloc (Nat.le_refl _) _
     have SQ6 := hide (S2.out.below bq6)
     have CQ6 : Hid (∀ j u,([(.slice xa xl xc),(.slice ya yl yc)] : List Value)[j]? = some u → q6.cell? ((⟨w2.heap.size,0,none⟩ : Addr).add j) = some u) := by
      show ∀ j u,_ → _
      rw [hq6]
      intro j u hu
      rw [Addr.add_lit,cell_of_row _ _ _ _ _ _ (heap_alloc_new w2 _)]
      match j,hu with
      | 0,hu => exact hu
      | 1,hu => exact hu
     have EQ6 : Hid (w2.alloc (.cells #[(.slice xa xl xc),(.slice ya yl yc)] 48) = q6) := hq6.symm
     have NQ6 : Hid (W.heap.size + 1 ≤ q6.heap.size) := SQ6.out.size
     have RQ6 : Hid (q6.ownsRow (W.heap.size + 1) 48 2 (.slice a (n) c) (n) ((D).flatMap EnC)) := by
      have := SQ6.out.row
      rw [SQ6.out.len] at this
      exact this
     clear hq6 bq6
     go_upto_region 6 with (first
      | (at_builtin; rw [EQ6.out]; refine append_own_any rfl (.tmp 40) (.tmp 45) 35 rfl (W.heap.size + 1) 48 iE (.agg #[.slice none 0 0,.slice none 0 0]) 2 48 Tryz.underlying35 hiE hzE0 hzE1 hzE2 rfl (by decide) (.slice a (n) c) (n) ((D).flatMap EnC) rfl RQ6.out (some ⟨w2.heap.size,0,none⟩) 1 1 [(.slice xa xl xc),(.slice ya yl yc)] rfl rfl (fun e => by cases e) (fun ad e => by cases e; exact CQ6.out) (by intro u hu; simp at hu; rcases hu with rfl | rfl <;> rfl) (by unfold maxLen; omega) (by omega) NQ6.out ?_; intro v6 w6 h6 g6; have RR6 := hide h6; have GG6 := hide g6; clear h6 g6)
      | fail)
     obtain ⟨a6,c6,hv6,hS6⟩ := SQ6.out.more (x := x) (.inl HX.out) (by rw [HXV.out.1,HXV.out.2]; exact RR6.out) GG6.out
     subst hv6
     have S6 := hide hS6
     clear hS6 RR6 GG6 SQ6 CQ6 EQ6 NQ6 RQ6
     go_wp2_with fail
     go_roundw
     case rel => exact ⟨i + 1,_,_,_,true,by omega,rfl,rfl,by go_num,by first | omega | (simp only [Bool.toNat_true]; omega),D ++ [x],S6.out,HB1.out,by rw [HOT.out,List.map_append,HDO.out]; rfl⟩
     case measure => simp [intOf]; omega
  ·have j1 : ¬ (i : Int) < (on : Int) := by omega
   obtain ⟨D,hS,hb,hD⟩ := HD.out
   rw [List.take_of_length_le (by rw [List.length_map,HE.out]; omega)] at hb hD
   have hend := out_end (key := k.s) (val := v.s) (A := E.map enP)
   rw [← hb,← hD] at hend
   have S2 := hide hS
   have HEND := hide hend
   have gb := hS.box
   rw [HKV.out.1,HKV.out.2] at gb
   have y0 : wr.cell? ⟨W.heap.size,0,none⟩ = some (.slice ka kl kc) := by rw [cell_of_row _ _ _ _ _ _ gb]; rfl
   have y1 : wr.cell? ⟨W.heap.size,1,none⟩ = some (.slice va vl vc) := by rw [cell_of_row _ _ _ _ _ _ gb]; rfl
   clear hS hb hD HD hend gb
   cases b with
   | true =>
    rw [if_neg (by simp)] at HEND
    have HF : Hid (Q (.returned (.slice a n c)) wr) := HQ.out _ _ ⟨D,a,n,c,rfl,S2.out,HEND.out⟩
    clear HQ
    go_wp2_with fail
    exact HF.out
   | false =>
    simp only [Bool.toNat_false,Nat.add_zero] at hn
    rw [if_pos rfl] at HEND
    obtain ⟨q7,hq7⟩ : ∃ y,y = wr.alloc (.cells #[(.slice ka kl kc),(.slice va vl vc)] 48) := ⟨_,rfl⟩
    have bq7 : Below wr.heap.size wr q7 := by rw [hq7]; exact (Below.refl _ _).alloc (Nat.le_refl _) _
    have SQ7 := hide (S2.out.below bq7)
    have CQ7 : Hid (∀ j u,([(.slice ka kl kc),(.slice va vl vc)] : List Value)[j]? = some u → q7.cell? ((⟨wr.heap.size,0,none⟩ : Addr).add j) = some u) := by
     show ∀ j u,_ → _
     rw [hq7]
     intro j u hu
     rw [Addr.add_lit,cell_of_row _ _ _ _ _ _ (heap_alloc_new wr _)]
     match j,hu with
     | 0,hu => exact hu
     | 1,hu => exact hu
    have EQ7 : Hid (wr.alloc (.cells #[(.slice ka kl kc),(.slice va vl vc)] 48) = q7) := hq7.symm
    have NQ7 : Hid (W.heap.size + 1 ≤ q7.heap.size) := SQ7.out.size
    have RQ7 : Hid (q7.ownsRow (W.heap.size + 1) 48 2 (.slice a (n) c) (n) ((D).flatMap EnC)) := by
     have := SQ7.out.row
     rw [SQ7.out.len] at this
     exact this
    clear hq7 bq7
    go_upto_region 15 with (first
     | (at_builtin; rw [EQ7.out]; refine append_own_any rfl (.tmp 49) (.tmp 51) 35 rfl (W.heap.size + 1) 48 iE (.agg #[.slice none 0 0,.slice none 0 0]) 2 48 Tryz.underlying35 hiE hzE0 hzE1 hzE2 rfl (by decide) (.slice a (n) c) (n) ((D).flatMap EnC) rfl RQ7.out (some ⟨wr.heap.size,0,none⟩) 1 1 [(.slice ka kl kc),(.slice va vl vc)] rfl rfl (fun e => by cases e) (fun ad e => by cases e; exact CQ7.out) (by intro u hu; simp at hu; rcases hu with rfl | rfl <;> rfl) (by unfold maxLen; omega) (by omega) NQ7.out ?_; intro v7 w7 h7 g7; have RR7 := hide h7; have GG7 := hide g7; clear h7 g7)
     | fail)
    obtain ⟨a7,c7,hv7,hS7⟩ := SQ7.out.more (x := (k,v)) (.inr rfl) (by rw [show (k,v).1.v = _ from HKV.out.1,show (k,v).2.v = _ from HKV.out.2]; exact RR7.out) GG7.out
    subst hv7
    have S7 := hide hS7
    clear hS7 RR7 GG7 SQ7 CQ7 EQ7 NQ7 RQ7
    have HF : Hid (Q (.returned (.slice a7 (n + 1) c7)) w7) := HQ.out _ _ ⟨D ++ [(k,v)],a7,n + 1,c7,rfl,S7.out,by rw [List.map_append]; exact HEND.out⟩
    clear HQ
    go_wp2_with fail
    exact HF.out
end Go.Proofs.YtljnapejgjffjaaGreat
