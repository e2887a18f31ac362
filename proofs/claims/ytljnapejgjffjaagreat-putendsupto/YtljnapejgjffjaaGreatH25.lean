/- Texts of one's own. -/
import Derived.Test.YtljnapejgjffjaaGreatH19
import Derived.Test.YtljnapejgjffjaaGreatH22
import Derived.Deep.CutBlock
namespace Go.Proofs.YtljnapejgjffjaaGreat
open Go.RowKit
set_option maxRecDepth 100000
abbrev z3 : Array Value := #[.slice none 0 0,.slice none 0 0,.slice none 0 0]
theorem tri_of {W : World} {b : Nat} {T : TypeId} {x0 x1 x2 : Value} (h : W.heap[b]? = some (.cells #[x0,x1,x2] T (0,0))) : W.cell? ⟨b,0,none⟩ = some x0 ∧ W.cell? ⟨b,1,none⟩ = some x1 ∧ W.cell? ⟨b,2,none⟩ = some x2 :=
 ⟨by rw [cell_of_row _ _ _ _ _ _ h]; rfl,by rw [cell_of_row _ _ _ _ _ _ h]; rfl,by rw [cell_of_row _ _ _ _ _ _ h]; rfl⟩
theorem bcell2 {W W' : World} {p : Addr} {v : Value} (h : Below W.heap.size W W') (hc : W.cell? p = some v) : W'.cell? p = some v := (Upd.of_below h (fun _ => False)).cell hc (fun e => e)
set_option maxHeartbeats 800000 in
theorem headOff_at (a : Option Addr) (l c : Nat) (xs : List Value) (w0 w : World) (hb0 : Below w0.heap.size w0 w) (hl : xs.length = l) (hO : VOk w0 a c xs) (hm : l ≤ 140737488355328) (hv : ∀ u ∈ xs,∃ xa xn xc,u = .slice xa xn xc) :
  Calls Tryz.prog 178 #[.slice a l c] w fun e w' => ∃ xa xn xc b,e = .returned (.tuple #[.slice xa xn xc,.slice b (l - 1) (l - 1)]) ∧ (0 < l → xs[0]? = some (.slice xa xn xc)) ∧ (l = 0 → Value.slice xa xn xc = .slice none 0 0 ∧ b = none) ∧ VOk w0 b (l - 1) (xs.drop 1) ∧ ∃ m,w' = w.drewN m := by
 by_cases h0 : l = 0
 ·subst h0
  have hx : xs = [] := List.eq_nil_of_length_eq_zero hl
  subst hx
  clear hb0
  go_enter Tryz.func178,Tryz.ntmps178
  go_wp2
  go_ret2
  exact ⟨none,0,0,none,rfl,fun h => absurd h (by omega),fun _ => ⟨rfl,rfl⟩,⟨VC.nil _ _,fun _ => ⟨rfl,rfl⟩,Nat.le_refl _⟩,0,rfl⟩
 ·have hp : 0 < xs.length := by omega
  obtain ⟨b,o,rfl,hc⟩ := hO.r 0 hp
  have q2 : ∀ W,(Instr.slice 106 (.slice (some ⟨b,o,none⟩) l c) (some (.int .i64 1)) (some (.int .i64 (l : Int))) (some (.int .i64 (l : Int)))).run Tryz.prog W = .ok (.slice (cutAt (some ⟨b,o,none⟩) 1 l) (l - 1) (l - 1)) W := fun W => lhmT (some ⟨b,o,none⟩) l c 1 l (by omega) (by have := hO.lc; omega) W
  have i1 : ((l : Int) == 0) = false := by rw [beq_eq_false_iff_ne]; omega
  have i2 : (0 : Int) < (l : Int) := by omega
  have HR := hide (hO.cutR 1)
  rw [hl] at HR
  have HX : Hid (xs[0]? = some xs[0]) := List.getElem?_eq_getElem hp
  rw [Nat.add_zero] at hc
  replace hc := bcell2 hb0 hc
  obtain ⟨xa,xn,xc,hx⟩ := hv xs[0] (List.getElem_mem hp)
  rw [hx] at HX hc
  clear hO hv hx hb0
  go_enter Tryz.func178,Tryz.ntmps178
  go_wp2
  go_quiet (fail)
  go_wp2
  go_ret2
  exact ⟨xa,xn,xc,_,rfl,fun _ => HX.out,fun h => absurd h h0,⟨HR.out.r,HR.out.n,HR.out.lc⟩,_,rfl⟩
structure HB (W : World) (b B : Nat) (nc lc rc : Array Value) : Prop where
 n : W.heap[b]? = some (.cells nc 110 (0,0))
 o1 : W.heap[b + 1]? = some (.cells z3 108 (0,0))
 o2 : W.heap[b + 1 + 1]? = some (.cells z3 108 (0,0))
 l : W.heap[B]? = some (.cells lc 108 (0,0))
 r : W.heap[B + 1]? = some (.cells rc 108 (0,0))
 lt : b + 2 < B
section
variable {W W' : World} {b B : Nat} {nc lc rc : Array Value}
theorem HB.below (h : HB W b B nc lc rc) (hb : Below W.heap.size W W') : HB W' b B nc lc rc :=
 ⟨(hb.block _ (lt_of_block h.n)).trans h.n,(hb.block _ (lt_of_block h.o1)).trans h.o1,(hb.block _ (lt_of_block h.o2)).trans h.o2,(hb.block _ (lt_of_block h.l)).trans h.l,(hb.block _ (lt_of_block h.r)).trans h.r,h.lt⟩
theorem HB.setL (h : HB W b B nc lc rc) (i : Nat) (v : Value) : HB (W.setCell ⟨B,i,none⟩ v) b B nc (lc.setIfInBounds i v) rc := by
 have hlt := h.lt
 exact ⟨by rw [Below.heap_setCell _ _ _ _ (by simp only; omega)]; exact h.n,by rw [Below.heap_setCell _ _ _ _ (by simp only; omega)]; exact h.o1,by rw [Below.heap_setCell _ _ _ _ (by simp only; omega)]; exact h.o2,block_setCell h.l i v,by rw [Below.heap_setCell _ _ _ _ (by simp only; omega)]; exact h.r,hlt⟩
theorem HB.setR (h : HB W b B nc lc rc) (i : Nat) (v : Value) : HB (W.setCell ⟨B + 1,i,none⟩ v) b B nc lc (rc.setIfInBounds i v) := by
 have hlt := h.lt
 exact ⟨by rw [Below.heap_setCell _ _ _ _ (by simp only; omega)]; exact h.n,by rw [Below.heap_setCell _ _ _ _ (by simp only; omega)]; exact h.o1,by rw [Below.heap_setCell _ _ _ _ (by simp only; omega)]; exact h.o2,by rw [Below.heap_setCell _ _ _ _ (by simp only; omega)]; exact h.l,block_setCell h.r i v,hlt⟩
theorem HB.done {w : World} (h : HB W b B nc lc rc) (x0 x1 x2 y0 y1 y2 : Value) (hb : Below b w W) {W6 : World} (h6 : W6 = (((((W.setCell ⟨b + 1,0,none⟩ x0).setCell ⟨b + 1,1,none⟩ x1).setCell ⟨b + 1,2,none⟩ x2).setCell ⟨b + 1 + 1,0,none⟩ y0).setCell ⟨b + 1 + 1,1,none⟩ y1).setCell ⟨b + 1 + 1,2,none⟩ y2) :
  W6.heap[b + 1]? = some (.cells #[x0,x1,x2] 108 (0,0)) ∧ W6.heap[b + 1 + 1]? = some (.cells #[y0,y1,y2] 108 (0,0)) ∧ Below b w W6 := by
 rw [h6]
 refine ⟨?_,?_,?_⟩
 ·rw [Below.heap_setCell _ _ _ _ (by simp only; omega),Below.heap_setCell _ _ _ _ (by simp only; omega),Below.heap_setCell _ _ _ _ (by simp only; omega)]
  exact block_setCell (block_setCell (block_setCell h.o1 0 x0) 1 x1) 2 x2
 ·refine block_setCell (block_setCell (block_setCell (cs := z3) ?_ 0 y0) 1 y1) 2 y2
  rw [Below.heap_setCell _ _ _ _ (by simp only; omega),Below.heap_setCell _ _ _ _ (by simp only; omega),Below.heap_setCell _ _ _ _ (by simp only; omega)]
  exact h.o2
 ·exact (((((hb.setCell (by simp only; omega) _).setCell (by simp only; omega) _).setCell (by simp only; omega) _).setCell (by simp only; omega) _).setCell (by simp only; omega) _).setCell (by simp only; omega) _
end
def HvPost (w : World) (n : Nd) (e : Ending) (w' : World) : Prop :=
 ∃ (k1 k2 : TL) (t : Tx),e = .returned (.tuple #[.agg #[k1.v,(n.vs.left n.p.half).v,(n.cs.left n.p.half).v],.agg #[k2.v,(n.vs.rest n.p.half).v,(n.cs.rest n.p.half).v],t.v]) ∧ k1.Ok w ∧ k2.Ok w ∧ t.Ok w ∧ k1.p = n.p.ks.take n.p.cutK ∧ k2.p = n.p.restK ∧ t.s = n.p.bet ∧ Below w.heap.size w w'
theorem wd_wid (n : Nd) : (wid n.lv n.ks.L.length n.cs.s.length) = n.p.wd := by
 unfold wid NP.wd Nd.p
 simp only [TL.p_len]
set_option maxHeartbeats 3200000 in
theorem halves_any (n : Nd) (w : World) (hn : n.Ok w) (hw2 : 2 ≤ n.p.wd) : Calls Tryz.prog 204 #[n.v] w (HvPost w n) := by
 have hkz := hn.kz
 have hvz := hn.vz
 have hcz := hn.cz
 have hwl : n.p.wd ≤ 140737488352000 := by
  rw [← wd_wid]; unfold wid; split <;> omega
 have HWD : Hid (∀ W,Calls Tryz.prog 188 #[n.v] W fun e w' => e = .returned (.int .i64 (n.p.wd : Nat)) ∧ Below W.heap.size W w') := fun W => by rw [← wd_wid]; exact width_any n W
 have HLF : Hid (∀ W,Calls Tryz.prog 187 #[n.v] W fun e w' => e = .returned (.bool (decide (n.lv = 0))) ∧ Below W.heap.size W w') := fun W => isLeaf_any n W
 have HCV : Hid (∀ W,Calls Tryz.prog 177 #[n.vs.v,.int .i64 (n.p.half : Nat)] W fun e w' => e = .returned (.tuple #[(n.vs.left n.p.half).v,(n.vs.rest n.p.half).v]) ∧ Below W.heap.size W w') := fun W => by
  rw [TL.left_v,TL.rest_v]
  exact (cutT_any n.vs.a n.vs.L.length n.vs.c n.p.half W hn.v.lc (by omega) (by unfold NP.half; omega)).mono fun e w' ⟨h,m,hm⟩ => ⟨h,by rw [hm]; exact below_drewN (Below.refl _ _) m⟩
 have HCK : Hid (∀ W,Calls Tryz.prog 177 #[n.ks.v,.int .i64 (n.p.cutK : Nat)] W fun e w' => e = .returned (.tuple #[(n.ks.left n.p.cutK).v,(n.ks.rest n.p.cutK).v]) ∧ Below W.heap.size W w') := fun W => by
  rw [TL.left_v,TL.rest_v]
  exact (cutT_any n.ks.a n.ks.L.length n.ks.c n.p.cutK W hn.k.lc (by omega) (by unfold NP.cutK NP.half; split <;> omega)).mono fun e w' ⟨h,m,hm⟩ => ⟨h,by rw [hm]; exact below_drewN (Below.refl _ _) m⟩
 have HCC : Hid (∀ W,Calls Tryz.prog 209 #[n.cs.v,.int .i64 (n.p.half : Nat)] W fun e w' => e = .returned (.tuple #[(n.cs.left n.p.half).v,(n.cs.rest n.p.half).v]) ∧ Below W.heap.size W w') := fun W => by
  rw [IL.left_v,IL.rest_v]
  exact (cutI_any n.cs.a n.cs.s.length n.cs.c n.p.half W hn.c.lc (by omega) (by unfold NP.half; omega)).mono fun e w' ⟨h,m,hm⟩ => ⟨h,by rw [hm]; exact below_drewN (Below.refl _ _) m⟩
 have HKOK : Hid ((n.ks.left n.p.cutK).Ok w ∧ (n.ks.rest n.p.cutK).Ok w ∧ (n.ks.left n.p.cutK).p = n.p.ks.take n.p.cutK ∧ (n.ks.rest n.p.cutK).p = n.p.ks.drop n.p.cutK) := ⟨hn.k.left _,hn.k.rest _,TL.left_p _ _,TL.rest_p _ _⟩
 have hhalf : n.p.half = (n.p.wd + 1) / 2 := rfl
 have hcut : n.p.cutK = if n.lv = 0 then n.p.half else n.p.half - 1 := rfl
 have hkl : n.lv = 0 → n.p.cutK < n.p.ks.length := fun e => by
  have h0 : n.p.lv = 0 := e
  have : n.p.wd = n.p.ks.length := if_pos h0
  rw [hcut,if_pos e,hhalf]; omega
 obtain ⟨nv,hnv⟩ : ∃ nv,nv = n := ⟨_,rfl⟩
 have HNV := hide hnv
 rw [← hnv] at hhalf hcut hkl hwl hw2 HKOK
 have HKL := hide hkl
 have HKZ : Hid (nv.ks.L.length ≤ 140737488352000) := by show _ ≤ _; rw [hnv]; omega
 have HHALF := hide hhalf
 have HCUT := hide hcut
 have h63 : nv.p.half ≤ 140737488352000 := by rw [hhalf]; omega
 have h1h : 1 ≤ nv.p.half := by rw [hhalf]; omega
 rw [← hnv]
 rw [← hnv] at HWD HLF HCV HCK HCC
 have HV1 : Hid (nv.vs.left nv.p.half = nv.vs.left nv.p.half) := rfl
 obtain ⟨⟨v1a,v1c,V1⟩,hv1⟩ : ∃ t,t = nv.vs.left nv.p.half := ⟨_,rfl⟩
 obtain ⟨⟨v2a,v2c,V2⟩,hv2⟩ : ∃ t,t = nv.vs.rest nv.p.half := ⟨_,rfl⟩
 obtain ⟨⟨c1a,c1c,C1⟩,hc1⟩ : ∃ t,t = nv.cs.left nv.p.half := ⟨_,rfl⟩
 obtain ⟨⟨c2a,c2c,C2⟩,hc2⟩ : ∃ t,t = nv.cs.rest nv.p.half := ⟨_,rfl⟩
 obtain ⟨⟨k1a,k1c,K1⟩,hk1⟩ : ∃ t,t = nv.ks.left nv.p.cutK := ⟨_,rfl⟩
 obtain ⟨⟨k2a,k2c,K2⟩,hk2⟩ : ∃ t,t = nv.ks.rest nv.p.cutK := ⟨_,rfl⟩
 have HVV := hide (And.intro hv1 (And.intro hv2 (And.intro hc1 hc2)))
 rw [← hk1,← hk2] at HKOK HCK
 rw [← hv1,← hv2] at HCV
 rw [← hc1,← hc2] at HCC
 clear hv1 hv2 hc1 hc2 hk1 hk2 HV1 hhalf hcut hkl hn hkz hvz hcz
 generalize hD : nv.p.wd = D at *
 generalize hH : nv.p.half = H at *
 generalize hC : nv.p.cutK = CK at *
 have hHD : ((D : Int) + 1) / 2 = (H : Int) := by have := HHALF.out; omega
 have HHC := hide (And.intro hH hC)
 clear hD hH hC
 obtain ⟨lv,⟨ha,hc,hs⟩,ri,⟨ka,kc,K⟩,⟨va,vc,V⟩,⟨ca,cc,C⟩⟩ := n
 have HPOST : Hid (∀ (v : Value) w',HvPost w nv (.returned v) w' → HvPost w nv (.returned v) w') := fun _ _ h => h
 have hlv : nv.lv = lv := by rw [hnv]
 rw [hlv] at HLF HCUT HKL
 have HLV := hide hlv
 have hnvv : nv.v = .agg #[.int .i64 lv,.slice ha hs.length hc,.int .i64 ri,.slice ka K.length kc,.slice va V.length vc,.slice ca C.length cc] := by rw [hnv]; rfl
 have hkv : nv.ks.v = .slice ka K.length kc := by rw [hnv]; rfl
 have hvv : nv.vs.v = .slice va V.length vc := by rw [hnv]; rfl
 have hcv : nv.cs.v = .slice ca C.length cc := by rw [hnv]; rfl
 rw [hnvv] at HWD HLF ⊢
 rw [hkv] at HCK
 rw [hvv] at HCV
 rw [hcv] at HCC
 simp only [TL.v,IL.v] at HCV HCK HCC
 clear hnv hlv hnvv hkv hvv hcv
 generalize hs.length = lh at *
 generalize K.length = lk at *
 generalize V.length = lw at *
 generalize C.length = lc at *
 obtain ⟨m1,hm1⟩ : ∃ x,V1.length = x := ⟨_,rfl⟩
 obtain ⟨m2,hm2⟩ : ∃ x,V2.length = x := ⟨_,rfl⟩
 obtain ⟨m3,hm3⟩ : ∃ x,C1.length = x := ⟨_,rfl⟩
 obtain ⟨m4,hm4⟩ : ∃ x,C2.length = x := ⟨_,rfl⟩
 obtain ⟨m5,hm5⟩ : ∃ x,K1.length = x := ⟨_,rfl⟩
 obtain ⟨m6,hm6⟩ : ∃ x,K2.length = x := ⟨_,rfl⟩
 rw [hm1,hm2] at HCV
 rw [hm3,hm4] at HCC
 rw [hm5,hm6] at HCK
 have HMM := hide (And.intro hm1 (And.intro hm2 (And.intro hm3 (And.intro hm4 (And.intro hm5 hm6)))))
 clear hm1 hm2 hm3 hm4 hm5 hm6
 obtain ⟨wA,hwA⟩ : ∃ x,x = w.alloc (.cells #[.int .i64 lv,.slice ha lh hc,.int .i64 ri,.slice ka lk kc,.slice va lw vc,.slice ca lc cc] 110) := ⟨_,rfl⟩
 obtain ⟨wB,hwB⟩ : ∃ x,x = wA.alloc (.cells #[.slice none 0 0,.slice none 0 0,.slice none 0 0] 108) := ⟨_,rfl⟩
 obtain ⟨w1,hw1⟩ : ∃ x,x = wB.alloc (.cells #[.slice none 0 0,.slice none 0 0,.slice none 0 0] 108) := ⟨_,rfl⟩
 have zA : wA.heap.size = w.heap.size + 1 := by rw [hwA]; simp
 have zB : wB.heap.size = w.heap.size + 1 + 1 := by rw [hwB]; simp; omega
 have z1 : w1.heap.size = w.heap.size + 3 := by rw [hw1]; simp; omega
 have gA : wA.heap[w.heap.size]? = some (.cells #[.int .i64 lv,.slice ha lh hc,.int .i64 ri,.slice ka lk kc,.slice va lw vc,.slice ca lc cc] 110 (0,0)) := by rw [hwA]; exact heap_alloc_new w _
 have gB : wB.heap[w.heap.size + 1]? = some (.cells z3 108 (0,0)) := by rw [← zA,hwB]; exact heap_alloc_new wA _
 have g1 : w1.heap[w.heap.size + 1 + 1]? = some (.cells z3 108 (0,0)) := by rw [← zB,hw1]; exact heap_alloc_new wB _
 have hN1 : w1.heap[w.heap.size]? = some (.cells #[.int .i64 lv,.slice ha lh hc,.int .i64 ri,.slice ka lk kc,.slice va lw vc,.slice ca lc cc] 110 (0,0)) := by rw [hw1,Below.heap_alloc _ _ _ (by omega),hwB,Below.heap_alloc _ _ _ (by omega)]; exact gA
 have hB1 : w1.heap[w.heap.size + 1]? = some (.cells z3 108 (0,0)) := by rw [hw1,Below.heap_alloc _ _ _ (by omega)]; exact gB
 have bB1 : Below w.heap.size w w1 := by rw [hw1,hwB,hwA]; exact (((Below.refl _ _).alloc (Nat.le_refl _) _).alloc (by simp) _).alloc (by simp; omega) _
 have HW1 : Hid (((w.alloc (.cells #[.int .i64 lv,.slice ha lh hc,.int .i64 ri,.slice ka lk kc,.slice va lw vc,.slice ca lc cc] 110)).alloc (.cells #[.slice none 0 0,.slice none 0 0,.slice none 0 0] 108)).alloc (.cells #[.slice none 0 0,.slice none 0 0,.slice none 0 0] 108) = w1) := by show _ = _; rw [hw1,hwB,hwA]
 have Bw1 := hide bB1
 have G1 := hide (And.intro hN1 (And.intro hB1 (And.intro g1 z1)))
 clear hwA hwB hw1 zA zB z1 gA gB g1 hB1 bB1
 obtain ⟨c0,c1,c2,c3,c4,c5⟩ := Six.of hN1
 clear hN1
 go_enter Tryz.func204,Tryz.ntmps204
 go_upto_region 1 with fail
 rw [HW1.out]
 go_wp2_with fail
 refine (HWD.out w1).mono ?_
 rintro e w2 ⟨rfl,hb2⟩
 clear c0 c1 c2 c3 c4 c5
 obtain ⟨NC,hNC⟩ : ∃ x : Array Value,x = #[.int .i64 lv,.slice ha lh hc,.int .i64 ri,.slice ka lk kc,.slice va lw vc,.slice ca lc cc] := ⟨_,rfl⟩
 obtain ⟨wC,hwC⟩ : ∃ x,x = w2.alloc (.cells #[.slice none 0 0,.slice none 0 0,.slice none 0 0] 108) := ⟨_,rfl⟩
 obtain ⟨w3,hw3⟩ : ∃ x,x = wC.alloc (.cells #[.slice none 0 0,.slice none 0 0,.slice none 0 0] 108) := ⟨_,rfl⟩
 have zC : wC.heap.size = w2.heap.size + 1 := by rw [hwC]; simp
 have gC : wC.heap[w2.heap.size]? = some (.cells z3 108 (0,0)) := by rw [hwC]; exact heap_alloc_new w2 _
 have g3 : w3.heap[w2.heap.size + 1]? = some (.cells z3 108 (0,0)) := by rw [← zC,hw3]; exact heap_alloc_new wC _
 have gC3 : w3.heap[w2.heap.size]? = some (.cells z3 108 (0,0)) := by rw [hw3,Below.heap_alloc _ _ _ (by omega)]; exact gC
 have b23 : Below w2.heap.size w2 w3 := by rw [hw3,hwC]; exact ((Below.refl _ _).alloc (Nat.le_refl _) _).alloc (by simp) _
 have b13 : Below w1.heap.size w1 w3 := hb2.trans (b23.mono hb2.size)
 have Xw3 : Hid (HB w3 w.heap.size w2.heap.size NC z3 z3) := ⟨by rw [hNC]; exact (b13.block _ (lt_of_block G1.out.1)).trans G1.out.1,(b13.block _ (lt_of_block G1.out.2.1)).trans G1.out.2.1,(b13.block _ (lt_of_block G1.out.2.2.1)).trans G1.out.2.2.1,gC3,g3,by have := hb2.size; have := G1.out.2.2.2; omega⟩
 have Bw3 : Hid (Below w.heap.size w w3) := Bw1.out.trans (b13.mono Bw1.out.size)
 have HW3 : Hid ((w2.alloc (.cells #[.slice none 0 0,.slice none 0 0,.slice none 0 0] 108)).alloc (.cells #[.slice none 0 0,.slice none 0 0,.slice none 0 0] 108) = w3) := by show _ = _; rw [hw3,hwC]
 have HNC := hide hNC
 have HSIX : Hid (∀ W B xl xr,HB W w.heap.size B NC xl xr → W.heap[w.heap.size]? = some (.cells #[.int .i64 lv,.slice ha lh hc,.int .i64 ri,.slice ka lk kc,.slice va lw vc,.slice ca lc cc] 110 (0,0))) := fun W B xl xr h => by rw [← HNC.out]; exact h.n
 clear hwC hw3 zC gC g3 gC3 b23 b13 hb2 hNC G1
 go_upto_region 3 with fail
 rw [HW3.out]
 generalize w2.heap.size = B at *
 obtain ⟨c0,c1,c2,c3,c4,c5⟩ := Six.of (HSIX.out w3 B _ _ Xw3.out)
 go_wp2_with fail
 refine (HCV.out w3).mono ?_
 rintro e w4 ⟨rfl,hb4⟩
 have Xw4 := hide (Xw3.out.below hb4)
 have Bw4 := hide (Bw3.out.trans (hb4.mono Bw3.out.size))
 clear c0 c1 c2 c3 c4 c5 hb4
 obtain ⟨w5,hw5⟩ : ∃ x,x = (w4.setCell ⟨B,1,none⟩ (.slice v1a m1 v1c)).setCell ⟨B + 1,1,none⟩ (.slice v2a m2 v2c) := ⟨_,rfl⟩
 have Hw5 := hide hw5
 have Xw5 : Hid (HB w5 w.heap.size B NC #[.slice none 0 0,.slice v1a m1 v1c,.slice none 0 0] #[.slice none 0 0,.slice v2a m2 v2c,.slice none 0 0]) := by show HB _ _ _ _ _ _; rw [hw5]; exact (Xw4.out.setL 1 _).setR 1 _
 have Bw5 : Hid (Below w.heap.size w w5) := by show Below _ _ _; rw [hw5]; exact (Bw4.out.setCell (by have := Xw4.out.lt; simp only; omega) _).setCell (by have := Xw4.out.lt; simp only; omega) _
 have fl := frozen_of Xw4.out.l 1
 have fr := frozen_of Xw4.out.r 1
 obtain ⟨l0,l1,l2⟩ := tri_of Xw4.out.l
 obtain ⟨r0,r1,r2⟩ := tri_of Xw4.out.r
 clear hw5
 go_upto_region 4 with fail
 rw [← Hw5.out]
 clear fl fr l0 l1 l2 r0 r1 r2
 obtain ⟨c0,c1,c2,c3,c4,c5⟩ := Six.of (HSIX.out w5 B _ _ Xw5.out)
 go_wp2_with fail
 refine (HCC.out w5).mono ?_
 rintro e w6 ⟨rfl,hb6⟩
 have Xw6 := hide (Xw5.out.below hb6)
 have Bw6 := hide (Bw5.out.trans (hb6.mono Bw5.out.size))
 clear c0 c1 c2 c3 c4 c5 hb6
 obtain ⟨w7,hw7⟩ : ∃ x,x = (w6.setCell ⟨B,2,none⟩ (.slice c1a m3 c1c)).setCell ⟨B + 1,2,none⟩ (.slice c2a m4 c2c) := ⟨_,rfl⟩
 have Hw7 := hide hw7
 have Xw7 : Hid (HB w7 w.heap.size B NC #[.slice none 0 0,.slice v1a m1 v1c,.slice c1a m3 c1c] #[.slice none 0 0,.slice v2a m2 v2c,.slice c2a m4 c2c]) := by show HB _ _ _ _ _ _; rw [hw7]; exact (Xw6.out.setL 2 _).setR 2 _
 have Bw7 : Hid (Below w.heap.size w w7) := by show Below _ _ _; rw [hw7]; exact (Bw6.out.setCell (by have := Xw6.out.lt; simp only; omega) _).setCell (by have := Xw6.out.lt; simp only; omega) _
 have fl := frozen_of Xw6.out.l 2
 have fr := frozen_of Xw6.out.r 2
 obtain ⟨l0,l1,l2⟩ := tri_of Xw6.out.l
 obtain ⟨r0,r1,r2⟩ := tri_of Xw6.out.r
 clear hw7
 go_upto_region 5 with fail
 rw [← Hw7.out]
 clear fl fr l0 l1 l2 r0 r1 r2
 obtain ⟨c0,c1,c2,c3,c4,c5⟩ := Six.of (HSIX.out w7 B _ _ Xw7.out)
 go_wp2_with fail
 refine (HLF.out w7).mono ?_
 rintro e w8 ⟨rfl,hb8⟩
 have Xw8 := hide (Xw7.out.below hb8)
 have Bw8 := hide (Bw7.out.trans (hb8.mono Bw7.out.size))
 clear c0 c1 c2 c3 c4 c5 hb8
 obtain ⟨c0,c1,c2,c3,c4,c5⟩ := Six.of (HSIX.out w8 B _ _ Xw8.out)
 by_cases h0 : lv = 0
 ·have hCK : CK = H := by have := HCUT.out; rw [if_pos h0] at this; exact this
  rw [decide_eq_true h0]
  rw [hCK] at HCK
  have H0 := hide h0
  clear h0 hCK
  go_wp2_with fail
  refine (HCK.out w8).mono ?_
  rintro e w9 ⟨rfl,hb9⟩
  have Xw9 := hide (Xw8.out.below hb9)
  have Bw9 := hide (Bw8.out.trans (hb9.mono Bw8.out.size))
  clear c0 c1 c2 c3 c4 c5 hb9
  obtain ⟨wx,hwx⟩ : ∃ x,x = (w9.setCell ⟨B,0,none⟩ (.slice k1a m5 k1c)).setCell ⟨B + 1,0,none⟩ (.slice k2a m6 k2c) := ⟨_,rfl⟩
  have Hwx := hide hwx
  have Xwx : Hid (HB wx w.heap.size B NC #[.slice k1a m5 k1c,.slice v1a m1 v1c,.slice c1a m3 c1c] #[.slice k2a m6 k2c,.slice v2a m2 v2c,.slice c2a m4 c2c]) := by show HB _ _ _ _ _ _; rw [hwx]; exact (Xw9.out.setL 0 _).setR 0 _
  have Bwx : Hid (Below w.heap.size w wx) := by show Below _ _ _; rw [hwx]; exact (Bw9.out.setCell (by have := Xw9.out.lt; simp only; omega) _).setCell (by have := Xw9.out.lt; simp only; omega) _
  have fl := frozen_of Xw9.out.l 0
  have fr := frozen_of Xw9.out.r 0
  obtain ⟨l0,l1,l2⟩ := tri_of Xw9.out.l
  obtain ⟨r0,r1,r2⟩ := tri_of Xw9.out.r
  clear hwx
  go_upto_region 7 with fail
  rw [← Hwx.out]
  clear fl fr l0 l1 l2 r0 r1 r2
  obtain ⟨l0,l1,l2⟩ := tri_of Xwx.out.l
  obtain ⟨r0,r1,r2⟩ := tri_of Xwx.out.r
  obtain ⟨o0,o1,o2⟩ := tri_of Xwx.out.o1
  obtain ⟨q0,q1,q2⟩ := tri_of Xwx.out.o2
  have fo := fun j => frozen_of Xwx.out.o1 j
  have fq := fun j => frozen_of Xwx.out.o2 j
  have hK2 : 0 < K2.length := by
   have h1 := congrArg List.length HKOK.out.2.2.2
   rw [List.length_drop,TL.p_len] at h1
   have h2 := HKL.out H0.out
   simp only at h1
   omega
  obtain ⟨kb,ko,hka,hkc⟩ := HKOK.out.2.1.r 0 hK2
  simp only at hka
  subst hka
  have p0 := bcell2 Bwx.out hkc
  rw [Nat.add_zero] at p0
  have TOK := hide (HKOK.out.2.1.ok K2[0] (List.getElem_mem hK2))
  have HTS : Hid (K2[0].s = (nv.p.ks.drop CK).headD []) := by
   show _ = _
   rw [← HKOK.out.2.2.2]
   unfold TL.p
   cases K2 with
   | nil => cases hK2
   | cons a l => rfl
  generalize K2[0] = t at *
  obtain ⟨ta,tc,ts⟩ := t
  simp only [Tx.v] at p0
  obtain ⟨tn,htn⟩ : ∃ x,ts.length = x := ⟨_,rfl⟩
  rw [htn] at p0
  have HTN := hide htn
  have hm6 : (0 : Int) < (m6 : Int) := by have := HMM.out.2.2.2.2.2; omega
  have hm6' : 0 < m6 := by omega
  have hkb : kb < w.heap.size := World.block_lt_of_cell? w ⟨kb,ko + 0,none⟩ hkc
  have hbl := Xwx.out.lt
  have n1 : ¬ B = w.heap.size := by omega
  have n2 : ¬ w.heap.size = B := by omega
  have n3 : ¬ B = w.heap.size + 1 := by omega
  have n4 : ¬ w.heap.size + 1 = B := by omega
  have n5 : ¬ B = w.heap.size + 1 + 1 := by omega
  have n6 : ¬ w.heap.size + 1 + 1 = B := by omega
  have n7 : ¬ kb = w.heap.size + 1 := by omega
  have n8 : ¬ w.heap.size + 1 = kb := by omega
  have n9 : ¬ kb = w.heap.size + 1 + 1 := by omega
  have n10 : ¬ w.heap.size + 1 + 1 = kb := by omega
  clear htn hkc hK2 hkb hbl
  go_region
  obtain ⟨wz,hwz⟩ : ∃ x,x = (((((wx.setCell ⟨w.heap.size + 1,0,none⟩ (.slice k1a m5 k1c)).setCell ⟨w.heap.size + 1,1,none⟩ (.slice v1a m1 v1c)).setCell ⟨w.heap.size + 1,2,none⟩ (.slice c1a m3 c1c)).setCell ⟨w.heap.size + 1 + 1,0,none⟩ (.slice (some ⟨kb,ko,none⟩) m6 k2c)).setCell ⟨w.heap.size + 1 + 1,1,none⟩ (.slice v2a m2 v2c)).setCell ⟨w.heap.size + 1 + 1,2,none⟩ (.slice c2a m4 c2c) := ⟨_,rfl⟩
  obtain ⟨z0,z1,z2⟩ := Xwx.out.done _ _ _ _ _ _ Bwx.out hwz
  have HWZ := hide hwz
  have BZ := hide z2
  obtain ⟨s0,s1,s2⟩ := tri_of (W := wz.drew) z0
  obtain ⟨s3,s4,s5⟩ := tri_of (W := wz.drew) z1
  clear hwz z0 z1 z2 fo fq l0 l1 l2 r0 r1 r2 o0 o1 o2 q0 q1 q2
  rw [← HWZ.out]
  go_wp2_with fail
  (try simp only [Exit.inBlock,Exit.then])
  refine bodyPost_ret (v := (.tuple #[.agg #[.slice k1a m5 k1c,.slice v1a m1 v1c,.slice c1a m3 c1c],.agg #[.slice (some ⟨kb,ko,none⟩) m6 k2c,.slice v2a m2 v2c,.slice c2a m4 c2c],.slice ta tn tc])) (by simp [results,Tryz.results204,go_sem,s0,s1,s2,s3,s4,s5]) rfl ?_
  refine ⟨⟨k1a,k1c,K1⟩,⟨some ⟨kb,ko,none⟩,k2c,K2⟩,⟨ta,tc,ts⟩,?_,HKOK.out.1,HKOK.out.2.1,TOK.out,?_,?_,?_,⟨BZ.out.os,BZ.out.tape,BZ.out.output,BZ.out.size,BZ.out.block⟩⟩
  ·rw [HHC.out.1,← HVV.out.1,← HVV.out.2.1,← HVV.out.2.2.1,← HVV.out.2.2.2]
   simp only [TL.v,IL.v,Tx.v,HMM.out.1,HMM.out.2.1,HMM.out.2.2.1,HMM.out.2.2.2.1,HMM.out.2.2.2.2.1,HMM.out.2.2.2.2.2,HTN.out]
  ·rw [HHC.out.2]; exact HKOK.out.2.2.1
  ·unfold NP.restK; rw [if_pos (show nv.p.lv = 0 from HLV.out.trans H0.out),HHC.out.2]; exact HKOK.out.2.2.2
  ·unfold NP.bet; rw [HHC.out.2]; exact HTS.out
 ·have hCK : CK = H - 1 := by have := HCUT.out; rw [if_neg h0] at this; exact this
  have hcki : (H : Int) - 1 = (CK : Int) := by omega
  rw [decide_eq_false h0]
  have H0 := hide h0
  clear h0 hCK
  go_wp2_with fail
  refine (HCK.out w8).mono ?_
  rintro e w9 ⟨rfl,hb9⟩
  have Xw9 := hide (Xw8.out.below hb9)
  have Bw9 := hide (Bw8.out.trans (hb9.mono Bw8.out.size))
  clear c0 c1 c2 c3 c4 c5 hb9 hcki
  obtain ⟨wx,hwx⟩ : ∃ x,x = (w9.setCell ⟨B,0,none⟩ (.slice k1a m5 k1c)).setCell ⟨B + 1,0,none⟩ (.slice k2a m6 k2c) := ⟨_,rfl⟩
  have Hwx := hide hwx
  have Xwx : Hid (HB wx w.heap.size B NC #[.slice k1a m5 k1c,.slice v1a m1 v1c,.slice c1a m3 c1c] #[.slice k2a m6 k2c,.slice v2a m2 v2c,.slice c2a m4 c2c]) := by show HB _ _ _ _ _ _; rw [hwx]; exact (Xw9.out.setL 0 _).setR 0 _
  have Bwx : Hid (Below w.heap.size w wx) := by show Below _ _ _; rw [hwx]; exact (Bw9.out.setCell (by have := Xw9.out.lt; simp only; omega) _).setCell (by have := Xw9.out.lt; simp only; omega) _
  have fl := frozen_of Xw9.out.l 0
  have fr := frozen_of Xw9.out.r 0
  obtain ⟨l0,l1,l2⟩ := tri_of Xw9.out.l
  obtain ⟨r0,r1,r2⟩ := tri_of Xw9.out.r
  clear hwx
  go_upto_region 9 with fail
  rw [← Hwx.out]
  clear fl fr l0 l1 l2 r0 r1 r2
  obtain ⟨r0,r1,r2⟩ := tri_of Xwx.out.r
  have hmz : m6 ≤ 140737488355328 := by
   have h1 := congrArg List.length HKOK.out.2.2.2
   rw [List.length_drop,TL.p_len] at h1
   have h2 := HMM.out.2.2.2.2.2
   have h3 := HKZ.out
   have h4 : nv.p.ks.length = nv.ks.L.length := TL.p_len _
   simp only at h1
   omega
  have HHO := hide (headOff_at k2a m6 k2c (K2.map Tx.v) w wx Bwx.out (by rw [List.length_map]; exact HMM.out.2.2.2.2.2) HKOK.out.2.1.vok hmz (fun u hu => by obtain ⟨x,_,rfl⟩ := List.mem_map.1 hu; exact ⟨_,_,_,rfl⟩))
  clear hmz
  go_wp2_with fail
  refine HHO.out.mono ?_
  rintro e wu ⟨ta,tn,tc,ba,rfl,ht1,ht2,ht3,mm,hmm⟩
  have hbu : Below wx.heap.size wx wu := by rw [hmm]; exact below_drewN (Below.refl _ _) mm
  have Xwu := hide (Xwx.out.below hbu)
  have Bwu := hide (Bwx.out.trans (hbu.mono Bwx.out.size))
  have HT1 := hide ht1
  have HT2 := hide ht2
  have HT3 := hide ht3
  clear ht1 ht2 ht3 hmm hbu r0 r1 r2 HHO
  obtain ⟨m7,hm7⟩ : ∃ x,x = m6 - 1 := ⟨_,rfl⟩
  rw [← hm7]
  rw [← hm7] at HT3
  have HM7 := hide hm7
  clear hm7
  obtain ⟨wy,hwy⟩ : ∃ x,x = wu.setCell ⟨B + 1,0,none⟩ (.slice ba m7 m7) := ⟨_,rfl⟩
  have Hwy := hide hwy
  have Xwy : Hid (HB wy w.heap.size B NC #[.slice k1a m5 k1c,.slice v1a m1 v1c,.slice c1a m3 c1c] #[.slice ba m7 m7,.slice v2a m2 v2c,.slice c2a m4 c2c]) := by show HB _ _ _ _ _ _; rw [hwy]; exact Xwu.out.setR 0 _
  have Bwy : Hid (Below w.heap.size w wy) := by show Below _ _ _; rw [hwy]; exact Bwu.out.setCell (by have := Xwu.out.lt; simp only; omega) _
  have fr := frozen_of Xwu.out.r 0
  obtain ⟨r0,r1,r2⟩ := tri_of Xwu.out.r
  clear hwy
  go_upto_region 11 with fail
  rw [← Hwy.out]
  clear fr r0 r1 r2
  obtain ⟨l0,l1,l2⟩ := tri_of Xwy.out.l
  obtain ⟨r0,r1,r2⟩ := tri_of Xwy.out.r
  obtain ⟨o0,o1,o2⟩ := tri_of Xwy.out.o1
  obtain ⟨q0,q1,q2⟩ := tri_of Xwy.out.o2
  have fo := fun j => frozen_of Xwy.out.o1 j
  have fq := fun j => frozen_of Xwy.out.o2 j
  have hbl := Xwy.out.lt
  have n1 : ¬ B = w.heap.size := by omega
  have n2 : ¬ w.heap.size = B := by omega
  have n3 : ¬ B = w.heap.size + 1 := by omega
  have n4 : ¬ w.heap.size + 1 = B := by omega
  have n5 : ¬ B = w.heap.size + 1 + 1 := by omega
  have n6 : ¬ w.heap.size + 1 + 1 = B := by omega
  clear hbl
  go_region
  obtain ⟨wz,hwz⟩ : ∃ x,x = (((((wy.setCell ⟨w.heap.size + 1,0,none⟩ (.slice k1a m5 k1c)).setCell ⟨w.heap.size + 1,1,none⟩ (.slice v1a m1 v1c)).setCell ⟨w.heap.size + 1,2,none⟩ (.slice c1a m3 c1c)).setCell ⟨w.heap.size + 1 + 1,0,none⟩ (.slice ba m7 m7)).setCell ⟨w.heap.size + 1 + 1,1,none⟩ (.slice v2a m2 v2c)).setCell ⟨w.heap.size + 1 + 1,2,none⟩ (.slice c2a m4 c2c) := ⟨_,rfl⟩
  obtain ⟨z0,z1,z2⟩ := Xwy.out.done _ _ _ _ _ _ Bwy.out hwz
  have HWZ := hide hwz
  have BZ := hide z2
  obtain ⟨s0,s1,s2⟩ := tri_of (W := wz.drew) z0
  obtain ⟨s3,s4,s5⟩ := tri_of (W := wz.drew) z1
  clear hwz z0 z1 z2 fo fq l0 l1 l2 r0 r1 r2 o0 o1 o2 q0 q1 q2
  rw [← HWZ.out]
  go_wp2_with fail
  (try simp only [Exit.inBlock,Exit.then])
  refine bodyPost_ret (v := (.tuple #[.agg #[.slice k1a m5 k1c,.slice v1a m1 v1c,.slice c1a m3 c1c],.agg #[.slice ba m7 m7,.slice v2a m2 v2c,.slice c2a m4 c2c],.slice ta tn tc])) (by simp [results,Tryz.results204,go_sem,s0,s1,s2,s3,s4,s5]) rfl ?_
  have h6 := HMM.out.2.2.2.2.2
  have h7 := HM7.out
  have hdl : (K2.drop 1).length = m7 := by rw [List.length_drop]; omega
  have HT : ∃ ts : List Int,(⟨ta,tc,ts⟩ : Tx).Ok w ∧ ts.length = tn ∧ ts = (nv.p.ks.drop CK).headD [] := by
   rw [← HKOK.out.2.2.2]
   unfold TL.p
   cases K2 with
   | nil =>
    have he := HT2.out (by simpa using h6.symm)
    cases he.1
    exact ⟨[],Tx.nil_ok _,rfl,rfl⟩
   | cons x l =>
    have he := HT1.out (by simp at h6; omega)
    simp only [List.map_cons,List.getElem?_cons_zero,Option.some.injEq] at he
    unfold Tx.v at he
    cases he
    exact ⟨x.s,HKOK.out.2.1.ok x (List.mem_cons_self ..),rfl,rfl⟩
  obtain ⟨ts,hts1,hts2,hts3⟩ := HT
  have hok2 : (⟨ba,m7,K2.drop 1⟩ : TL).Ok w := vok_tl (t := ⟨ba,m7,K2.drop 1⟩) (by have := HT3.out; rw [← List.map_drop] at this; exact this) (fun x hx => HKOK.out.2.1.ok x (List.mem_of_mem_drop hx))
  refine ⟨⟨k1a,k1c,K1⟩,⟨ba,m7,K2.drop 1⟩,⟨ta,tc,ts⟩,?_,HKOK.out.1,hok2,hts1,?_,?_,?_,⟨BZ.out.os,BZ.out.tape,BZ.out.output,BZ.out.size,BZ.out.block⟩⟩
  ·rw [HHC.out.1,← HVV.out.1,← HVV.out.2.1,← HVV.out.2.2.1,← HVV.out.2.2.2]
   simp only [TL.v,IL.v,Tx.v,HMM.out.1,HMM.out.2.1,HMM.out.2.2.1,HMM.out.2.2.2.1,HMM.out.2.2.2.2.1,hdl,hts2]
  ·rw [HHC.out.2]; exact HKOK.out.2.2.1
  ·unfold NP.restK; rw [if_neg (show ¬ nv.p.lv = 0 from fun e => H0.out (HLV.out.symm.trans e)),HHC.out.2,← HKOK.out.2.2.2]; unfold TL.p; simp only [List.map_drop]
  ·unfold NP.bet; rw [HHC.out.2]; exact hts3
end Go.Proofs.YtljnapejgjffjaaGreat
