/- Texts of one's own. -/
import Derived.Test.YtggaipeojncipaaGreatL50
import Derived.Test.YtggaipeojncipaaGreatL49
import Derived.Test.YtggaipeojncipaaGreatL39
namespace Go.Proofs.YtggaipeojncipaaGreat
open Go.RowKit
set_option maxRecDepth 100000
structure CPA (w W : World) (A B : Nat) (c : Cfg) (s : AS) (F : Nat → Prop) : Prop where
 px : PX W A F s
 lo : ∀ k,F k → w.heap.size ≤ k
 bw : Below w.heap.size w W
 bc : W.heap[B]? = some (.cells #[.int .i64 c.nd,.int .i64 c.lf,.int .i64 c.inn,.int .i64 c.fl,.int .i64 c.bk] 23 (0,0))
 bf : ¬ F B
def CPS (w W : World) (A B : Nat) (c : Cfg) (n0 M : Nat) : Prop := ∃ s F,CPA w W A B c s F ∧ WK c s n0 M
section
variable {w W W' wk : World} {A B P n n0 M : Nat} {c : Cfg} {s s' : AS} {F F' : Nat → Prop} {k v : Tx} {u : US}
theorem CPA.below (h : CPA w W A B c s F) (hb : Below W.heap.size W W') : CPA w W' A B c s F :=
 ⟨h.px.below hb,h.lo,h.bw.trans (hb.mono h.bw.size),(hb.block B (lt_of_block h.bc)).trans h.bc,h.bf⟩
theorem CPS.below (h : CPS w W A B c n0 M) (hb : Below W.heap.size W W') : CPS w W' A B c n0 M := by
 obtain ⟨s,F,h1,h2⟩ := h
 exact ⟨s,F,h1.below hb,h2⟩
theorem CPA.kept (h : CPA w W A B c s F) (hK : Kp (fun x => x < W.heap.size ∧ ¬ F x) W W') (hp : PX W' A F' s') (hF : ∀ x,F' x → ¬ (x < W.heap.size ∧ ¬ F x)) : CPA w W' A B c s' F' := by
 have hlt := lt_of_block h.bc
 have hz := h.bw.size
 have hold : ∀ x,F' x → F x ∨ W.heap.size ≤ x := fun x hx => by
  by_cases g : F x
  ·exact .inl g
  ·exact .inr (Nat.le_of_not_lt fun g2 => hF x hx ⟨g2,g⟩)
 refine ⟨hp,fun x hx => ?_,h.bw.trans (Upd.below hK hz fun x hx e => ?_),(hK.blk B ⟨hlt,h.bf⟩ hlt).trans h.bc,fun hx => ?_⟩
 ·rcases hold x hx with g | g
  ·exact h.lo x g
  ·omega
 ·exact e ⟨by omega,fun g => by have := h.lo x g; omega⟩
 ·rcases hold B hx with g | g
  ·exact h.bf g
  ·omega
def CP2 (w wk W : World) (A B P : Nat) (c : Cfg) (n0 M : Nat) (k v : Tx) (n : Nat) (u : US) : Prop := ∃ s0 F0 E0 s,CPA w wk A B c s0 F0 ∧ WK c s0 n0 M ∧ AL W P A (fun x => x < wk.heap.size ∧ ¬ F0 x) c s0 (US.new c k.s v.s) k.s v.s E0 M n u s ∧ Kp (fun x => x < wk.heap.size ∧ ¬ F0 x) wk W
theorem cnew_cases (c : Cfg) (key val : List Int) : ((US.new c key val).nx = 1 ∧ (US.new c key val).lev = 0 ∧ (US.new c key val).err = 0) ∨ ((US.new c key val).nx = 0 ∧ (US.new c key val).err = 0) := by
 unfold US.new
 split
 ·exact .inl ⟨rfl,rfl,rfl⟩
 ·exact .inr ⟨rfl,rfl⟩
theorem CPS.new (h : CPS w W A B c n0 M) (hk : k.Ok w) (hv : v.Ok w) : Calls Tryz.prog 11 #[.pointer (some ⟨A,0,none⟩),c.v,k.v,v.v] W fun e w' => ∃ P,e = .returned (.pointer (some ⟨P,0,none⟩)) ∧ CP2 w W w' A B P c n0 M k v 0 (US.new c k.s v.s) := by
 obtain ⟨s,F,h1,h4⟩ := h
 obtain ⟨E,hwb⟩ := h4.wb
 refine (unew_any h1.px c k v (hk.below h1.bw) (hv.below h1.bw)).mono ?_
 rintro e w' ⟨P,m,D,F',rfl,hm,hp,hP,hD,hF,hap,hu⟩
 obtain ⟨t,cs,hWA⟩ := hwb.put k.s v.s
 refine ⟨P,rfl,s,F,E,s,h1,h4,⟨⟨m,D,F',hm,hp,hap,fun x hx g => ?_⟩,⟨t,cs,_,hWA,?_⟩,rfl⟩,Upd.mono hu (fun x _ e g => g.2 e)⟩
 ·rcases hx with rfl | hx | hx
  ·have := g.1; omega
  ·have := hD x hx; have := g.1; omega
  ·rcases hF x hx with g2 | g2
   ·exact g.2 g2
   ·have := g.1; omega
 ·rcases cnew_cases c k.s v.s with ⟨e1,e3,e4⟩ | ⟨e1,e2⟩
  ·refine .inl ⟨by omega,e1,⟨fun _ => e4,fun _ _ => by omega,by omega,fun _ _ => rfl,fun _ _ => rfl,fun g _ => ?_,fun g _ => by omega,fun _ g => by omega,fun _ g => by omega,fun g => by omega⟩⟩
   omega
  ·exact .inr (.inl ⟨e1,rfl,e1,rfl,rfl,e2⟩)
theorem urun_stop : ∀ (k : Nat) (p : US × AS),15 ≤ p.1.nx → urun k p = p
 | 0,_,_ => rfl
 | k + 1,p,h => by
  have e : p.1.step p.2 = ⟨p.1,p.2,false,0⟩ := by unfold US.step; rw [if_pos h]
  show urun k ((p.1.step p.2).u,(p.1.step p.2).s) = _
  rw [e]
  exact urun_stop k (p.1,p.2) h
theorem urun_both {p q r : US × AS} {a b : Nat} (ha : urun a p = q) (hb : urun b p = r) (h1 : 15 ≤ q.1.nx) (h2 : 15 ≤ r.1.nx) : q = r := by
 rcases Nat.le_total a b with g | g
 ·obtain ⟨d,rfl⟩ : ∃ d,b = a + d := ⟨b - a,by omega⟩
  rw [urun_add,ha,urun_stop d q h1] at hb
  exact hb
 ·obtain ⟨d,rfl⟩ : ∃ d,a = b + d := ⟨a - b,by omega⟩
  rw [urun_add,hb,urun_stop d r h2] at ha
  exact ha.symm
theorem CP2.alone (h : CP2 w wk W A B P c n0 M k v 0 (US.new c k.s v.s)) (hn : n0 ≤ 60) (hr : (2 * n0 + 5 : Int) ≤ c.nd) (hM : M + 2000 < 4611686018427387904) : Calls Tryz.prog 25 #[.pointer (some ⟨A,0,none⟩),.pointer (some ⟨P,0,none⟩),.int .i64 1000] W fun e w' => ∃ n M',e = .returned (.int .i64 (n : Nat)) ∧ CPS w w' A B c (n0 + 1) M' ∧ M' ≤ M + 1000 ∧ n ≤ 1000 := by
 obtain ⟨s0,F0,E0,s,h1,h4,h8,h9⟩ := h
 obtain rfl : s0 = s := congrArg Prod.snd h8.en
 have hnx : (US.new c k.s v.s).nx < 15 := by
  rcases cnew_cases c k.s v.s with ⟨e,_⟩ | ⟨e,_⟩ <;> omega
 obtain ⟨m,hm1,hm2,hm3⟩ := h4.ends hn hr k.s v.s hM
 refine (alone_any h8 hnx (fun x hx => Nat.lt_of_lt_of_le hx.1 h9.size) ⟨m,hm1,hm2⟩ hM (Nat.le_refl _)).mono ?_
 rintro e w' ⟨n,u,s,rfl,g1,g2,g3,g4⟩
 have e1 := urun_both rfl g1.en hm2 g2
 rw [e1] at hm3
 obtain ⟨m',D,F,q1,q2,q3,q4⟩ := g1.mem
 exact ⟨n,M + m,rfl,⟨s,F,h1.kept (h9.trans g3) q2 (fun x hx => q4 x (.inr (.inr hx))),hm3.done g2⟩,by omega,g4⟩
theorem CPS.cells (h : CPS w W A B c n0 M) : (W.cell? ⟨B,0,none⟩ = some (.int .i64 c.nd) ∧ W.cell? ⟨B,1,none⟩ = some (.int .i64 c.lf) ∧ W.cell? ⟨B,2,none⟩ = some (.int .i64 c.inn) ∧ W.cell? ⟨B,3,none⟩ = some (.int .i64 c.fl) ∧ W.cell? ⟨B,4,none⟩ = some (.int .i64 c.bk)) ∧ Below w.heap.size w W := by
 obtain ⟨s,F,hA,_⟩ := h
 exact ⟨⟨by rw [cell_of_row _ _ _ _ _ _ hA.bc]; rfl,by rw [cell_of_row _ _ _ _ _ _ hA.bc]; rfl,by rw [cell_of_row _ _ _ _ _ _ hA.bc]; rfl,by rw [cell_of_row _ _ _ _ _ _ hA.bc]; rfl,by rw [cell_of_row _ _ _ _ _ _ hA.bc]; rfl⟩,hA.bw⟩
theorem CP2.cells (h : CP2 w wk W A B P c n0 M k v n u) : (W.cell? ⟨B,0,none⟩ = some (.int .i64 c.nd) ∧ W.cell? ⟨B,1,none⟩ = some (.int .i64 c.lf) ∧ W.cell? ⟨B,2,none⟩ = some (.int .i64 c.inn) ∧ W.cell? ⟨B,3,none⟩ = some (.int .i64 c.fl) ∧ W.cell? ⟨B,4,none⟩ = some (.int .i64 c.bk)) ∧ Below w.heap.size w W := by
 obtain ⟨s0,F0,E0,s,h1,h4,h8,h9⟩ := h
 obtain ⟨m,D,F,g1,g2,g3,g4⟩ := h8.mem
 have hA := h1.kept h9 g2 (fun x hx => g4 x (.inr (.inr hx)))
 exact ⟨⟨by rw [cell_of_row _ _ _ _ _ _ hA.bc]; rfl,by rw [cell_of_row _ _ _ _ _ _ hA.bc]; rfl,by rw [cell_of_row _ _ _ _ _ _ hA.bc]; rfl,by rw [cell_of_row _ _ _ _ _ _ hA.bc]; rfl,by rw [cell_of_row _ _ _ _ _ _ hA.bc]; rfl⟩,hA.bw⟩
theorem kidS_mono (s : AS) : ∀ {a b : Nat},a ≤ b → kidS s a ≤ kidS s b := fun {a b} h => by
 obtain ⟨d,rfl⟩ := Nat.le.dest h
 induction d with
 | zero => exact Nat.le_refl _
 | succ d ih =>
  have := ih (by omega)
  rw [← Nat.add_assoc,kidS_succ]
  omega
theorem CPS.fin (h : CPS w W A B c n0 M) : ∃ (L : Nat) (kc ks : Nat → Nat),ks 0 = 0 ∧ (∀ i,ks (i + 1) = ks i + kc i) ∧ (∀ i,i ≤ L → ks i ≤ 1000) ∧ ks L + 1 = L ∧ L ≤ 1000 ∧
  (∀ Y,Below W.heap.size W Y → Calls Tryz.prog 19 #[.pointer (some ⟨A,0,none⟩),c.v] Y fun e w' => (∃ id er lv en,e = .returned (rpt true id er lv (L : Nat) en)) ∧ Below W.heap.size W w') ∧
  (∀ Y,Below W.heap.size W Y → Calls Tryz.prog 29 #[.pointer (some ⟨A,0,none⟩)] Y fun e w' => e = .returned (.int .i64 (L : Nat)) ∧ w' = Y) ∧
  ∀ i,i < L → ∀ Y,Below W.heap.size W Y → Calls Tryz.prog 30 #[.pointer (some ⟨A,0,none⟩),.int .i64 ((i : Nat) + 1)] Y fun e w' => (∃ (a1 a2 a : Option Addr) (m1 d1 m2 d2 d : Nat),e = .returned (.tuple #[.agg #[.slice a1 m1 d1,.slice a2 m2 d2,.slice a (kc i) d],.int .i64 0])) ∧ Below Y.heap.size Y w' := by
 obtain ⟨s,F,h1,h2⟩ := h
 obtain ⟨ls,hl,hc,hk⟩ := h2.whole
 have hL : s.sl.length ≤ 1000 := by
  obtain ⟨t,cs,E,q1,q2,q3,q4,q5,q6,q7,_⟩ := h2
  have := q4.2
  omega
 refine ⟨s.sl.length,fun i => (s.n ((i : Nat) + 1 : Int)).cs.length,kidS s,rfl,kidS_succ s,fun i hi => ?_,hk,hL,fun Y hY => ?_,fun Y hY => px_used (h1.below hY).px,fun i hi Y hY => ?_⟩
 ·have := kidS_mono s hi
  omega
 ·refine (scheck_any (h1.below hY).px c.nd c.lf c.inn c.fl c.bk).mono fun e w' he => ?_
  obtain ⟨x,rfl,hr,hbel⟩ := he
  rcases hr with ⟨id,er,h9,rfl⟩ | ⟨ls',d,h9,h10,rfl⟩
  ·rw [hl] at h9
   cases h9
  ·rw [hl] at h9
   cases h9
   have e : (idsOf ls).length = s.sl.length := hc
   rw [e]
   exact ⟨⟨_,_,_,_,rfl⟩,hY.trans (hbel.mono hY.size)⟩
 ·have hin : s.inn ((i : Nat) + 1 : Int) := by unfold AS.inn; omega
  refine (px_body (h1.below hY).px ((i : Nat) + 1 : Int)).mono fun e w' he => ?_
  obtain ⟨k,v,cc,rfl,e1,e2,e3,_,_,_,_,hbel⟩ := he
  have q1 : s.wordE ((i : Nat) + 1 : Int) = 0 := if_pos hin
  have q2 : s.rd ((i : Nat) + 1 : Int) = s.n ((i : Nat) + 1 : Int) := if_pos hin
  rw [q2] at e3
  rw [q1]
  refine ⟨⟨k.a,v.a,cc.a,k.L.length,k.c,v.L.length,v.c,cc.c,?_⟩,hbel⟩
  show _ = Ending.returned (.tuple #[.agg #[k.v,v.v,.slice cc.a (s.n ((i : Nat) + 1 : Int)).cs.length cc.c],.int .i64 0])
  rw [← e3]
  rfl
end
theorem cfg600 {dn dl di df db : Int} (h : cfgOk dn dl di df db) : cfgOk 600 dl di df db := by
 simp only [cfgOk] at *
 omega
set_option linter.unusedSimpArgs false in
set_option maxHeartbeats 25600000 in
theorem putComplete_any (c : Cfg) (hc : CfgI c) (aS : Option Addr) (lS cS : Nat) (O : List En) (w : World) (hL : O.length = lS) (hO : UEns w aS O) (hlS : lS ≤ 1048576) :
  Calls Tryz.prog 6 #[c.v,.slice aS lS cS] w fun e w' => e = .returned (.bool true) ∧ Below w.heap.size w w' := by
 have HHD : Hid (∀ W,Calls Tryz.prog 9 #[] W fun e w' => e = .returned (.bool true) ∧ Below W.heap.size W w') := fun W => uhead_any W
 have HFI : Hid (∀ W,Calls Tryz.prog 22 #[c.v] W fun e w' => e = .returned (fitC c).v ∧ Below W.heap.size W w') := fun W => ufit_any c hc W
 have HO := hide hO
 have HLL := hide hL
 have HLS := hide hlS
 have hlS2 : (lS : Int) ≤ 9223372036854775807 := by omega
 have hfit := fit_ok c
 generalize fitC c = d at *
 obtain ⟨dn,dl,di,df,db⟩ := d
 have HNEW : Hid (∀ W,Calls Tryz.prog 23 #[.int .i64 600] W (NewP W 600)) := fun W => px_new 600 W (by decide) (by decide)
 have HFIT : Hid (cfgOk 600 dl di df db) := cfg600 hfit.1
 clear hfit
 obtain ⟨nd,lf,inn,fl,bk⟩ := c
 simp only [Cfg.v] at HFI ⊢
 obtain ⟨wa,hwa⟩ : ∃ wa,wa = w.alloc (.cells #[.int .i64 nd,.int .i64 lf,.int .i64 inn,.int .i64 fl,.int .i64 bk] 23) := ⟨_,rfl⟩
 have ba : Below w.heap.size w wa := by rw [hwa]; exact (Below.refl _ _).alloc (Nat.le_refl _) _
 have ga : wa.heap[w.heap.size]? = some (.cells #[.int .i64 nd,.int .i64 lf,.int .i64 inn,.int .i64 fl,.int .i64 bk] 23 (0,0)) := by rw [hwa]; exact heap_alloc_new w _
 have HWA := hide hwa
 have HBA := hide ba
 have HGA := hide ga
 clear hO hL hlS hc hwa ba ga
 go_enter Tryz.func6,Tryz.ntmps6
 go_upto_region 1 with fail
 rw [← HWA.out]
 clear HWA
 go_wp2_with fail
 refine (HHD.out wa).mono ?_
 rintro e w1 ⟨rfl,hb1⟩
 have g1 := (hb1.block _ (lt_of_block HGA.out)).trans HGA.out
 have HB1 := hide (HBA.out.trans (hb1.mono HBA.out.size))
 have y0 : w1.cell? ⟨w.heap.size,0,none⟩ = some (.int .i64 nd) := by rw [cell_of_row _ _ _ _ _ _ g1]; rfl
 have y1 : w1.cell? ⟨w.heap.size,1,none⟩ = some (.int .i64 lf) := by rw [cell_of_row _ _ _ _ _ _ g1]; rfl
 have y2 : w1.cell? ⟨w.heap.size,2,none⟩ = some (.int .i64 inn) := by rw [cell_of_row _ _ _ _ _ _ g1]; rfl
 have y3 : w1.cell? ⟨w.heap.size,3,none⟩ = some (.int .i64 fl) := by rw [cell_of_row _ _ _ _ _ _ g1]; rfl
 have y4 : w1.cell? ⟨w.heap.size,4,none⟩ = some (.int .i64 bk) := by rw [cell_of_row _ _ _ _ _ _ g1]; rfl
 clear hb1 HHD HBA HGA g1
 go_wp2_with fail
 refine (HFI.out w1).mono ?_
 rintro e w2 ⟨rfl,hb2⟩
 have HB2 := hide (HB1.out.trans (hb2.mono HB1.out.size))
 obtain ⟨wb,hwb⟩ : ∃ wb,wb = w2.alloc (.cells #[.int .i64 dn,.int .i64 dl,.int .i64 di,.int .i64 df,.int .i64 db] 23) := ⟨_,rfl⟩
 have bb : Below w2.heap.size w2 wb := by rw [hwb]; exact (Below.refl _ _).alloc (Nat.le_refl _) _
 have gb : wb.heap[w2.heap.size]? = some (.cells #[.int .i64 dn,.int .i64 dl,.int .i64 di,.int .i64 df,.int .i64 db] 23 (0,0)) := by rw [hwb]; exact heap_alloc_new w2 _
 have z0 : wb.cell? ⟨w2.heap.size,0,none⟩ = some (.int .i64 dn) := by rw [cell_of_row _ _ _ _ _ _ gb]; rfl
 have z1 := frozen_of gb 0
 have HWB := hide hwb
 have HBB := hide (HB2.out.trans (bb.mono HB2.out.size))
 have HGB := hide gb
 clear hb2 HFI HB1 y0 y1 y2 y3 y4 hwb bb gb
 go_upto_region 3 with fail
 rw [← HWB.out]
 clear HWB
 go_wp2_with fail
 obtain ⟨wc,hwc⟩ : ∃ wc,wc = wb.setCell ⟨w2.heap.size,0,none⟩ (.int .i64 600) := ⟨_,rfl⟩
 have gc : wc.heap[w2.heap.size]? = some (.cells #[.int .i64 600,.int .i64 dl,.int .i64 di,.int .i64 df,.int .i64 db] 23 (0,0)) := by rw [hwc]; exact block_setCell HGB.out 0 _
 have uc : Upd (fun k => k = w2.heap.size) wb wc := by rw [hwc]; exact (Upd.refl _ _).setCell _ _ (fun _ => rfl)
 have hbc : Below w.heap.size w wc := HBB.out.trans (Upd.below uc HBB.out.size (fun x hx e => by have := HB2.out.size; omega))
 rw [← hwc]
 refine (HNEW.out wc).mono ?_
 rintro e w3 ⟨A,F,rfl,hp,hf,hb3⟩
 obtain ⟨B,hB⟩ : ∃ B,B = w2.heap.size := ⟨_,rfl⟩
 rw [← hB] at gc
 have HD0 : Hid (CPS w w3 A B ⟨600,dl,di,df,db⟩ 1 0) := ⟨_,F,⟨hp,fun k hk => Nat.le_trans hbc.size (hf k hk),hbc.trans (hb3.mono hbc.size),(hb3.block _ (lt_of_block gc)).trans gc,fun hF => by have := hf B hF; have := lt_of_block gc; omega⟩,WK.new ⟨HFIT.out,by show (600 : Int) ≤ 1000; decide⟩⟩
 rw [← hB]
 clear hp hf hb3 z0 z1 hB HNEW HGB hwc gc uc hbc HBB HB2
 go_wp2_with fail
 go_loopw [9] (fun q9 wr => ∃ (i M : Nat),i ≤ lS ∧ i ≤ 60 ∧ q9 = .int .i64 (i : Int) ∧ Hid (M ≤ 1000 * i ∧ CPS w wr A B ⟨600,dl,di,df,db⟩ (i + 1) M)) (fun q9 _ => lS - (intOf q9).toNat)
 case atStart => exact ⟨0,0,Nat.zero_le _,Nat.zero_le _,rfl,⟨Nat.le_refl _,HD0.out⟩⟩
 case round =>
  clear HD0
  obtain ⟨i,M,hi,hi60,rfl,HI⟩ := hrel
  rename World => wr
  have HU : Hid (CPS w wr A B ⟨600,dl,di,df,db⟩ (i + 1) M) := HI.out.2
  have HM : Hid (M ≤ 1000 * i) := HI.out.1
  clear HI
  by_cases hlt : i < lS ∧ i < 60
  ·have j1 : (i : Int) < (lS : Int) := by omega
   have j2 : (i : Int) < 60 := by omega
   have hiL : i < O.length := by rw [HLL.out]; exact hlt.1
   obtain ⟨ob,oo,hoa,hob,he0,he1⟩ := HO.out.c i hiL
   subst hoa
   obtain ⟨okk,okv⟩ := HO.out.ok O[i] (List.getElem_mem hiL)
   generalize O[i] = op at *
   obtain ⟨⟨k1a,k1c,k1⟩,⟨v1a,v1c,v1⟩⟩ := op
   simp only [Tx.v] at he0 he1 okk okv
   obtain ⟨l1,hl1⟩ : ∃ x,k1.length = x := ⟨_,rfl⟩
   obtain ⟨l2,hl2⟩ : ∃ x,v1.length = x := ⟨_,rfl⟩
   rw [hl1] at he0
   rw [hl2] at he1
   have HOB := hide hob
   have HE0 := hide he0
   have HE1 := hide he1
   have HNW : Hid (∀ Y,Below wr.heap.size wr Y → Calls Tryz.prog 11 #[.pointer (some ⟨A,0,none⟩),.agg #[.int .i64 600,.int .i64 dl,.int .i64 di,.int .i64 df,.int .i64 db],.slice k1a l1 k1c,.slice v1a l2 v1c] Y fun e w' => ∃ P,e = .returned (.pointer (some ⟨P,0,none⟩)) ∧ CP2 w Y w' A B P ⟨600,dl,di,df,db⟩ (i + 1) M ⟨k1a,k1c,k1⟩ ⟨v1a,v1c,v1⟩ 0 (US.new ⟨600,dl,di,df,db⟩ k1 v1)) := fun Y hY => by
    have := (HU.out.below hY).new okk okv
    simp only [Tx.v,Cfg.v] at this
    rw [hl1,hl2] at this
    exact this
   have b0 : wr.cell? ⟨B,0,none⟩ = some (.int .i64 600) := (HU.out.cells.1).1
   have b1 : wr.cell? ⟨B,1,none⟩ = some (.int .i64 dl) := (HU.out.cells.1).2.1
   have b2 : wr.cell? ⟨B,2,none⟩ = some (.int .i64 di) := (HU.out.cells.1).2.2.1
   have b3 : wr.cell? ⟨B,3,none⟩ = some (.int .i64 df) := (HU.out.cells.1).2.2.2.1
   have b4 : wr.cell? ⟨B,4,none⟩ = some (.int .i64 db) := (HU.out.cells.1).2.2.2.2
   have e0 : wr.cell? ⟨ob,oo + i * 2,none⟩ = some (.slice k1a l1 k1c) := (HU.out.cells.2.cell (p := ⟨ob,oo + i * 2,none⟩) HOB.out).trans HE0.out
   have e1 : wr.cell? ⟨ob,oo + i * 2 + 1,none⟩ = some (.slice v1a l2 v1c) := (HU.out.cells.2.cell (p := ⟨ob,oo + i * 2 + 1,none⟩) HOB.out).trans HE1.out
   clear he0 he1 hob okk okv hl1 hl2
   go_wp2_with fail
   go_region_held3 (fun W' => W'.cell? ⟨B,0,none⟩ = some (.int .i64 600) ∧ W'.cell? ⟨B,1,none⟩ = some (.int .i64 dl) ∧ W'.cell? ⟨B,2,none⟩ = some (.int .i64 di) ∧ W'.cell? ⟨B,3,none⟩ = some (.int .i64 df) ∧ W'.cell? ⟨B,4,none⟩ = some (.int .i64 db) ∧ W'.cell? ⟨ob,oo + i * 2,none⟩ = some (.slice k1a l1 k1c) ∧ W'.cell? ⟨ob,oo + i * 2 + 1,none⟩ = some (.slice v1a l2 v1c)) (go_keep) (first
    | (go_at_call 11; refine (HNW.out _ (below_drew (Below.refl _ _))).mono ?_; rintro e w5 ⟨P,rfl,h5⟩; have c0 : w5.cell? ⟨B,0,none⟩ = some (.int .i64 600) := (h5.cells.1).1; have c1 : w5.cell? ⟨B,1,none⟩ = some (.int .i64 dl) := (h5.cells.1).2.1; have c2 : w5.cell? ⟨B,2,none⟩ = some (.int .i64 di) := (h5.cells.1).2.2.1; have c3 : w5.cell? ⟨B,3,none⟩ = some (.int .i64 df) := (h5.cells.1).2.2.2.1; have c4 : w5.cell? ⟨B,4,none⟩ = some (.int .i64 db) := (h5.cells.1).2.2.2.2; have d0 : w5.cell? ⟨ob,oo + i * 2,none⟩ = some (.slice k1a l1 k1c) := (h5.cells.2.cell (p := ⟨ob,oo + i * 2,none⟩) HOB.out).trans HE0.out; have d1 : w5.cell? ⟨ob,oo + i * 2 + 1,none⟩ = some (.slice v1a l2 v1c) := (h5.cells.2.cell (p := ⟨ob,oo + i * 2 + 1,none⟩) HOB.out).trans HE1.out; have H5 := hide h5; clear h5)
    | fail)
   have HAL : Hid (Calls Tryz.prog 25 #[.pointer (some ⟨A,0,none⟩),.pointer (some ⟨P,0,none⟩),.int .i64 1000] w5 fun e w' => ∃ n M',e = .returned (.int .i64 (n : Nat)) ∧ CPS w w' A B ⟨600,dl,di,df,db⟩ (i + 1 + 1) M' ∧ M' ≤ M + 1000 ∧ n ≤ 1000) := H5.out.alone (by omega) (by show (2 * (i + 1 : Nat) + 5 : Int) ≤ 600; omega) (by have := HM.out; omega)
   clear HNW H5 b0 b1 b2 b3 b4 e0 e1 c0 c1 c2 c3 c4 d0 d1
   go_wp2_with fail
   refine HAL.out.mono ?_
   rintro e w6 ⟨n,M2,rfl,h6,hM2,hn9⟩
   have HN := hide h6
   have HM2 : Hid (M2 ≤ 1000 * (i + 1)) := hide (by have := HM.out; omega)
   have hnlt : ¬ (n : Int) < 0 := by omega
   clear h6 hM2 HAL
   go_wp2_with fail
   go_roundw
   case rel => exact ⟨i + 1,M2,by omega,by omega,by go_num,⟨HM2.out,HN.out⟩⟩
   case measure => simp [intOf]; omega
  ·obtain ⟨L,kc,ks,k0,k1,k2,k3,k4,hck,hus,hbd⟩ := HU.out.fin
   have HCK : Hid (∀ Y,Below wr.heap.size wr Y → Calls Tryz.prog 19 #[.pointer (some ⟨A,0,none⟩),.agg #[.int .i64 600,.int .i64 dl,.int .i64 di,.int .i64 df,.int .i64 db]] Y fun e w' => (∃ id er lv en,e = .returned (.agg #[.bool true,.int .i64 id,.int .i64 er,.int .i64 lv,.int .i64 (L : Nat),.int .i64 en])) ∧ Below wr.heap.size wr w') := hide hck
   have HUS := hide hus
   have HBD := hide hbd
   have HK := hide (And.intro k0 (And.intro k1 (And.intro k2 k3)))
   have HBF : Hid (Below w.heap.size w wr) := hide HU.out.cells.2
   have b0 : wr.cell? ⟨B,0,none⟩ = some (.int .i64 600) := (HU.out.cells.1).1
   have b1 : wr.cell? ⟨B,1,none⟩ = some (.int .i64 dl) := (HU.out.cells.1).2.1
   have b2 : wr.cell? ⟨B,2,none⟩ = some (.int .i64 di) := (HU.out.cells.1).2.2.1
   have b3 : wr.cell? ⟨B,3,none⟩ = some (.int .i64 df) := (HU.out.cells.1).2.2.2.1
   have b4 : wr.cell? ⟨B,4,none⟩ = some (.int .i64 db) := (HU.out.cells.1).2.2.2.2
   have FLD0 : ∀ (b : Bool) (i e l n m : Int) (Y : World),(Instr.field 58 (.agg #[.bool b,.int .i64 i,.int .i64 e,.int .i64 l,.int .i64 n,.int .i64 m]) 0).run Tryz.prog Y = .ok (.bool b) Y := fun b i e l n m Y => by kernel_rfl
   have FLD4 : ∀ (b : Bool) (i e l n m : Int) (Y : World),(Instr.field 58 (.agg #[.bool b,.int .i64 i,.int .i64 e,.int .i64 l,.int .i64 n,.int .i64 m]) 4).run Tryz.prog Y = .ok (.int .i64 n) Y := fun b i e l n m Y => by kernel_rfl
   clear hck hus hbd k0 k1 k2 k3
   have jj : (¬ (i : Int) < (lS : Int)) ∨ ((i : Int) < (lS : Int) ∧ ¬ (i : Int) < 60) := by omega
   clear hlt
   rcases jj with j1 | ⟨j1,j2⟩
   ·go_wp2_with (first
     | (go_at_call 19; refine (HCK.out _ (Below.refl _ _)).mono ?_; rintro e w13 ⟨⟨id7,er7,lv7,en7,rfl⟩,hb13⟩; have B13 := hide hb13; clear hb13)
     | fail)
    have HB3 := hide (HBF.out.trans (B13.out.mono HBF.out.size))
    obtain ⟨w14,hw14⟩ : ∃ x,x = w13.alloc (.cells #[.bool true,.int .i64 id7,.int .i64 er7,.int .i64 lv7,.int .i64 (L : Nat),.int .i64 en7] 58) := ⟨_,rfl⟩
    have b14 : Below w13.heap.size w13 w14 := by rw [hw14]; exact (Below.refl _ _).alloc (Nat.le_refl _) _
    have g14 : w14.heap[w13.heap.size]? = some (.cells #[.bool true,.int .i64 id7,.int .i64 er7,.int .i64 lv7,.int .i64 (L : Nat),.int .i64 en7] 58 (0,0)) := by rw [hw14]; exact heap_alloc_new w13 _
    rw [← hw14]
    have G14 := hide g14
    have B14 := hide (B13.out.trans (b14.mono B13.out.size))
    have B14w := hide (HB3.out.trans (b14.mono HB3.out.size))
    clear hw14 b14 g14 HB3 b0 b1 b2 b3 b4
    go_loopw [13,14] (fun q13 q14 wy => ∃ (j : Nat),j ≤ L ∧ q13 = .int .i64 (ks j : Int) ∧ q14 = .int .i64 ((j : Int) + 1) ∧ Hid (Below w14.heap.size w14 wy)) (fun _ q14 _ => L + 1 - (intOf q14).toNat)
    case atStart => exact ⟨0,Nat.zero_le _,by rw [HK.out.1]; rfl,rfl,hide (Below.refl _ _)⟩
    case round =>
     obtain ⟨j,hj,rfl,rfl,HBY⟩ := hrel
     rename World => wy
     have HBW := hide (B14.out.trans (HBY.out.mono B14.out.size))
     have HUZ : Hid (∀ Y,Below wy.heap.size wy Y → Calls Tryz.prog 29 #[.pointer (some ⟨A,0,none⟩)] Y fun e w' => e = .returned (.int .i64 (L : Nat)) ∧ w' = Y) := fun Y hY => HUS.out Y (HBW.out.trans (hY.mono HBW.out.size))
     by_cases hjl : j < L
     ·have p1 : (j : Int) + 1 ≤ (L : Int) := by omega
      have HBJ : Hid (∀ Y,Below wy.heap.size wy Y → Calls Tryz.prog 30 #[.pointer (some ⟨A,0,none⟩),.int .i64 ((j : Int) + 1)] Y fun e w' => (∃ (a1 a2 a : Option Addr) (m1 d1 m2 d2 d : Nat),e = .returned (.tuple #[.agg #[.slice a1 m1 d1,.slice a2 m2 d2,.slice a (kc j) d],.int .i64 0])) ∧ Below Y.heap.size Y w') := fun Y hY => HBD.out j hjl Y (HBW.out.trans (hY.mono HBW.out.size))
      go_wp2_with fail
      refine keep (HUZ.out _ (Below.refl _ _)) ?_
      go_wp2_with fail
      refine (HBJ.out _ (Below.refl _ _)).mono ?_
      rintro e wz ⟨⟨a7,a8,a9,m7,d7,m8,d8,d9,rfl⟩,hbz⟩
      have hks := HK.out.2.1 j
      have hkb := HK.out.2.2.1 (j + 1) (by omega)
      rw [hks] at hkb
      have HKS := hide hks
      have HBZ := hide (HBY.out.trans (hbz.mono HBY.out.size))
      obtain ⟨m9,hm9⟩ : ∃ x,kc j = x := ⟨_,rfl⟩
      rw [hm9] at hkb
      rw [hm9]
      have HM9 := hide hm9
      clear hks hbz hm9 HBJ
      go_wp2_with fail
      refine ⟨⟨j + 1,by omega,by rw [HKS.out,HM9.out,Int.natCast_add],by rw [Int.natCast_add]; rfl,hide (HBZ.out.alloc HBZ.out.size _)⟩,?_⟩
      simp [intOf]
      omega
     ·have p1 : ¬ ((j : Int) + 1 ≤ (L : Int)) := by omega
      have ejL : j = L := by omega
      have ekL := HK.out.2.2.2
      have hL1 : (L : Int) ≤ 1000 := by omega
      have jk : (ks j : Int) = (L : Int) - 1 := by rw [ejL]; omega
      have gy := (HBY.out.block _ (lt_of_block G14.out)).trans G14.out
      have z0 : wy.cell? ⟨w13.heap.size,0,none⟩ = some (.bool true) := by rw [cell_of_row _ _ _ _ _ _ gy]; rfl
      have z4 : wy.cell? ⟨w13.heap.size,4,none⟩ = some (.int .i64 (L : Nat)) := by rw [cell_of_row _ _ _ _ _ _ gy]; rfl
      have HFIN := hide (B14w.out.trans (HBY.out.mono B14w.out.size))
      have jw : IntKind.i64.wrap ((L : Int) - 1) = (ks L : Int) := by rw [IntKind.wrap_i64]; omega
      have HJW := hide jw
      clear ekL gy jw
      go_wp2_with fail
      refine keep (HUZ.out _ (Below.refl _ _)) ?_
      go_wp2_with fail
      go_region_held3 (fun W' => W'.cell? ⟨w13.heap.size,0,none⟩ = some (.bool true) ∧ W'.cell? ⟨w13.heap.size,4,none⟩ = some (.int .i64 (L : Nat))) (go_keep) (first
       | (go_at_call 29; refine keep (HUZ.out _ (by first | exact Below.refl _ _ | exact below_drew (Below.refl _ _) | exact below_drew (below_drew (Below.refl _ _)))) ?_)
       | fail)
      all_goals (try go_wp2_with fail)
      all_goals
       go_ret
       exact ⟨by rw [HJW.out]; simp,below_drew HFIN.out⟩
   ·go_wp2_with (first
     | (go_at_call 19; refine (HCK.out _ (Below.refl _ _)).mono ?_; rintro e w13 ⟨⟨id7,er7,lv7,en7,rfl⟩,hb13⟩; have B13 := hide hb13; clear hb13)
     | fail)
    have HB3 := hide (HBF.out.trans (B13.out.mono HBF.out.size))
    obtain ⟨w14,hw14⟩ : ∃ x,x = w13.alloc (.cells #[.bool true,.int .i64 id7,.int .i64 er7,.int .i64 lv7,.int .i64 (L : Nat),.int .i64 en7] 58) := ⟨_,rfl⟩
    have b14 : Below w13.heap.size w13 w14 := by rw [hw14]; exact (Below.refl _ _).alloc (Nat.le_refl _) _
    have g14 : w14.heap[w13.heap.size]? = some (.cells #[.bool true,.int .i64 id7,.int .i64 er7,.int .i64 lv7,.int .i64 (L : Nat),.int .i64 en7] 58 (0,0)) := by rw [hw14]; exact heap_alloc_new w13 _
    rw [← hw14]
    have G14 := hide g14
    have B14 := hide (B13.out.trans (b14.mono B13.out.size))
    have B14w := hide (HB3.out.trans (b14.mono HB3.out.size))
    clear hw14 b14 g14 HB3 b0 b1 b2 b3 b4
    go_loopw [13,14] (fun q13 q14 wy => ∃ (j : Nat),j ≤ L ∧ q13 = .int .i64 (ks j : Int) ∧ q14 = .int .i64 ((j : Int) + 1) ∧ Hid (Below w14.heap.size w14 wy)) (fun _ q14 _ => L + 1 - (intOf q14).toNat)
    case atStart => exact ⟨0,Nat.zero_le _,by rw [HK.out.1]; rfl,rfl,hide (Below.refl _ _)⟩
    case round =>
     obtain ⟨j,hj,rfl,rfl,HBY⟩ := hrel
     rename World => wy
     have HBW := hide (B14.out.trans (HBY.out.mono B14.out.size))
     have HUZ : Hid (∀ Y,Below wy.heap.size wy Y → Calls Tryz.prog 29 #[.pointer (some ⟨A,0,none⟩)] Y fun e w' => e = .returned (.int .i64 (L : Nat)) ∧ w' = Y) := fun Y hY => HUS.out Y (HBW.out.trans (hY.mono HBW.out.size))
     by_cases hjl : j < L
     ·have p1 : (j : Int) + 1 ≤ (L : Int) := by omega
      have HBJ : Hid (∀ Y,Below wy.heap.size wy Y → Calls Tryz.prog 30 #[.pointer (some ⟨A,0,none⟩),.int .i64 ((j : Int) + 1)] Y fun e w' => (∃ (a1 a2 a : Option Addr) (m1 d1 m2 d2 d : Nat),e = .returned (.tuple #[.agg #[.slice a1 m1 d1,.slice a2 m2 d2,.slice a (kc j) d],.int .i64 0])) ∧ Below Y.heap.size Y w') := fun Y hY => HBD.out j hjl Y (HBW.out.trans (hY.mono HBW.out.size))
      go_wp2_with fail
      refine keep (HUZ.out _ (Below.refl _ _)) ?_
      go_wp2_with fail
      refine (HBJ.out _ (Below.refl _ _)).mono ?_
      rintro e wz ⟨⟨a7,a8,a9,m7,d7,m8,d8,d9,rfl⟩,hbz⟩
      have hks := HK.out.2.1 j
      have hkb := HK.out.2.2.1 (j + 1) (by omega)
      rw [hks] at hkb
      have HKS := hide hks
      have HBZ := hide (HBY.out.trans (hbz.mono HBY.out.size))
      obtain ⟨m9,hm9⟩ : ∃ x,kc j = x := ⟨_,rfl⟩
      rw [hm9] at hkb
      rw [hm9]
      have HM9 := hide hm9
      clear hks hbz hm9 HBJ
      go_wp2_with fail
      refine ⟨⟨j + 1,by omega,by rw [HKS.out,HM9.out,Int.natCast_add],by rw [Int.natCast_add]; rfl,hide (HBZ.out.alloc HBZ.out.size _)⟩,?_⟩
      simp [intOf]
      omega
     ·have p1 : ¬ ((j : Int) + 1 ≤ (L : Int)) := by omega
      have ejL : j = L := by omega
      have ekL := HK.out.2.2.2
      have hL1 : (L : Int) ≤ 1000 := by omega
      have jk : (ks j : Int) = (L : Int) - 1 := by rw [ejL]; omega
      have gy := (HBY.out.block _ (lt_of_block G14.out)).trans G14.out
      have z0 : wy.cell? ⟨w13.heap.size,0,none⟩ = some (.bool true) := by rw [cell_of_row _ _ _ _ _ _ gy]; rfl
      have z4 : wy.cell? ⟨w13.heap.size,4,none⟩ = some (.int .i64 (L : Nat)) := by rw [cell_of_row _ _ _ _ _ _ gy]; rfl
      have HFIN := hide (B14w.out.trans (HBY.out.mono B14w.out.size))
      have jw : IntKind.i64.wrap ((L : Int) - 1) = (ks L : Int) := by rw [IntKind.wrap_i64]; omega
      have HJW := hide jw
      clear ekL gy jw
      go_wp2_with fail
      refine keep (HUZ.out _ (Below.refl _ _)) ?_
      go_wp2_with fail
      go_region_held3 (fun W' => W'.cell? ⟨w13.heap.size,0,none⟩ = some (.bool true) ∧ W'.cell? ⟨w13.heap.size,4,none⟩ = some (.int .i64 (L : Nat))) (go_keep) (first
       | (go_at_call 29; refine keep (HUZ.out _ (by first | exact Below.refl _ _ | exact below_drew (Below.refl _ _) | exact below_drew (below_drew (Below.refl _ _)))) ?_)
       | fail)
      all_goals (try go_wp2_with fail)
      all_goals
       go_ret
       exact ⟨by rw [HJW.out]; simp,below_drew HFIN.out⟩
end Go.Proofs.YtggaipeojncipaaGreat
