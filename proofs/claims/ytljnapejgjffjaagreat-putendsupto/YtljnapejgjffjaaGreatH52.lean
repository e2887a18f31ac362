/- Texts of one's own. -/
import Derived.Test.YtljnapejgjffjaaGreatH40
import Derived.Test.YtljnapejgjffjaaGreatH51
namespace Go.Proofs.YtljnapejgjffjaaGreat
open Go.RowKit
set_option maxRecDepth 100000
def uhC : Cfg := ⟨3,2,3,1,1⟩
def uhst : Nat → US × AS
 | 0 => (US.new uhC [107] [118],AS.new 3)
 | i + 1 => (((uhst i).1.step (uhst i).2).u,((uhst i).1.step (uhst i).2).s)
theorem uhst_facts : (∀ i,i < 7 → decide (15 ≤ (uhst (i + 1)).1.nx) = false ∧ ((uhst i).1.step (uhst i).2).tk = false) ∧ decide (15 ≤ (uhst 8).1.nx) = true ∧ ((uhst 7).1.step (uhst 7).2).tk = true ∧ (uhst 8).2.map = [([107],[118])] := by decide +kernel
def UHd (W : World) (P A N i : Nat) : Prop := ∃ m D F E,UP W P A D m (uhst i).1 ∧ PX W A F (uhst i).2 ∧ (∀ x,F x → ¬ D x ∧ x ≠ P) ∧ (∀ x,x = P ∨ D x ∨ F x → N ≤ x) ∧ WS uhC (uhst i).2 [(uhst i).1] [([107],[118])] E i
theorem UP.pwD {W : World} {P A k : Nat} {D : Nat → Prop} {m : UM} {u : US} (h : UP W P A D m u) (hk : m.pw = some k) : D k := by
 rcases h.w with ⟨h1,_⟩ | ⟨p,ms,kt,n,Dm,h1,_,h3,_⟩
 ·rw [h1] at hk; cases hk
 ·rw [h1] at hk
  obtain rfl := Option.some.inj hk
  exact h3
theorem uhd_step {W : World} {P A N i : Nat} (h : UHd W P A N i) (hi : i < 8) (hN : N ≤ W.heap.size) : Calls Tryz.prog 15 #[.pointer (some ⟨P,0,none⟩)] W fun e w' => e = .returned (.tuple #[.bool (decide (15 ≤ (uhst (i + 1)).1.nx)),.bool ((uhst i).1.step (uhst i).2).tk]) ∧ UHd w' P A N (i + 1) ∧ Below N W w' := by
 obtain ⟨m,D,F,E,hu,hp,hF,hb,hw⟩ := h
 refine (ustep_any hu hp hF (hw.ok (i := 0) rfl (by omega))).mono ?_
 rintro e w' ⟨rfl,m',D',F',hq⟩
 refine ⟨rfl,⟨m',D',F',_,hq.up,hq.px,hq.ap,fun x hx => ?_,(hw.step (i := 0) rfl rfl (fun k hk => px_wlt hp k hk) (by omega)).1⟩,hq.u.below hN fun k hk e => ?_⟩
 ·rcases hx with rfl | hx | hx
  ·exact hb _ (.inl rfl)
  ·rcases hq.d x hx with g | g
   ·exact hb x (.inr (.inl g))
   ·omega
  ·rcases hq.f x hx with g | g
   ·exact hb x (.inr (.inr g))
   ·omega
 ·rcases e with e | e | e
  ·have := hb k (.inl e); omega
  ·have := hb k (.inr (.inl (hu.pwD e))); omega
  ·have := hb k (.inr (.inr e)); omega
set_option maxHeartbeats 6400000 in
theorem uhead_any (w : World) : Calls Tryz.prog 8 #[] w fun e w' => e = .returned (.bool true) ∧ Below w.heap.size w w' := by
 have HAN := hide (px_new 3 w (by decide) (by decide))
 go_enter Tryz.func8,Tryz.ntmps8
 go_wp2_with fail
 refine HAN.out.mono ?_
 rintro e w1 ⟨A,F,rfl,hp,hf,hb⟩
 have HP := hide hp
 have HF := hide hf
 have HB := hide hb
 clear hp hf hb HAN
 go_upto_region 4 with fail
 have q2 := Lib.run_convert_bytes_const (P := Tryz.prog) w1 29 5 #[.int .u8 107] 1 1 Tryz.underlying29 Tryz.underlying5
 simp only [show (#[Value.int .u8 107] : Array Value).size = 1 from rfl] at q2
 have q3 := Lib.run_convert_bytes_const (P := Tryz.prog) (w1.alloc (.cells #[.int .u8 107] 5 (1,2))) 29 5 #[.int .u8 118] 1 1 Tryz.underlying29 Tryz.underlying5
 simp only [show (#[Value.int .u8 118] : Array Value).size = 1 from rfl] at q3
 rw [show (w1.alloc (.cells #[.int .u8 107] 5 (1,2))).heap.size = w1.heap.size + 1 by simp] at q3
 obtain ⟨w2,hw2⟩ : ∃ x,x = w1.alloc (.cells #[.int .u8 107] 5 (1,2)) := ⟨_,rfl⟩
 obtain ⟨w3,hw3⟩ : ∃ x,x = w2.alloc (.cells #[.int .u8 118] 5 (1,2)) := ⟨_,rfl⟩
 have z2 : w2.heap.size = w1.heap.size + 1 := by rw [hw2]; simp
 have b2 : Below w1.heap.size w1 w2 := by rw [hw2]; exact (Below.refl _ _).alloc (Nat.le_refl _) _
 have b3 : Below w2.heap.size w2 w3 := by rw [hw3]; exact (Below.refl _ _).alloc (Nat.le_refl _) _
 have b13 := b2.trans (b3.mono b2.size)
 have k1 : (⟨some ⟨w1.heap.size,0,none⟩,1,[107]⟩ : Tx).Ok w3 := by
  have : (⟨some ⟨w1.heap.size,0,none⟩,1,[107]⟩ : Tx).Ok w2 := by rw [hw2]; exact tx_c w1 107 (by decide)
  exact this.below b3
 have k2 : (⟨some ⟨w1.heap.size + 1,0,none⟩,1,[118]⟩ : Tx).Ok w3 := by
  have := tx_c w2 118 (by decide)
  rw [z2] at this
  rw [hw3]; exact this
 have hp3 := HP.out.upd (S := Noth) (Upd.of_below b13 _) (fun _ _ e => e)
 have HN := hide (unew_any hp3 uhC ⟨some ⟨w1.heap.size,0,none⟩,1,[107]⟩ ⟨some ⟨w1.heap.size + 1,0,none⟩,1,[118]⟩ k1 k2)
 simp only [Tx.v,Cfg.v,uhC,show ([107] : List Int).length = 1 from rfl,show ([118] : List Int).length = 1 from rfl] at HN
 have HW3 : Hid ((w1.alloc (.cells #[.int .u8 107] 5 (1,2))).alloc (.cells #[.int .u8 118] 5 (1,2)) = w3) := by show _ = _; rw [hw3,hw2]
 have B3 := hide (HB.out.trans (b13.mono HB.out.size))
 have Z3 : Hid (w1.heap.size ≤ w3.heap.size ∧ w.heap.size ≤ w1.heap.size) := ⟨b13.size,HB.out.size⟩
 clear hw2 hw3 z2 b2 b3 b13 k1 k2 hp3 HP HB
 go_wp2_with fail
 rw [HW3.out]
 refine HN.out.mono ?_
 rintro e w4 ⟨P,m,D,F',rfl,hu,hp,hP,hD,hF',hap,hupd⟩
 have H0 : Hid (UHd w4 P A w.heap.size 0 ∧ Below w.heap.size w w4) := by
  refine ⟨⟨m,D,F',[],hu,hp,hap,fun x hx => ?_,(WS.new (c := uhC) (by decide)).more ([107],[118])⟩,B3.out.trans (hupd.below (Nat.le_trans Z3.out.2 Z3.out.1) (fun k hk e => by have := HF.out k e; omega))⟩
  have h1 := Z3.out.1
  have h2 := Z3.out.2
  rcases hx with rfl | hx | hx
  ·omega
  ·have := hD x hx; omega
  ·rcases hF' x hx with g | g
   ·exact HF.out x g
   ·omega
 clear hu hp hP hD hF' hap hupd HN HW3 B3 Z3 HF q2 q3
 go_wp2_with fail
 go_loopw [4] (fun q wr => ∃ i : Nat,i ≤ 7 ∧ q = .int .i64 (i : Int) ∧ Hid (UHd wr P A w.heap.size i ∧ Below w.heap.size w wr)) (fun q _ => 7 - (intOf q).toNat)
 case atStart => exact ⟨0,Nat.zero_le _,rfl,H0⟩
 case round =>
  clear H0
  obtain ⟨i,hi,rfl,HI⟩ := hrel
  rename World => wr
  by_cases hlt : i < 7
  ·have j1 : (i : Int) < 7 := by omega
   have HS := hide (uhd_step HI.out.1 (by omega) HI.out.2.size)
   obtain ⟨f1,f2⟩ := uhst_facts.1 i hlt
   rw [f1,f2] at HS
   clear f1 f2
   go_wp2_with fail
   refine HS.out.mono ?_
   rintro e w7 ⟨rfl,h1,h2⟩
   have HI2 : Hid (UHd w7 P A w.heap.size (i + 1) ∧ Below w.heap.size w w7) := ⟨h1,HI.out.2.trans h2⟩
   clear h1 h2 HS
   go_wp2_with fail
   go_roundw
   case rel => exact ⟨i + 1,by omega,by go_num,HI2⟩
   case measure => simp [intOf]; omega
  ·have j1 : ¬ (i : Int) < 7 := by omega
   obtain rfl : i = 7 := by omega
   have HS := hide (uhd_step HI.out.1 (by omega) HI.out.2.size)
   obtain ⟨_,f1,f2,f3⟩ := uhst_facts
   rw [show (7 : Nat) + 1 = 8 from rfl,f1,f2] at HS
   have HF3 := hide f3
   clear f1 f2 f3
   go_wp2_with fail
   refine HS.out.mono ?_
   rintro e w7 ⟨rfl,⟨m7,D7,F7,E7,hu7,hp7,_,hb7,hw7⟩,h2⟩
   have B7 := hide (HI.out.2.trans h2)
   have HMP := hide (smap_any hp7 (fun _ => True) trivial (fun _ _ _ _ => trivial) (fun _ _ _ _ => trivial) (fun id _ _ => by have := (hw7.sb.n id).1; omega))
   rw [HF3.out] at HMP
   clear hu7 hp7 hb7 hw7 h2 HS HI HF3
   go_wp2_with fail
   refine HMP.out.mono ?_
   rintro e w8 ⟨E8,v8,rfl,hrow,hown,he,hb8⟩
   have HB8 := hide (B7.out.trans (hb8.mono B7.out.size))
   obtain ⟨x,rfl⟩ : ∃ x,E8 = [x] := List.length_eq_one_iff.1 (by simpa using congrArg List.length he)
   have hx1 : x.1.s = [107] ∧ x.2.s = [118] := by simpa [enP] using he
   obtain ⟨oa,oc,rfl⟩ : ∃ a c,v8 = .slice a 1 c := by
    rcases hrow.2 with ⟨_,h2⟩ | ⟨g,cap,cur,h1,_⟩
    ·simp at h2
    ·exact ⟨_,_,h1⟩
   have hrd := EnRd.of hrow hown
   obtain ⟨g,rfl,c1,c2,o1,o2⟩ := hrd 0 (by simp)
   simp only [List.getElem_cons_zero] at c1 c2 o1 o2
   obtain ⟨⟨ka,kc,kz⟩,⟨va,vc,vz⟩⟩ := x
   obtain ⟨rfl,rfl⟩ := hx1
   simp only [Tx.v,show ([107] : List Int).length = 1 from rfl,show ([118] : List Int).length = 1 from rfl] at c1 c2
   have k1 : (convert 29 9 (.slice ka 1 kc)).run Tryz.prog w8 = .ok (.string (strOfNums [107])) w8 := nconv_row kc rfl o1.r
   rw [show strOfNums [107] = ⟨#[107]⟩ from by decide +kernel] at k1
   have k2 : (convert 29 9 (.slice va 1 vc)).run Tryz.prog w8 = .ok (.string (strOfNums [118])) w8 := nconv_row vc rfl o2.r
   rw [show strOfNums [118] = ⟨#[118]⟩ from by decide +kernel] at k2
   clear hrow hown he hb8 hrd o1 o2 HMP
   go_wp2_with fail
   go_ret
   exact ⟨rfl,HB8.out⟩
def uptV (p : Nat) : Value := .pointer (some ⟨p,0,none⟩)
def uptT (x : Tx × Tx) : List Value := [.pointer none,.pointer none,x.1.v,x.2.v]
def uwV (c : Cfg) (PA : Nat) (vp : Value) : Array Value := #[.pointer (some ⟨PA,0,none⟩),.int .i64 c.nd,.int .i64 c.lf,.int .i64 c.inn,.int .i64 c.fl,.int .i64 c.bk,vp,.slice none 0 0,.slice none 0 0]
theorem uown_upd {S : Nat → Prop} {w w' : World} {base size : Nat} {e : TypeId} {v : Value} {n : Nat} {xs : List Value} (h : w.ownsRow base e size v n xs) (hu : Upd S w w') (hs : ∀ k,v.ownBlock = some k → ¬ S k) : w'.ownsRow base e size v n xs :=
 owns_blkN h (fun k hk => hu.block k (h.lt k hk).2 (hs k hk))
structure UT (w0 : World) (own : Nat → Nat → Prop) (W : World) (B PA A : Nat) (c : Cfg) (s : AS) (L : List (Nat × US)) (R : List Nat) (vl vp vm : Value) (Ks : List (Tx × Tx)) (E : List En) : Prop where
 ap : ∀ t t' k,own t k → own t' k → t = t'
 lo : ∀ t k,own t k → (t = 0 ∨ w0.heap.size ≤ k) ∧ k < W.heap.size
 bw : Below w0.heap.size w0 W
 o0 : own 0 PA
 o2 : own 2 B
 px : PX W A (own 1) s
 pa : W.cell? ⟨PA,0,none⟩ = some (.pointer (some ⟨A,0,none⟩))
 bc : W.heap[B]? = some (.cells (uwV c PA vp) 37 (0,0))
 rl : W.ownsRow w0.heap.size 45 1 vl R.length (R.map uptV)
 ol : ∀ k,vl.ownBlock = some k → own 3 k
 rp : W.ownsRow w0.heap.size 89 4 vp Ks.length (Ks.flatMap uptT)
 op : ∀ k,vp.ownBlock = some k → own 4 k
 rm : W.ownsRow w0.heap.size 48 2 vm E.length (E.flatMap EnC)
 om : ∀ k,vm.ownBlock = some k → own 5 k
 ks : ∀ x ∈ Ks,x.1.Ok w0 ∧ x.2.Ok w0
 en : ∀ x ∈ E,x.1.Ok w0 ∧ x.2.Ok w0
 mx : ∀ i (h : i < L.length),own (i + 6) L[i].1 ∧ ∃ m,UP W L[i].1 A (fun k => own (i + 6) k ∧ k ≠ L[i].1) m L[i].2
section
variable {w0 : World} {own : Nat → Nat → Prop} {W W' : World} {B PA A : Nat} {c : Cfg} {s s' : AS} {L : List (Nat × US)} {R : List Nat} {vl vp vm : Value} {Ks : List (Tx × Tx)} {E : List En}
theorem UT.below (h : UT w0 own W B PA A c s L R vl vp vm Ks E) (hb : Below W.heap.size W W') : UT w0 own W' B PA A c s L R vl vp vm Ks E := by
 have hu : Upd Noth W W' := Upd.of_below hb _
 refine ⟨h.ap,fun t k hk => ⟨(h.lo t k hk).1,Nat.lt_of_lt_of_le (h.lo t k hk).2 hb.size⟩,h.bw.trans (hb.mono h.bw.size),h.o0,h.o2,h.px.upd hu (fun _ _ e => e),hu.cell h.pa (fun e => e),hu.heap h.bc (fun e => e),uown_upd h.rl hu (fun _ _ e => e),h.ol,uown_upd h.rp hu (fun _ _ e => e),h.op,uown_upd h.rm hu (fun _ _ e => e),h.om,h.ks,h.en,fun i hi => ?_⟩
 obtain ⟨h1,m,h2⟩ := h.mx i hi
 exact ⟨h1,m,h2.upd hu (fun _ _ e => e)⟩
theorem UT.step (h : UT w0 own W B PA A c s L R vl vp vm Ks E) (i : Nat) (hi : i < L.length) (hok : UOk L[i].2) :
  Calls Tryz.prog 15 #[.pointer (some ⟨L[i].1,0,none⟩)] W fun e w' => e = .returned (.tuple #[.bool (decide (15 ≤ (L[i].2.step s).u.nx)),.bool (L[i].2.step s).tk]) ∧ ∃ own',UT w0 own' w' B PA A c (L[i].2.step s).s (L.set i (L[i].1,(L[i].2.step s).u)) R vl vp vm Ks E ∧ ∀ G,G < W.heap.size → (∀ t,¬ own t G) → (∀ t,¬ own' t G) ∧ w'.heap[G]? = W.heap[G]? := by
 obtain ⟨h1,m,hm⟩ := h.mx i hi
 have hne : ∀ t k,t ≠ 1 → own 1 k → ¬ own t k := fun t k ht h1 h2 => ht (h.ap t 1 k h2 h1)
 refine (ustep_any hm h.px (fun x hx => ⟨fun e => hne (i + 6) x (by omega) hx e.1,fun e => hne (i + 6) x (by omega) hx (e ▸ h1)⟩) hok).mono ?_
 rintro e w' ⟨rfl,m',D',F',hq⟩
 have hu : Upd (fun k => own 1 k ∨ own (i + 6) k) W w' := hq.u.mono fun k _ e => by
  rcases e with e | e | e
  ·exact .inr (e ▸ h1)
  ·exact .inr (hm.pwD e).1
  ·exact .inl e
 have hS : ∀ t k,t ≠ 1 → t ≠ i + 6 → own t k → ¬ (own 1 k ∨ own (i + 6) k) := fun t k h1 h2 hk e => by
  rcases e with e | e
  ·exact h1 (h.ap _ _ _ hk e)
  ·exact h2 (h.ap _ _ _ hk e)
 let own' : Nat → Nat → Prop := fun t k => if t = 1 then F' k else if t = i + 6 then D' k ∨ k = L[i].1 else own t k
 have o1 : ∀ k,own' 1 k = F' k := fun k => if_pos rfl
 have oi : ∀ k,own' (i + 6) k = (D' k ∨ k = L[i].1) := fun k => (if_neg (by omega)).trans (if_pos rfl)
 have oo : ∀ t k,t ≠ 1 → t ≠ i + 6 → own' t k = own t k := fun t k h1 h2 => (if_neg h1).trans (if_neg h2)
 have hold : ∀ t k,own' t k → own t k ∨ (W.heap.size ≤ k ∧ (t = 1 ∨ t = i + 6)) := fun t k hk => by
  by_cases e1 : t = 1
  ·subst e1
   rw [o1] at hk
   rcases hq.f k hk with g | g
   ·exact .inl g
   ·exact .inr ⟨g,.inl rfl⟩
  ·by_cases e2 : t = i + 6
   ·subst e2
    rw [oi] at hk
    rcases hk with hk | rfl
    ·rcases hq.d k hk with g | g
     ·exact .inl g.1
     ·exact .inr ⟨g,.inr rfl⟩
    ·exact .inl h1
   ·rw [oo t k e1 e2] at hk
    exact .inl hk
 have hap1 : ∀ k,own' 1 k → ¬ own' (i + 6) k := fun k ha hb => by
  rw [o1] at ha
  rw [oi] at hb
  obtain ⟨q1,q2⟩ := hq.ap k ha
  rcases hb with hb | hb
  ·exact q1 hb
  ·exact q2 hb
 have hlt : ∀ t k,own' t k → k < w'.heap.size := fun t k hk => by
  by_cases e1 : t = 1
  ·subst e1
   rw [o1] at hk
   exact hq.px.lt k hk
  ·by_cases e2 : t = i + 6
   ·subst e2
    rw [oi] at hk
    rcases hk with hk | rfl
    ·exact hq.up.lt k hk
    ·exact lt_of_block hq.up.c
   ·rw [oo t k e1 e2] at hk
    exact Nat.lt_of_lt_of_le (h.lo t k hk).2 hu.size
 refine ⟨rfl,own',?_,fun G hG hn => ⟨fun t hk => (hold t G hk).elim (hn t) (fun q => absurd hG (by omega)),hu.block G hG (fun e => e.elim (hn 1) (hn (i + 6)))⟩⟩
 refine ⟨?_,fun t k hk => ⟨?_,hlt t k hk⟩,h.bw.trans (hu.below h.bw.size fun k hk e => ?_),?_,?_,?_,hu.cell h.pa (hS 0 PA (by omega) (by omega) h.o0),hu.heap h.bc (hS 2 B (by omega) (by omega) h.o2),?_,?_,uown_upd h.rp hu (fun k hk => hS 4 k (by omega) (by omega) (h.op k hk)),?_,uown_upd h.rm hu (fun k hk => hS 5 k (by omega) (by omega) (h.om k hk)),?_,h.ks,h.en,fun j hj => ?_⟩
 ·intro t t' k ha hb
  rcases hold t k ha with g1 | ⟨g1,g2⟩
  ·rcases hold t' k hb with g3 | ⟨g3,g4⟩
   ·exact h.ap t t' k g1 g3
   ·have := (h.lo t k g1).2; omega
  ·rcases hold t' k hb with g3 | ⟨g3,g4⟩
   ·have := (h.lo t' k g3).2; omega
   ·rcases g2 with rfl | rfl <;> rcases g4 with rfl | rfl
    ·rfl
    ·exact absurd hb (hap1 k ha)
    ·exact absurd ha (hap1 k hb)
    ·rfl
 ·rcases hold t k hk with g | ⟨g,_⟩
  ·exact (h.lo t k g).1
  ·have := h.bw.size; omega
 ·rcases e with e | e
  ·have := (h.lo _ k e).1; omega
  ·have := (h.lo _ k e).1; omega
 ·rw [oo 0 PA (by omega) (by omega)]; exact h.o0
 ·rw [oo 2 B (by omega) (by omega)]; exact h.o2
 ·have : own' 1 = F' := funext o1
  rw [this]; exact hq.px
 ·exact uown_upd h.rl hu (fun k hk => hS 3 k (by omega) (by omega) (h.ol k hk))
 ·intro k hk
  rw [oo 3 k (by omega) (by omega)]; exact h.ol k hk
 ·intro k hk
  rw [oo 4 k (by omega) (by omega)]; exact h.op k hk
 ·intro k hk
  rw [oo 5 k (by omega) (by omega)]; exact h.om k hk
 ·rw [List.length_set] at hj
  by_cases e : i = j
  ·subst e
   rw [List.getElem_set_self]
   refine ⟨by rw [oi]; exact .inr rfl,m',?_⟩
   have : (fun k => own' (i + 6) k ∧ k ≠ L[i].1) = D' := by
    funext k
    rw [oi]
    refine propext ⟨fun g => ?_,fun g => ⟨.inl g,fun e => hq.up.pd (e ▸ g)⟩⟩
    rcases g with ⟨g | g,g2⟩
    ·exact g
    ·exact absurd g g2
   show UP w' L[i].1 A (fun k => own' (i + 6) k ∧ k ≠ L[i].1) m' _
   rw [this]
   exact hq.up
  ·rw [List.getElem_set_ne e]
   obtain ⟨g1,mj,g2⟩ := h.mx j hj
   have e3 : own' (j + 6) = own (j + 6) := funext fun k => oo (j + 6) k (by omega) (by omega)
   rw [e3]
   refine ⟨g1,mj,g2.upd hu fun x hx => ?_⟩
   rcases hx with rfl | hx
   ·exact hS (j + 6) _ (by omega) (by omega) g1
   ·exact hS (j + 6) _ (by omega) (by omega) hx.1
theorem UT.add {k v : Tx} (h : UT w0 own W B PA A c s L R vl vp vm Ks E) (hk : k.Ok W) (hv : v.Ok W) :
  Calls Tryz.prog 14 #[.pointer (some ⟨A,0,none⟩),c.v,k.v,v.v] W fun e w' => ∃ P own',e = .returned (uptV P) ∧ UT w0 own' w' B PA A c s (L ++ [(P,US.new c k.s v.s)]) R vl vp vm Ks E ∧ Upd (own 1) W w' ∧ (∀ t k,own' t k → t ≠ 1 → t ≠ L.length + 6 → own t k) := by
 refine (unew_any h.px c k v hk hv).mono ?_
 rintro e w' ⟨P,m,D,F',rfl,hm,hp,hP,hD,hF,hap,hu⟩
 have hS : ∀ t k,t ≠ 1 → own t k → ¬ own 1 k := fun t k h1 hk e => h1 (h.ap _ _ _ hk e)
 let own' : Nat → Nat → Prop := fun t k => if t = 1 then F' k else if t = L.length + 6 then D k ∨ k = P else own t k
 have o1 : ∀ k,own' 1 k = F' k := fun k => if_pos rfl
 have oi : ∀ k,own' (L.length + 6) k = (D k ∨ k = P) := fun k => (if_neg (by omega)).trans (if_pos rfl)
 have oo : ∀ t k,t ≠ 1 → t ≠ L.length + 6 → own' t k = own t k := fun t k h1 h2 => (if_neg h1).trans (if_neg h2)
 have hold : ∀ t k,own' t k → (own t k ∧ t ≠ L.length + 6) ∨ (W.heap.size ≤ k ∧ (t = 1 ∨ t = L.length + 6)) := fun t k hk => by
  by_cases e1 : t = 1
  ·subst e1
   rw [o1] at hk
   rcases hF k hk with g | g
   ·exact .inl ⟨g,by omega⟩
   ·exact .inr ⟨g,.inl rfl⟩
  ·by_cases e2 : t = L.length + 6
   ·subst e2
    rw [oi] at hk
    rcases hk with hk | rfl
    ·exact .inr ⟨hD k hk,.inr rfl⟩
    ·exact .inr ⟨hP,.inr rfl⟩
   ·rw [oo t k e1 e2] at hk
    exact .inl ⟨hk,e2⟩
 have hap1 : ∀ k,own' 1 k → ¬ own' (L.length + 6) k := fun k ha hb => by
  rw [o1] at ha
  rw [oi] at hb
  obtain ⟨q1,q2⟩ := hap k ha
  rcases hb with hb | hb
  ·exact q1 hb
  ·exact q2 hb
 have hlt : ∀ t k,own' t k → k < w'.heap.size := fun t k hk => by
  by_cases e1 : t = 1
  ·subst e1
   rw [o1] at hk
   exact hp.lt k hk
  ·by_cases e2 : t = L.length + 6
   ·subst e2
    rw [oi] at hk
    rcases hk with hk | rfl
    ·exact hm.lt k hk
    ·exact lt_of_block hm.c
   ·rw [oo t k e1 e2] at hk
    exact Nat.lt_of_lt_of_le (h.lo t k hk).2 hu.size
 refine ⟨P,own',rfl,?_,hu,fun t k hk h1 h2 => by rw [oo t k h1 h2] at hk; exact hk⟩
 refine ⟨?_,fun t k hk => ⟨?_,hlt t k hk⟩,h.bw.trans (hu.below h.bw.size fun k hk e => ?_),?_,?_,?_,hu.cell h.pa (hS 0 PA (by omega) h.o0),hu.heap h.bc (hS 2 B (by omega) h.o2),uown_upd h.rl hu (fun k hk => hS 3 k (by omega) (h.ol k hk)),?_,uown_upd h.rp hu (fun k hk => hS 4 k (by omega) (h.op k hk)),?_,uown_upd h.rm hu (fun k hk => hS 5 k (by omega) (h.om k hk)),?_,h.ks,h.en,fun j hj => ?_⟩
 ·intro t t' k ha hb
  rcases hold t k ha with ⟨g1,_⟩ | ⟨g1,g2⟩
  ·rcases hold t' k hb with ⟨g3,_⟩ | ⟨g3,g4⟩
   ·exact h.ap t t' k g1 g3
   ·have := (h.lo t k g1).2; omega
  ·rcases hold t' k hb with ⟨g3,_⟩ | ⟨g3,g4⟩
   ·have := (h.lo t' k g3).2; omega
   ·rcases g2 with rfl | rfl <;> rcases g4 with rfl | rfl
    ·rfl
    ·exact absurd hb (hap1 k ha)
    ·exact absurd ha (hap1 k hb)
    ·rfl
 ·rcases hold t k hk with ⟨g,_⟩ | ⟨g,_⟩
  ·exact (h.lo t k g).1
  ·have := h.bw.size; omega
 ·have := (h.lo _ k e).1; omega
 ·rw [oo 0 PA (by omega) (by omega)]; exact h.o0
 ·rw [oo 2 B (by omega) (by omega)]; exact h.o2
 ·have : own' 1 = F' := funext o1
  rw [this]; exact hp
 ·intro k hk
  rw [oo 3 k (by omega) (by omega)]; exact h.ol k hk
 ·intro k hk
  rw [oo 4 k (by omega) (by omega)]; exact h.op k hk
 ·intro k hk
  rw [oo 5 k (by omega) (by omega)]; exact h.om k hk
 ·rw [List.length_append,List.length_singleton] at hj
  by_cases e : j < L.length
  ·rw [List.getElem_append_left e]
   obtain ⟨g1,mj,g2⟩ := h.mx j e
   have e3 : own' (j + 6) = own (j + 6) := funext fun k => oo (j + 6) k (by omega) (by omega)
   rw [e3]
   refine ⟨g1,mj,g2.upd hu fun x hx => ?_⟩
   rcases hx with rfl | hx
   ·exact hS (j + 6) _ (by omega) g1
   ·exact hS (j + 6) _ (by omega) hx.1
  ·obtain rfl : j = L.length := by omega
   rw [List.getElem_append_right (Nat.le_refl _)]
   simp only [Nat.sub_self,List.getElem_cons_zero]
   refine ⟨by rw [oi]; exact .inr rfl,m,?_⟩
   have : (fun k => own' (L.length + 6) k ∧ k ≠ P) = D := by
    funext k
    rw [oi]
    refine propext ⟨fun g => ?_,fun g => ⟨.inl g,fun e => hm.pd (e ▸ g)⟩⟩
    rcases g with ⟨g | g,g2⟩
    ·exact g
    ·exact absurd g g2
   rw [this]
   exact hm
end
section
variable {w0 : World} {own : Nat → Nat → Prop} {W W' : World} {B PA A : Nat} {c : Cfg} {s s' : AS} {L : List (Nat × US)} {R : List Nat} {vl vp vm : Value} {Ks : List (Tx × Tx)} {E : List En}
def addB (own : Nat → Nat → Prop) (t0 g t k : Nat) : Prop := if t = t0 then own t0 k ∨ k = g else own t k
theorem addB_at {t0 g k : Nat} : addB own t0 g t0 k = (own t0 k ∨ k = g) := if_pos rfl
theorem addB_ne {t0 g t k : Nat} (h : t ≠ t0) : addB own t0 g t k = own t k := if_neg h
theorem UT.grow {t0 g : Nat} {R' : List Nat} {vl' vp' vm' : Value} {Ks' : List (Tx × Tx)} {E' : List En} (h : UT w0 own W B PA A c s L R vl vp vm Ks E) (ht : 3 ≤ t0 ∧ t0 ≤ 5) (hu : Upd (fun k => own t0 k ∨ k = B) W W') (hg : own t0 g ∨ W.heap.size ≤ g) (hlt : g < W'.heap.size)
  (bc : W'.heap[B]? = some (.cells (uwV c PA vp') 37 (0,0))) (rl : W'.ownsRow w0.heap.size 45 1 vl' R'.length (R'.map uptV)) (ol : ∀ k,vl'.ownBlock = some k → addB own t0 g 3 k)
  (rp : W'.ownsRow w0.heap.size 89 4 vp' Ks'.length (Ks'.flatMap uptT)) (op : ∀ k,vp'.ownBlock = some k → addB own t0 g 4 k)
  (rm : W'.ownsRow w0.heap.size 48 2 vm' E'.length (E'.flatMap EnC)) (om : ∀ k,vm'.ownBlock = some k → addB own t0 g 5 k)
  (ks : ∀ x ∈ Ks',x.1.Ok w0 ∧ x.2.Ok w0) (en : ∀ x ∈ E',x.1.Ok w0 ∧ x.2.Ok w0) : UT w0 (addB own t0 g) W' B PA A c s L R' vl' vp' vm' Ks' E' := by
 have hS : ∀ t k,t ≠ 2 → t ≠ t0 → own t k → ¬ (own t0 k ∨ k = B) := fun t k h1 h2 hk e => by
  rcases e with e | rfl
  ·exact h2 (h.ap _ _ _ hk e)
  ·exact h1 (h.ap _ _ _ hk h.o2)
 have hold : ∀ t k,addB own t0 g t k → own t k ∨ (t = t0 ∧ k = g ∧ W.heap.size ≤ g) := fun t k hk => by
  by_cases e : t = t0
  ·subst e
   rw [addB_at] at hk
   rcases hk with hk | rfl
   ·exact .inl hk
   ·exact hg.imp (fun q => q) (fun q => ⟨rfl,rfl,q⟩)
  ·rw [addB_ne e] at hk
   exact .inl hk
 have hb0 := h.bw.size
 have hB := (h.lo 2 B h.o2).1
 have e1 : addB own t0 g 1 = own 1 := funext fun k => addB_ne (by omega)
 refine ⟨fun t t' k ha hb => ?_,fun t k hk => ?_,h.bw.trans (hu.below hb0 fun k hk e => ?_),by rw [addB_ne (by omega)]; exact h.o0,by rw [addB_ne (by omega)]; exact h.o2,by rw [e1]; exact h.px.upd hu (fun k hk => hS 1 k (by omega) (by omega) hk),hu.cell h.pa (hS 0 PA (by omega) (by omega) h.o0),bc,rl,ol,rp,op,rm,om,ks,en,fun j hj => ?_⟩
 ·rcases hold t k ha with g1 | ⟨g1,g2,g3⟩
  ·rcases hold t' k hb with g4 | ⟨g4,g5,g6⟩
   ·exact h.ap t t' k g1 g4
   ·have := (h.lo t k g1).2; omega
  ·rcases hold t' k hb with g4 | ⟨g4,g5,g6⟩
   ·have := (h.lo t' k g4).2; omega
   ·rw [g1,g4]
 ·rcases hold t k hk with g1 | ⟨g1,g2,g3⟩
  ·exact ⟨(h.lo t k g1).1,Nat.lt_of_lt_of_le (h.lo t k g1).2 hu.size⟩
  ·omega
 ·rcases e with e | e
  ·have := (h.lo _ k e).1; omega
  ·omega
 ·obtain ⟨g1,mj,g2⟩ := h.mx j hj
  have e3 : addB own t0 g (j + 6) = own (j + 6) := funext fun k => addB_ne (by omega)
  rw [e3]
  refine ⟨g1,mj,g2.upd hu fun x hx => ?_⟩
  rcases hx with rfl | hx
  ·exact hS (j + 6) _ (by omega) (by omega) g1
  ·exact hS (j + 6) _ (by omega) (by omega) hx.1
theorem uown_mono {w : World} {N M size : Nat} {e : TypeId} {v : Value} {n : Nat} {xs : List Value} (h : w.ownsRow N e size v n xs) (hm : M ≤ N) : w.ownsRow M e size v n xs := by
 obtain ⟨h1,h2⟩ := h
 refine ⟨h1,?_⟩
 rcases h2 with h2 | ⟨g,cap,cur,a1,a2,a3⟩
 ·exact .inl h2
 ·exact .inr ⟨g,cap,cur,a1,Nat.le_trans hm a2,a3⟩
theorem UT.setM {k v : Tx} {D : List En} {a : Option Addr} {n q : Nat} (h : UT w0 own W B PA A c s L R vl vp vm Ks E) (hk : k.Ok w0) (hv : v.Ok w0) (hs : SetW W W' E k v D a n q) : ∃ own',UT w0 own' W' B PA A c s L R vl vp (.slice a n q) Ks D ∧ ∀ G,G < W.heap.size → (∀ t,¬ own t G) → ∀ t,¬ own' t G := by
 have hu : Upd (fun k => own 5 k ∨ k = B) W W' := Upd.of_below hs.bel _
 have h0 := h.bw.size
 have hsz := hs.size
 obtain ⟨g,h1,h2,h3⟩ : ∃ g,W.heap.size ≤ g ∧ g < W'.heap.size ∧ ∀ k,(Value.slice a n q).ownBlock = some k → k = g := by
  cases hb : (Value.slice a n q).ownBlock with
  | none => exact ⟨W.heap.size,Nat.le_refl _,by omega,fun k e => by cases e⟩
  | some g =>
   have := hs.row.lt g hb
   exact ⟨g,by omega,this.2,fun k e => (Option.some.inj e).symm⟩
 refine ⟨_,h.grow (t0 := 5) (g := g) (by decide) hu (.inr h1) h2 ((hs.bel.block B (lt_of_block h.bc)).trans h.bc) (uown_upd h.rl (Upd.of_below hs.bel Noth) (fun _ _ e => e)) (fun k hk => by rw [addB_ne (by decide)]; exact h.ol k hk) (uown_upd h.rp (Upd.of_below hs.bel Noth) (fun _ _ e => e)) (fun k hk => by rw [addB_ne (by decide)]; exact h.op k hk) (uown_mono hs.row (by omega)) (fun k hk => by rw [addB_at]; exact .inr (h3 k hk)) h.ks (fun x hx => ?_),fun G hG hn t hk => ?_⟩
 ·rcases hs.mem x hx with e | e
  ·exact h.en x e
  ·rw [e]; exact ⟨hk,hv⟩
 ·by_cases e : t = 5
  ·subst e
   rw [addB_at] at hk
   rcases hk with hk | hk
   ·exact hn 5 hk
   ·omega
  ·rw [addB_ne e] at hk
   exact hn t hk
end
section
variable {w0 : World} {own : Nat → Nat → Prop} {W W' : World} {B PA A : Nat} {c : Cfg} {s s' : AS} {L : List (Nat × US)} {R : List Nat} {vl vp vm : Value} {Ks : List (Tx × Tx)} {E : List En}
theorem UT.rd {a : Option Addr} {n q : Nat} (h : UT w0 own W B PA A c s L R vl vp (.slice a n q) Ks E) : E.length = n ∧ EnRd W a E := by
 have hrow := h.rm
 have hn : E.length = n := by
  rcases hrow.2 with ⟨q1,q2⟩ | ⟨g,cap,cur,q1,_⟩
  ·simp only [Value.slice.injEq] at q1; omega
  ·simp only [Value.slice.injEq] at q1; omega
 refine ⟨hn,fun j hj => ?_⟩
 rcases hrow.2 with ⟨q1,q2⟩ | ⟨g,cap,cur,q1,q2,q3,q4,q5,q6,q7⟩
 ·omega
 ·simp only [Value.slice.injEq] at q1
  have e0 := enC_at E j 0 hj (by omega)
  have e1 := enC_at E j 1 hj (by omega)
  have cl : ∀ k u,(E.flatMap EnC)[k]? = some u → W.cell? ⟨g,k,none⟩ = some u := fun k u hu => by
   rw [cell_of_row _ _ _ _ _ _ q3,← Array.getElem?_toList]
   rw [← q7,List.getElem?_take] at hu
   split at hu
   ·exact hu
   ·cases hu
  have ho := h.en E[j] (List.getElem_mem hj)
  exact ⟨g,q1.1,cl _ _ e0,cl _ _ e1,ho.1.below h.bw,ho.2.below h.bw⟩
end
structure UOp where
 kd : Int
 a : Int
 b : Int
 k : Tx
 v : Tx
 h : Tx
def UOp.cs (o : UOp) : List Value := [.int .i64 o.kd,.int .i64 o.a,.int .i64 o.b,o.k.v,o.v.v,o.h.v]
structure UOp.Ok (o : UOp) (W : World) : Prop where
 a : -9223372036854775808 ≤ o.a ∧ o.a ≤ 9223372036854775807
 b : -9223372036854775808 ≤ o.b ∧ o.b ≤ 9223372036854775807
 k : o.k.Ok W
 v : o.v.Ok W
def UV (w0 W : World) (B PA A : Nat) (c : Cfg) (vl vp vm : Value) (n q M : Nat) : Prop := ∃ own s L R Ks E,UT w0 own W B PA A c s L R vl vp vm Ks E ∧ R = L.map (·.1) ∧ L.length = n ∧ Ks.length = n ∧ E.length = q ∧ q ≤ M ∧ WS c s (L.map (·.2)) (Ks.map enP) (E.map enP) M ∧ Rise (E.map enP)
def UVG (w0 W : World) (B PA A : Nat) (c : Cfg) (vl vp vm : Value) (n q M G : Nat) (X : Obj) : Prop := ∃ own s L R Ks E,UT w0 own W B PA A c s L R vl vp vm Ks E ∧ R = L.map (·.1) ∧ L.length = n ∧ Ks.length = n ∧ E.length = q ∧ q ≤ M ∧ WS c s (L.map (·.2)) (Ks.map enP) (E.map enP) M ∧ Rise (E.map enP) ∧ (∀ t,¬ own t G) ∧ W.heap[G]? = some X
section
variable {w0 W W' : World} {B PA A : Nat} {c : Cfg} {vl vp vm : Value} {n q M G : Nat} {X : Obj}
theorem UVG.blk (h : UVG w0 W B PA A c vl vp vm n q M G X) : W.heap[G]? = some X := by
 obtain ⟨own,s,L,R,Ks,E,h1,h2,h3,h4,h5,h6,h7,h8,h9,h10⟩ := h
 exact h10
theorem UVG.below (h : UVG w0 W B PA A c vl vp vm n q M G X) (hb : Below W.heap.size W W') : UVG w0 W' B PA A c vl vp vm n q M G X := by
 obtain ⟨own,s,L,R,Ks,E,h1,h2,h3,h4,h5,h6,h7,h8,h9,h10⟩ := h
 exact ⟨own,s,L,R,Ks,E,h1.below hb,h2,h3,h4,h5,h6,h7,h8,h9,(hb.block G (lt_of_block h10)).trans h10⟩
theorem UV.box (h : UV w0 W B PA A c vl vp vm n q M) (hb : Below W.heap.size W W') (hG : W.heap.size ≤ G) (hX : W'.heap[G]? = some X) : UVG w0 W' B PA A c vl vp vm n q M G X := by
 obtain ⟨own,s,L,R,Ks,E,h1,h2,h3,h4,h5,h6,h7,h8⟩ := h
 exact ⟨own,s,L,R,Ks,E,h1.below hb,h2,h3,h4,h5,h6,h7,h8,fun t hk => by have := (h1.lo t G hk).2; omega,hX⟩
theorem UV.below (h : UV w0 W B PA A c vl vp vm n q M) (hb : Below W.heap.size W W') : UV w0 W' B PA A c vl vp vm n q M := by
 obtain ⟨own,s,L,R,Ks,E,h1,h2⟩ := h
 exact ⟨own,s,L,R,Ks,E,h1.below hb,h2⟩
end
def UV2 (w0 W : World) (B PA A : Nat) (c : Cfg) (vl vp vm : Value) (n q M G : Nat) (X : Obj) (i : Nat) (p : Nat) (x : En) (tk : Bool) (er : Int) : Prop := ∃ own s L R Ks E,UT w0 own W B PA A c s L R vl vp vm Ks E ∧ R = L.map (·.1) ∧ L.length = n ∧ Ks.length = n ∧ E.length = q ∧ q ≤ M ∧ WS c s (L.map (·.2)) (Ks.map enP) (if tk = true ∧ er = 0 then mset x.1.s x.2.s (E.map enP) else E.map enP) (M + 1) ∧ Rise (E.map enP) ∧ Ks[i]? = some x ∧ (tk = true → er = 0 → 1 ≤ x.1.s.length ∧ x.1.s.length ≤ 64 ∧ x.2.s.length ≤ 256) ∧ (∃ u,L[i]? = some (p,u) ∧ u.err = er) ∧ (∀ t,¬ own t G) ∧ W.heap[G]? = some X
section
variable {w0 W W' : World} {B PA A : Nat} {c : Cfg} {vl vp vm : Value} {n q M G i p : Nat} {X : Obj} {x : En} {tk : Bool} {er : Int}
theorem UV2.below (h : UV2 w0 W B PA A c vl vp vm n q M G X i p x tk er) (hb : Below W.heap.size W W') : UV2 w0 W' B PA A c vl vp vm n q M G X i p x tk er := by
 obtain ⟨own,s,L,R,Ks,E,h1,h2,h3,h4,h5,h6,h7,h8,h9,h10,h11,h12,h13⟩ := h
 exact ⟨own,s,L,R,Ks,E,h1.below hb,h2,h3,h4,h5,h6,h7,h8,h9,h10,h11,h12,(hb.block G (lt_of_block h13)).trans h13⟩
theorem UV2.blk (h : UV2 w0 W B PA A c vl vp vm n q M G X i p x tk er) : W.heap[G]? = some X := by
 obtain ⟨own,s,L,R,Ks,E,h1,h2,h3,h4,h5,h6,h7,h8,h9,h10,h11,h12,h13⟩ := h
 exact h13
theorem row_cell1 {N n : Nat} {e : TypeId} {v : Value} {xs : List Value} (h : W.ownsRow N e 1 v n xs) {a : Option Addr} {l q : Nat} (hv : v = .slice a l q) {j : Nat} {u : Value} (hu : xs[j]? = some u) : ∃ g,a = some ⟨g,0,none⟩ ∧ W.cell? ⟨g,j,none⟩ = some u := by
 rcases h.2 with ⟨q1,q2⟩ | ⟨g,cap,cur,q1,q2,q3,q4,q5,q6,q7⟩
 ·have h1 := h.1
  have := (List.getElem?_eq_some_iff.1 hu).1
  omega
 ·rw [hv] at q1
  simp only [Value.slice.injEq] at q1
  refine ⟨g,q1.1,?_⟩
  rw [cell_of_row _ _ _ _ _ _ q3,← Array.getElem?_toList]
  rw [← q7,List.getElem?_take] at hu
  split at hu
  ·exact hu
  ·cases hu
theorem UVG.step {la : Option Addr} {ll lc : Nat} (h : UVG w0 W B PA A c (.slice la ll lc) vp vm n q M G X) (hi : i < n) (hM : M < 4611686018427387903) : ∃ g p,la = some ⟨g,0,none⟩ ∧ W.cell? ⟨g,i,none⟩ = some (uptV p) ∧
  Calls Tryz.prog 15 #[uptV p] W fun e w' => ∃ thr tk er x,e = .returned (.tuple #[.bool thr,.bool tk]) ∧ UV2 w0 w' B PA A c (.slice la ll lc) vp vm n q M G X i p x tk er := by
 obtain ⟨own,s,L,R,Ks,E,hT,rfl,hL,hK,hE,hq,hW,hr,hG,hX⟩ := h
 have hiL : i < L.length := by omega
 have hiK : i < Ks.length := by omega
 have hrow := hT.rl
 obtain ⟨g,rfl,hcell⟩ := row_cell1 (j := i) (u := uptV L[i].1) hrow rfl (by simp [hiL])
 have hu : (L.map (·.2))[i]? = some L[i].2 := by simp [hiL]
 have hk : (Ks.map enP)[i]? = some (enP Ks[i]) := by simp [hiK]
 have hok := hW.ok hu (by omega)
 refine ⟨g,L[i].1,rfl,hcell,(hT.step i hiL hok).mono ?_⟩
 rintro e w' ⟨rfl,own',hT',hfr⟩
 obtain ⟨hG',hX'⟩ := hfr G (lt_of_block hX) hG
 obtain ⟨h1,h2⟩ := hW.step hu hk (fun k hk => px_wlt hT.px k hk) (by omega)
 refine ⟨_,_,(L[i].2.step s).u.err,Ks[i],rfl,own',_,_,_,_,_,hT',?_,by rw [List.length_set]; exact hL,hK,hE,hq,?_,hr,List.getElem?_eq_getElem hiK,h2,⟨(L[i].2.step s).u,?_,rfl⟩,hG',hX'.trans hX⟩
 ·refine List.ext_getElem? fun j => ?_
  rw [List.getElem?_map,List.getElem?_map,List.getElem?_set]
  by_cases e : i = j
  ·subst e; simp [hiL]
  ·rw [if_neg e]
 ·rw [List.map_set]
  exact h1
 ·rw [List.getElem?_set,if_pos rfl,if_pos hiL]
theorem UV2.same (h : UV2 w0 W B PA A c vl vp vm n q M G X i p x tk er) (hn : ¬ (tk = true ∧ er = 0)) : UVG w0 W B PA A c vl vp vm n q (M + 1) G X := by
 obtain ⟨own,s,L,R,Ks,E,hT,h2,h3,h4,h5,h6,h7,h8,h9,h10,_,h12,h13⟩ := h
 rw [if_neg hn] at h7
 exact ⟨own,s,L,R,Ks,E,hT,h2,h3,h4,h5,by omega,h7,h8,h12,h13⟩
theorem UV2.set {oa : Option Addr} {on oc : Nat} (h : UV2 w0 W B PA A c vl vp (.slice oa on oc) n q M G X i p x true 0) (hM : M ≤ 1099511627776) : (1 ≤ x.1.s.length ∧ x.1.s.length ≤ 64 ∧ x.2.s.length ≤ 256) ∧ Calls Tryz.prog 68 #[.slice oa on oc,x.1.v,x.2.v] W fun e w' => ∃ a l d,e = .returned (.slice a l d) ∧ UVG w0 w' B PA A c vl vp (.slice a l d) n l (M + 1) G X ∧ Below W.heap.size W w' := by
 obtain ⟨own,s,L,R,Ks,E,hT,h2,h3,h4,h5,h6,h7,h8,h9,h10,_,h12,h13⟩ := h
 refine ⟨h10 rfl rfl,?_⟩
 rw [if_pos ⟨rfl,rfl⟩] at h7
 obtain ⟨r1,r2⟩ := hT.rd
 obtain ⟨k1,k2⟩ := hT.ks x (List.mem_of_getElem? h9)
 refine (uset_any oa on oc E x.1 x.2 W r1 (by omega) r2 (k1.below hT.bw) (k2.below hT.bw) h8).mono ?_
 rintro e w' ⟨D,a,l,d,rfl,hS,hD⟩
 obtain ⟨own',hT',hfr⟩ := hT.setM k1 k2 hS
 have hlen : D.length ≤ E.length + 1 := by
  have := congrArg List.length hD
  rw [List.length_map] at this
  rw [this]
  have hl : ∀ (F : List (List Int × List Int)),(mset x.1.s x.2.s F).length ≤ F.length + 1 := fun F => by
   induction F with
   | nil => exact Nat.le_refl _
   | cons y F ih =>
    rw [mset]
    split
    ·simp only [List.length_cons]; omega
    ·split <;> simp
  have := hl (E.map enP)
  rw [List.length_map] at this
  exact this
 exact ⟨a,l,d,rfl,⟨own',s,L,R,Ks,D,hT',h2,h3,h4,hS.len,by have := hS.len; omega,by rw [hD]; exact h7,by rw [hD]; exact mset_rise h8,hfr G (lt_of_block h13) h12,(hS.bel.block G (lt_of_block h13)).trans h13⟩,hS.bel⟩
end
end Go.Proofs.YtljnapejgjffjaaGreat
