/- Texts of one's own. -/
import Derived.Test.YtggaipeojncipaaGreatL38
import Derived.Test.YtggaipeojncipaaGreatL47
namespace Go.Proofs.YtggaipeojncipaaGreat
open Go.RowKit
set_option maxRecDepth 100000
def uhC : Cfg := ⟨3,2,3,1,1⟩
def uhst : Nat → US × AS
 | 0 => (US.new uhC [107] [118],AS.new 3)
 | i + 1 => (((uhst i).1.step (uhst i).2).u,((uhst i).1.step (uhst i).2).s)
theorem uhst_facts : (∀ i,i < 7 → decide (15 ≤ (uhst (i + 1)).1.nx) = false ∧ ((uhst i).1.step (uhst i).2).tk = false) ∧ decide (15 ≤ (uhst 8).1.nx) = true ∧ ((uhst 7).1.step (uhst 7).2).tk = true ∧ (uhst 8).2.map = [([107],[118])] := by decide +kernel
def UHd (W : World) (P A N i : Nat) : Prop := ∃ m D F E,UP W P A D m (uhst i).1 ∧ PX W A F (uhst i).2 ∧ (∀ x,F x → ¬ D x ∧ x ≠ P) ∧ (∀ x,x = P ∨ D x ∨ F x → N ≤ x) ∧ WS uhC (uhst i).2 [(uhst i).1] [([107],[118])] E i
theorem UP.pwD {W : World} {P A k : Nat} {D : Nat → Prop} {m : UM} {u : US} (h : UP W P A D m u) (hk : m.pw = some k) : D k := by
 rcases h.w with ⟨h1,_⟩ | ⟨p,ms,kt,n,Dm,h1,_,h3,_⟩
 ·rw [h1] at hk; cases hk
 ·rw [h1] at hk
  obtain rfl := Option.some.inj hk
  exact h3
theorem uhd_step {W : World} {P A N i : Nat} (h : UHd W P A N i) (hi : i < 8) (hN : N ≤ W.heap.size) : Calls Tryz.prog 13 #[.pointer (some ⟨P,0,none⟩)] W fun e w' => e = .returned (.tuple #[.bool (decide (15 ≤ (uhst (i + 1)).1.nx)),.bool ((uhst i).1.step (uhst i).2).tk]) ∧ UHd w' P A N (i + 1) ∧ Below N W w' := by
 obtain ⟨m,D,F,E,hu,hp,hF,hb,hw⟩ := h
 refine (ustep_any hu hp hF (hw.ok (i := 0) rfl (by omega))).mono ?_
 rintro e w' ⟨rfl,m',D',F',hq⟩
 refine ⟨rfl,⟨m',D',F',_,hq.up,hq.px,hq.ap,fun x hx => ?_,(hw.step (i := 0) rfl rfl (fun k hk => px_wlt hp k hk) (by omega)).1⟩,hq.u.below hN fun k hk e => ?_⟩
 ·rcases hx with rfl | hx | hx
  ·exact hb _ (.inl rfl)
  ·rcases hq.d x hx with g | g
   ·exact hb x (.inr (.inl g))
   ·omega
  ·rcases hq.f x hx with g | g
   ·exact hb x (.inr (.inr g))
   ·omega
 ·rcases e with e | e | e
  ·have := hb k (.inl e); omega
  ·have := hb k (.inr (.inl (hu.pwD e))); omega
  ·have := hb k (.inr (.inr e)); omega
set_option maxHeartbeats 6400000 in
theorem uhead_any (w : World) : Calls Tryz.prog 9 #[] w fun e w' => e = .returned (.bool true) ∧ Below w.heap.size w w' := by
 have HAN := hide (px_new 3 w (by decide) (by decide))
 go_enter Tryz.func9,Tryz.ntmps9
 go_wp2_with fail
 refine HAN.out.mono ?_
 rintro e w1 ⟨A,F,rfl,hp,hf,hb⟩
 have HP := hide hp
 have HF := hide hf
 have HB := hide hb
 clear hp hf hb HAN
 go_upto_region 4 with fail
 have q2 := Lib.run_convert_bytes_const (P := Tryz.prog) w1 30 5 #[.int .u8 107] 1 1 Tryz.underlying30 Tryz.underlying5
 simp only [show (#[Value.int .u8 107] : Array Value).size = 1 from rfl] at q2
 have q3 := Lib.run_convert_bytes_const (P := Tryz.prog) (w1.alloc (.cells #[.int .u8 107] 5 (1,2))) 30 5 #[.int .u8 118] 1 1 Tryz.underlying30 Tryz.underlying5
 simp only [show (#[Value.int .u8 118] : Array Value).size = 1 from rfl] at q3
 rw [show (w1.alloc (.cells #[.int .u8 107] 5 (1,2))).heap.size = w1.heap.size + 1 by simp] at q3
 obtain ⟨w2,hw2⟩ : ∃ x,x = w1.alloc (.cells #[.int .u8 107] 5 (1,2)) := ⟨_,rfl⟩
 obtain ⟨w3,hw3⟩ : ∃ x,x = w2.alloc (.cells #[.int .u8 118] 5 (1,2)) := ⟨_,rfl⟩
 have z2 : w2.heap.size = w1.heap.size + 1 := by rw [hw2]; simp
 have b2 : Below w1.heap.size w1 w2 := by rw [hw2]; exact (Below.refl _ _).alloc (Nat.le_refl _) _
 have b3 : Below w2.heap.size w2 w3 := by rw [hw3]; exact (Below.refl _ _).alloc (Nat.le_refl _) _
 have b13 := b2.trans (b3.mono b2.size)
 have k1 : (⟨some ⟨w1.heap.size,0,none⟩,1,[107]⟩ : Tx).Ok w3 := by
  have : (⟨some ⟨w1.heap.size,0,none⟩,1,[107]⟩ : Tx).Ok w2 := by rw [hw2]; exact tx_c w1 107 (by decide)
  exact this.below b3
 have k2 : (⟨some ⟨w1.heap.size + 1,0,none⟩,1,[118]⟩ : Tx).Ok w3 := by
  have := tx_c w2 118 (by decide)
  rw [z2] at this
  rw [hw3]; exact this
 have hp3 := HP.out.upd (S := Noth) (Upd.of_below b13 _) (fun _ _ e => e)
 have HN := hide (unew_any hp3 uhC ⟨some ⟨w1.heap.size,0,none⟩,1,[107]⟩ ⟨some ⟨w1.heap.size + 1,0,none⟩,1,[118]⟩ k1 k2)
 simp only [Tx.v,Cfg.v,uhC,show ([107] : List Int).length = 1 from rfl,show ([118] : List Int).length = 1 from rfl] at HN
 have HW3 : Hid ((w1.alloc (.cells #[.int .u8 107] 5 (1,2))).alloc (.cells #[.int .u8 118] 5 (1,2)) = w3) := by show _ = _; rw [hw3,hw2]
 have B3 := hide (HB.out.trans (b13.mono HB.out.size))
 have Z3 : Hid (w1.heap.size ≤ w3.heap.size ∧ w.heap.size ≤ w1.heap.size) := ⟨b13.size,HB.out.size⟩
 clear hw2 hw3 z2 b2 b3 b13 k1 k2 hp3 HP HB
 go_wp2_with fail
 rw [HW3.out]
 refine HN.out.mono ?_
 rintro e w4 ⟨P,m,D,F',rfl,hu,hp,hP,hD,hF',hap,hupd⟩
 have H0 : Hid (UHd w4 P A w.heap.size 0 ∧ Below w.heap.size w w4) := by
  refine ⟨⟨m,D,F',[],hu,hp,hap,fun x hx => ?_,(WS.new (c := uhC) (by decide)).more ([107],[118])⟩,B3.out.trans (hupd.below (Nat.le_trans Z3.out.2 Z3.out.1) (fun k hk e => by have := HF.out k e; omega))⟩
  have h1 := Z3.out.1
  have h2 := Z3.out.2
  rcases hx with rfl | hx | hx
  ·omega
  ·have := hD x hx; omega
  ·rcases hF' x hx with g | g
   ·exact HF.out x g
   ·omega
 clear hu hp hP hD hF' hap hupd HN HW3 B3 Z3 HF q2 q3
 go_wp2_with fail
 go_loopw [4] (fun q wr => ∃ i : Nat,i ≤ 7 ∧ q = .int .i64 (i : Int) ∧ Hid (UHd wr P A w.heap.size i ∧ Below w.heap.size w wr)) (fun q _ => 7 - (intOf q).toNat)
 case atStart => exact ⟨0,Nat.zero_le _,rfl,H0⟩
 case round =>
  clear H0
  obtain ⟨i,hi,rfl,HI⟩ := hrel
  rename World => wr
  by_cases hlt : i < 7
  ·have j1 : (i : Int) < 7 := by omega
   have HS := hide (uhd_step HI.out.1 (by omega) HI.out.2.size)
   obtain ⟨f1,f2⟩ := uhst_facts.1 i hlt
   rw [f1,f2] at HS
   clear f1 f2
   go_wp2_with fail
   refine HS.out.mono ?_
   rintro e w7 ⟨rfl,h1,h2⟩
   have HI2 : Hid (UHd w7 P A w.heap.size (i + 1) ∧ Below w.heap.size w w7) := ⟨h1,HI.out.2.trans h2⟩
   clear h1 h2 HS
   go_wp2_with fail
   go_roundw
   case rel => exact ⟨i + 1,by omega,by go_num,HI2⟩
   case measure => simp [intOf]; omega
  ·have j1 : ¬ (i : Int) < 7 := by omega
   obtain rfl : i = 7 := by omega
   have HS := hide (uhd_step HI.out.1 (by omega) HI.out.2.size)
   obtain ⟨_,f1,f2,f3⟩ := uhst_facts
   rw [show (7 : Nat) + 1 = 8 from rfl,f1,f2] at HS
   have HF3 := hide f3
   clear f1 f2 f3
   go_wp2_with fail
   refine HS.out.mono ?_
   rintro e w7 ⟨rfl,⟨m7,D7,F7,E7,hu7,hp7,_,hb7,hw7⟩,h2⟩
   have B7 := hide (HI.out.2.trans h2)
   have HMP := hide (smap_any hp7 (fun _ => True) trivial (fun _ _ _ _ => trivial) (fun _ _ _ _ => trivial) (fun id _ _ => by have := (hw7.sb.n id).1; omega))
   rw [HF3.out] at HMP
   clear hu7 hp7 hb7 hw7 h2 HS HI HF3
   go_wp2_with fail
   refine HMP.out.mono ?_
   rintro e w8 ⟨E8,v8,rfl,hrow,hown,he,hb8⟩
   have HB8 := hide (B7.out.trans (hb8.mono B7.out.size))
   obtain ⟨x,rfl⟩ : ∃ x,E8 = [x] := List.length_eq_one_iff.1 (by simpa using congrArg List.length he)
   have hx1 : x.1.s = [107] ∧ x.2.s = [118] := by simpa [enP] using he
   obtain ⟨oa,oc,rfl⟩ : ∃ a c,v8 = .slice a 1 c := by
    rcases hrow.2 with ⟨_,h2⟩ | ⟨g,cap,cur,h1,_⟩
    ·simp at h2
    ·exact ⟨_,_,h1⟩
   have hrd := EnRd.of hrow hown
   obtain ⟨g,rfl,c1,c2,o1,o2⟩ := hrd 0 (by simp)
   simp only [List.getElem_cons_zero] at c1 c2 o1 o2
   obtain ⟨⟨ka,kc,kz⟩,⟨va,vc,vz⟩⟩ := x
   obtain ⟨rfl,rfl⟩ := hx1
   simp only [Tx.v,show ([107] : List Int).length = 1 from rfl,show ([118] : List Int).length = 1 from rfl] at c1 c2
   have k1 : (convert 30 9 (.slice ka 1 kc)).run Tryz.prog w8 = .ok (.string (strOfNums [107])) w8 := nconv_row kc rfl o1.r
   rw [show strOfNums [107] = ⟨#[107]⟩ from by decide +kernel] at k1
   have k2 : (convert 30 9 (.slice va 1 vc)).run Tryz.prog w8 = .ok (.string (strOfNums [118])) w8 := nconv_row vc rfl o2.r
   rw [show strOfNums [118] = ⟨#[118]⟩ from by decide +kernel] at k2
   clear hrow hown he hb8 hrd o1 o2 HMP
   go_wp2_with fail
   go_ret
   exact ⟨rfl,HB8.out⟩
def Kp (K : Nat → Prop) (W W' : World) : Prop := Upd (fun k => ¬ K k) W W'
theorem Kp.refl (K : Nat → Prop) (W : World) : Kp K W W := Upd.refl _ _
theorem Kp.size {K : Nat → Prop} {A B : World} (h : Kp K A B) : A.heap.size ≤ B.heap.size := Upd.size h
theorem Kp.blk {K : Nat → Prop} {A B : World} (h : Kp K A B) (k : Nat) (hk : K k) (hl : k < A.heap.size) : B.heap[k]? = A.heap[k]? := Upd.block h k hl (fun e => e hk)
theorem Kp.trans {K : Nat → Prop} {A B C : World} (h : Kp K A B) (g : Kp K B C) : Kp K A C := Upd.trans h g
theorem Kp.of_below {K : Nat → Prop} {A B : World} (h : Below A.heap.size A B) : Kp K A B := Upd.of_below h _
structure AL (W : World) (P A : Nat) (K : Nat → Prop) (c : Cfg) (s0 : AS) (u0 : US) (key val : List Int) (E0 : List (List Int × List Int)) (M n : Nat) (u : US) (s : AS) : Prop where
 mem : ∃ m D F,UP W P A D m u ∧ PX W A F s ∧ (∀ x,F x → ¬ D x ∧ x ≠ P) ∧ ∀ x,x = P ∨ D x ∨ F x → ¬ K x
 wa : ∃ t cs E,WA c s t cs u (key,val) E (M + n) ∧ ((1 ≤ u.nx ∧ u0.nx = 1 ∧ JO s0 key val E0 u s E) ∨ (u.nx = 0 ∧ n = 0 ∧ u0.nx = 0 ∧ s = s0 ∧ E = E0 ∧ u.err = 0) ∨ (15 ≤ u.nx ∧ n = 1 ∧ u0.nx = 0 ∧ u.err = 3 ∧ s = s0 ∧ E = E0))
 en : urun n (u0,s0) = (u,s)
section
variable {W W' : World} {P A : Nat} {K : Nat → Prop} {c : Cfg} {s0 s : AS} {u0 u : US} {key val : List Int} {E0 : List (List Int × List Int)} {M n : Nat}
theorem AL.below (h : AL W P A K c s0 u0 key val E0 M n u s) (hb : Below W.heap.size W W') : AL W' P A K c s0 u0 key val E0 M n u s := by
 obtain ⟨m,D,F,h1,h2,h3,h4⟩ := h.mem
 exact ⟨⟨m,D,F,h1.upd (Upd.of_below hb Noth) (fun _ _ e => e),h2.upd (Upd.of_below hb Noth) (fun _ _ e => e),h3,h4⟩,h.wa,h.en⟩
theorem act_zero (h : u.nx = 0) : u.act s = ⟨u,s,true,3⟩ := by unfold US.act; rw [h]
theorem al_step (h : AL W P A K c s0 u0 key val E0 M n u s) (h15 : u.nx < 15) (hN : ∀ k,K k → k < W.heap.size) (hM : M + n + 2 < 4611686018427387904) :
  Calls Tryz.prog 13 #[.pointer (some ⟨P,0,none⟩)] W fun e w' => ∃ tk,e = .returned (.tuple #[.bool (decide (15 ≤ (u.step s).u.nx)),.bool tk]) ∧ AL w' P A K c s0 u0 key val E0 M (n + 1) (u.step s).u (u.step s).s ∧ Kp K W w' ∧ ((u.step s).s.held = [] ∨ u.und + 1 ≤ (u.step s).u.und) ∧ (u.step s).u.und ≤ 8 := by
 obtain ⟨m,D,F,h1,h2,h3,h4⟩ := h.mem
 obtain ⟨t,cs,E,hA,hj⟩ := h.wa
 obtain ⟨t',cs',hA',_,_⟩ := hA.step (by omega)
 have hund := hA.und (by omega) h15
 refine (ustep_any h1 h2 h3 (uok hA.ui hA.ub (by omega))).mono ?_
 rintro e w' ⟨rfl,m',D',F',hq⟩
 refine ⟨_,rfl,⟨⟨m',D',F',hq.up,hq.px,hq.ap,fun x hx => ?_⟩,⟨t',cs',_,hA',?_⟩,?_⟩,Upd.mono hq.u (fun k _ e hk => ?_),?_,hA'.und8⟩
 ·rcases hx with rfl | hx | hx
  ·exact h4 _ (.inl rfl)
  ·rcases hq.d x hx with g | g
   ·exact h4 x (.inr (.inl g))
   ·exact fun q => by have := hN x q; omega
  ·rcases hq.f x hx with g | g
   ·exact h4 x (.inr (.inr g))
   ·exact fun q => by have := hN x q; omega
 ·rcases hj with ⟨j1,j2,j3⟩ | ⟨j1,j2,j3,j4,j5,j6⟩ | ⟨j1,_⟩
  ·refine .inl ⟨?_,j2,j3.step hA (by omega) j1 (by omega)⟩
   by_cases g : (u.step s).u.nx = 0
   ·exfalso
    have j3' := j3.step hA (by omega) j1 (by omega)
    by_cases g5 : u.nx = 5
    ·rw [step_five g5] at g; omega
    obtain ⟨es,_⟩ := hA.stepE (by omega) (by omega) g5 h15
    rw [es] at g
    have hcase : u.nx = 1 ∨ u.nx = 2 ∨ u.nx = 3 ∨ u.nx = 4 ∨ u.nx = 6 ∨ u.nx = 7 ∨ u.nx = 8 ∨ u.nx = 9 ∨ u.nx = 10 ∨ u.nx = 11 ∨ u.nx = 12 ∨ u.nx = 13 ∨ u.nx = 14 := by omega
    rcases hcase with q | q | q | q | q | q | q | q | q | q | q | q | q
    ·rw [act_one q] at g
     repeat' split at g
     all_goals (simp only at g; omega)
    ·rw [act_twoS q] at g
     split at g
     ·have := (fate_nx ({ u with hid := u.m.id } : US) u.m.nd).2
      simp only at g
      omega
     ·unfold US.down at g
      simp only at g
      omega
    ·rw [act_three q] at g; simp only at g; omega
    ·rw [act_four q] at g; simp only at g; omega
    ·have := (act_six (s := s) q).2; omega
    ·by_cases h4 : u.pc = 4
     ·rw [(act_seven (s := s) q).2 h4] at g; simp only at g; omega
     ·rw [(act_seven (s := s) q).1 h4] at g; simp only at g; omega
    ·rw [act_eight q] at g
     unfold US.down at g
     simp only at g
     omega
    ·rw [act_nine q] at g
     simp only at g
     split at g <;> omega
    ·have := (act_ten (s := s) q).2; omega
    ·rw [(act_e (s := s) q).1] at g; simp only at g; omega
    ·rw [(act_t (s := s) q).1] at g; simp only at g; omega
    ·rw [(act_f (s := s) q).1] at g; simp only at g; omega
    ·unfold US.act at g
     rw [q] at g
     simp only [US.down] at g
     split at g
     ·simp only at g; omega
     ·simp only at g; omega
   ·omega
  ·have es : u.step s = ⟨{ u with nx := 15,err := 3 },s,true,3⟩ := by
    unfold US.step
    rw [if_neg (by omega),act_zero j1]
    rfl
   rw [es]
   exact .inr (.inr ⟨Nat.le_refl _,by omega,j3,rfl,j4,by rw [if_neg (by simp)]; exact j5⟩)
  ·omega
 ·rw [urun_last,h.en]
 ·rcases e with e | e | e
  ·exact h4 k (.inl e) hk
  ·exact h4 k (.inr (.inl (h1.pwD e))) hk
  ·exact h4 k (.inr (.inr e)) hk
 ·rcases hund with g | g
  ·exact .inl (even_held (hA'.even g))
  ·exact .inr g
theorem urun_fix : ∀ (k : Nat) (p : US × AS),15 ≤ p.1.nx → (urun k p).1.nx = p.1.nx
 | 0,_,_ => rfl
 | k + 1,p,h => by
  have e : p.1.step p.2 = ⟨p.1,p.2,false,0⟩ := by unfold US.step; rw [if_pos h]
  show (urun k ((p.1.step p.2).u,(p.1.step p.2).s)).1.nx = _
  rw [e]
  exact urun_fix k (p.1,p.2) h
theorem AL.time {N : Nat} (h : AL W P A K c s0 u0 key val E0 M n u s) (h15 : u.nx < 15) (he : Ends N u0 s0) : n < N := by
 obtain ⟨m,h1,h2⟩ := he
 refine Nat.lt_of_not_le fun g => ?_
 obtain ⟨d,rfl⟩ : ∃ d,n = m + d := ⟨n - m,by omega⟩
 have h3 := h.en
 rw [urun_add] at h3
 have h4 := urun_fix d _ h2
 rw [h3] at h4
 simp only at h4
 omega
end
set_option maxHeartbeats 3200000 in
theorem alone_any {W : World} {P A : Nat} {K : Nat → Prop} {c : Cfg} {s0 : AS} {u0 : US} {key val : List Int} {E0 : List (List Int × List Int)} {M N : Nat} (h : AL W P A K c s0 u0 key val E0 M 0 u0 s0) (h0 : u0.nx < 15) (hN : ∀ k,K k → k < W.heap.size) (he : Ends N u0 s0) (hM : M + 2000 < 4611686018427387904) (h1000 : N ≤ 1000) :
  Calls Tryz.prog 25 #[.pointer (some ⟨A,0,none⟩),.pointer (some ⟨P,0,none⟩),.int .i64 1000] W fun e w' => ∃ n u s,e = .returned (.int .i64 (n : Nat)) ∧ AL w' P A K c s0 u0 key val E0 M n u s ∧ 15 ≤ u.nx ∧ Kp K W w' ∧ n ≤ N := by
 have H0 : Hid (∃ u s,AL W P A K c s0 u0 key val E0 M 0 u s ∧ decide (15 ≤ u.nx) = false ∧ 0 ≤ u.und ∧ Kp K W W) := ⟨u0,s0,h,decide_eq_false (by omega),Nat.zero_le _,Kp.refl _ _⟩
 have HE := hide he
 have HN := hide hN
 have HM := hide hM
 clear h h0 hN he hM
 go_enter Tryz.func25,Tryz.ntmps25
 go_wp2_with fail
 go_loopw [7,8,9] (fun q7 q8 q9 wr => ∃ (n d : Nat) (th : Bool),n ≤ N ∧ q7 = .int .i64 (n : Int) ∧ q8 = .int .i64 (d : Int) ∧ q9 = .bool th ∧ Hid (∃ u s,AL wr P A K c s0 u0 key val E0 M n u s ∧ decide (15 ≤ u.nx) = th ∧ d ≤ u.und ∧ Kp K W wr)) (fun q7 _ _ _ => 1000 - (intOf q7).toNat)
 case atStart => exact ⟨0,0,false,Nat.zero_le _,rfl,rfl,rfl,H0⟩
 case round =>
  clear H0
  obtain ⟨n,d,th,hn,rfl,rfl,rfl,HI⟩ := hrel
  rename World => wr
  cases th with
  | false =>
   obtain ⟨u,s,hA,hth,hd,hb⟩ := HI.out
   have h15 : u.nx < 15 := by have := of_decide_eq_false hth; omega
   have hn9 := hA.time h15 HE.out
   have hNr : ∀ k,K k → k < wr.heap.size := fun k hk => Nat.lt_of_lt_of_le (HN.out k hk) hb.size
   have HST := hide (al_step hA h15 hNr (by have := HM.out; omega))
   have HB := hide hb
   have HNR := hide hNr
   have hd8 : d ≤ 8 := by
    obtain ⟨t,cs,E,hw,_⟩ := hA.wa
    have := hw.und8
    omega
   have HD := hide hd
   have j1 : ¬ (1000 : Int) < (n : Int) := by omega
   have j2 : (d : Int) + 1 ≤ 9 := by omega
   clear HI hA hth hb h15 hd
   go_wp2_with fail
   refine HST.out.mono ?_
   rintro e w3 ⟨tk,rfl,hA3,hb3,hu3,hu8⟩
   obtain ⟨u',hu'⟩ : ∃ x,x = (u.step s).u := ⟨_,rfl⟩
   obtain ⟨s',hs'⟩ : ∃ x,x = (u.step s).s := ⟨_,rfl⟩
   rw [← hu',← hs'] at hA3
   rw [← hu',← hs'] at hu3
   rw [← hu'] at hu8 ⊢
   have HB3 := hide (HB.out.trans hb3)
   have HA3 := hide hA3
   have HHE : Hid (Calls Tryz.prog 18 #[.pointer (some ⟨A,0,none⟩)] w3 (HeldPost w3 s'.held)) := by
    obtain ⟨m,D,F,h1,h2,h3,h4⟩ := hA3.mem
    exact px_held h2
   have HU3 := hide (And.intro hu3 hu8)
   obtain ⟨th',hth'⟩ : ∃ b,decide (15 ≤ u'.nx) = b := ⟨_,rfl⟩
   rw [hth']
   have HTH := hide hth'
   clear hA3 hb3 hu3 hu8 hu' hs' hth' HST
   go_wp2_with fail
   refine HHE.out.mono ?_
   rintro e w4 ⟨v,rfl,hrow,hb4⟩
   obtain ⟨va,lh,vc,rfl,hlh⟩ : ∃ va lh vc,v = .slice va lh vc ∧ s'.held.length = lh := by
    rcases hrow.2 with ⟨q1,q2⟩ | ⟨g,cap,cur,q1,_⟩
    ·exact ⟨none,0,0,q1,by omega⟩
    ·exact ⟨_,_,_,q1,rfl⟩
   have HB4 := hide (HB3.out.trans (Kp.of_below hb4))
   have HA4 := hide (HA3.out.below hb4)
   clear hrow hb4 HHE HA3
   by_cases hz : lh = 0
   ·subst hz
    have HN5 : Hid (∃ u s,AL w4 P A K c s0 u0 key val E0 M (n + 1) u s ∧ decide (15 ≤ u.nx) = th' ∧ 0 ≤ u.und ∧ Kp K W w4) := ⟨_,_,HA4.out,HTH.out,Nat.zero_le _,HB4.out⟩
    clear HU3 hlh
    go_wp2_with fail
    go_roundw
    case rel => exact ⟨n + 1,0,th',by omega,by go_num,rfl,rfl,HN5⟩
    case measure => simp [intOf]; omega
   ·have hud : d + 1 ≤ u'.und ∧ d + 1 ≤ 8 := by
     rcases HU3.out.1 with g | g
     ·rw [g] at hlh
      exact absurd hlh.symm hz
     ·have := HU3.out.2
      have := HD.out
      omega
    have HN5 : Hid (∃ u s,AL w4 P A K c s0 u0 key val E0 M (n + 1) u s ∧ decide (15 ≤ u.nx) = th' ∧ d + 1 ≤ u.und ∧ Kp K W w4) := ⟨_,_,HA4.out,HTH.out,hud.1,HB4.out⟩
    have jz : ¬ (lh : Int) = 0 := by omega
    have jd : ¬ (8 : Int) < (d : Int) + 1 := by omega
    clear HU3 hlh hud
    go_wp2_with fail
    go_roundw
    case rel => exact ⟨n + 1,d + 1,th',by omega,by go_num,by go_num,rfl,HN5⟩
    case measure => simp [intOf]; omega
  | true =>
   go_wp2_with fail
   go_ret
   obtain ⟨u,s,hA,hth,hd,hb⟩ := HI.out
   exact ⟨n,u,s,rfl,hA,of_decide_eq_true hth,hb,hn⟩
end Go.Proofs.YtggaipeojncipaaGreat
