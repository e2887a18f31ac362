/- Texts of one's own. -/
import Derived.Test.YtggaipeojncipaaGreatJ51
import Derived.Test.YtggaipeojncipaaGreatJ49
namespace Go.Proofs.YtggaipeojncipaaGreat
open Go.RowKit
set_option maxRecDepth 100000
structure UOA (w W : World) (A B : Nat) (c : Cfg) (vm : Value) (s : AS) (F : Nat → Prop) (E : List En) : Prop where
 px : PX W A F s
 lo : ∀ k,F k → w.heap.size ≤ k
 bw : Below w.heap.size w W
 bc : W.heap[B]? = some (.cells #[.int .i64 c.nd,.int .i64 c.lf,.int .i64 c.inn,.int .i64 c.fl,.int .i64 c.bk] 23 (0,0))
 bf : ¬ F B
 rm : W.ownsRow w.heap.size 69 2 vm E.length (E.flatMap EnC)
 om : ∀ k,vm.ownBlock = some k → ¬ F k
 en : ∀ x ∈ E,x.1.Ok w ∧ x.2.Ok w
 ri : Rise (E.map enP)
def UOS (w W : World) (A B : Nat) (c : Cfg) (vm : Value) (q M : Nat) : Prop := ∃ s F E,UOA w W A B c vm s F E ∧ E.length = q ∧ q ≤ M ∧ WB c s (E.map enP) M
section
variable {w W W' wk : World} {A B P Z n q M : Nat} {c : Cfg} {vm : Value} {s s' : AS} {F F' : Nat → Prop} {E : List En} {k v : Tx} {ws : List Nat} {hb : Bool} {u : US}
theorem UOA.below (h : UOA w W A B c vm s F E) (hb : Below W.heap.size W W') : UOA w W' A B c vm s F E :=
 ⟨h.px.below hb,h.lo,h.bw.trans (hb.mono h.bw.size),(hb.block B (lt_of_block h.bc)).trans h.bc,h.bf,owns_blkN h.rm (fun k hk => hb.block k (h.rm.lt k hk).2),h.om,h.en,h.ri⟩
theorem UOS.below (h : UOS w W A B c vm q M) (hb : Below W.heap.size W W') : UOS w W' A B c vm q M := by
 obtain ⟨s,F,E,h1,h2⟩ := h
 exact ⟨s,F,E,h1.below hb,h2⟩
theorem UOA.kept (h : UOA w W A B c vm s F E) (hK : Kp (fun x => x < W.heap.size ∧ ¬ F x) W W') (hp : PX W' A F' s') (hF : ∀ x,F' x → ¬ (x < W.heap.size ∧ ¬ F x)) : UOA w W' A B c vm s' F' E := by
 have hlt := lt_of_block h.bc
 have hz := h.bw.size
 have hold : ∀ x,F' x → F x ∨ W.heap.size ≤ x := fun x hx => by
  by_cases g : F x
  ·exact .inl g
  ·exact .inr (Nat.le_of_not_lt fun g2 => hF x hx ⟨g2,g⟩)
 refine ⟨hp,fun x hx => ?_,h.bw.trans (Upd.below hK hz fun x hx e => ?_),(hK.blk B ⟨hlt,h.bf⟩ hlt).trans h.bc,fun hx => ?_,owns_blkN h.rm (fun x hx => hK.blk x ⟨(h.rm.lt x hx).2,h.om x hx⟩ (h.rm.lt x hx).2),fun x hx hx2 => ?_,h.en,h.ri⟩
 ·rcases hold x hx with g | g
  ·exact h.lo x g
  ·omega
 ·exact e ⟨by omega,fun g => by have := h.lo x g; omega⟩
 ·rcases hold B hx with g | g
  ·exact h.bf g
  ·omega
 ·rcases hold x hx2 with g | g
  ·exact h.om x hx g
  ·have := (h.rm.lt x hx).2; omega
theorem UOA.rd {a : Option Addr} {l d : Nat} (h : UOA w W A B c (.slice a l d) s F E) : E.length = l ∧ EnRd W a E := by
 have hrow := h.rm
 have hn : E.length = l := by
  rcases hrow.2 with ⟨q1,q2⟩ | ⟨g,cap,cur,q1,_⟩
  ·simp only [Value.slice.injEq] at q1; omega
  ·simp only [Value.slice.injEq] at q1; omega
 refine ⟨hn,fun j hj => ?_⟩
 rcases hrow.2 with ⟨q1,q2⟩ | ⟨g,cap,cur,q1,q2,q3,q4,q5,q6,q7⟩
 ·omega
 ·simp only [Value.slice.injEq] at q1
  have e0 := enC_at E j 0 hj (by omega)
  have e1 := enC_at E j 1 hj (by omega)
  have cl : ∀ k u,(E.flatMap EnC)[k]? = some u → W.cell? ⟨g,k,none⟩ = some u := fun k u hu => by
   rw [cell_of_row _ _ _ _ _ _ q3,← Array.getElem?_toList]
   rw [← q7,List.getElem?_take] at hu
   split at hu
   ·exact hu
   ·cases hu
  have ho := h.en E[j] (List.getElem_mem hj)
  exact ⟨g,q1.1,cl _ _ e0,cl _ _ e1,ho.1.below h.bw,ho.2.below h.bw⟩
def UO2 (w wk W : World) (A B P : Nat) (c : Cfg) (vm : Value) (q M : Nat) (k v : Tx) (ws : List Nat) (Z n : Nat) (hb : Bool) (u : US) : Prop := ∃ s0 F0 E0 s,UOA w wk A B c vm s0 F0 E0 ∧ E0.length = q ∧ q ≤ M ∧ WB c s0 (E0.map enP) M ∧ (∀ x,F0 x → x < Z) ∧ ws = s0.sl.map (·.1) ∧ hb = hasK (E0.map enP) k.s ∧ AL W P A (fun x => x < wk.heap.size ∧ ¬ F0 x) c s0 (US.new c k.s v.s) k.s v.s (E0.map enP) M n u s ∧ Kp (fun x => x < wk.heap.size ∧ ¬ F0 x) wk W ∧ k.Ok w ∧ v.Ok w
theorem new_cases (c : Cfg) (key val : List Int) : ((1 ≤ key.length ∧ key.length ≤ 64 ∧ val.length ≤ 256) ∧ (US.new c key val).nx = 1 ∧ (US.new c key val).sep = key ∧ (US.new c key val).lev = 0 ∧ (US.new c key val).err = 0 ∧ (US.new c key val).had = false) ∨ (¬ (1 ≤ key.length ∧ key.length ≤ 64 ∧ val.length ≤ 256) ∧ (US.new c key val).nx = 0 ∧ (US.new c key val).err = 0 ∧ (US.new c key val).had = false) := by
 unfold US.new
 split
 ·rename_i h
  exact .inl ⟨h,rfl,rfl,rfl,rfl,rfl⟩
 ·rename_i h
  exact .inr ⟨h,rfl,rfl,rfl⟩
theorem UOS.new (h : UOS w W A B c vm q M) (hk : k.Ok w) (hv : v.Ok w) : ∃ ws hb,Calls Tryz.prog 24 #[.pointer (some ⟨A,0,none⟩)] W (WdsPost W ws) ∧ ∀ Y,Below W.heap.size W Y → Calls Tryz.prog 11 #[.pointer (some ⟨A,0,none⟩),c.v,k.v,v.v] Y fun e w' => ∃ P,e = .returned (.pointer (some ⟨P,0,none⟩)) ∧ UO2 w Y w' A B P c vm q M k v ws W.heap.size 0 hb (US.new c k.s v.s) := by
 obtain ⟨s,F,E,h1,h2,h3,h4⟩ := h
 refine ⟨_,hasK (E.map enP) k.s,words_any h1.px,fun Y hY => ?_⟩
 have hA := h1.below hY
 refine (unew_any hA.px c k v (hk.below hA.bw) (hv.below hA.bw)).mono ?_
 rintro e w' ⟨P,m,D,F',rfl,hm,hp,hP,hD,hF,hap,hu⟩
 obtain ⟨t,cs,hWA⟩ := h4.put k.s v.s
 have hlt : ∀ x,F x → x < W.heap.size := fun x hx => h1.px.lt x hx
 refine ⟨P,rfl,s,F,E,s,hA,h2,h3,h4,hlt,rfl,rfl,⟨⟨m,D,F',hm,hp,hap,fun x hx g => ?_⟩,⟨t,cs,_,hWA,?_⟩,rfl⟩,Upd.mono hu (fun x _ e g => g.2 e),hk,hv⟩
 ·rcases hx with rfl | hx | hx
  ·have := g.1; omega
  ·have := hD x hx; have := g.1; omega
  ·rcases hF x hx with g2 | g2
   ·exact g.2 g2
   ·have := g.1; omega
 ·rcases new_cases c k.s v.s with ⟨_,e1,e2,e3,e4,e5⟩ | ⟨_,e1,e2,e3⟩
  ·refine .inl ⟨by omega,e1,⟨fun _ => e4,fun _ _ => by omega,by omega,fun _ _ => rfl,fun _ _ => rfl,fun g _ => ?_,fun g _ => by omega,fun _ g => by omega,fun _ g => by omega,fun g => by omega⟩⟩
   omega
  ·exact .inr (.inl ⟨e1,rfl,e1,rfl,rfl,e2⟩)
theorem UO2.below (h : UO2 w wk W A B P c vm q M k v ws Z n hb u) (hbel : Below W.heap.size W W') : UO2 w wk W' A B P c vm q M k v ws Z n hb u := by
 obtain ⟨s0,F0,E0,s,h1,h2,h3,h4,h5,h6,h7,h8,h9,h10⟩ := h
 exact ⟨s0,F0,E0,s,h1,h2,h3,h4,h5,h6,h7,h8.below hbel,h9.trans (Kp.of_below hbel),h10⟩
theorem UO2.uoa (h : UO2 w wk W A B P c vm q M k v ws Z n hb u) : ∃ s F E,UOA w W A B c vm s F E ∧ E.length = q ∧ hb = hasK (E.map enP) k.s := by
 obtain ⟨s0,F0,E0,s,h1,h2,h3,h4,h5,h6,h7,h8,h9,h10⟩ := h
 obtain ⟨m,D,F,g1,g2,g3,g4⟩ := h8.mem
 exact ⟨s,F,E0,h1.kept h9 g2 (fun x hx => g4 x (.inr (.inr hx))),h2,h7⟩
theorem UO2.cells (h : UO2 w wk W A B P c vm q M k v ws Z n hb u) : (W.cell? ⟨B,0,none⟩ = some (.int .i64 c.nd) ∧ W.cell? ⟨B,1,none⟩ = some (.int .i64 c.lf) ∧ W.cell? ⟨B,2,none⟩ = some (.int .i64 c.inn) ∧ W.cell? ⟨B,3,none⟩ = some (.int .i64 c.fl) ∧ W.cell? ⟨B,4,none⟩ = some (.int .i64 c.bk)) ∧ Below w.heap.size w W := by
 obtain ⟨s,F,E,hA,_⟩ := h.uoa
 exact ⟨⟨by rw [cell_of_row _ _ _ _ _ _ hA.bc]; rfl,by rw [cell_of_row _ _ _ _ _ _ hA.bc]; rfl,by rw [cell_of_row _ _ _ _ _ _ hA.bc]; rfl,by rw [cell_of_row _ _ _ _ _ _ hA.bc]; rfl,by rw [cell_of_row _ _ _ _ _ _ hA.bc]; rfl⟩,hA.bw⟩
theorem UOS.cells (h : UOS w W A B c vm q M) : (W.cell? ⟨B,0,none⟩ = some (.int .i64 c.nd) ∧ W.cell? ⟨B,1,none⟩ = some (.int .i64 c.lf) ∧ W.cell? ⟨B,2,none⟩ = some (.int .i64 c.inn) ∧ W.cell? ⟨B,3,none⟩ = some (.int .i64 c.fl) ∧ W.cell? ⟨B,4,none⟩ = some (.int .i64 c.bk)) ∧ Below w.heap.size w W := by
 obtain ⟨s,F,E,hA,_⟩ := h
 exact ⟨⟨by rw [cell_of_row _ _ _ _ _ _ hA.bc]; rfl,by rw [cell_of_row _ _ _ _ _ _ hA.bc]; rfl,by rw [cell_of_row _ _ _ _ _ _ hA.bc]; rfl,by rw [cell_of_row _ _ _ _ _ _ hA.bc]; rfl,by rw [cell_of_row _ _ _ _ _ _ hA.bc]; rfl⟩,hA.bw⟩
theorem UO2.alone (h : UO2 w wk W A B P c vm q M k v ws Z 0 hb (US.new c k.s v.s)) (hM : M + 2000 < 4611686018427387904) : Calls Tryz.prog 25 #[.pointer (some ⟨A,0,none⟩),.pointer (some ⟨P,0,none⟩),.int .i64 1000] W fun e w' => ∃ n u,e = .returned (.int .i64 (n : Nat)) ∧ UO2 w wk w' A B P c vm q M k v ws Z n hb u ∧ 15 ≤ u.nx ∧ n ≤ 900 := by
 obtain ⟨s0,F0,E0,s,h1,h2,h3,h4,h5,h6,h7,h8,h9,h10⟩ := h
 obtain rfl : s0 = s := congrArg Prod.snd h8.en
 have hnx : (US.new c k.s v.s).nx < 15 := by
  rcases new_cases c k.s v.s with ⟨_,e,_⟩ | ⟨_,e,_⟩ <;> omega
 refine (alone_any h8 hnx (fun x hx => Nat.lt_of_lt_of_le hx.1 h9.size) (h4.ends k.s v.s hM) hM).mono ?_
 rintro e w' ⟨n,u,s,rfl,g1,g2,g3,g4⟩
 exact ⟨n,u,rfl,⟨s0,F0,E0,s,h1,h2,h3,h4,h5,h6,h7,g1,h9.trans g3,h10⟩,g2,g4⟩
theorem UO2.answer (h : UO2 w wk W A B P c vm q M k v ws Z n hb u) : Calls Tryz.prog 14 #[.pointer (some ⟨P,0,none⟩)] W fun e w' => e = .returned (.tuple #[.bool u.had',.int .i64 (if u.nx < 15 ∨ u.err ≠ 0 then u.err else 0)]) ∧ UO2 w wk w' A B P c vm q M k v ws Z n hb u ∧ Below W.heap.size W w' := by
 obtain ⟨s0,F0,E0,s,h1,h2,h3,h4,h5,h6,h7,h8,h9,h10⟩ := h
 obtain ⟨m,D,F,g1,g2,g3,g4⟩ := h8.mem
 refine (uanswer_any g1).mono ?_
 rintro e w' ⟨rfl,hb'⟩
 exact ⟨rfl,UO2.below ⟨s0,F0,E0,s,h1,h2,h3,h4,h5,h6,h7,h8,h9,h10⟩ hb',hb'⟩
theorem UO2.has {a : Option Addr} {l d : Nat} (h : UO2 w wk W A B P c (.slice a l d) q M k v ws Z n hb u) (hl : (l : Int) ≤ 9223372036854775807) : Calls Tryz.prog 26 #[.slice a l d,k.v] W fun e w' => e = .returned (.bool hb) ∧ ∃ m,w' = W.drewN m := by
 have hk : k.Ok w := by obtain ⟨s0,F0,E0,s,h1,h2,h3,h4,h5,h6,h7,h8,h9,h10,h11⟩ := h; exact h10
 obtain ⟨s,F,E,hA,h2,h3⟩ := h.uoa
 obtain ⟨r1,r2⟩ := hA.rd
 rw [h3]
 exact has_any14 a l d E k W r1 hl r2 (hk.below hA.bw)
theorem UO2.wd {a : Option Addr} (h : UO2 w wk W A B P c vm q M k v ws Z n hb u) (hr : WdRd wk a ws) (hz : ∀ g,a = some ⟨g,0,none⟩ → Z ≤ g) : WdRd W a ws := fun j hj => by
 obtain ⟨s0,F0,E0,s,h1,h2,h3,h4,h5,h6,h7,h8,h9,h10⟩ := h
 obtain ⟨g,e,hc⟩ := hr j hj
 have hlt := World.block_lt_of_cell? wk _ hc
 refine ⟨g,e,?_⟩
 have hblk := h9.blk g ⟨hlt,fun hF => by have := h5 g hF; have := hz g e; omega⟩ hlt
 rw [← hc]
 exact World.cell?_of_block hblk
end
section
variable {w W W' wk : World} {A B P Z n q M : Nat} {c : Cfg} {vm : Value} {s s' : AS} {F F' : Nat → Prop} {E : List En} {k v : Tx} {ws : List Nat} {hb : Bool} {u : US}
theorem UOA.set {a : Option Addr} {l d : Nat} (h : UOA w W A B c (.slice a l d) s F E) (hk : k.Ok w) (hv : v.Ok w) (hl : l ≤ 1099511627776) (hw : WB c s (mset k.s v.s (E.map enP)) M) (hq : E.length + 1 ≤ M) : Calls Tryz.prog 17 #[.slice a l d,k.v,v.v] W fun e w' => ∃ a' l' d',e = .returned (.slice a' l' d') ∧ UOS w w' A B c (.slice a' l' d') l' M ∧ Below W.heap.size W w' := by
 obtain ⟨r1,r2⟩ := h.rd
 refine (uset_any a l d E k v W r1 hl r2 (hk.below h.bw) (hv.below h.bw) h.ri).mono ?_
 rintro e w' ⟨D,a',l',d',rfl,hS,hD⟩
 have hlen : D.length ≤ E.length + 1 := by
  have := congrArg List.length hD
  rw [List.length_map] at this
  rw [this]
  have hl : ∀ (F : List (List Int × List Int)),(mset k.s v.s F).length ≤ F.length + 1 := fun F => by
   induction F with
   | nil => exact Nat.le_refl _
   | cons y F ih =>
    rw [mset]
    split
    ·simp only [List.length_cons]; omega
    ·split <;> simp
  have := hl (E.map enP)
  rw [List.length_map] at this
  exact this
 have h1 := h.below hS.bel
 have hz := h.bw.size
 refine ⟨a',l',d',rfl,⟨s,F,D,⟨h1.px,h1.lo,h1.bw,h1.bc,h1.bf,uown_mono hS.row (by omega),fun x hx hF => ?_,fun x hx => ?_,by rw [hD]; exact mset_rise h.ri⟩,hS.len,by have := hS.len; omega,by rw [hD]; exact hw⟩,hS.bel⟩
 ·have h2 := (hS.row.lt x hx).1
  have h3 := h.px.lt x hF
  omega
 ·rcases hS.mem x hx with g | g
  ·exact h.en x g
  ·rw [g]; exact ⟨hk,hv⟩
theorem UO2.fin {a : Option Addr} {l d : Nat} (h : UO2 w wk W A B P c (.slice a l d) q M k v ws Z n hb u) (h15 : 15 ≤ u.nx) (hl : l ≤ 1099511627776) :
  (¬ (1 ≤ k.s.length ∧ k.s.length ≤ 64 ∧ v.s.length ≤ 256) ∧ n = 1 ∧ u.err = 3 ∧ u.had' = false ∧ (∀ Y,Below W.heap.size W Y → Calls Tryz.prog 24 #[.pointer (some ⟨A,0,none⟩)] Y (WdsPost Y ws)) ∧ UOS w W A B c (.slice a l d) q (M + n)) ∨
  ((1 ≤ k.s.length ∧ k.s.length ≤ 64 ∧ v.s.length ≤ 256) ∧ u.err = 2 ∧ u.had' = false ∧ hb = false ∧ (∀ Y,Below W.heap.size W Y → Calls Tryz.prog 24 #[.pointer (some ⟨A,0,none⟩)] Y (WdsPost Y ws)) ∧ (∀ Y,Below W.heap.size W Y → Calls Tryz.prog 28 #[.pointer (some ⟨A,0,none⟩)] Y fun e w' => e = .returned (.int .i64 0) ∧ ∃ m,w' = Y.drewN m) ∧ UOS w W A B c (.slice a l d) q (M + n)) ∨
  ((1 ≤ k.s.length ∧ k.s.length ≤ 64 ∧ v.s.length ≤ 256) ∧ u.err = 0 ∧ u.had' = hb ∧ ∀ Y,Below W.heap.size W Y → Calls Tryz.prog 17 #[.slice a l d,k.v,v.v] Y fun e w' => ∃ a' l' d',e = .returned (.slice a' l' d') ∧ UOS w w' A B c (.slice a' l' d') l' (M + n) ∧ Below Y.heap.size Y w') := by
 obtain ⟨s0,F0,E0,s,h1,h2,h3,h4,h5,h6,h7,h8,h9,h10,h11⟩ := h
 obtain ⟨m,D,F,g1,g2,g3,g4⟩ := h8.mem
 have hO := h1.kept h9 g2 (fun x hx => g4 x (.inr (.inr hx)))
 obtain ⟨t,cs,E,hA,hj⟩ := h8.wa
 have hn0 : n ≠ 0 := fun e => by
  subst e
  have := congrArg (fun p => p.1.nx) h8.en
  simp only [urun] at this
  rcases new_cases c k.s v.s with ⟨_,e,_⟩ | ⟨_,e,_⟩ <;> omega
 have hdone := hA.done h15
 have hwd : s.sl.map (·.1) = ws → ∀ Y,Below W.heap.size W Y → Calls Tryz.prog 24 #[.pointer (some ⟨A,0,none⟩)] Y (WdsPost Y ws) := fun e Y hY => by
  rw [← e]
  exact words_any (hO.below hY).px
 have hh0 : u.err ≠ 0 → u.had' = false := fun e => if_pos (.inr e)
 rcases hj with ⟨j1,j2,j3⟩ | ⟨j1,_⟩ | ⟨j1,j2,j3,j4,j5,j6⟩
 ·have hok : 1 ≤ k.s.length ∧ k.s.length ≤ 64 ∧ v.s.length ≤ 256 := by
   rcases new_cases c k.s v.s with ⟨e,_⟩ | ⟨_,e,_⟩
   ·exact e
   ·omega
  rcases j3.fin h15 with ⟨a1,a2,a3⟩ | ⟨a1,a2,a3,a4,a5,a6⟩
  ·refine .inr (.inr ⟨hok,a1,?_,fun Y hY => ?_⟩)
   ·rw [h7,← a3]
    exact if_neg (by omega)
   ·rw [a2] at hdone
    exact (hO.below hY).set h10 h11 hl hdone (by omega)
  ·refine .inr (.inl ⟨hok,a1,hh0 (by omega),by rw [h7]; exact a4,hwd (by rw [h6]; exact a5),fun Y hY => ?_,⟨s,F,E0,hO,h2,by omega,by rw [← a2]; exact hdone⟩⟩)
   have hlen : s.sl.length = s0.sl.length := by
    have := congrArg List.length a5
    simpa using this
   have hz : s.nodes - (s.sl.length : Nat) = 0 := by
    have q1 := hA.nd
    have q2 := hA.nod
    obtain ⟨_,_,_,_,_,_,_,q3,_⟩ := h4
    omega
   have := px_left (hO.below hY).px
   rw [hz] at this
   exact this
 ·omega
 ·refine .inl ⟨?_,j2,j4,hh0 (by omega),hwd (by rw [h6,j5]),⟨s,F,E0,hO,h2,by omega,by rw [← j6]; exact hdone⟩⟩
  rcases new_cases c k.s v.s with ⟨_,e,_⟩ | ⟨e,_⟩
  ·omega
  ·exact e
theorem UOS.ends {ma : Option Addr} {ml mc : Nat} (h : UOS w W A B c (.slice ma ml mc) q M) (hM : M ≤ 1099511627776) : (∀ Y,Below W.heap.size W Y → Calls Tryz.prog 18 #[.pointer (some ⟨A,0,none⟩)] Y fun e w' => ∃ va vc,e = .returned (.slice va 0 vc) ∧ Below W.heap.size W w') ∧ ∀ Y,Below W.heap.size W Y →
  (Calls Tryz.prog 19 #[.pointer (some ⟨A,0,none⟩),c.v] Y fun e w' => (∃ id er lv no en,e = .returned (rpt true id er lv no en)) ∧ Below W.heap.size W w') ∧
  Calls Tryz.prog 21 #[.pointer (some ⟨A,0,none⟩)] Y fun e w' => ∃ a l d,e = .returned (.slice a l d) ∧ Below W.heap.size W w' ∧ ∀ Z,Below w'.heap.size w' Z → Calls Tryz.prog 20 #[.slice a l d,.slice ma ml mc] Z fun e z => e = .returned (.bool true) ∧ Below Z.heap.size Z z := by
 obtain ⟨s,F,E,h1,h2,h3,h4⟩ := h
 obtain ⟨⟨ls,hl⟩,hm⟩ := h4.look
 have hh := h4.even
 have hsb : SB s := by
  obtain ⟨_,_,_,_,_,q3,_⟩ := h4
  exact q3
 refine ⟨fun Y hb => (px_held (h1.below hb).px).mono fun e w' he => ?_,fun Y hb => ?_⟩
 ·obtain ⟨x,rfl,hrow,hbel⟩ := he
  rw [hh] at hrow
  rcases hrow.2 with ⟨q1,q2⟩ | ⟨g,cap,cur,q1,_⟩
  ·exact ⟨none,0,by rw [q1],hb.trans (hbel.mono hb.size)⟩
  ·exact ⟨_,_,by rw [q1]; rfl,hb.trans (hbel.mono hb.size)⟩
 have hY := h1.below hb
 refine ⟨(scheck_any hY.px c.nd c.lf c.inn c.fl c.bk).mono fun e w' he => ?_,(smap_any hY.px (fun _ => True) trivial (fun _ _ _ _ => trivial) (fun _ _ _ _ => trivial) (fun id _ _ => by have := (hsb.n id).1; omega)).mono fun e w' he => ?_⟩
 ·obtain ⟨x,rfl,hr,hbel⟩ := he
  rcases hr with ⟨id,er,h9,rfl⟩ | ⟨ls',d,h9,h10,rfl⟩
  ·rw [hl] at h9
   cases h9
  ·exact ⟨⟨_,_,_,_,_,rfl⟩,hb.trans (hbel.mono hb.size)⟩
 ·obtain ⟨D,x,rfl,hrow,hown,hD,hbel⟩ := he
  obtain ⟨r1,r2⟩ := hY.rd
  have hlen : D.length = E.length := by
   have := congrArg List.length (hD.trans hm)
   simpa using this
  obtain ⟨a,d,rfl⟩ : ∃ a d,x = .slice a D.length d := by
   rcases hrow.2 with ⟨q1,q2⟩ | ⟨g,cap,cur,q1,_⟩
   ·exact ⟨none,0,by rw [q1,q2]⟩
   ·exact ⟨_,_,q1⟩
  have hrd := EnRd.of hrow hown
  refine ⟨a,D.length,d,rfl,hb.trans (hbel.mono hb.size),fun Z hz => ?_⟩
  have e1 : D.length = ml := hlen.trans r1
  have hbz := hbel.trans (hz.mono hbel.size)
  rw [e1]
  refine (sameEntries_any a ma ml d mc D E Z e1 r1 (by omega) (hrd.below hz) (r2.below hbz) (hD.trans hm)).mono ?_
  rintro e z ⟨rfl,m,rfl⟩
  exact ⟨rfl,below_drewN (Below.refl _ _) m⟩
end
structure UEns (W : World) (a : Option Addr) (O : List En) : Prop where
 c : ∀ i (h : i < O.length),∃ b o,a = some ⟨b,o,none⟩ ∧ b < W.heap.size ∧ W.cell? ⟨b,o + i * 2,none⟩ = some O[i].1.v ∧ W.cell? ⟨b,o + i * 2 + 1,none⟩ = some O[i].2.v
 ok : ∀ x ∈ O,x.1.Ok W ∧ x.2.Ok W
theorem upw {w wk W : World} {A B P Z n q M : Nat} {c : Cfg} {vm : Value} {k v : Tx} {ws : List Nat} {hb : Bool} {u : US} {l : Nat} (h : UO2 w wk W A B P c vm q M k v ws Z n hb u) (hl : ws.length = l) : (l : Int) ≤ 9223372036854775807 := by
 obtain ⟨s0,F0,E0,s,h1,h2,h3,h4,h5,h6,_⟩ := h
 have := upx_len h1.px
 rw [← hl,h6,List.length_map]
 omega
set_option linter.unusedSimpArgs false in
set_option maxHeartbeats 25600000 in
theorem putOne_any (c : Cfg) (hc : CfgI c) (aS : Option Addr) (lS cS : Nat) (O : List En) (w : World) (hL : O.length = lS) (hO : UEns w aS O) (hlS : lS ≤ 1048576) :
  Calls Tryz.prog 4 #[c.v,.slice aS lS cS] w fun e w' => e = .returned (.bool true) ∧ Below w.heap.size w w' := by
 have HHD : Hid (∀ W,Calls Tryz.prog 9 #[] W fun e w' => e = .returned (.bool true) ∧ Below W.heap.size W w') := fun W => uhead_any W
 have HFI : Hid (∀ W,Calls Tryz.prog 22 #[c.v] W fun e w' => e = .returned (fitC c).v ∧ Below W.heap.size W w') := fun W => ufit_any c hc W
 have HO := hide hO
 have HLL := hide hL
 have HLS := hide hlS
 have hlS2 : (lS : Int) ≤ 9223372036854775807 := by omega
 have hfit := fit_ok c
 generalize fitC c = d at *
 obtain ⟨dn,dl,di,df,db⟩ := d
 have HNEW : Hid (∀ W,Calls Tryz.prog 23 #[.int .i64 dn] W (NewP W dn)) := fun W => px_new dn W hfit.1.1.1 (by have := hfit.2; simp only at this; omega)
 have HFIT := hide hfit
 obtain ⟨nd,lf,inn,fl,bk⟩ := c
 simp only [Cfg.v] at HFI ⊢
 obtain ⟨wa,hwa⟩ : ∃ wa,wa = w.alloc (.cells #[.int .i64 nd,.int .i64 lf,.int .i64 inn,.int .i64 fl,.int .i64 bk] 23) := ⟨_,rfl⟩
 have ba : Below w.heap.size w wa := by rw [hwa]; exact (Below.refl _ _).alloc (Nat.le_refl _) _
 have ga : wa.heap[w.heap.size]? = some (.cells #[.int .i64 nd,.int .i64 lf,.int .i64 inn,.int .i64 fl,.int .i64 bk] 23 (0,0)) := by rw [hwa]; exact heap_alloc_new w _
 have HWA := hide hwa
 have HBA := hide ba
 have HGA := hide ga
 clear hO hL hlS hc hfit hwa ba ga
 go_enter Tryz.func4,Tryz.ntmps4
 go_upto_region 1 with fail
 rw [← HWA.out]
 clear HWA
 go_wp2_with fail
 refine (HHD.out wa).mono ?_
 rintro e w1 ⟨rfl,hb1⟩
 have g1 := (hb1.block _ (lt_of_block HGA.out)).trans HGA.out
 have HB1 := hide (HBA.out.trans (hb1.mono HBA.out.size))
 have y0 : w1.cell? ⟨w.heap.size,0,none⟩ = some (.int .i64 nd) := by rw [cell_of_row _ _ _ _ _ _ g1]; rfl
 have y1 : w1.cell? ⟨w.heap.size,1,none⟩ = some (.int .i64 lf) := by rw [cell_of_row _ _ _ _ _ _ g1]; rfl
 have y2 : w1.cell? ⟨w.heap.size,2,none⟩ = some (.int .i64 inn) := by rw [cell_of_row _ _ _ _ _ _ g1]; rfl
 have y3 : w1.cell? ⟨w.heap.size,3,none⟩ = some (.int .i64 fl) := by rw [cell_of_row _ _ _ _ _ _ g1]; rfl
 have y4 : w1.cell? ⟨w.heap.size,4,none⟩ = some (.int .i64 bk) := by rw [cell_of_row _ _ _ _ _ _ g1]; rfl
 clear hb1 HHD HBA HGA g1
 go_wp2_with fail
 refine (HFI.out w1).mono ?_
 rintro e w2 ⟨rfl,hb2⟩
 have HB2 := hide (HB1.out.trans (hb2.mono HB1.out.size))
 obtain ⟨wb,hwb⟩ : ∃ wb,wb = w2.alloc (.cells #[.int .i64 dn,.int .i64 dl,.int .i64 di,.int .i64 df,.int .i64 db] 23) := ⟨_,rfl⟩
 have bb : Below w2.heap.size w2 wb := by rw [hwb]; exact (Below.refl _ _).alloc (Nat.le_refl _) _
 have gb : wb.heap[w2.heap.size]? = some (.cells #[.int .i64 dn,.int .i64 dl,.int .i64 di,.int .i64 df,.int .i64 db] 23 (0,0)) := by rw [hwb]; exact heap_alloc_new w2 _
 have z0 : wb.cell? ⟨w2.heap.size,0,none⟩ = some (.int .i64 dn) := by rw [cell_of_row _ _ _ _ _ _ gb]; rfl
 have HWB := hide hwb
 have HBB := hide (HB2.out.trans (bb.mono HB2.out.size))
 have HGB := hide gb
 clear hb2 HFI HB1 y0 y1 y2 y3 y4 hwb bb gb
 go_upto_region 3 with fail
 rw [← HWB.out]
 clear HWB
 go_wp2_with fail
 refine (HNEW.out wb).mono ?_
 rintro e w3 ⟨A,F,rfl,hp,hf,hb3⟩
 obtain ⟨B,hB⟩ : ∃ B,B = w2.heap.size := ⟨_,rfl⟩
 rw [← hB] at HGB
 have HD0 : Hid (UOS w w3 A B ⟨dn,dl,di,df,db⟩ (.slice none 0 0) 0 0) := ⟨_,F,[],⟨hp,fun k hk => Nat.le_trans HBB.out.size (hf k hk),HBB.out.trans (hb3.mono HBB.out.size),(hb3.block _ (lt_of_block HGB.out)).trans HGB.out,fun hF => by have := hf B hF; have := lt_of_block HGB.out; omega,World.ownsRow_nil _ _ _ _,fun k hk => (by cases hk),fun x hx => (by cases hx),List.Pairwise.nil⟩,rfl,Nat.le_refl _,WB.new HFIT.out⟩
 rw [← hB]
 clear hp hf hb3 z0 hB HNEW HGB
 go_wp2_with fail
 go_loopw [9,10] (fun q9 q10 wr => ∃ (i q M : Nat) (ma : Option Addr) (mc : Nat),i ≤ lS ∧ q9 = .slice ma q mc ∧ q10 = .int .i64 (i : Int) ∧ Hid (M ≤ 1000 * i ∧ UOS w wr A B ⟨dn,dl,di,df,db⟩ (.slice ma q mc) q M)) (fun _ q10 _ => lS - (intOf q10).toNat)
 case atStart => exact ⟨0,0,0,none,0,Nat.zero_le _,rfl,rfl,⟨Nat.le_refl _,HD0.out⟩⟩
 case round =>
  clear HD0
  obtain ⟨i,q,M,ma,mc,hi,rfl,rfl,HI⟩ := hrel
  rename World => wr
  have HU : Hid (UOS w wr A B ⟨dn,dl,di,df,db⟩ (.slice ma q mc) q M) := HI.out.2
  have HM : Hid (M ≤ 1000 * i) := HI.out.1
  clear HI
  by_cases hlt : i < lS
  ·have j1 : (i : Int) < (lS : Int) := by omega
   have hiL : i < O.length := by rw [HLL.out]; exact hlt
   obtain ⟨ob,oo,hoa,hob,he0,he1⟩ := HO.out.c i hiL
   subst hoa
   obtain ⟨okk,okv⟩ := HO.out.ok O[i] (List.getElem_mem hiL)
   generalize O[i] = op at *
   obtain ⟨⟨k1a,k1c,k1⟩,⟨v1a,v1c,v1⟩⟩ := op
   simp only [Tx.v] at he0 he1 okk okv
   obtain ⟨l1,hl1⟩ : ∃ x,k1.length = x := ⟨_,rfl⟩
   obtain ⟨l2,hl2⟩ : ∃ x,v1.length = x := ⟨_,rfl⟩
   rw [hl1] at he0
   rw [hl2] at he1
   have HOB := hide hob
   have HE0 := hide he0
   have HE1 := hide he1
   obtain ⟨ws,hb,hwd,hnw⟩ := HU.out.new okk okv
   have HNW : Hid (∀ Y,Below wr.heap.size wr Y → Calls Tryz.prog 11 #[.pointer (some ⟨A,0,none⟩),.agg #[.int .i64 dn,.int .i64 dl,.int .i64 di,.int .i64 df,.int .i64 db],.slice k1a l1 k1c,.slice v1a l2 v1c] Y fun e w' => ∃ P,e = .returned (.pointer (some ⟨P,0,none⟩)) ∧ UO2 w Y w' A B P ⟨dn,dl,di,df,db⟩ (.slice ma q mc) q M ⟨k1a,k1c,k1⟩ ⟨v1a,v1c,v1⟩ ws wr.heap.size 0 hb (US.new ⟨dn,dl,di,df,db⟩ k1 v1)) := fun Y hY => by
    have := hnw Y hY
    simp only [Tx.v,Cfg.v] at this
    rw [hl1,hl2] at this
    exact this
   have HWD := hide hwd
   have HL12 : Hid (k1.length = l1 ∧ v1.length = l2) := ⟨hl1,hl2⟩
   have HKY : Hid (∀ W,Calls Tryz.prog 15 #[.slice k1a l1 k1c] W fun e w' => e = .returned (.bool (decide (1 ≤ l1 ∧ l1 ≤ 64))) ∧ w' = W) := fun W => rkey_any k1a l1 k1c W
   have HVY : Hid (∀ W,Calls Tryz.prog 16 #[.slice v1a l2 v1c] W fun e w' => e = .returned (.bool (decide (l2 ≤ 256))) ∧ w' = W) := fun W => rvalue_any v1a l2 v1c W
   have hq40 : q ≤ 1099511627776 ∧ M + 1000 ≤ 1099511627776 := by
    obtain ⟨s,F,E,_,_,h3,_⟩ := HU.out
    have := HM.out
    have := HLS.out
    omega
   have HQ := hide hq40
   have j9 : (q : Int) ≤ 9223372036854775807 := by omega
   clear he0 he1 hob okk okv hl1 hl2 hwd hnw hq40
   go_wp2_with fail
   refine HWD.out.mono ?_
   rintro e w4 ⟨x,rfl,hrow,hbel⟩
   obtain ⟨xa,xl,xc,rfl⟩ : ∃ a l c,x = .slice a l c := by
    rcases hrow.2 with ⟨q1,_⟩ | ⟨g,cap,cur,q1,_⟩
    ·exact ⟨_,_,_,q1⟩
    ·exact ⟨_,_,_,q1⟩
   obtain ⟨hxl,hxr⟩ := WdRd.of hrow
   have hxz : ∀ g,xa = some ⟨g,0,none⟩ → wr.heap.size ≤ g := fun g e => (hrow.lt g (by rw [e]; rfl)).1
   have HX : Hid (WdRd w4 xa ws ∧ (∀ g,xa = some ⟨g,0,none⟩ → wr.heap.size ≤ g) ∧ ws.length = xl) := ⟨hxr,hxz,hxl.symm⟩
   have HB4 := hide hbel
   have hU4 := HU.out.below hbel
   have b0 : w4.cell? ⟨B,0,none⟩ = some (.int .i64 dn) := (hU4.cells.1).1
   have b1 : w4.cell? ⟨B,1,none⟩ = some (.int .i64 dl) := (hU4.cells.1).2.1
   have b2 : w4.cell? ⟨B,2,none⟩ = some (.int .i64 di) := (hU4.cells.1).2.2.1
   have b3 : w4.cell? ⟨B,3,none⟩ = some (.int .i64 df) := (hU4.cells.1).2.2.2.1
   have b4 : w4.cell? ⟨B,4,none⟩ = some (.int .i64 db) := (hU4.cells.1).2.2.2.2
   have e0 : w4.cell? ⟨ob,oo + i * 2,none⟩ = some (.slice k1a l1 k1c) := (hU4.cells.2.cell (p := ⟨ob,oo + i * 2,none⟩) HOB.out).trans HE0.out
   have e1 : w4.cell? ⟨ob,oo + i * 2 + 1,none⟩ = some (.slice v1a l2 v1c) := (hU4.cells.2.cell (p := ⟨ob,oo + i * 2 + 1,none⟩) HOB.out).trans HE1.out
   clear hrow hbel hxl hxr hxz hU4 HWD
   go_wp2_with fail
   go_region_held3 (fun W' => W'.cell? ⟨B,0,none⟩ = some (.int .i64 dn) ∧ W'.cell? ⟨B,1,none⟩ = some (.int .i64 dl) ∧ W'.cell? ⟨B,2,none⟩ = some (.int .i64 di) ∧ W'.cell? ⟨B,3,none⟩ = some (.int .i64 df) ∧ W'.cell? ⟨B,4,none⟩ = some (.int .i64 db) ∧ W'.cell? ⟨ob,oo + i * 2,none⟩ = some (.slice k1a l1 k1c) ∧ W'.cell? ⟨ob,oo + i * 2 + 1,none⟩ = some (.slice v1a l2 v1c)) (go_keep) (first
    | (go_at_call 11; refine (HNW.out _ (below_drew HB4.out)).mono ?_; rintro e w5 ⟨P,rfl,h5⟩; have c0 : w5.cell? ⟨B,0,none⟩ = some (.int .i64 dn) := (h5.cells.1).1; have c1 : w5.cell? ⟨B,1,none⟩ = some (.int .i64 dl) := (h5.cells.1).2.1; have c2 : w5.cell? ⟨B,2,none⟩ = some (.int .i64 di) := (h5.cells.1).2.2.1; have c3 : w5.cell? ⟨B,3,none⟩ = some (.int .i64 df) := (h5.cells.1).2.2.2.1; have c4 : w5.cell? ⟨B,4,none⟩ = some (.int .i64 db) := (h5.cells.1).2.2.2.2; have d0 : w5.cell? ⟨ob,oo + i * 2,none⟩ = some (.slice k1a l1 k1c) := (h5.cells.2.cell (p := ⟨ob,oo + i * 2,none⟩) HOB.out).trans HE0.out; have d1 : w5.cell? ⟨ob,oo + i * 2 + 1,none⟩ = some (.slice v1a l2 v1c) := (h5.cells.2.cell (p := ⟨ob,oo + i * 2 + 1,none⟩) HOB.out).trans HE1.out; have H5 := hide h5; clear h5)
    | fail)
   have HAL : Hid (Calls Tryz.prog 25 #[.pointer (some ⟨A,0,none⟩),.pointer (some ⟨P,0,none⟩),.int .i64 1000] w5 fun e w' => ∃ n u,e = .returned (.int .i64 (n : Nat)) ∧ UO2 w w4.drew w' A B P ⟨dn,dl,di,df,db⟩ (.slice ma q mc) q M ⟨k1a,k1c,k1⟩ ⟨v1a,v1c,v1⟩ ws wr.heap.size n hb u ∧ 15 ≤ u.nx ∧ n ≤ 900) := H5.out.alone (by have := HQ.out.2; omega)
   clear HNW H5 b0 b1 b2 b3 b4 e0 e1 c0 c1 c2 c3 c4 d0 d1
   go_wp2_with fail
   refine HAL.out.mono ?_
   rintro e w6 ⟨n,u,rfl,h6,hu15,hn9⟩
   have HAN := hide h6.answer
   have HN9 : Hid (15 ≤ u.nx ∧ n ≤ 900) := ⟨hu15,hn9⟩
   obtain ⟨er,her⟩ : ∃ x,(if u.nx < 15 ∨ u.err ≠ 0 then u.err else 0) = x := ⟨_,rfl⟩
   obtain ⟨th,hth⟩ : ∃ x,u.had' = x := ⟨_,rfl⟩
   rw [her,hth] at HAN
   have HER : Hid (u.err = er) := by
    show _ = _
    rw [← her]
    by_cases g : u.err = 0
    ·rw [if_neg (fun x => by rcases x with x | x; omega; exact x g),g]
    ·rw [if_pos (.inr g)]
   have HTH := hide hth
   clear h6 hu15 hn9 her hth HAL
   go_wp2_with fail
   refine HAN.out.mono ?_
   rintro e w7 ⟨rfl,h7,hb7⟩
   have H7 := hide h7
   have e0 : w7.cell? ⟨ob,oo + i * 2,none⟩ = some (.slice k1a l1 k1c) := (h7.cells.2.cell (p := ⟨ob,oo + i * 2,none⟩) HOB.out).trans HE0.out
   have e1 : w7.cell? ⟨ob,oo + i * 2 + 1,none⟩ = some (.slice v1a l2 v1c) := (h7.cells.2.cell (p := ⟨ob,oo + i * 2 + 1,none⟩) HOB.out).trans HE1.out
   have HHA : Hid (Calls Tryz.prog 26 #[(.slice ma q mc),.slice k1a l1 k1c] w7 fun e w' => e = .returned (.bool hb) ∧ ∃ m,w' = w7.drewN m) := by
    have := h7.has j9
    simp only [Tx.v] at this
    rw [HL12.out.1] at this
    exact this
   have hnlt : ¬ (n : Int) < 0 := by omega
   obtain ⟨good,hgood⟩ : ∃ b,decide (1 ≤ l1 ∧ l1 ≤ 64) = b := ⟨_,rfl⟩
   obtain ⟨fine,hfine⟩ : ∃ b,decide (l2 ≤ 256) = b := ⟨_,rfl⟩
   rw [hgood] at HKY
   rw [hfine] at HVY
   have HGF : Hid (decide (1 ≤ l1 ∧ l1 ≤ 64) = good ∧ decide (l2 ≤ 256) = fine) := ⟨hgood,hfine⟩
   clear h7 hb7 HAN hgood hfine
   go_wp2_with fail
   refine keep (HKY.out _) ?_
   clear HKY
   go_wp2_with fail
   refine keep (HVY.out _) ?_
   clear HVY
   go_wp2_with fail
   refine HHA.out.mono ?_
   rintro e w8 ⟨rfl,m8,hm8⟩
   have hb8 : Below w7.heap.size w7 w8 := by rw [hm8]; exact below_drewN (Below.refl _ _) m8
   have H8 := hide (H7.out.below hb8)
   have f0 : w8.cell? ⟨ob,oo + i * 2,none⟩ = some (.slice k1a l1 k1c) := (H8.out.cells.2.cell (p := ⟨ob,oo + i * 2,none⟩) HOB.out).trans HE0.out
   have f1 : w8.cell? ⟨ob,oo + i * 2 + 1,none⟩ = some (.slice v1a l2 v1c) := (H8.out.cells.2.cell (p := ⟨ob,oo + i * 2 + 1,none⟩) HOB.out).trans HE1.out
   have HWX : Hid (WdRd w8 xa ws) := H8.out.wd (HX.out.1.below (below_drew (Below.refl _ _))) HX.out.2.1
   clear hm8 hb8 H7 HHA e0 e1
   go_upto_block 2 with fail
   go_cut [9] (fun qm wv => ∃ (a : Option Addr) (l d M2 : Nat),qm = .slice a l d ∧ Hid (M2 ≤ 1000 * (i + 1) ∧ UOS w wv A B ⟨dn,dl,di,df,db⟩ (.slice a l d) l M2))
   case first =>
    have hfin := H8.out.fin HN9.out.1 HQ.out.1
    rw [HER.out,HTH.out] at hfin
    simp only at hfin
    rw [HL12.out.1,HL12.out.2] at hfin
    rcases hfin with ⟨a1,a2,a3,a4,a5,a6⟩ | ⟨a1,a2,a3,a4,a5,a6,a7⟩ | ⟨a1,a2,a3,a4⟩
    ·have HF := hide a6
     have HW2 := hide a5
     have HXZ : Hid ((xl : Int) ≤ 9223372036854775807) := upw H8.out HX.out.2.2
     subst a2 a3 a4
     have hgf := HGF.out
     clear a5 a6 H8 HER HTH
     by_cases g1 : 1 ≤ l1 ∧ l1 ≤ 64
     ·obtain rfl : good = true := by rw [← hgf.1]; exact decide_eq_true g1
      obtain rfl : fine = false := by rw [← hgf.2]; exact decide_eq_false (fun g2 => a1 ⟨g1.1,g1.2,g2⟩)
      clear hgf g1 a1
      go_wp2_with (first
       | (go_at_call 24; refine (HW2.out _ (Below.refl _ _)).mono ?_; rintro e w9 ⟨x9,rfl,hr9,hb9⟩; obtain ⟨ya,yl,yc,rfl⟩ : ∃ a l c,x9 = .slice a l c := (by rcases hr9.2 with ⟨q1,_⟩ | ⟨g,cap,cur,q1,_⟩; exact ⟨_,_,_,q1⟩; exact ⟨_,_,_,q1⟩); obtain ⟨hyl,hyr⟩ := WdRd.of hr9; have B9 := hide hb9; have HSW := hide (sameWords_any xa ya xl xc yc ws w9 HX.out.2.2 (by have := HXZ.out; omega) (HWX.out.below hb9) hyr); obtain rfl : yl = xl := hyl.trans HX.out.2.2; clear hr9 hb9 hyl hyr)
       | (go_at_call 27; refine HSW.out.mono ?_; rintro e w10 ⟨rfl,m10,hm10⟩; have B10 : Hid (Below w8.heap.size w8 w10) := (by show Below _ _ _; rw [hm10]; exact below_drewN B9.out m10); clear hm10)
       | (go_at_call 28; refine (HLF.out _ B10.out).mono ?_; rintro e w11 ⟨rfl,m11,hm11⟩; have B11 : Hid (Below w8.heap.size w8 w11) := (by show Below _ _ _; rw [hm11]; exact below_drewN B10.out m11); clear hm11)
       | fail)
      go_meet
      exact ⟨ma,q,mc,M + 1,rfl,⟨by have := HN9.out.2; have := HM.out; omega,HF.out.below B10.out⟩⟩
     ·obtain rfl : good = false := by rw [← hgf.1]; exact decide_eq_false g1
      clear hgf g1 a1
      go_wp2_with (first
       | (go_at_call 24; refine (HW2.out _ (Below.refl _ _)).mono ?_; rintro e w9 ⟨x9,rfl,hr9,hb9⟩; obtain ⟨ya,yl,yc,rfl⟩ : ∃ a l c,x9 = .slice a l c := (by rcases hr9.2 with ⟨q1,_⟩ | ⟨g,cap,cur,q1,_⟩; exact ⟨_,_,_,q1⟩; exact ⟨_,_,_,q1⟩); obtain ⟨hyl,hyr⟩ := WdRd.of hr9; have B9 := hide hb9; have HSW := hide (sameWords_any xa ya xl xc yc ws w9 HX.out.2.2 (by have := HXZ.out; omega) (HWX.out.below hb9) hyr); obtain rfl : yl = xl := hyl.trans HX.out.2.2; clear hr9 hb9 hyl hyr)
       | (go_at_call 27; refine HSW.out.mono ?_; rintro e w10 ⟨rfl,m10,hm10⟩; have B10 : Hid (Below w8.heap.size w8 w10) := (by show Below _ _ _; rw [hm10]; exact below_drewN B9.out m10); clear hm10)
       | (go_at_call 28; refine (HLF.out _ B10.out).mono ?_; rintro e w11 ⟨rfl,m11,hm11⟩; have B11 : Hid (Below w8.heap.size w8 w11) := (by show Below _ _ _; rw [hm11]; exact below_drewN B10.out m11); clear hm11)
       | fail)
      go_meet
      exact ⟨ma,q,mc,M + 1,rfl,⟨by have := HN9.out.2; have := HM.out; omega,HF.out.below B10.out⟩⟩
    ·have HF := hide a7
     have HW2 := hide a5
     have HLF := hide a6
     have HXZ : Hid ((xl : Int) ≤ 9223372036854775807) := upw H8.out HX.out.2.2
     obtain rfl : good = true := by rw [← HGF.out.1]; exact decide_eq_true ⟨a1.1,a1.2.1⟩
     obtain rfl : fine = true := by rw [← HGF.out.2]; exact decide_eq_true a1.2.2
     subst a2 a3 a4
     clear a1 a5 a6 a7 H8 HER HTH HGF
     go_wp2_with (first
      | (go_at_call 24; refine (HW2.out _ (Below.refl _ _)).mono ?_; rintro e w9 ⟨x9,rfl,hr9,hb9⟩; obtain ⟨ya,yl,yc,rfl⟩ : ∃ a l c,x9 = .slice a l c := (by rcases hr9.2 with ⟨q1,_⟩ | ⟨g,cap,cur,q1,_⟩; exact ⟨_,_,_,q1⟩; exact ⟨_,_,_,q1⟩); obtain ⟨hyl,hyr⟩ := WdRd.of hr9; have B9 := hide hb9; have HSW := hide (sameWords_any xa ya xl xc yc ws w9 HX.out.2.2 (by have := HXZ.out; omega) (HWX.out.below hb9) hyr); obtain rfl : yl = xl := hyl.trans HX.out.2.2; clear hr9 hb9 hyl hyr)
      | (go_at_call 27; refine HSW.out.mono ?_; rintro e w10 ⟨rfl,m10,hm10⟩; have B10 : Hid (Below w8.heap.size w8 w10) := (by show Below _ _ _; rw [hm10]; exact below_drewN B9.out m10); clear hm10)
      | (go_at_call 28; refine (HLF.out _ B10.out).mono ?_; rintro e w11 ⟨rfl,m11,hm11⟩; have B11 : Hid (Below w8.heap.size w8 w11) := (by show Below _ _ _; rw [hm11]; exact below_drewN B10.out m11); clear hm11)
      | fail)
     go_meet
     exact ⟨ma,q,mc,M + n,rfl,⟨by have := HN9.out.2; have := HM.out; omega,HF.out.below B11.out⟩⟩
    ·have HSE : Hid (∀ Y,Below w8.heap.size w8 Y → Calls Tryz.prog 17 #[(.slice ma q mc),.slice k1a l1 k1c,.slice v1a l2 v1c] Y fun e w' => ∃ a' l' d',e = .returned (.slice a' l' d') ∧ UOS w w' A B ⟨dn,dl,di,df,db⟩ (.slice a' l' d') l' (M + n) ∧ Below Y.heap.size Y w') := fun Y hY => by
      have := a4 Y hY
      simp only [Tx.v] at this
      rw [HL12.out.1,HL12.out.2] at this
      exact this
     obtain rfl : good = true := by rw [← HGF.out.1]; exact decide_eq_true ⟨a1.1,a1.2.1⟩
     obtain rfl : fine = true := by rw [← HGF.out.2]; exact decide_eq_true a1.2.2
     subst a2 a3
     clear a1 a4 H8 HER HTH HGF
     go_wp2_with fail
     go_region_held3 (fun W' => W'.cell? ⟨ob,oo + i * 2,none⟩ = some (.slice k1a l1 k1c) ∧ W'.cell? ⟨ob,oo + i * 2 + 1,none⟩ = some (.slice v1a l2 v1c)) (go_keep) (first
      | (go_at_call 17; refine (HSE.out _ (below_drew (Below.refl _ _))).mono ?_; rintro e w9 ⟨sa,sl,sd,rfl,hv9,hb9⟩; have HV9 := hide hv9; have g0 : w9.cell? ⟨ob,oo + i * 2,none⟩ = some (.slice k1a l1 k1c) := (hv9.cells.2.cell (p := ⟨ob,oo + i * 2,none⟩) HOB.out).trans HE0.out; have g1 : w9.cell? ⟨ob,oo + i * 2 + 1,none⟩ = some (.slice v1a l2 v1c) := (hv9.cells.2.cell (p := ⟨ob,oo + i * 2 + 1,none⟩) HOB.out).trans HE1.out; clear hv9 hb9)
      | fail)
     all_goals (try go_wp2_with fail)
     all_goals
      go_meet
      exact ⟨sa,sl,sd,M + n,rfl,⟨by have := HN9.out.2; have := HM.out; omega,HV9.out⟩⟩
   case rest =>
   rename World => wv
   obtain ⟨ma2,q2,mc2,M2,rfl,HV⟩ := hcut
   clear f0 f1 HX HGF HWX H8
   have hM2 : M2 ≤ 1099511627776 := by have := HV.out.1; have := HLS.out; omega
   obtain ⟨hheld,hlook⟩ := HV.out.2.ends hM2
   have HHE := hide hheld
   have HCK : Hid (∀ Y,Below wv.heap.size wv Y → Calls Tryz.prog 19 #[.pointer (some ⟨A,0,none⟩),.agg #[.int .i64 dn,.int .i64 dl,.int .i64 di,.int .i64 df,.int .i64 db]] Y fun e w' => (∃ id er lv no en,e = .returned (.agg #[.bool true,.int .i64 id,.int .i64 er,.int .i64 lv,.int .i64 no,.int .i64 en])) ∧ Below wv.heap.size wv w') := fun Y hY => (hlook Y hY).1
   have HMP : Hid (∀ Y,Below wv.heap.size wv Y → Calls Tryz.prog 21 #[.pointer (some ⟨A,0,none⟩)] Y fun e w' => ∃ a l d,e = .returned (.slice a l d) ∧ Below wv.heap.size wv w' ∧ ∀ Z,Below w'.heap.size w' Z → Calls Tryz.prog 20 #[.slice a l d,.slice ma2 q2 mc2] Z fun e z => e = .returned (.bool true) ∧ Below Z.heap.size Z z) := fun Y hY => (hlook Y hY).2
   have FLD : ∀ (b : Bool) (i e l n m : Int) (Y : World),(Instr.field 58 (.agg #[.bool b,.int .i64 i,.int .i64 e,.int .i64 l,.int .i64 n,.int .i64 m]) 0).run Tryz.prog Y = .ok (.bool b) Y := fun b i e l n m Y => by kernel_rfl
   clear hM2 hheld hlook
   go_wp2_with (first
    | (go_at_call 18; refine (HHE.out _ (Below.refl _ _)).mono ?_; rintro e w12 ⟨va,vc,rfl,hb12⟩; have B12 := hide hb12; have g0 : w12.cell? ⟨B,0,none⟩ = some (.int .i64 dn) := ((HV.out.2.below hb12).cells.1).1; have g1 : w12.cell? ⟨B,1,none⟩ = some (.int .i64 dl) := ((HV.out.2.below hb12).cells.1).2.1; have g2 : w12.cell? ⟨B,2,none⟩ = some (.int .i64 di) := ((HV.out.2.below hb12).cells.1).2.2.1; have g3 : w12.cell? ⟨B,3,none⟩ = some (.int .i64 df) := ((HV.out.2.below hb12).cells.1).2.2.2.1; have g4 : w12.cell? ⟨B,4,none⟩ = some (.int .i64 db) := ((HV.out.2.below hb12).cells.1).2.2.2.2; clear hb12)
    | (go_at_call 19; refine (HCK.out _ B12.out).mono ?_; rintro e w13 ⟨⟨id7,er7,lv7,no7,en7,rfl⟩,hb13⟩; have B13 := hide hb13; clear hb13)
    | (go_at_call 21; refine (HMP.out _ B13.out).mono ?_; rintro e w14 ⟨a8,l8,d8,rfl,hb14,hse⟩; have B14 := hide hb14; have HSM := hide hse; clear hb14 hse)
    | (go_at_call 20; refine (HSM.out _ (Below.refl _ _)).mono ?_; rintro e w15 ⟨rfl,hb15⟩; have B15 := hide (B14.out.trans (hb15.mono B14.out.size)); clear hb15)
    | fail)
   have HN := hide (HV.out.2.below B15.out)
   go_roundw
   case rel => exact ⟨i + 1,q2,M2,ma2,mc2,by omega,rfl,by go_num,⟨HV.out.1,HN.out⟩⟩
   case measure => simp [intOf]; omega
  ·have j1 : ¬ (i : Int) < (lS : Int) := by omega
   have BF : Hid (Below w.heap.size w wr) := HU.out.cells.2
   go_wp2_with fail
   go_ret
   exact ⟨rfl,BF.out⟩
end Go.Proofs.YtggaipeojncipaaGreat
