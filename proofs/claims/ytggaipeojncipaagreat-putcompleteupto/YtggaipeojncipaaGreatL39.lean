/- Texts of one's own. -/
import Derived.Test.YtggaipeojncipaaGreatL38
namespace Go.Proofs.YtggaipeojncipaaGreat
open Go.RowKit
set_option maxRecDepth 100000
structure JC (n0 : Nat) (u : US) (s t : AS) (cs : List Chn) : Prop where
 sl : s.sl.length = nodN cs + if (u.nx = 7 ∨ u.nx = 8) ∨ (11 ≤ u.nx ∧ u.nx ≤ 14) then 1 else 0
 df : nodN cs = 1 + kidN t cs + if u.lev ≠ 0 ∧ u.nx ≤ 14 then 1 else 0
 lf : (cs.headD []).length ≤ n0 + if u.lev ≠ 0 then 1 else 0
 n5 : u.nx ≠ 5
 lr : u.lev ≠ 0 → u.nx ≤ 14 → u.lft ≠ u.rgt
 rt : 10 ≤ u.nx → u.nx ≤ 14 → s.root = u.lft
section
variable {c : Cfg} {s t t' : AS} {cs cs' : List Chn} {u : US} {k : List Int × List Int} {E : List (List Int × List Int)} {M n0 : Nat}
theorem fate_sides (u : US) (n : NP) : (u.fate n).lft = u.lft ∧ (u.fate n).rgt = u.rgt := by
 unfold US.fate
 split
 ·exact ⟨rfl,rfl⟩
 ·split <;> exact ⟨rfl,rfl⟩
theorem WA.noin (h : WA c s t cs u k E M) (hx : u.nx = 2) (hl : u.lev ≠ 0) (hk : s.lockB u.m.id u.m.wd = true) (hM : M < 4611686018427387904) : isIn u.m.nd.ks u.sep = false := by
 have hno : ∀ k,¬ u.odd k := fun k h => by simp [US.odd,US.hol,hx] at h
 obtain ⟨hin,hw,_⟩ := of_decide_eq_true hk
 obtain ⟨ms,hms,hd⟩ := h.ui.p2 hx
 have hm : u.m = ms := by unfold US.m; rw [hms]; rfl
 have hlev := h.ui.lev
 rw [hm] at hin hw ⊢
 obtain ⟨low,hml,hlo⟩ := hd.on
 have hnow := (hd.sw.now (by omega) hw).1
 rw [← hnow]
 refine Bool.eq_false_iff.2 fun hi => ?_
 obtain ⟨_,q2,q3⟩ := h.ui.lk (by omega) (by omega)
 have hT := h.g.vt.tre
 obtain ⟨b,hb⟩ : ∃ b,u.lev.toNat = b + 1 := ⟨u.lev.toNat - 1,by omega⟩
 obtain ⟨d,hd1,hd2⟩ := hml
 rw [hb] at hd1
 have hlt : b + 1 < cs.length := (List.getElem?_eq_some_iff.1 hd1).1
 obtain ⟨e,he⟩ : ∃ e,cs[b]? = some e := ⟨_,List.getElem?_eq_getElem (by omega)⟩
 have hlv := (hT.ok _ d hd1).lv _ hd2
 simp only at hlv
 have hcs := (nchk_more ((hT.ok _ d hd1).ck _ hd2)).2.2.1 (by simp only; omega)
 simp only at hcs
 have hmem : u.sep ∈ (t.n ms.id).ks := isIn_iff.1 hi
 obtain ⟨j,hj,hje⟩ := List.getElem_of_mem hmem
 have hkid := hT.kid b e d he hd1 _ hd2 (j + 1) (by simp only; omega)
 unfold AS.kidAt at hkid
 simp only [Nat.add_sub_cancel,Nat.succ_ne_zero,if_false] at hkid
 have hks : (t.n ms.id).ks.getD j [] = u.sep := by rw [List.getD_eq_getElem?_getD,List.getElem?_eq_getElem hj]; simpa using hje
 rw [hks] at hkid
 rw [hb,Nat.add_sub_cancel] at q2
 have h5 := hT.lowU q2 ⟨e,he,hkid⟩
 refine q3 (b + 1) _ ⟨d,hd1,hd2⟩ ?_
 rw [h5]
 simp only
 have hjc : j + 1 < (t.n ms.id).cs.length := by omega
 rw [List.getD_eq_getElem?_getD,List.getElem?_eq_getElem hjc]
 exact List.getElem_mem hjc
theorem JC.step (h : WA c s t cs u k E M) (hj : JC n0 u s t cs) (hM : M < 4611686018427387904) (h2 : 2 ≤ u.nx) (h14 : u.nx ≤ 14) (hroom : s.allE = 0) (hk : u.nx = 2 → s.lockB u.m.id u.m.wd = true) (h9 : u.nx = 9 → s.root = u.lft)
  (hne : 0 < cs.length) (hne' : 0 < cs'.length) (hU : u.nx ≠ 14 → Upl cs cs' u.lev.toNat) (hC : Cn u (u.step s) t cs t' cs') : JC n0 (u.step s).u (u.step s).s t' cs' := by
 obtain ⟨es,er⟩ := h.stepE hM (by omega) hj.n5 (by omega)
 have hsl := act_slots u s
 have hlev := h.ui.lev
 have hup := h.ui.up
 have hpc := h.ui.pc
 have hlo : u.lev ≠ 0 → Upl cs cs' u.lev.toNat → cs'.headD [] = cs.headD [] := fun h0 hu => head_same (hu 0 (by omega))
 have hl0 : u.lev = 0 → Upl cs cs' u.lev.toNat → (cs'.headD []).length + nodN cs = (cs.headD []).length + nodN cs' := fun h0 hu => nod_head hne hne' (fun j hj2 => hu j (by omega))
 obtain ⟨c1,c4,c8,c14⟩ := hC
 obtain ⟨b1,b2,b3,b5,b6,b7⟩ := hj
 rw [es] at c1 c14 ⊢
 have hcase : u.nx = 2 ∨ u.nx = 3 ∨ u.nx = 4 ∨ u.nx = 6 ∨ u.nx = 7 ∨ u.nx = 8 ∨ u.nx = 9 ∨ u.nx = 10 ∨ u.nx = 11 ∨ u.nx = 12 ∨ u.nx = 13 ∨ u.nx = 14 := by omega
 have hq : u.nx ≠ 4 → u.nx ≠ 8 → u.nx ≠ 14 → nodN cs' = nodN cs ∧ kidN t' cs' = kidN t cs ∧ (cs'.headD []).length = (cs.headD []).length := fun q4 q8 q14 => by
  obtain ⟨d1,d2⟩ := c1 q4 q8 (fun e => absurd e q14)
  refine ⟨d1,d2,?_⟩
  by_cases h0 : u.lev = 0
  ·have := hl0 h0 (hU q14); omega
  ·rw [hlo h0 (hU q14)]
 -- what stays: the levels,nodes,children
 have keep : ∀ (v : US) (s' : AS),u.nx ≠ 4 → u.nx ≠ 8 → u.nx ≠ 14 → v.lev = u.lev → v.nx ≤ 14 → v.nx ≠ 5 → v.lft = u.lft → v.rgt = u.rgt → (s'.sl.length = nodN cs + if (v.nx = 7 ∨ v.nx = 8) ∨ (11 ≤ v.nx ∧ v.nx ≤ 14) then 1 else 0) → (10 ≤ v.nx → s'.root = u.lft) → JC n0 v s' t' cs' := fun v s' q4 q8 q14 e1 e2 e3 e4 e5 e6 e7 => by
  obtain ⟨d1,d2,d3⟩ := hq q4 q8 q14
  refine ⟨by rw [d1]; exact e6,?_,by rw [d3,e1]; exact b3,e3,fun a _ => by rw [e4,e5]; exact b6 (by rw [← e1]; exact a) h14,fun a _ => by rw [e4]; exact e7 a⟩
  rw [d1,d2,b2,e1]
  congr 1
  by_cases h0 : u.lev = 0
  ·rw [if_neg (fun g => g.1 h0),if_neg (fun g => g.1 h0)]
  ·rw [if_pos ⟨h0,h14⟩,if_pos ⟨h0,e2⟩]
 rcases hcase with g | g | g | g | g | g | g | g | g | g | g | g
 ·have ea := act_twoS (s := s) g
  rw [if_pos (hk g)] at ea
  rw [ea] at hsl ⊢
  rw [if_neg (by omega)] at b1 hsl
  obtain ⟨f1,f2⟩ := fate_sides ({ u with hid := u.m.id } : US) u.m.nd
  obtain ⟨f3,f4⟩ := fate_nx ({ u with hid := u.m.id } : US) u.m.nd
  have f5 : (({ u with hid := u.m.id } : US).fate u.m.nd).nx ≠ 5 := fun e => by
   by_cases h0 : u.lev = 0
   ·have := (fate_leaf ({ u with hid := u.m.id } : US) u.m.nd h0).2.2.2.2
    rw [this] at e
    split at e <;> omega
   ·have hi := h.noin g h0 (hk g) hM
    unfold US.fate at e
    rw [if_neg h0,hi] at e
    simp only [Bool.false_eq_true,if_false] at e
    split at e <;> omega
  simp only at hsl f1 f2 f3 ⊢
  generalize (({ u with hid := u.m.id } : US).fate u.m.nd) = v at *
  refine keep _ _ (by omega) (by omega) (by omega) f3 (by omega) f5 f1 f2 ?_ (fun a => by omega)
  rw [if_neg (by omega)]
  omega
 ·have ea := act_three (s := s) g
  rw [ea]
  rw [if_neg (by omega)] at b1 hsl
  exact keep _ _ (by omega) (by omega) (by omega) rfl (by simp only; omega) (by simp only; omega) rfl rfl (by rw [if_neg (by simp only; omega)]; omega) (fun a => by simp only at a; omega)
 ·have ea := act_four (s := s) g
  obtain ⟨d1,d2⟩ := c4 g
  rw [ea]
  rw [if_neg (by omega)] at b1 hsl
  refine ⟨by rw [if_neg (by simp only; omega),d1]; omega,?_,?_,by simp only; omega,fun _ a => by simp only at a; omega,fun _ a => by simp only at a; omega⟩
  ·rw [if_neg (fun a => by have := a.2; simp only at this; omega),d1,d2,b2]
   by_cases h0 : u.lev = 0
   ·rw [if_neg (fun a => a.1 h0),if_pos h0]
    try omega
   ·rw [if_pos ⟨h0,h14⟩,if_neg h0]
    try omega
  ·by_cases h0 : u.lev = 0
   ·have := hl0 h0 (hU (by omega))
    have e : (cs'.headD []).length = (cs.headD []).length := by omega
    rw [e]; exact b3
   ·rw [hlo h0 (hU (by omega))]; exact b3
 ·obtain ⟨v,a⟩ := act_six (s := s) g
  have ea : u.act s = ⟨{ u with hn := u.hn.cut1 s.allI,fid := s.allI,fn := u.hn.cut2,bet := u.hn.cut3,pc := 0,nx := 7 },s.allS,false,0⟩ := by
   unfold US.act
   rw [g]
   simp only
   rw [if_pos hroom]
  rw [ea] at hsl ⊢
  rw [if_neg (by omega)] at b1
  rw [if_pos ⟨.inl g,hroom⟩] at hsl
  simp only at hsl ⊢
  exact keep _ _ (by omega) (by omega) (by omega) rfl (by simp only; omega) (by simp only; omega) rfl rfl (by rw [if_pos (by simp)]; omega) (fun a => by simp only at a; omega)
 ·rw [if_pos (by omega)] at b1
  rw [if_neg (by omega)] at hsl
  by_cases h4 : u.pc = 4
  ·have ea := (act_seven (s := s) g).2 h4
   rw [ea]
   exact keep _ _ (by omega) (by omega) (by omega) rfl (by simp only; omega) (by simp only; omega) rfl rfl (by rw [if_pos (by simp)]; omega) (fun a => by simp only at a; omega)
  ·have ea := (act_seven (s := s) g).1 h4
   rw [ea]
   exact keep _ _ (by omega) (by omega) (by omega) rfl (by simp only; omega) (by simp only; omega) rfl rfl (by rw [if_pos (by simp only; omega)]; omega) (fun a => by simp only at a; omega)
 ·have ea := act_eight (s := s) g
  obtain ⟨d1,d2⟩ := c8 g
  rw [ea]
  rw [if_pos (by omega)] at b1
  rw [if_neg (by omega)] at hsl
  unfold US.down
  refine ⟨by rw [if_neg (by simp only; omega),d1]; omega,?_,?_,by simp only; omega,fun _ _ => ?_,fun a _ => by simp only at a; omega⟩
  ·rw [if_pos ⟨by simp only; omega,by simp only; omega⟩,d1,d2,b2]
   by_cases h0 : u.lev = 0
   ·rw [if_neg (fun a => a.1 h0),if_pos h0]
    try omega
   ·rw [if_pos ⟨h0,h14⟩,if_neg h0]
    try omega
  ·rw [if_pos (by simp only; omega)]
   by_cases h0 : u.lev = 0
   ·have := hl0 h0 (hU (by omega))
    rw [if_neg (fun a => a h0)] at b3
    omega
   ·rw [hlo h0 (hU (by omega))]
    rw [if_pos h0] at b3
    exact b3
  ·obtain ⟨low,hg⟩ := h.ui.hd (by omega) (by omega)
   exact (h.ui.fo (.inr g)).2 _ _ hg.m
 ·have ea := act_nine (s := s) g
  rw [if_pos (h9 g)] at ea
  rw [ea] at hsl ⊢
  rw [if_neg (by omega)] at b1 hsl
  simp only at hsl ⊢
  exact keep _ _ (by omega) (by omega) (by omega) rfl (by simp only; omega) (by simp only; omega) rfl rfl (by rw [if_neg (by simp only; omega)]; exact b1) (fun _ => h9 g)
 ·have ea : u.act s = ⟨{ u with top := s.allI,nx := 11 },s.allS,false,0⟩ := by
   unfold US.act
   rw [g]
   simp only
   rw [if_pos hroom]
  rw [ea] at hsl ⊢
  rw [if_neg (by omega)] at b1
  rw [if_pos ⟨.inr g,hroom⟩] at hsl
  simp only at hsl ⊢
  exact keep _ _ (by omega) (by omega) (by omega) rfl (by simp only; omega) (by simp only; omega) rfl rfl (by rw [if_pos (by simp only; omega)]; omega) (fun _ => by rw [all_root]; exact b7 (by omega) h14)
 ·obtain ⟨ea,er2⟩ := act_e (s := s) g
  rw [if_pos (by omega)] at b1
  rw [if_neg (by omega)] at hsl
  rw [ea]
  exact keep _ _ (by omega) (by omega) (by omega) rfl (by simp only; omega) (by simp only; omega) rfl rfl (by rw [if_pos (by simp only; omega)]; omega) (fun _ => by rw [er2]; exact b7 (by omega) h14)
 ·obtain ⟨ea,er2⟩ := act_t (s := s) g
  rw [if_pos (by omega)] at b1
  rw [if_neg (by omega)] at hsl
  rw [ea]
  exact keep _ _ (by omega) (by omega) (by omega) rfl (by simp only; omega) (by simp only; omega) rfl rfl (by rw [if_pos (by simp only; omega)]; omega) (fun _ => by rw [er2]; exact b7 (by omega) h14)
 ·obtain ⟨ea,er2⟩ := act_f (s := s) g
  rw [if_pos (by omega)] at b1
  rw [if_neg (by omega)] at hsl
  rw [ea]
  exact keep _ _ (by omega) (by omega) (by omega) rfl (by simp only; omega) (by simp only; omega) rfl rfl (by rw [if_pos (by simp only; omega)]; omega) (fun _ => by rw [er2]; exact b7 (by omega) h14)
 ·have hg : s.groB u.lft u.top = true := decide_eq_true ⟨(h.ui.tp (by omega) (by omega)).1,b7 (by omega) h14⟩
  have ea : u.act s = ⟨{ u with nx := 15 },s.groS u.lft u.top,false,s.wordE u.top⟩ := by
   unfold US.act
   rw [g]
   simp only
   rw [if_pos hg]
  have h0 : u.lev ≠ 0 := by have := hup (by omega) (by omega); omega
  rw [ea] at hsl c14 ⊢
  obtain ⟨d1,d2,d3⟩ := c14 g rfl
  rw [if_pos (by omega)] at b1
  rw [if_neg (by omega)] at hsl
  rw [if_pos ⟨h0,h14⟩] at b2
  simp only at hsl ⊢
  refine ⟨by rw [if_neg (by simp only; omega),d1]; omega,?_,by rw [hlo h0 d3]; exact b3,by simp only; omega,fun _ a => by simp only at a; omega,fun _ a => by simp only at a; omega⟩
  rw [if_neg (fun a => by have := a.2; simp only at this; omega),d1,d2]
  omega
end
def JW (c : Cfg) (s : AS) (u : US) (k : List Int × List Int) (n0 M : Nat) : Prop := ∃ t cs E,WA c s t cs u k E M ∧ JC n0 u s t cs
def JX (c : Cfg) (s : AS) (u : US) (k : List Int × List Int) (l : Nat) (cs0 : List Chn) (n0 M : Nat) : Prop := ∃ t cs E,WA c s t cs u k E M ∧ JC n0 u s t cs ∧ ∀ j,l < j → cs[j]? = cs0[j]?
def EndC (c : Cfg) (k : List Int × List Int) (n0 M n : Nat) (u : US) (s : AS) : Prop := ∃ m,m ≤ n ∧ 15 ≤ (urun m (u,s)).1.nx ∧ JW c (urun m (u,s)).2 (urun m (u,s)).1 k n0 (M + m)
def EndsUpC (c : Cfg) (k : List Int × List Int) (l : Nat) (cs0 : List Chn) (n0 M n : Nat) (u : US) (s : AS) : Prop := EndC c k n0 M n u s ∨ ∃ j,j ≤ n ∧ JX c (urun j (u,s)).2 (urun j (u,s)).1 k l cs0 n0 (M + j) ∧ (urun j (u,s)).1.nx = 1 ∧ (urun j (u,s)).1.way = some (MS.new (urun j (u,s)).1.sep (urun j (u,s)).1.lev) ∧ (urun j (u,s)).1.lev.toNat = l + 1
section
variable {c : Cfg} {s t : AS} {cs cs0 : List Chn} {u : US} {k : List Int × List Int} {E : List (List Int × List Int)} {M n0 l n m : Nat}
theorem JX.jw (h : JX c s u k l cs0 n0 M) : JW c s u k n0 M := by
 obtain ⟨t,cs,E,h1,h2,_⟩ := h
 exact ⟨t,cs,E,h1,h2⟩
theorem JX.wx (h : JX c s u k l cs0 n0 M) : WX c s u k l cs0 M := by
 obtain ⟨t,cs,E,h1,_,h3⟩ := h
 exact ⟨t,cs,E,h1,h3⟩
theorem EndC.now (h : JW c s u k n0 M) (hx : 15 ≤ u.nx) : EndC c k n0 M 0 u s := ⟨0,Nat.le_refl _,hx,h⟩
theorem EndC.mono (h : EndC c k n0 M n u s) (hm : n ≤ m) : EndC c k n0 M m u s := by
 obtain ⟨a,h1,h2⟩ := h
 exact ⟨a,Nat.le_trans h1 hm,h2⟩
theorem EndC.step (h : EndC c k n0 (M + 1) n (u.step s).u (u.step s).s) : EndC c k n0 M (n + 1) u s := by
 obtain ⟨a,h1,h2,h3⟩ := h
 exact ⟨a + 1,by omega,h2,by rw [show M + (a + 1) = M + 1 + a by omega]; exact h3⟩
theorem EndC.run {j : Nat} {u1 : US} {s1 : AS} (e : urun j (u,s) = (u1,s1)) (h : EndC c k n0 (M + j) n u1 s1) : EndC c k n0 M (j + n) u s := by
 obtain ⟨a,h1,h2,h3⟩ := h
 refine ⟨j + a,by omega,?_⟩
 rw [urun_add,e,← Nat.add_assoc]
 exact ⟨h2,h3⟩
theorem EndsUpC.mono (h : EndsUpC c k l cs0 n0 M n u s) (hm : n ≤ m) : EndsUpC c k l cs0 n0 M m u s := by
 rcases h with h | ⟨j,h1,h2⟩
 ·exact .inl (h.mono hm)
 ·exact .inr ⟨j,by omega,h2⟩
theorem EndsUpC.step (h : EndsUpC c k l cs0 n0 (M + 1) n (u.step s).u (u.step s).s) : EndsUpC c k l cs0 n0 M (n + 1) u s := by
 rcases h with h | ⟨j,h1,h2⟩
 ·exact .inl h.step
 ·refine .inr ⟨j + 1,by omega,?_⟩
  rw [show M + (j + 1) = M + 1 + j by omega]
  exact h2
theorem JC.room (h : WA c s t cs u k E M) (hj : JC n0 u s t cs) (hr : (2 * n0 + 5 : Int) ≤ c.nd) : s.allE = 0 := by
 have hT := h.g.vt.tre
 have hne := hT.ne
 have hc : cs[0]? = some cs[0] := List.getElem?_eq_getElem hne
 have h1 := Am.above hT h.am cs.length 0 _ (by omega) hc
 have h2 : cntC cs = cs[0].length + cntC (cs.drop (0 + 1)) := by
  have := List.drop_eq_getElem_cons (l := cs) (i := 0) hne
  rw [List.drop_zero] at this
  have e := congrArg cntC this
  rw [cntC_cons] at e
  exact e
 have h3 : cs.headD [] = cs[0] := by
  cases cs with
  | nil => simp at hne
  | cons a r => rfl
 have h4 := hj.lf
 have h5 := hj.sl
 rw [h3] at h4
 rw [← nod_cnt] at h5
 have h6 := h.nod
 have h7 : (if u.lev ≠ 0 then 1 else 0 : Nat) ≤ 1 := by split <;> omega
 have h8 : (if (u.nx = 7 ∨ u.nx = 8) ∨ (11 ≤ u.nx ∧ u.nx ≤ 14) then 1 else 0 : Nat) ≤ 1 := by split <;> omega
 unfold AS.allE
 rw [if_pos (by omega)]
theorem JW.step (h : JW c s u k n0 M) (hM : M < 4611686018427387904) (hr : (2 * n0 + 5 : Int) ≤ c.nd) (h2 : 2 ≤ u.nx) (h14 : u.nx ≤ 14) (hk : u.nx = 2 → s.lockB u.m.id u.m.wd = true) (h9 : u.nx = 9 → s.root = u.lft) : JW c (u.step s).s (u.step s).u k n0 (M + 1) := by
 obtain ⟨t,cs,E,hA,hj⟩ := h
 obtain ⟨t',cs',h1,hU,_,hC⟩ := hA.step hM
 exact ⟨t',cs',_,h1,hj.step hA hM h2 h14 (hj.room hA hr) hk h9 hA.g.vt.tre.ne h1.g.vt.tre.ne hU hC⟩
theorem JX.step (h : JX c s u k l cs0 n0 M) (hM : M < 4611686018427387904) (hr : (2 * n0 + 5 : Int) ≤ c.nd) (hl : u.lev.toNat = l) (h2 : 2 ≤ u.nx) (h13 : u.nx ≤ 13) (hk : u.nx = 2 → s.lockB u.m.id u.m.wd = true) (h9 : u.nx = 9 → s.root = u.lft) : JX c (u.step s).s (u.step s).u k l cs0 n0 (M + 1) := by
 obtain ⟨t,cs,E,hA,hj,hu⟩ := h
 obtain ⟨t',cs',h1,hU,_,hC⟩ := hA.step hM
 refine ⟨t',cs',_,h1,hj.step hA hM h2 (by omega) (hj.room hA hr) hk h9 hA.g.vt.tre.ne h1.g.vt.tre.ne hU hC,fun j hj2 => ?_⟩
 rw [hU (by omega) j (by omega)]
 exact hu j hj2
theorem JX.eight (h : JX c s u k l cs0 n0 M) (hr : (2 * n0 + 5 : Int) ≤ c.nd) (hl : u.lev.toNat = l) (hx : u.nx = 8) (hM : M + 1 < 4611686018427387904) : EndsUpC c k l cs0 n0 M 1 u s := by
 have hlv : 0 ≤ u.lev := by
  obtain ⟨t,cs,E,hA,_⟩ := h
  exact hA.ui.lev
 have e1 := h.wx.stepE (by omega) (by omega) (by omega) (by omega)
 have h1 := h.step (by omega) hr hl (by omega) (by omega) (fun e => by omega) (fun e => by omega)
 refine .inr ⟨1,Nat.le_refl _,?_⟩
 show JX c (u.step s).s (u.step s).u k l cs0 n0 (M + 1) ∧ (u.step s).u.nx = 1 ∧ (u.step s).u.way = some (MS.new (u.step s).u.sep (u.step s).u.lev) ∧ (u.step s).u.lev.toNat = l + 1
 refine ⟨h1,?_⟩
 rw [e1,act_eight hx]
 refine ⟨rfl,rfl,?_⟩
 show (u.lev + 1).toNat = l + 1
 omega
theorem JX.seven (hr : (2 * n0 + 5 : Int) ≤ c.nd) (d : Nat) : ∀ (u : US) (s : AS) (M : Nat),JX c s u k l cs0 n0 M → u.lev.toNat = l → u.nx = 7 → u.pc = 4 - (d : Int) → d ≤ 4 → M + d + 2 < 4611686018427387904 → EndsUpC c k l cs0 n0 M (d + 2) u s := by
 induction d with
 | zero =>
  intro u s M h hl hx hp _ hM
  have e1 := h.wx.stepE (by omega) (by omega) (by omega) (by omega)
  have h1 := h.step (by omega) hr hl (by omega) (by omega) (fun e => by omega) (fun e => by omega)
  have e2 := (act_seven (s := s) hx).2 (by omega)
  refine EndsUpC.step ?_
  rw [e1] at h1 ⊢
  exact h1.eight hr (by rw [e2]; exact hl) (by rw [e2]) (by omega)
 | succ d ih =>
  intro u s M h hl hx hp hd hM
  have e1 := h.wx.stepE (by omega) (by omega) (by omega) (by omega)
  have h1 := h.step (by omega) hr hl (by omega) (by omega) (fun e => by omega) (fun e => by omega)
  have e2 := (act_seven (s := s) hx).1 (by omega)
  refine EndsUpC.step ?_
  rw [e1] at h1 ⊢
  exact ih _ _ _ h1 (by rw [e2]; exact hl) (by rw [e2]; exact hx) (by rw [e2]; show u.pc + 1 = _; omega) (by omega) (by omega)
theorem JX.six (h : JX c s u k l cs0 n0 M) (hr : (2 * n0 + 5 : Int) ≤ c.nd) (hl : u.lev.toNat = l) (hx : u.nx = 6) (hM : M + 10 < 4611686018427387904) : EndsUpC c k l cs0 n0 M 7 u s := by
 have e1 := h.wx.stepE (by omega) (by omega) (by omega) (by omega)
 have h1 := h.step (by omega) hr hl (by omega) (by omega) (fun e => by omega) (fun e => by omega)
 obtain ⟨v,a⟩ := act_six (s := s) hx
 refine EndsUpC.step ?_
 rw [e1] at h1 ⊢
 rcases a with ⟨a1,a2⟩ | a1
 ·exact JX.seven hr 4 _ _ _ h1 (by rw [v]; exact hl) a1 (by rw [a2]; rfl) (Nat.le_refl _) (by omega)
 ·obtain ⟨_,_,_,_,hj,_⟩ := h1
  exact absurd a1 hj.n5
theorem JX.four (h : JX c s u k l cs0 n0 M) (hr : (2 * n0 + 5 : Int) ≤ c.nd) (hl : u.lev.toNat = l) (hx : u.nx = 4) (hM : M < 4611686018427387904) : EndsUpC c k l cs0 n0 M 1 u s := by
 have e1 := h.wx.stepE hM (by omega) (by omega) (by omega)
 have h1 := h.step hM hr hl (by omega) (by omega) (fun e => by omega) (fun e => by omega)
 refine .inl (EndC.step (EndC.now h1.jw ?_))
 rw [e1,act_four hx]
 exact Nat.le_refl 15
theorem JX.three (h : JX c s u k l cs0 n0 M) (hr : (2 * n0 + 5 : Int) ≤ c.nd) (hl : u.lev.toNat = l) (hx : u.nx = 3) (hM : M + 1 < 4611686018427387904) : EndsUpC c k l cs0 n0 M 2 u s := by
 have e1 := h.wx.stepE (by omega) (by omega) (by omega) (by omega)
 have h1 := h.step (by omega) hr hl (by omega) (by omega) (fun e => by omega) (fun e => by omega)
 refine EndsUpC.step ?_
 have e2 := act_three (s := s) hx
 rw [e1] at h1 ⊢
 exact h1.four hr (by rw [e2]; exact hl) (by rw [e2]) hM
theorem JX.two (h : JX c s u k l cs0 n0 M) (hr : (2 * n0 + 5 : Int) ≤ c.nd) (hl : u.lev.toNat = l) (hx : u.nx = 2) (hk : s.lockB u.m.id u.m.wd = true) (hM : M + 12 < 4611686018427387904) : EndsUpC c k l cs0 n0 M 8 u s := by
 have e1 := h.wx.stepE (by omega) (by omega) (by omega) (by omega)
 have h1 := h.step (by omega) hr hl (by omega) (by omega) (fun _ => hk) (fun e => by omega)
 obtain ⟨v,a⟩ := act_two hx hk
 refine EndsUpC.step ?_
 rw [e1] at h1 ⊢
 rcases a with a | a | a
 ·exact (h1.three hr (by rw [v]; exact hl) a (by omega)).mono (by omega)
 ·obtain ⟨_,_,_,_,hj,_⟩ := h1
  exact absurd a hj.n5
 ·exact h1.six hr (by rw [v]; exact hl) a (by omega)
end
section
variable {c : Cfg} {s t t2 : AS} {cs cs0 cs2 : List Chn} {u u2 : US} {k : List Int × List Int} {E E2 : List (List Int × List Int)} {M M2 n0 l n m : Nat} {nd lf inn fl bk : Int}
theorem Am.kids (h : Tre s nd lf inn fl bk cs) (ha : Am s cs) {c d : Chn} (hc : cs[l]? = some c) (hd : cs[l + 1]? = some d) : kidC s d ≤ c.length := by
 obtain ⟨i,hl⟩ := h.lk _ d hd
 have hok := h.ok _ d hd
 have ha' : ∀ x ∈ d,2 ≤ (s.n x.1).cs.length ∧ ∀ k ∈ (s.n x.1).ks,0 < cmpI k x.2 := fun x hx => ha l x ⟨d,hd,hx⟩
 have h1 := (Lk.klow d i [] hl hok (fun x hx => (ha' x hx).2)).1
 have hcs : ∀ x ∈ d,(s.n x.1).cs.length = (s.n x.1).ks.length + 1 := fun x hx => (nchk_more (hok.ck x hx)).2.2.1 (by have := hok.lv x hx; omega)
 have h2 : kidC s d = (klow s d).length := by
  unfold klow
  clear h1 hl hok hd ha'
  revert hcs
  induction d with
  | nil => intro _; rfl
  | cons x d ih =>
   intro hcs
   rw [kidC_cons,List.flatMap_cons,List.length_append,List.length_cons,ih (fun x hx => hcs x (.tail _ hx))]
   have e1 := hcs x (.head _)
   omega
 have h3 := nodup_sub (klow s d) (c.map (·.2)) (h1.imp (fun hab => cmp_ne hab)) (fun a hm => by
  unfold klow at hm
  obtain ⟨x,hx,hm⟩ := List.mem_flatMap.1 hm
  have hk := h.kid l c d hc hd x hx
  have e1 := hcs x hx
  have e2 := (ha' x hx).1
  rcases List.mem_cons.1 hm with e | hm
  ·rw [e]
   exact List.mem_map.2 ⟨_,hk 0 (by omega),rfl⟩
  ·obtain ⟨j,hj,rfl⟩ := List.getElem_of_mem hm
   refine List.mem_map.2 ⟨_,hk (j + 1) (by omega),?_⟩
   unfold AS.kidAt
   simp [hj])
 rw [List.length_map] at h3
 omega
theorem Am.tops (h : Tre s nd lf inn fl bk cs) (ha : Am s cs) : ∀ (n l : Nat) (d : Chn),cs.length = l + n + 1 → cs[cs.length - 1]? = some d → kidN s (cs.drop (l + 1)) + d.length ≤ nodN (cs.drop l)
 | 0,l,d,hn,hd => by
  have hl : l < cs.length := by omega
  have hz : cs.drop (l + 1) = [] := List.drop_eq_nil_of_le (by omega)
  rw [List.drop_eq_getElem_cons hl,hz]
  have e : cs[cs.length - 1]? = some cs[l] := by
   rw [show cs.length - 1 = l by omega]
   exact List.getElem?_eq_getElem hl
  rw [e] at hd
  obtain rfl := Option.some.inj hd
  unfold kidN nodN
  simp
 | n + 1,l,d,hn,hd => by
  have hl : l < cs.length := by omega
  have hl1 : l + 1 < cs.length := by omega
  have h1 := Am.tops h ha n (l + 1) d (by omega) hd
  have h2 := ha.kids h (List.getElem?_eq_getElem hl) (List.getElem?_eq_getElem hl1)
  rw [List.drop_eq_getElem_cons hl1] at h1 ⊢
  rw [List.drop_eq_getElem_cons hl,List.drop_eq_getElem_cons hl1]
  unfold kidN nodN at h1 ⊢
  simp only [List.map_cons,List.sum_cons] at h1 ⊢
  omega
theorem Am.top (h : Tre s nd lf inn fl bk cs) (ha : Am s cs) {d : Chn} (hd : cs[cs.length - 1]? = some d) : kidN s cs + d.length ≤ nodN cs := by
 have hne := h.ne
 obtain ⟨n,hn⟩ : ∃ n,cs.length = 0 + n + 1 := ⟨cs.length - 1,by omega⟩
 have h1 := Am.tops h ha n 0 d hn hd
 rw [List.drop_zero] at h1
 have h0 : kidC s cs[0] = 0 := by
  have hok := h.ok 0 _ (List.getElem?_eq_getElem hne)
  unfold kidC
  rw [List.length_eq_zero_iff,List.flatMap_eq_nil_iff]
  intro x hx
  have hlv := hok.lv x hx
  obtain ⟨_,hmb,_⟩ := may_of (hok.ck x hx)
  rcases hmb.bd with hb | hb
  ·exact List.length_eq_zero_iff.1 hb.2.1
  ·exact absurd hlv hb.1
 have h2 : kidN s cs = kidC s cs[0] + kidN s (cs.drop (0 + 1)) := by
  have := List.drop_eq_getElem_cons (l := cs) (i := 0) hne
  rw [List.drop_zero] at this
  have e := congrArg (kidN s) this
  rw [e]
  unfold kidN
  rw [List.map_cons,List.sum_cons]
 omega
theorem WA.nn (h : WA c s t cs u k E M) (hn : ∀ k,¬ u.odd k) : ∀ (l : Nat) (x : Int × List Int),memL cs l x → s.n x.1 = t.n x.1 := fun l x hm => h.g.vt.rd l x hm (.inl (h.even hn _ ((h.g.vt.inn _).1 (h.g.vt.tre.ckk hm).2.2)))
theorem WA.same (h : WA c s t cs u k E M) (h2 : WA c s t2 cs2 u2 k E2 M2) (hn : ∀ k,¬ u.odd k) (hn2 : ∀ k,¬ u2.odd k) : cs2 = cs ∧ kidN t2 cs2 = kidN t cs := by
 have hh := even_held (h.even hn)
 have a := (h.g.vt.look h.cfg.1 hh).1
 have b := (h2.g.vt.look h2.cfg.1 hh).1
 rw [a] at b
 have e : cs2 = cs := by
  have := Sum.inr.inj b
  exact (List.reverse_inj.1 this).symm
 subst e
 refine ⟨rfl,?_⟩
 rw [← kidN_same (t := t) (t' := s) (h.nn hn),← kidN_same (t := t2) (t' := s) (h2.nn hn2)]
theorem JC.move (h : WA c s t cs u k E M) (h2 : WA c s t2 cs2 u2 k E2 M2) (hj : JC n0 u s t cs) (hx : u.nx = 1) (hx2 : u2.nx = 2 ∨ u2.nx = 9) (hl : u2.lev = u.lev) (h3 : u2.lft = u.lft) (h4 : u2.rgt = u.rgt) : JC n0 u2 s t2 cs2 := by
 obtain ⟨e1,e2⟩ := h.same h2 (one_odd hx) (no_odd (by omega) (by omega))
 obtain ⟨b1,b2,b3,b5,b6,b7⟩ := hj
 subst e1
 rw [if_neg (by omega)] at b1
 refine ⟨by rw [if_neg (by omega)]; exact b1,?_,by rw [hl]; exact b3,by omega,fun a _ => by rw [h3,h4]; exact b6 (by rw [← hl]; exact a) (by omega),fun a => by omega⟩
 rw [e2,b2,hl]
 congr 1
 by_cases h0 : u.lev = 0
 ·rw [if_neg (fun g => g.1 h0),if_neg (fun g => g.1 h0)]
 ·rw [if_pos ⟨h0,by omega⟩,if_pos ⟨h0,by omega⟩]
theorem JC.root (h : WA c s t cs u k E M) (hj : JC n0 u s t cs) (hx : u.nx = 9) (hl : u.lev.toNat = cs.length) : s.root = u.lft := by
 have hlev := h.ui.up (by omega) (by omega)
 obtain ⟨⟨low,q1⟩,q2,_⟩ := h.ui.lk hlev (by omega)
 have hT := h.g.vt.tre
 have hkey := h.ui.key (by omega) (by omega)
 have hrl := hT.root_low
 rw [h.g.vt.root] at hrl
 rw [hl] at q1 q2
 obtain ⟨d,hd,hr⟩ := hrl
 obtain ⟨d1,hd1,hL⟩ := q1
 obtain ⟨d2,hd2,hR⟩ := q2
 rw [hd] at hd1 hd2
 obtain rfl := Option.some.inj hd1
 obtain rfl := Option.some.inj hd2
 have htop := Am.top hT h.am hd
 have hdf := hj.df
 rw [if_pos ⟨by omega,by omega⟩] at hdf
 have hlr := hj.lr (by omega) (by omega)
 refine Decidable.byContradiction fun hc => ?_
 have hrr : s.root ≠ u.rgt := fun e => by
  have := (hT.uniq (l := cs.length - 1) (l' := cs.length - 1) (j := s.root) (a := []) (b := u.sep) ⟨d,hd,hr⟩ (by rw [e]; exact ⟨d,hd,hR⟩)).2
  rw [← this] at hkey
  simp at hkey
 have hnd : [s.root,u.lft,u.rgt].Nodup := by simp [hc,hrr,hlr]
 have := nodup_sub [s.root,u.lft,u.rgt] (d.map (·.1)) hnd (fun x hx => by
  simp only [List.mem_cons,List.not_mem_nil,or_false] at hx
  rcases hx with rfl | rfl | rfl
  ·exact List.mem_map.2 ⟨_,hr,rfl⟩
  ·exact List.mem_map.2 ⟨_,hL,rfl⟩
  ·exact List.mem_map.2 ⟨_,hR,rfl⟩)
 rw [List.length_map] at this
 simp at this
 omega
end
section
variable {c : Cfg} {s t : AS} {cs cs0 : List Chn} {u : US} {k : List Int × List Int} {E : List (List Int × List Int)} {M n0 l n m : Nat}
theorem JX.fourteen (h : JX c s u k l cs0 n0 M) (hr : (2 * n0 + 5 : Int) ≤ c.nd) (hx : u.nx = 14) (hM : M < 4611686018427387904) : EndC c k n0 M 1 u s := by
 have e1 := h.wx.stepE hM (by omega) (by omega) (by omega)
 have h1 := h.jw.step hM hr (by omega) (by omega) (fun e => by omega) (fun e => by omega)
 obtain ⟨t,cs,E,hA,hj,_⟩ := h
 have hg : s.groB u.lft u.top = true := decide_eq_true ⟨(hA.ui.tp (by omega) (by omega)).1,hj.rt (by omega) (by omega)⟩
 refine EndC.step (EndC.now h1 ?_)
 rw [e1,act_g hx hg]
 exact Nat.le_refl 15
theorem JX.thirteen (h : JX c s u k l cs0 n0 M) (hr : (2 * n0 + 5 : Int) ≤ c.nd) (hl : u.lev.toNat = l) (hx : u.nx = 13) (hM : M + 1 < 4611686018427387904) : EndC c k n0 M 2 u s := by
 have e1 := h.wx.stepE (by omega) (by omega) (by omega) (by omega)
 have h1 := h.step (by omega) hr hl (by omega) (by omega) (fun e => by omega) (fun e => by omega)
 have e2 := (act_f (s := s) hx).1
 refine EndC.step ?_
 rw [e1] at h1 ⊢
 exact h1.fourteen hr (by rw [e2]) (by omega)
theorem JX.twelve (h : JX c s u k l cs0 n0 M) (hr : (2 * n0 + 5 : Int) ≤ c.nd) (hl : u.lev.toNat = l) (hx : u.nx = 12) (hM : M + 2 < 4611686018427387904) : EndC c k n0 M 3 u s := by
 have e1 := h.wx.stepE (by omega) (by omega) (by omega) (by omega)
 have h1 := h.step (by omega) hr hl (by omega) (by omega) (fun e => by omega) (fun e => by omega)
 have e2 := (act_t (s := s) hx).1
 refine EndC.step ?_
 rw [e1] at h1 ⊢
 exact h1.thirteen hr (by rw [e2]; exact hl) (by rw [e2]) (by omega)
theorem JX.eleven (h : JX c s u k l cs0 n0 M) (hr : (2 * n0 + 5 : Int) ≤ c.nd) (hl : u.lev.toNat = l) (hx : u.nx = 11) (hM : M + 3 < 4611686018427387904) : EndC c k n0 M 4 u s := by
 have e1 := h.wx.stepE (by omega) (by omega) (by omega) (by omega)
 have h1 := h.step (by omega) hr hl (by omega) (by omega) (fun e => by omega) (fun e => by omega)
 have e2 := (act_e (s := s) hx).1
 refine EndC.step ?_
 rw [e1] at h1 ⊢
 exact h1.twelve hr (by rw [e2]; exact hl) (by rw [e2]) (by omega)
theorem act_tenS (h : u.nx = 10) (hr : s.allE = 0) : (u.act s).u = { u with top := s.allI,nx := 11 } := by
 unfold US.act
 rw [h]
 simp only
 rw [if_pos hr]
theorem JX.ten (h : JX c s u k l cs0 n0 M) (hr : (2 * n0 + 5 : Int) ≤ c.nd) (hl : u.lev.toNat = l) (hx : u.nx = 10) (hM : M + 4 < 4611686018427387904) : EndC c k n0 M 5 u s := by
 have e1 := h.wx.stepE (by omega) (by omega) (by omega) (by omega)
 have h1 := h.step (by omega) hr hl (by omega) (by omega) (fun e => by omega) (fun e => by omega)
 have hro : s.allE = 0 := by
  obtain ⟨t,cs,E,hA,hj,_⟩ := h
  exact hj.room hA hr
 have e2 := act_tenS hx hro
 refine EndC.step ?_
 rw [e1] at h1 ⊢
 exact h1.eleven hr (by rw [e2]; exact hl) (by rw [e2]) (by omega)
theorem JX.nine (h : JX c s u k l cs0 n0 M) (hr : (2 * n0 + 5 : Int) ≤ c.nd) (hl : u.lev.toNat = l) (hx : u.nx = 9) (h9 : s.root = u.lft) (hM : M + 5 < 4611686018427387904) : EndC c k n0 M 6 u s := by
 have e1 := h.wx.stepE (by omega) (by omega) (by omega) (by omega)
 have h1 := h.step (by omega) hr hl (by omega) (by omega) (fun e => by omega) (fun _ => h9)
 have e2 : (u.act s).u = { u with nx := 10 } := by rw [act_nine hx,if_pos h9]
 refine EndC.step ?_
 rw [e1] at h1 ⊢
 exact h1.ten hr (by rw [e2]; exact hl) (by rw [e2]) (by omega)
theorem JC.ends (hr : (2 * n0 + 5 : Int) ≤ c.nd) : ∀ (n l : Nat) (s t : AS) (cs : List Chn) (u : US) (E : List (List Int × List Int)) (M : Nat),WA c s t cs u k E M → JC n0 u s t cs → u.nx = 1 → u.way = some (MS.new u.sep u.lev) → u.lev.toNat = l → cs.length = l + n → M + 8 * cntC (cs.drop l) + 5 * n + 100 < 4611686018427387904 → EndC c k n0 M (8 * cntC (cs.drop l) + 5 * n + 11) u s
 | 0,l,s,t,cs,u,E,M,h,hj,hx,hw,hl,hn,hM => by
  have hlev := h.ui.lev
  have hS := h.snd (one_odd hx)
  have hd := descN hS u.sep
  have e0 : ((cs.reverse.length : Nat) : Int) = u.lev := by rw [List.length_reverse]; omega
  have hl0 : u.lev ≠ 0 := by
   have := h.g.vt.tre.ne
   omega
  rw [e0] at hd
  obtain ⟨j,h1,h2,h3⟩ := down_end (s := s) hx hw (N := 5) (by simp [MS.new]) (by rw [hd]; simp) (.inr hl0)
  rw [hd] at h2
  rw [if_neg (by simp)] at h2
  have hX : WX c s u k l cs M := ⟨t,cs,E,h,fun _ _ => rfl⟩
  have h4 := WX.iter j u s M hX (by omega) (fun i hi => by
   obtain ⟨w,hw'⟩ := h3 i hi
   rw [hw']
   exact ⟨hl,by show u.nx ≠ 14; omega⟩)
  rw [h2] at h4
  obtain ⟨t2,cs2,E2,hA2,hup⟩ := h4
  have hj2 := hj.move h hA2 hx (.inr rfl) rfl rfl rfl
  have hsame := (h.same hA2 (one_odd hx) (no_odd (by simp only; omega) (by simp only; omega))).1
  have h9 := JC.root hA2 hj2 rfl (by show u.lev.toNat = _; rw [hsame]; omega)
  have h5 := JX.nine (l := l) (cs0 := cs) ⟨t2,cs2,E2,hA2,hj2,hup⟩ hr hl rfl h9 (by omega)
  exact (EndC.run h2 h5).mono (by omega)
 | n + 1,l,s,t,cs,u,E,M,h,hj,hx,hw,hl,hn,hM => by
  have hlev := h.ui.lev
  have hno := one_odd hx
  have hS := h.snd hno
  obtain ⟨hT,hA⟩ := h.tre hno
  have hlt : l < cs.length := by omega
  obtain ⟨q,hq,x,hxm,mo,e1,e2,e3⟩ := descT hS u.sep l (by rw [List.length_reverse]; exact hlt)
  have ec : cntC (cs.reverse.take (cs.reverse.length - l)) = cntC (cs.drop l) := by
   rw [List.take_reverse,cntC_rev,List.length_reverse]
   congr 2
   omega
  rw [ec] at hq
  have e0 : ((l : Nat) : Int) = u.lev := by omega
  rw [e0] at e1
  have hin : s.inn x.1 := by
   refine hS.in_ _ ?_ x hxm
   rw [List.length_reverse] at hxm ⊢
   have hb : cs.length - 1 - l < cs.reverse.length := by rw [List.length_reverse]; omega
   rw [List.getD_eq_getElem?_getD,List.getElem?_eq_getElem hb,Option.getD_some]
   exact List.getElem_mem hb
  have hid : x.1 ≠ 0 := by unfold AS.inn at hin; omega
  obtain ⟨j,h1,h2,h3⟩ := down_end (s := s) hx hw (N := q) (by simp [MS.new]) (by rw [e1]; simp) (.inl (by rw [e1]; exact hid))
  rw [e1] at h2
  rw [if_pos hid] at h2
  have hX : WX c s u k l cs M := ⟨t,cs,E,h,fun _ _ => rfl⟩
  have h4 := WX.iter j u s M hX (by omega) (fun i hi => by
   obtain ⟨w,hw'⟩ := h3 i hi
   rw [hw']
   exact ⟨hl,by show u.nx ≠ 14; omega⟩)
  rw [h2] at h4
  have hlk : s.lockB x.1 (s.w x.1) = true := decide_eq_true ⟨hin,rfl,hS.ev _ hin⟩
  obtain ⟨t2,cs2,E2,hA2,hup⟩ := h4
  have hj2 := hj.move h hA2 hx (.inl rfl) rfl rfl rfl
  have h5 := JX.two (l := l) (cs0 := cs) ⟨t2,cs2,E2,hA2,hj2,hup⟩ hr hl rfl hlk (by omega)
  have hc : cs[l]? = some cs[l] := List.getElem?_eq_getElem hlt
  have hab := Am.above hT hA cs.length l _ (by omega) hc
  have hdr : cntC (cs.drop l) = cs[l].length + cntC (cs.drop (l + 1)) := by rw [List.drop_eq_getElem_cons hlt,cntC_cons]
  have hpos : 1 ≤ cs[l].length := by
   obtain ⟨i,hi⟩ := hT.lk l _ hc
   have := List.length_pos_iff.2 hi.ne
   omega
  rcases h5 with h5 | ⟨j2,h6,h7⟩
  ·exact (EndC.run h2 h5).mono (by omega)
  ·obtain ⟨⟨t3,cs3,E3,hA3,hj3,hup3⟩,hx3,hw3,hl3⟩ := h7
   have hds := drop_same hup3
   have hlen : cs3.length = (l + 1) + n := by
    have g1 := congrArg List.length hds
    rw [List.length_drop,List.length_drop] at g1
    obtain ⟨⟨d,hd,_⟩,_⟩ := (hA3.ui.lk (by omega) (by omega)).2
    have := (List.getElem?_eq_some_iff.1 hd).1
    omega
   have hc2 : cntC (cs3.drop (l + 1)) = cntC (cs.drop (l + 1)) := by rw [hds]
   have h8 := JC.ends hr n (l + 1) _ _ _ _ _ _ hA3 hj3 hx3 hw3 hl3 hlen (by rw [hc2]; omega)
   rw [hc2] at h8
   exact (EndC.run h2 (EndC.run rfl h8)).mono (by omega)
end
def WK (c : Cfg) (s : AS) (n0 M : Nat) : Prop := ∃ t cs E,WG c s t cs [] M ∧ mp t cs = E ∧ Am t cs ∧ SB s ∧ WL s ∧ s.nodes = c.nd ∧ (cfgOk c.nd c.lf c.inn c.fl c.bk ∧ c.nd ≤ 1000) ∧ s.sl.length = nodN cs ∧ nodN cs = 1 + kidN t cs ∧ (cs.headD []).length ≤ n0
section
variable {c : Cfg} {s t : AS} {cs : List Chn} {u : US} {k : List Int × List Int} {E : List (List Int × List Int)} {M n0 n : Nat}
theorem WK.new (hc : cfgOk c.nd c.lf c.inn c.fl c.bk ∧ c.nd ≤ 1000) : WK c (AS.new c.nd) 1 0 := by
 refine ⟨_,_,_,wg_new hc.1,rfl,fun l x hm => ?_,SB.new hc.1.1.1,fun x hx => ?_,rfl,hc,rfl,rfl,Nat.le_refl _⟩
 ·obtain ⟨d,h1,_⟩ := hm
  simp at h1
 ·have : x = (0,NP.zero) := by simpa [AS.new] using hx
  rw [this]; decide
theorem WK.wb (h : WK c s n0 M) : ∃ E,WB c s E M := by
 obtain ⟨t,cs,E,h1,h2,h3,h4,h5,h6,h7,_⟩ := h
 exact ⟨E,t,cs,h1,h2,h3,h4,h5,h6,h7⟩
theorem us_new (c : Cfg) (key val : List Int) : (US.new c key val).lev = 0 ∧ ((US.new c key val).nx = 0 ∨ ((US.new c key val).nx = 1 ∧ (US.new c key val).way = some (MS.new (US.new c key val).sep (US.new c key val).lev))) := by
 unfold US.new
 split
 ·exact ⟨rfl,.inr ⟨rfl,rfl⟩⟩
 ·exact ⟨rfl,.inl rfl⟩
theorem WK.put (h : WK c s n0 M) (key val : List Int) : ∃ t cs E,WA c s t cs (US.new c key val) (key,val) E M ∧ JC n0 (US.new c key val) s t cs := by
 obtain ⟨t,cs,E,h1,h2,h3,h4,h5,h6,h7,h8,h9,h10⟩ := h
 obtain ⟨e1,e2⟩ := us_new c key val
 refine ⟨t,cs,E,⟨h1.more,h2,h3,h4,h5,UB.new,KV.new,h6,h7⟩,?_,?_,?_,?_,fun g => absurd e1 g,fun g => ?_⟩
 ·rw [if_neg (by omega)]; exact h8
 ·rw [if_neg (fun g => g.1 e1)]; exact h9
 ·rw [if_neg (fun g => g e1)]; exact h10
 ·omega
 ·omega
theorem JW.done (h : JW c s u k n0 M) (hx : 15 ≤ u.nx) : WK c s (n0 + 1) M := by
 obtain ⟨t,cs,E,h,hj⟩ := h
 have hno : ∀ k,¬ u.hol k := fun k g => by have := g.1; omega
 have hC : (CU [u]) = (CU []) := by
  funext k
  refine propext ⟨fun g => ?_,fun g => ?_⟩
  ·obtain ⟨i,v,h1,h2,_⟩ := g
   cases i with
   | zero =>
    obtain rfl := Option.some.inj h1
    exact absurd h2 (hno k)
   | succ i => simp at h1
  ·obtain ⟨i,v,h1,_⟩ := g
   simp at h1
 have hg : WG c s t cs [] M := ⟨by rw [← hC]; exact h.g.vt,fun i v hv => by simp at hv,fun i j v w hv => by simp at hv,fun i j v w hv => by simp at hv,fun k h1 h2 => by
  have := h.even (no_odd (by omega) (by omega)) k h1
  omega⟩
 obtain ⟨b1,b2,b3,b5,b6,b7⟩ := hj
 refine ⟨t,cs,E,hg,h.mp,h.am,h.sb,h.wl,h.nod,h.cfg,?_,?_,?_⟩
 ·rw [if_neg (by omega)] at b1; exact b1
 ·rw [if_neg (by omega)] at b2; exact b2
 ·have : (if u.lev ≠ 0 then 1 else 0 : Nat) ≤ 1 := by split <;> omega
  omega
theorem WK.ends (h : WK c s n0 M) (hn : n0 ≤ 60) (hr : (2 * n0 + 5 : Int) ≤ c.nd) (key val : List Int) (hM : M + 2000 < 4611686018427387904) : EndC c (key,val) n0 M 1000 (US.new c key val) s := by
 obtain ⟨t,cs,E,hA,hj⟩ := h.put key val
 obtain ⟨e1,e2⟩ := us_new c key val
 generalize US.new c key val = u at *
 rcases e2 with e2 | ⟨e2,e3⟩
 ·obtain ⟨t',cs',h1,hU,_,hC⟩ := hA.step (by omega)
  have es : u.step s = ⟨{ u with nx := 15,err := 3 },s,true,3⟩ := by
   unfold US.step US.act
   rw [if_neg (by omega),e2]
   rfl
  have hU' := hU (by omega)
  obtain ⟨c1,_⟩ := hC
  have hne := hA.g.vt.tre.ne
  have hne' := h1.g.vt.tre.ne
  have hh := nod_head hne hne' (fun j hj2 => hU' j (by omega))
  obtain ⟨d1,d2⟩ := c1 (by omega) (by omega) (fun e => by omega)
  refine (EndC.step (n := 0) ⟨0,Nat.le_refl _,?_,t',cs',_,h1,?_⟩).mono (by omega)
  ·show 15 ≤ (u.step s).u.nx
   rw [es]
   exact Nat.le_refl 15
  ·show JC n0 (u.step s).u (u.step s).s t' cs'
   rw [es]
   obtain ⟨b1,b2,b3,b5,b6,b7⟩ := hj
   rw [if_neg (by omega)] at b1 b2 b3
   refine ⟨by rw [if_neg (by simp only; omega),d1]; exact b1,by rw [if_neg (fun a => by have := a.2; simp only at this; omega),d1,d2]; exact b2,by simp only; omega,by simp only; omega,fun _ a => by simp only at a; omega,fun _ a => by simp only at a; omega⟩
 ·have hT := hA.g.vt.tre
  have hne := hT.ne
  have hc : cs[0]? = some cs[0] := List.getElem?_eq_getElem hne
  obtain ⟨m,hm⟩ : ∃ m,cs.length = 0 + m + 1 := ⟨cs.length - 1,by omega⟩
  have h1 := Am.above hT hA.am cs.length 0 _ (by omega) hc
  have h2 := Am.pow hT hA.am m 0 _ hm hc
  have h3 : cs.headD [] = cs[0] := by
   cases cs with
   | nil => simp at hne
   | cons a r => rfl
  have h4 : cntC cs = cs[0].length + cntC (cs.drop (0 + 1)) := by
   have := List.drop_eq_getElem_cons (l := cs) (i := 0) hne
   rw [List.drop_zero] at this
   have e := congrArg cntC this
   rw [cntC_cons] at e
   exact e
  have hf := hj.lf
  rw [if_neg (fun g => g e1),h3] at hf
  have hm5 : m ≤ 5 := by
   refine Nat.le_of_not_lt fun g => ?_
   have : 2 ^ 6 ≤ 2 ^ m := Nat.pow_le_pow_right (by omega) g
   omega
  have := JC.ends (k := (key,val)) hr cs.length 0 s t cs u E M hA hj e2 e3 (by omega) (by omega) (by rw [List.drop_zero]; omega)
  rw [List.drop_zero] at this
  exact this.mono (by omega)
end
section
variable {c : Cfg} {s t : AS} {cs : List Chn} {u : US} {k : List Int × List Int} {E : List (List Int × List Int)} {M n0 n : Nat}
theorem sum_erase {α : Type} [DecidableEq α] (f : α → Nat) : ∀ (b : List α) (x : α),x ∈ b → (b.map f).sum = f x + ((b.erase x).map f).sum
 | [],x,h => by cases h
 | y :: b,x,h => by
  by_cases e : y = x
  ·subst e
   rw [List.erase_cons_head,List.map_cons,List.sum_cons]
  ·rcases List.mem_cons.1 h with g | g
   ·exact absurd g.symm e
   have := sum_erase f b x g
   rw [List.erase_cons_tail (by simpa using e),List.map_cons,List.map_cons,List.sum_cons,List.sum_cons]
   omega
theorem sum_same {α : Type} [DecidableEq α] (f : α → Nat) : ∀ (a b : List α),a.Nodup → (∀ x ∈ a,x ∈ b) → a.length = b.length → (a.map f).sum = (b.map f).sum
 | [],b,_,_,hl => by
  have : b = [] := List.length_eq_zero_iff.1 hl.symm
  rw [this]
 | x :: a,b,hn,hs,hl => by
  rw [List.nodup_cons] at hn
  have hx := hs x (.head _)
  have h1 := sum_same f a (b.erase x) hn.2 (fun y hy => (List.mem_erase_of_ne (fun e : y = x => hn.1 (e ▸ hy))).2 (hs y (.tail _ hy))) (by
   rw [List.length_erase_of_mem hx]
   rw [List.length_cons] at hl
   omega)
  rw [sum_erase f b x hx,List.map_cons,List.sum_cons,h1]
theorem kid_sum (t : AS) (d : Chn) : kidC t d = ((d.map (·.1)).map fun i => (t.n i).cs.length).sum := by
 induction d with
 | nil => rfl
 | cons x d ih => rw [kidC_cons,ih]; rfl
theorem kids_sum (t : AS) (cs : List Chn) : kidN t cs = ((idsOf cs).map fun i => (t.n i).cs.length).sum := by
 unfold kidN idsOf
 induction cs with
 | nil => rfl
 | cons d cs ih => rw [List.map_cons,List.sum_cons,List.flatMap_cons,List.map_append,List.sum_append,ih,kid_sum]
def kidS (s : AS) (n : Nat) : Nat := ((List.range n).map fun i => (s.n ((i : Nat) + 1 : Int)).cs.length).sum
theorem kidS_succ (s : AS) (n : Nat) : kidS s (n + 1) = kidS s n + (s.n ((n : Nat) + 1 : Int)).cs.length := by
 unfold kidS
 rw [List.range_succ,List.map_append,List.sum_append]
 simp
theorem WK.whole (h : WK c s n0 M) : ∃ ls,s.look c.nd c.lf c.inn c.fl c.bk = .inr ls ∧ cntC ls = s.sl.length ∧ kidS s s.sl.length + 1 = s.sl.length := by
 obtain ⟨E,hb⟩ := h.wb
 have hh := hb.even
 obtain ⟨t,cs,E,h1,h2,h3,h4,h5,h6,h7,h8,h9,h10⟩ := h
 obtain ⟨a,b⟩ := h1.vt.look h7.1 hh
 have hev := held_even hh
 have hT := h1.vt.tre
 have hn : ∀ (l : Nat) (x : Int × List Int),memL cs l x → s.n x.1 = t.n x.1 := fun l x hm => h1.vt.rd l x hm (.inl (hev _ ((h1.vt.inn _).1 (hT.ckk hm).2.2)))
 refine ⟨_,a,by rw [cntC_rev,nod_cnt]; exact h8.symm,?_⟩
 have hmet := Tre.met hT cs.length (Nat.le_refl _)
 rw [List.take_length] at hmet
 have hc : (idsOf cs.reverse).length = s.sl.length := by
  show cntC cs.reverse = _
  rw [cntC_rev,nod_cnt]; exact h8.symm
 have e1 : kidN s cs.reverse = kidN t cs := by
  rw [← kidN_same (t := t) (t' := s) hn]
  unfold kidN
  rw [List.map_reverse,List.sum_reverse]
 rw [kids_sum] at e1
 have e2 := sum_same (fun i => (s.n i).cs.length) (idsOf cs.reverse) ((List.range s.sl.length).map fun i => ((i : Nat) + 1 : Int)) hmet.1 (fun x hx => by
  have := (h1.vt.inn _).1 (hmet.2 x hx).1
  unfold AS.inn at this
  exact List.mem_map.2 ⟨x.toNat - 1,List.mem_range.2 (by omega),by omega⟩) (by rw [List.length_map,List.length_range]; exact hc)
 have e3 : kidS s s.sl.length = (((List.range s.sl.length).map fun i => ((i : Nat) + 1 : Int)).map (fun i => (s.n i).cs.length)).sum := by
  unfold kidS
  rw [List.map_map]
  rfl
 omega
end
end Go.Proofs.YtggaipeojncipaaGreat
