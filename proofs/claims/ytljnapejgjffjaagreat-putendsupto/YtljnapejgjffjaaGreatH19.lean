/- Texts of one's own. -/
import Derived.Test.YtljnapejgjffjaaGreatH18
namespace Go.Proofs.YtljnapejgjffjaaGreat
open Go.RowKit
set_option maxRecDepth 100000
theorem cmp_lt_trans {a b c : List Int} (h1 : cmpI a b < 0) (h2 : cmpI b c < 0) : cmpI a c < 0 := (cmpI_trans a b c (by omega) (by omega)).2 h1
theorem Rs.far {l : List (List Int)} (h : Rs l) : ∀ d i,i + d + 1 < l.length → cmpI (l.getD i []) (l.getD (i + d + 1) []) < 0
 | 0,i,hi => h i (by omega)
 | d + 1,i,hi => cmp_lt_trans (Rs.far h d i (by omega)) (h (i + d + 1) (by omega))
theorem Rs.pair {l : List (List Int)} (h : Rs l) : l.Pairwise fun a b => cmpI a b < 0 := by
 rw [List.pairwise_iff_getElem]
 intro i j hi hj hij
 have := h.far (j - i - 1) i (by omega)
 rw [show i + (j - i - 1) + 1 = j by omega] at this
 simpa [hi,hj] using this
theorem Rs.of {l : List (List Int)} (h : l.Pairwise fun a b => cmpI a b < 0) : Rs l := by
 intro j hj
 rw [List.pairwise_iff_getElem] at h
 have h1 : j < l.length := by omega
 have h2 : j + 1 < l.length := by omega
 have := h j (j + 1) h1 h2 (by omega)
 simpa [h1,h2] using this
theorem isIn_iff {ks : List (List Int)} {key : List Int} : isIn ks key = true ↔ key ∈ ks := by
 unfold isIn
 simp [List.any_eq_true]
theorem isIn_false {ks : List (List Int)} {key : List Int} : isIn ks key = false ↔ key ∉ ks := by
 rw [← isIn_iff]; cases isIn ks key <;> simp
theorem cntB_cons (a : List Int) (r : List (List Int)) (key : List Int) : cntB (a :: r) key = cntB r key + if cmpI a key < 0 then 1 else 0 := by
 simp [cntB,List.countP_cons]
theorem cntB_zero {r : List (List Int)} {key : List Int} (h : ∀ x ∈ r,¬ cmpI x key < 0) : cntB r key = 0 := by
 unfold cntB
 rw [List.countP_eq_zero]
 intro x hx
 simp only [decide_eq_true_eq]
 exact h x hx
theorem cmp_gt {a b : List Int} (h : cmpI a b < 0) : ¬ cmpI b a < 0 := by rw [cmpI_swap a b]; omega
theorem cmp_ne {a b : List Int} (h : cmpI a b < 0) : a ≠ b := fun e => by rw [e,cmpI_refl] at h; omega
theorem parts : ∀ (ks : List (List Int)) (key : List Int),(ks.Pairwise fun a b => cmpI a b < 0) →
  ∃ A B,(∀ x ∈ A,cmpI x key < 0) ∧ (∀ x ∈ B,cmpI key x < 0) ∧ cntB ks key = A.length ∧ ((isIn ks key = true ∧ ks = A ++ key :: B) ∨ (isIn ks key = false ∧ ks = A ++ B))
 | [],key,_ => ⟨[],[],fun x hx => (by cases hx),fun x hx => (by cases hx),rfl,.inr ⟨rfl,rfl⟩⟩
 | a :: r,key,h => by
  rw [List.pairwise_cons] at h
  obtain ⟨A,B,hA,hB,hc,hor⟩ := parts r key h.2
  rcases cmpI_range a key with h1 | h1 | h1
  ·have hal : cmpI a key < 0 := by omega
   refine ⟨a :: A,B,fun x hx => ?_,hB,by rw [cntB_cons,if_pos hal,hc]; rfl,?_⟩
   ·rcases List.mem_cons.1 hx with rfl | hx
    ·exact hal
    ·exact hA x hx
   ·rcases hor with ⟨h2,h3⟩ | ⟨h2,h3⟩
    ·exact .inl ⟨by rw [isIn_iff]; exact List.mem_cons_of_mem _ (isIn_iff.1 h2),by rw [h3]; rfl⟩
    ·refine .inr ⟨?_,by rw [h3]; rfl⟩
     rw [isIn_false]
     intro hm
     rcases List.mem_cons.1 hm with e | hm
     ·exact cmp_ne hal e.symm
     ·exact (isIn_false.1 h2) hm
  ·obtain rfl := cmpI_zero a key h1
   have hz : cntB r a = 0 := cntB_zero fun x hx => cmp_gt (h.1 x hx)
   have hA0 : A = [] := List.eq_nil_of_length_eq_zero (by omega)
   subst hA0
   refine ⟨[],r,fun x hx => (by cases hx),h.1,by rw [cntB_cons,hz,if_neg (by omega)]; rfl,.inl ⟨by rw [isIn_iff]; exact List.mem_cons_self,rfl⟩⟩
  ·have hg : cmpI key a < 0 := by rw [cmpI_swap a key]; omega
   have hz : cntB r key = 0 := cntB_zero fun x hx => cmp_gt (cmp_lt_trans hg (h.1 x hx))
   refine ⟨[],a :: r,fun x hx => (by cases hx),fun x hx => ?_,by rw [cntB_cons,hz,if_neg (by omega)]; rfl,.inr ⟨?_,rfl⟩⟩
   ·rcases List.mem_cons.1 hx with rfl | hx
    ·exact hg
    ·exact cmp_lt_trans hg (h.1 x hx)
   ·rw [isIn_false]
    intro hm
    rcases List.mem_cons.1 hm with e | hm
    ·exact cmp_ne hg e
    ·exact cmp_ne (cmp_lt_trans hg (h.1 key hm)) rfl
theorem insL_at {α : Type} (A B : List α) (x : α) : insL (A ++ B) A.length x = A ++ x :: B := by simp [insL]
theorem remL_at {α : Type} (A B : List α) (x : α) : remL (A ++ x :: B) A.length = A ++ B := by simp [remL,List.drop_append]
theorem split_at {α : Type} {l : List α} {i : Nat} (h : i ≤ l.length) : ∃ A B,l = A ++ B ∧ A.length = i := ⟨l.take i,l.drop i,(List.take_append_drop i l).symm,by rw [List.length_take]; omega⟩
theorem split_at1 {α : Type} {l : List α} {i : Nat} (h : i < l.length) : ∃ A x B,l = A ++ x :: B ∧ A.length = i := ⟨l.take i,l[i],l.drop (i + 1),by rw [← List.drop_eq_getElem_cons h,List.take_append_drop],by rw [List.length_take]; omega⟩
theorem TCells.takeN {W : World} {a : Option Addr} {L : List Tx} (h : TCells W a L) (n : Nat) : TCells W a (L.take n) := by
 intro i hi
 have hi' : i < n ∧ i < L.length := by rw [List.length_take] at hi; omega
 obtain ⟨b,o,ha,hc⟩ := h i hi'.2
 refine ⟨b,o,ha,?_⟩
 rw [List.getElem_take]; exact hc
theorem TCells.dropN {W : World} {a : Option Addr} {L : List Tx} (h : TCells W a L) (n m : Nat) (hm : L.length ≤ m) : TCells W (cutAt a n m) (L.drop n) := by
 intro i hi
 have hi' : n + i < L.length := by rw [List.length_drop] at hi; omega
 obtain ⟨b,o,rfl,hc⟩ := h (n + i) hi'
 refine ⟨b,o + n,?_,?_⟩
 ·unfold cutAt; rw [if_neg (by omega)]; simp [Addr.add_lit]
 ·rw [List.getElem_drop,Nat.add_assoc]; exact hc
theorem TL.Ok.cutL {W : World} {t : TL} (h : t.Ok W) (m : Nat) (hm : m ≤ t.L.length) : (⟨t.a,m,t.L.take m⟩ : TL).Ok W :=
 ⟨h.r.takeN m,fun x hx => h.ok x (List.mem_of_mem_take hx),fun e => by have := (h.n e).1; simp only [List.length_take]; omega,by simp only [List.length_take]; omega⟩
theorem TL.Ok.cutR {W : World} {t : TL} (h : t.Ok W) (m : Nat) : (⟨cutAt t.a m t.L.length,t.L.length - m,t.L.drop m⟩ : TL).Ok W :=
 ⟨h.r.dropN m t.L.length (Nat.le_refl _),fun x hx => h.ok x (List.mem_of_mem_drop hx),fun e => by have := (h.n (cutAt_none e)).1; simp only [List.length_drop]; omega,by simp only [List.length_drop]; omega⟩
theorem row_takeN {W : World} {k : IntKind} {a : Option Addr} {s : List Int} (h : Row W k a s) (n : Nat) : Row W k a (s.take n) := by
 intro i hi
 have hi' : i < n ∧ i < s.length := by rw [List.length_take] at hi; omega
 obtain ⟨b,o,ha,hc⟩ := h i hi'.2
 refine ⟨b,o,ha,?_⟩
 rw [List.getD_eq_getElem?_getD,List.getElem?_take_of_lt hi'.1,← List.getD_eq_getElem?_getD]; exact hc
theorem row_dropN {W : World} {k : IntKind} {a : Option Addr} {s : List Int} (h : Row W k a s) (n m : Nat) (hm : s.length ≤ m) : Row W k (cutAt a n m) (s.drop n) := by
 intro i hi
 have hi' : n + i < s.length := by rw [List.length_drop] at hi; omega
 obtain ⟨b,o,rfl,hc⟩ := h (n + i) hi'
 refine ⟨b,o + n,?_,?_⟩
 ·unfold cutAt; rw [if_neg (by omega)]; simp [Addr.add_lit]
 ·rw [List.getD_eq_getElem?_getD,List.getElem?_drop,← List.getD_eq_getElem?_getD,Nat.add_assoc]; exact hc
theorem IL.Ok.cutL {W : World} {t : IL} (h : t.Ok W) (m : Nat) (hm : m ≤ t.s.length) : (⟨t.a,m,t.s.take m⟩ : IL).Ok W :=
 ⟨row_takeN h.r m,fun e => by have := (h.n e).1; simp only [List.length_take]; omega,by simp only [List.length_take]; omega⟩
theorem IL.Ok.cutR {W : World} {t : IL} (h : t.Ok W) (m : Nat) : (⟨cutAt t.a m t.s.length,t.s.length - m,t.s.drop m⟩ : IL).Ok W :=
 ⟨row_dropN h.r m t.s.length (Nat.le_refl _),fun e => by have := (h.n (cutAt_none e)).1; simp only [List.length_drop]; omega,by simp only [List.length_drop]; omega⟩
def TL.left (t : TL) (h : Nat) : TL := ⟨t.a,min h t.L.length,t.L.take (min h t.L.length)⟩
def TL.rest (t : TL) (h : Nat) : TL := ⟨cutAt t.a (min h t.L.length) t.L.length,t.L.length - min h t.L.length,t.L.drop (min h t.L.length)⟩
def IL.left (t : IL) (h : Nat) : IL := ⟨t.a,min h t.s.length,t.s.take (min h t.s.length)⟩
def IL.rest (t : IL) (h : Nat) : IL := ⟨cutAt t.a (min h t.s.length) t.s.length,t.s.length - min h t.s.length,t.s.drop (min h t.s.length)⟩
theorem TL.Ok.left {W : World} {t : TL} (h : t.Ok W) (m : Nat) : (t.left m).Ok W := h.cutL _ (Nat.min_le_right _ _)
theorem TL.Ok.rest {W : World} {t : TL} (h : t.Ok W) (m : Nat) : (t.rest m).Ok W := h.cutR _
theorem IL.Ok.left {W : World} {t : IL} (h : t.Ok W) (m : Nat) : (t.left m).Ok W := h.cutL _ (Nat.min_le_right _ _)
theorem IL.Ok.rest {W : World} {t : IL} (h : t.Ok W) (m : Nat) : (t.rest m).Ok W := h.cutR _
theorem take_min {α : Type} (l : List α) (m : Nat) : l.take (min m l.length) = l.take m := by
 rcases Nat.le_total m l.length with h | h
 ·rw [Nat.min_eq_left h]
 ·rw [Nat.min_eq_right h,List.take_of_length_le (Nat.le_refl _),List.take_of_length_le h]
theorem drop_min {α : Type} (l : List α) (m : Nat) : l.drop (min m l.length) = l.drop m := by
 rcases Nat.le_total m l.length with h | h
 ·rw [Nat.min_eq_left h]
 ·rw [Nat.min_eq_right h,List.drop_of_length_le (Nat.le_refl _),List.drop_of_length_le h]
theorem TL.left_p (t : TL) (m : Nat) : (t.left m).p = t.p.take m := by
 unfold TL.left TL.p
 simp only [take_min,List.map_take]
theorem TL.rest_p (t : TL) (m : Nat) : (t.rest m).p = t.p.drop m := by
 unfold TL.rest TL.p
 simp only [drop_min,List.map_drop]
theorem IL.left_s (t : IL) (m : Nat) : (t.left m).s = t.s.take m := take_min _ _
theorem IL.rest_s (t : IL) (m : Nat) : (t.rest m).s = t.s.drop m := drop_min _ _
theorem TL.left_v (t : TL) (m : Nat) : (t.left m).v = .slice t.a (min m t.L.length) (min m t.L.length) := by
 unfold TL.left TL.v
 simp only [List.length_take,Nat.min_assoc,Nat.min_self]
theorem TL.rest_v (t : TL) (m : Nat) : (t.rest m).v = .slice (cutAt t.a (min m t.L.length) t.L.length) (t.L.length - min m t.L.length) (t.L.length - min m t.L.length) := by
 unfold TL.rest TL.v
 simp only [List.length_drop]
theorem IL.left_v (t : IL) (m : Nat) : (t.left m).v = .slice t.a (min m t.s.length) (min m t.s.length) := by
 unfold IL.left IL.v
 simp only [List.length_take,Nat.min_assoc,Nat.min_self]
theorem IL.rest_v (t : IL) (m : Nat) : (t.rest m).v = .slice (cutAt t.a (min m t.s.length) t.s.length) (t.s.length - min m t.s.length) (t.s.length - min m t.s.length) := by
 unfold IL.rest IL.v
 simp only [List.length_drop]
def NP.wd (p : NP) : Nat := if p.lv = 0 then p.ks.length else p.cs.length
def NP.half (p : NP) : Nat := (p.wd + 1) / 2
def NP.cutK (p : NP) : Nat := if p.lv = 0 then p.half else p.half - 1
def NP.bet (p : NP) : List Int := (p.ks.drop p.cutK).headD []
def NP.restK (p : NP) : List (List Int) := if p.lv = 0 then p.ks.drop p.cutK else (p.ks.drop p.cutK).drop 1
def NP.one (p : NP) (right : Int) : NP := ⟨p.lv,p.bet,right,p.ks.take p.cutK,p.vs.take p.half,p.cs.take p.half⟩
def NP.two (p : NP) : NP := ⟨p.lv,p.hi,p.ri,p.restK,p.vs.drop p.half,p.cs.drop p.half⟩
theorem Rs.lt {l : List (List Int)} (h : Rs l) : ∀ d i,i + d + 1 < l.length → cmpI (l.getD i []) (l.getD (i + d + 1) []) < 0
 | 0,i,hi => h i (by omega)
 | d + 1,i,hi => by
  have h1 := Rs.lt h d i (by omega)
  have h2 := h (i + d + 1) (by omega)
  exact (cmpI_trans _ _ _ (Int.le_of_lt h1) (Int.le_of_lt h2)).2 h1
theorem Rs.at_lt {l : List (List Int)} (h : Rs l) {i j : Nat} (hij : i < j) (hj : j < l.length) : cmpI (l.getD i []) (l.getD j []) < 0 := by
 obtain ⟨d,rfl⟩ : ∃ d,j = i + d + 1 := ⟨j - i - 1,by omega⟩
 exact h.lt d i hj
theorem NP.bet_at (p : NP) : p.bet = p.ks.getD p.cutK [] := by
 unfold NP.bet
 generalize p.cutK = c
 rw [List.headD_eq_head?_getD,List.head?_drop,List.getD_eq_getElem?_getD]
theorem wd_few {p : NP} (h : RtP p) : p.wd = if 0 < p.lv then p.cs.length else p.ks.length := by
 unfold NP.wd
 rcases h.2 with h1 | h1
 ·rw [if_pos h1.1,if_neg (by omega)]
 ·rw [if_neg (by omega),if_pos h1.1]
theorem cutK_lt {p : NP} (h : RtP p) (hw : 2 ≤ p.wd) : p.cutK < p.ks.length := by
 have e := wd_few h
 unfold NP.cutK NP.half
 rcases h.2 with h1 | h1
 ·rw [if_pos h1.1]; rw [if_neg (by omega)] at e; omega
 ·rw [if_neg (by omega)]; rw [if_pos h1.1] at e; omega
theorem keys_l {p : NP} (h : RtP p) (hw : 2 ≤ p.wd) (i : Nat) (hi : i < (p.ks.take p.cutK).length) : cmpI ((p.ks.take p.cutK)[i]) p.bet < 0 := by
 have hc := cutK_lt h hw
 rw [List.length_take] at hi
 rw [NP.bet_at,List.getElem_take]
 have := h.1.at_lt (i := i) (j := p.cutK) (by omega) hc
 rwa [List.getD_eq_getElem?_getD,List.getElem?_eq_getElem (by omega),Option.getD_some] at this
theorem keys_r {p : NP} (h : RtP p) (hw : 2 ≤ p.wd) (i : Nat) (hi : i < p.restK.length) : ¬ cmpI (p.restK[i]) p.bet < 0 := by
 have hc := cutK_lt h hw
 obtain ⟨j,hj1,hj2,hj3⟩ : ∃ j,p.cutK ≤ j ∧ ∃ hj : j < p.ks.length,p.restK[i] = p.ks[j] := by
  by_cases e : p.lv = 0
  ·have e1 : p.restK = p.ks.drop p.cutK := if_pos e
   have hl : i < (p.ks.drop p.cutK).length := by rw [← e1]; exact hi
   rw [List.length_drop] at hl
   refine ⟨p.cutK + i,by omega,by omega,?_⟩
   simp only [e1,List.getElem_drop]
  ·have e1 : p.restK = (p.ks.drop p.cutK).drop 1 := if_neg e
   have hl : i < ((p.ks.drop p.cutK).drop 1).length := by rw [← e1]; exact hi
   rw [List.length_drop,List.length_drop] at hl
   refine ⟨p.cutK + (1 + i),by omega,by omega,?_⟩
   simp only [e1,List.getElem_drop]
 rw [hj3,NP.bet_at]
 intro hlt
 have e2 : p.ks[j] = p.ks.getD j [] := by rw [List.getD_eq_getElem?_getD,List.getElem?_eq_getElem hj2,Option.getD_some]
 rw [e2] at hlt
 by_cases e : j = p.cutK
 ·rw [e,cmpI_refl] at hlt; omega
 ·have := h.1.at_lt (i := p.cutK) (j := j) (by omega) hj2
  rw [cmpI_swap] at hlt
  omega
end Go.Proofs.YtljnapejgjffjaaGreat
