/- Nodes of arenas, as such. -/
import Derived.Test.YtpljbgcofmlhbaaGreatG24
import Derived.Test.YtpljbgcofmlhbaaGreatG20
import Derived.Test.YtpljbgcofmlhbaaGreatG22
namespace Go.Proofs.YtpljbgcofmlhbaaGreat
open Go.RowKit
set_option maxRecDepth 100000
theorem AS.idx_ne {s : AS} {j k : Int} (hj : s.inn j) (hk : s.inn k) (h : j ≠ k) : (j - 1).toNat ≠ (k - 1).toNat := by unfold AS.inn at *; omega
theorem AS.n_setw {s : AS} {k : Int} (hk : s.inn k) (x : Nat) (j : Int) : (s.setw k x).n j = s.n j := by
 obtain ⟨i, hi, _, e⟩ := AS.idx hk
 unfold AS.n AS.setw
 simp only [e]
 by_cases h : (j - 1).toNat = i
 ·rw [h, List.getD_eq_getElem?_getD, List.getElem?_set_self hi]
  unfold AS.n
  rw [e]; rfl
 ·rw [List.getD_eq_getElem?_getD, List.getElem?_set_ne (fun e => h e.symm), ← List.getD_eq_getElem?_getD]
theorem AS.n_setn {s : AS} {k : Int} (hk : s.inn k) (p : NP) {j : Int} (hj : s.inn j) : (s.setn k p).n j = if j = k then p else s.n j := by
 obtain ⟨i, hi, _, e⟩ := AS.idx hk
 unfold AS.n AS.setn
 simp only [e]
 by_cases h : j = k
 ·rw [if_pos h, h, e, List.getD_eq_getElem?_getD, List.getElem?_set_self hi]
  rfl
 ·have hne := AS.idx_ne hj hk h
  rw [e] at hne
  rw [if_neg h, List.getD_eq_getElem?_getD, List.getElem?_set_ne (fun e => hne e.symm), ← List.getD_eq_getElem?_getD]
theorem AS.w_setn {s : AS} {k : Int} (hk : s.inn k) (p : NP) (j : Int) : (s.setn k p).w j = s.w j := by
 obtain ⟨i, hi, _, e⟩ := AS.idx hk
 unfold AS.w AS.setn
 simp only [e]
 by_cases h : (j - 1).toNat = i
 ·rw [h, List.getD_eq_getElem?_getD, List.getElem?_set_self hi]
  unfold AS.w
  rw [e]; rfl
 ·rw [List.getD_eq_getElem?_getD, List.getElem?_set_ne (fun e => h e.symm), ← List.getD_eq_getElem?_getD]
theorem AS.setn_len (s : AS) (k : Int) (p : NP) : (s.setn k p).sl.length = s.sl.length := by simp [AS.setn]
theorem AS.inn_of_len {s t : AS} (h : t.sl.length = s.sl.length) (j : Int) : t.inn j ↔ s.inn j := by unfold AS.inn; rw [h]
structure SetBoth (s s2 s3 s4 : AS) (k : Int) (p : NP) : Prop where
 e2 : s2.unlE k = 0
 e3 : s3.unlE k = 0
 len : s4.sl.length = s.sl.length
 root : s4.root = s.root
 rd : ∀ j, s.inn j → s4.rd j = if j = k then p else s.n j
theorem set_both {s : AS} {k : Int} (hk : s.inn k) (p : NP) : SetBoth s (s.lockS k (s.w k)) ((s.lockS k (s.w k)).hedS k p.lv p.hi p.ri) (((s.lockS k (s.w k)).hedS k p.lv p.hi p.ri).bodS k p.ks p.vs p.cs) k p := by
 obtain ⟨t1, t2, _⟩ := took_held hk
 have hodd : (s.lockS k (s.w k)).w k % 2 = 1 := by rw [t2]; split <;> omega
 have hl2 : (s.lockS k (s.w k)).sl.length = s.sl.length := by unfold AS.lockS; split; exact AS.setw_len _ _ _; rfl
 have hr2 : (s.lockS k (s.w k)).root = s.root := by unfold AS.lockS; split <;> rfl
 have hn2 : ∀ j, (s.lockS k (s.w k)).n j = s.n j := fun j => by unfold AS.lockS; split; exact AS.n_setw hk _ j; rfl
 generalize s.lockS k (s.w k) = s2 at *
 have e2 : s2.unlE k = 0 := by unfold AS.unlE; rw [if_pos t1, if_neg (by omega)]
 have h3 : s2.hedS k p.lv p.hi p.ri = s2.setn k ((s2.n k).setH p.lv p.hi p.ri) := if_pos e2
 rw [h3]
 have t3 : (s2.setn k ((s2.n k).setH p.lv p.hi p.ri)).inn k := (AS.inn_of_len (AS.setn_len _ _ _) k).2 t1
 have e3 : (s2.setn k ((s2.n k).setH p.lv p.hi p.ri)).unlE k = 0 := by unfold AS.unlE; rw [if_pos t3, if_neg (by rw [AS.w_setn t1]; omega)]
 have h4 : (s2.setn k ((s2.n k).setH p.lv p.hi p.ri)).bodS k p.ks p.vs p.cs = (s2.setn k ((s2.n k).setH p.lv p.hi p.ri)).setn k (((s2.setn k ((s2.n k).setH p.lv p.hi p.ri)).n k).setB p.ks p.vs p.cs) := if_pos e3
 rw [h4]
 refine ⟨e2, e3, by rw [AS.setn_len, AS.setn_len]; exact hl2, hr2, fun j hj => ?_⟩
 have hj2 : s2.inn j := (AS.inn_of_len hl2 j).2 hj
 have hj3 : (s2.setn k ((s2.n k).setH p.lv p.hi p.ri)).inn j := (AS.inn_of_len (AS.setn_len _ _ _) j).2 hj2
 unfold AS.rd
 rw [if_pos ((AS.inn_of_len (AS.setn_len _ _ _) j).2 hj3), AS.n_setn t3 _ hj3]
 by_cases h : j = k
 ·rw [if_pos h, if_pos h, AS.n_setn t1 _ t1, if_pos rfl]
  rfl
 ·rw [if_neg h, if_neg h, AS.n_setn t1 _ hj2, if_neg h, hn2]
def Six' (W : World) (b o : Nat) (n : Nd) : Prop := W.cell? ⟨b, o, none⟩ = some (.int .i64 n.lv) ∧ W.cell? ⟨b, o + 1, none⟩ = some n.hi.v ∧ W.cell? ⟨b, o + 2, none⟩ = some (.int .i64 n.ri) ∧ W.cell? ⟨b, o + 3, none⟩ = some n.ks.v ∧ W.cell? ⟨b, o + 4, none⟩ = some n.vs.v ∧ W.cell? ⟨b, o + 5, none⟩ = some n.cs.v
theorem AW.slots {K : Nat → Prop} {W : World} {P AX AY : Nat} {s t : AS} (h : AW K W P AX AY s t) : ∃ g c, W.cell? ⟨AY, 1, none⟩ = some (.slice (some ⟨g, 0, none⟩) t.sl.length c) ∧ ∀ i : Nat, i < t.sl.length → ∃ n : Nd, n.Ok W ∧ n.p = t.n ((i : Int) + 1) ∧ Six' W g (i * 7 + 1) n := by
 obtain ⟨F, g, c, M, D, L, h1, h2, _⟩ := h.rx
 refine ⟨g, c, by rw [← ndsR_lenS h2]; exact h1.cells.2.1, fun i hi => ?_⟩
 have hi' : i < L.length := by rw [ndsR_lenS h2]; exact hi
 exact ⟨L[i].n, (h1.sl L[i] (List.getElem_mem hi')).n, ((ndsR_at h2 hi' rfl).2).symm, h1.ncells i hi'⟩
end Go.Proofs.YtpljbgcofmlhbaaGreat
namespace Go.Proofs.YtpljbgcofmlhbaaGreat
open Go.RowKit
set_option maxRecDepth 100000
def SzP (B : Nat) (p : NP) : Prop := p.ks.length ≤ B ∧ p.vs.length ≤ B ∧ p.cs.length ≤ B
theorem SzP.mono {B C : Nat} {p : NP} (h : SzP B p) (hc : B ≤ C) : SzP C p := ⟨Nat.le_trans h.1 hc, Nat.le_trans h.2.1 hc, Nat.le_trans h.2.2 hc⟩
def SR (s : AS) (B : Nat) : Prop := ∀ j, s.inn j → RtP (s.n j) ∧ SzP B (s.n j)
theorem SR.mono {s : AS} {B C : Nat} (h : SR s B) (hc : B ≤ C) : SR s C := fun j hj => ⟨(h j hj).1, (h j hj).2.mono hc⟩
theorem rt_zero : RtP NP.zero := ⟨fun j hj => absurd hj (by simp [NP.zero]), .inl ⟨rfl, rfl, rfl⟩⟩
theorem sz_zero (B : Nat) : SzP B NP.zero := ⟨Nat.zero_le _, Nat.zero_le _, Nat.zero_le _⟩
section
variable {s : AS} {B : Nat}
theorem SR.setw (h : SR s B) {k : Int} (hk : s.inn k) (x : Nat) : SR (s.setw k x) B := fun j hj => by
 rw [AS.n_setw hk]
 exact h j ((AS.inn_of_len (AS.setw_len _ _ _) j).1 hj)
theorem SR.setn (h : SR s B) {k : Int} (hk : s.inn k) {p : NP} (hp : RtP p ∧ SzP B p) : SR (s.setn k p) B := fun j hj => by
 have hj' := (AS.inn_of_len (AS.setn_len _ _ _) j).1 hj
 rw [AS.n_setn hk p hj']
 split
 ·exact hp
 ·exact h j hj'
theorem SR.lock (h : SR s B) (k : Int) (x : Nat) : SR (s.lockS k x) B := by
 unfold AS.lockS
 split
 case isTrue hk => exact h.setw hk.1 _
 case isFalse => exact h
theorem SR.unl (h : SR s B) (k : Int) (c : Bool) : SR (s.unlS k c) B := by
 unfold AS.unlS
 split
 case isTrue hk =>
  have : s.inn k := Decidable.byContradiction fun hn => by unfold AS.unlE at hk; rw [if_neg hn] at hk; cases hk
  exact h.setw this _
 case isFalse => exact h
theorem SR.gro (h : SR s B) (a b : Int) : SR (s.groS a b) B := by
 unfold AS.groS
 split
 ·exact h
 ·exact h
theorem SR.all (h : SR s B) : SR s.allS B := by
 unfold AS.allS
 split
 case isFalse => exact h
 case isTrue hl =>
  intro j hj
  unfold AS.inn at hj
  simp only [List.length_append, List.length_singleton] at hj
  unfold AS.n
  simp only
  by_cases e : (j - 1).toNat < s.sl.length
  ·rw [List.getD_eq_getElem?_getD, List.getElem?_append_left e, ← List.getD_eq_getElem?_getD]
   exact h j ⟨hj.1, by omega⟩
  ·have e2 : (j - 1).toNat = s.sl.length := by omega
   rw [e2, List.getD_eq_getElem?_getD, List.getElem?_append_right (Nat.le_refl _), Nat.sub_self]
   exact ⟨rt_zero, sz_zero _⟩
theorem SR.fin (h : SR s B) (id : Int) {p : NP} (hp : RtP p ∧ SzP B p) : SR (s.finS id p) B := by
 unfold AS.finS
 by_cases e2 : s.unlE id = 0
 ·have t1 : s.inn id := Decidable.byContradiction fun hn => by unfold AS.unlE at e2; rw [if_neg hn] at e2; cases e2
  have hodd : s.w id % 2 = 1 := by unfold AS.unlE at e2; rw [if_pos t1] at e2; split at e2; cases e2; omega
  have h3 : s.hedS id p.lv p.hi p.ri = s.setn id ((s.n id).setH p.lv p.hi p.ri) := if_pos e2
  rw [h3]
  have t3 : (s.setn id ((s.n id).setH p.lv p.hi p.ri)).inn id := (AS.inn_of_len (AS.setn_len _ _ _) id).2 t1
  have e3 : (s.setn id ((s.n id).setH p.lv p.hi p.ri)).unlE id = 0 := by unfold AS.unlE; rw [if_pos t3, if_neg (by rw [AS.w_setn t1]; omega)]
  have h4 : (s.setn id ((s.n id).setH p.lv p.hi p.ri)).bodS id p.ks p.vs p.cs = (s.setn id ((s.n id).setH p.lv p.hi p.ri)).setn id (((s.setn id ((s.n id).setH p.lv p.hi p.ri)).n id).setB p.ks p.vs p.cs) := if_pos e3
  rw [h4, AS.n_setn t1 _ t1, if_pos rfl]
  have h5 : ((s.n id).setH p.lv p.hi p.ri).setB p.ks p.vs p.cs = p := rfl
  rw [h5]
  refine SR.unl (fun j hj => ?_) id true
  have hj1 := (AS.inn_of_len (AS.setn_len _ _ _) j).1 hj
  have hj2 := (AS.inn_of_len (AS.setn_len _ _ _) j).1 hj1
  rw [AS.n_setn t3 _ hj1]
  by_cases e : j = id
  ·rw [if_pos e]; exact hp
  ·rw [if_neg e, AS.n_setn t1 _ hj2, if_neg e]; exact h j hj2
 ·have h3 : s.hedS id p.lv p.hi p.ri = s := if_neg e2
  have h4 : s.bodS id p.ks p.vs p.cs = s := if_neg e2
  rw [h3, h4]
  exact h.unl id true
theorem SR.lay (h : SR s B) (id : Int) {p : NP} (hp : RtP p ∧ SzP B p) : SR (s.layS id p) B := by
 unfold AS.layS
 split
 ·split
  ·exact h.all.fin id hp
  ·exact h
 ·exact (h.lock _ _).fin id hp
theorem SR.new (n : Int) (B : Nat) : SR (AS.new n) B := fun j hj => by
 unfold AS.inn AS.new at hj
 simp only [List.length_singleton] at hj
 have : j = 1 := by omega
 subst this
 exact ⟨rt_zero, sz_zero _⟩
end
section
variable {p : NP} {B : Nat}
theorem pair_midG {A C : List (List Int)} {key : List Int} (h : (A ++ C).Pairwise fun a b => cmpI a b < 0) (hA : ∀ x ∈ A, cmpI x key < 0) (hC : ∀ x ∈ C, cmpI key x < 0) : (A ++ key :: C).Pairwise fun a b => cmpI a b < 0 := by
 rw [List.pairwise_append] at h ⊢
 refine ⟨h.1, List.pairwise_cons.2 ⟨hC, h.2.1⟩, fun a ha b hb => ?_⟩
 rcases List.mem_cons.1 hb with rfl | hb
 ·exact hA a ha
 ·exact h.2.2 a ha b hb
theorem rt_with (h : RtP p) (h0 : p.lv = 0) (hz : SzP B p) (key value : List Int) : RtP (p.with_ key value) ∧ SzP (B + 1) (p.with_ key value) := by
 obtain ⟨A, C, hA, hC, hc, hor⟩ := parts p.ks key h.1.pair
 obtain ⟨z1, z2, z3⟩ := hz
 rcases h.2 with h1 | h1
 ·have hvl := h1.2.1
  rcases hor with ⟨hin, hks⟩ | ⟨hin, hks⟩
  ·have e1 : p.with_ key value = { p with vs := insL (remL p.vs (cntB p.ks key)) (cntB p.ks key) value } := by unfold NP.with_; rw [hin]; rfl
   have hiv : cntB p.ks key < p.vs.length := by rw [hvl, hc, hks]; simp
   obtain ⟨E, x, F, hvs, hE⟩ := split_at1 hiv
   have e2 : insL (remL p.vs (cntB p.ks key)) (cntB p.ks key) value = E ++ value :: F := by rw [hvs, ← hE, remL_at, insL_at]
   have hl : (E ++ value :: F).length = p.vs.length := by rw [hvs]; simp
   rw [e1, e2]
   exact ⟨⟨h.1, .inl ⟨h0, by rw [hl]; exact hvl, h1.2.2⟩⟩, ⟨Nat.le_succ_of_le z1, by rw [hl]; exact Nat.le_succ_of_le z2, Nat.le_succ_of_le z3⟩⟩
  ·have e1 : p.with_ key value = { p with ks := insL p.ks (cntB p.ks key) key, vs := insL p.vs (cntB p.ks key) value } := by unfold NP.with_; rw [hin]; rfl
   have hiv : cntB p.ks key ≤ p.vs.length := by rw [hvl, hc, hks]; simp
   obtain ⟨E, F, hvs, hE⟩ := split_at hiv
   have e2 : insL p.vs (cntB p.ks key) value = E ++ value :: F := by rw [hvs, ← hE, insL_at]
   have e3 : insL p.ks (cntB p.ks key) key = A ++ key :: C := by rw [hc, hks, insL_at]
   have hl : (E ++ value :: F).length = p.vs.length + 1 := by rw [hvs]; simp; omega
   have hl2 : (A ++ key :: C).length = p.ks.length + 1 := by rw [hks]; simp; omega
   rw [e1, e2, e3]
   exact ⟨⟨Rs.of (pair_midG (hks ▸ h.1.pair) hA hC), .inl ⟨h0, by rw [hl, hl2, hvl], h1.2.2⟩⟩, ⟨by rw [hl2]; omega, by rw [hl]; omega, Nat.le_succ_of_le z3⟩⟩
 ·omega
theorem rt_without (h : RtP p) (h0 : p.lv = 0) (hz : SzP B p) (key : List Int) : RtP (p.without key) ∧ SzP B (p.without key) := by
 obtain ⟨A, C, hA, hC, hc, hor⟩ := parts p.ks key h.1.pair
 rcases h.2 with h1 | h1
 ·have hvl := h1.2.1
  rcases hor with ⟨hin, hks⟩ | ⟨hin, hks⟩
  ·have e1 : p.without key = { p with ks := remL p.ks (cntB p.ks key), vs := remL p.vs (cntB p.ks key) } := by unfold NP.without; rw [hin]; rfl
   have hiv : cntB p.ks key < p.vs.length := by rw [hvl, hc, hks]; simp
   have hik : cntB p.ks key < p.ks.length := by rw [← hvl]; exact hiv
   have r1 := remL_len1 hiv
   have r2 := remL_len1 hik
   have e3 : remL p.ks (cntB p.ks key) = A ++ C := by rw [hc, hks, remL_at]
   have hs : (A ++ C).Sublist (A ++ key :: C) := (List.sublist_cons_self key C).append_left A
   obtain ⟨z1, z2, z3⟩ := hz
   rw [e1]
   refine ⟨⟨Rs.of ?_, .inl ⟨h0, ?_, h1.2.2⟩⟩, ⟨?_, ?_, z3⟩⟩
   ·simp only; rw [e3]; exact List.Pairwise.sublist hs (hks ▸ h.1.pair)
   ·simp only; omega
   ·simp only; omega
   ·simp only; omega
  ·have e1 : p.without key = p := by unfold NP.without; rw [hin]; rfl
   rw [e1]; exact ⟨h, hz⟩
 ·omega
theorem rest_subG : p.restK.Sublist p.ks := by
 unfold NP.restK
 split
 ·exact List.drop_sublist _ _
 ·exact (List.drop_sublist _ _).trans (List.drop_sublist _ _)
theorem rt_halves (h : RtP p) (hw : 2 ≤ p.wd) (hz : SzP B p) (r : Int) : (RtP (p.one r) ∧ SzP B (p.one r)) ∧ (RtP p.two ∧ SzP B p.two) := by
 have hwd := wd_few h
 have hhf : p.half = (p.wd + 1) / 2 := rfl
 have hct := cutK_lt h hw
 obtain ⟨z1, z2, z3⟩ := hz
 have hrl := rest_subG (p := p) |>.length_le
 refine ⟨⟨⟨Rs.of (List.Pairwise.sublist (List.take_sublist _ _) h.1.pair), ?_⟩, ⟨?_, ?_, ?_⟩⟩, ⟨⟨Rs.of (List.Pairwise.sublist rest_subG h.1.pair), ?_⟩, ⟨by show p.restK.length ≤ B; omega, ?_, ?_⟩⟩⟩
 ·show (p.lv = 0 ∧ (p.vs.take p.half).length = (p.ks.take p.cutK).length ∧ (p.cs.take p.half).length = 0) ∨ (0 < p.lv ∧ (p.vs.take p.half).length = 0 ∧ (p.cs.take p.half).length = (p.ks.take p.cutK).length + 1)
  rcases h.2 with h1 | h1
  ·have hck : p.cutK = p.half := if_pos h1.1
   exact .inl ⟨h1.1, by rw [List.length_take, List.length_take, hck, h1.2.1], by rw [List.length_take]; omega⟩
  ·have hck : p.cutK = p.half - 1 := if_neg (by omega)
   rw [if_pos h1.1] at hwd
   exact .inr ⟨h1.1, by rw [List.length_take]; omega, by rw [List.length_take, List.length_take, hck]; omega⟩
 ·show (p.ks.take p.cutK).length ≤ B; rw [List.length_take]; omega
 ·show (p.vs.take p.half).length ≤ B; rw [List.length_take]; omega
 ·show (p.cs.take p.half).length ≤ B; rw [List.length_take]; omega
 ·show (p.lv = 0 ∧ (p.vs.drop p.half).length = p.restK.length ∧ (p.cs.drop p.half).length = 0) ∨ (0 < p.lv ∧ (p.vs.drop p.half).length = 0 ∧ (p.cs.drop p.half).length = p.restK.length + 1)
  rcases h.2 with h1 | h1
  ·have hck : p.cutK = p.half := if_pos h1.1
   have hrk : p.restK = p.ks.drop p.cutK := if_pos h1.1
   exact .inl ⟨h1.1, by rw [hrk, List.length_drop, List.length_drop, hck, h1.2.1], by rw [List.length_drop]; omega⟩
  ·have hck : p.cutK = p.half - 1 := if_neg (by omega)
   have hrk : p.restK = (p.ks.drop p.cutK).drop 1 := if_neg (by omega)
   rw [if_pos h1.1] at hwd
   exact .inr ⟨h1.1, by rw [List.length_drop]; omega, by rw [hrk, List.length_drop, List.length_drop, List.length_drop, hck]; omega⟩
 ·show (p.vs.drop p.half).length ≤ B; rw [List.length_drop]; omega
 ·show (p.cs.drop p.half).length ≤ B; rw [List.length_drop]; omega
end
section
variable {s : AS}
def RSm (s t : AS) : Prop := t.root = s.root ∧ s.sl.length ≤ t.sl.length
theorem RSm.trans {s t u : AS} (h : RSm s t) (k : RSm t u) : RSm s u := ⟨k.1.trans h.1, Nat.le_trans h.2 k.2⟩
theorem rs_lock (s : AS) (k : Int) (x : Nat) : RSm s (s.lockS k x) := by
 unfold AS.lockS; split
 ·exact ⟨rfl, Nat.le_of_eq (AS.setw_len _ _ _).symm⟩
 ·exact ⟨rfl, Nat.le_refl _⟩
theorem rs_unl (s : AS) (k : Int) (c : Bool) : RSm s (s.unlS k c) := by
 unfold AS.unlS; split
 ·exact ⟨rfl, Nat.le_of_eq (AS.setw_len _ _ _).symm⟩
 ·exact ⟨rfl, Nat.le_refl _⟩
theorem rs_hed (s : AS) (k lv : Int) (hi : List Int) (ri : Int) : RSm s (s.hedS k lv hi ri) := by
 unfold AS.hedS; split
 ·exact ⟨rfl, Nat.le_of_eq (AS.setn_len _ _ _).symm⟩
 ·exact ⟨rfl, Nat.le_refl _⟩
theorem rs_bod (s : AS) (k : Int) (a b : List (List Int)) (c : List Int) : RSm s (s.bodS k a b c) := by
 unfold AS.bodS; split
 ·exact ⟨rfl, Nat.le_of_eq (AS.setn_len _ _ _).symm⟩
 ·exact ⟨rfl, Nat.le_refl _⟩
theorem rs_all (s : AS) : RSm s s.allS := by
 unfold AS.allS; split
 ·exact ⟨rfl, by simp⟩
 ·exact ⟨rfl, Nat.le_refl _⟩
theorem rs_fin (s : AS) (id : Int) (p : NP) : RSm s (s.finS id p) := ((rs_hed s id _ _ _).trans (rs_bod _ id _ _ _)).trans (rs_unl _ id true)
theorem rs_lay (s : AS) (id : Int) (p : NP) : RSm s (s.layS id p) := by
 unfold AS.layS; split
 ·split
  ·exact (rs_all s).trans (rs_fin _ id p)
  ·exact ⟨rfl, Nat.le_refl _⟩
 ·exact (rs_lock s _ _).trans (rs_fin _ id p)
def SI (s : AS) (B : Nat) : Prop := SR s B ∧ s.inn s.root
theorem SI.mono {B C : Nat} (h : SI s B) (hc : B ≤ C) : SI s C := ⟨h.1.mono hc, h.2⟩
theorem inn_rsm {t : AS} (h : s.inn s.root) (k : RSm s t) : t.inn t.root := by
 unfold AS.inn at *
 rw [k.1]
 have := k.2
 omega
theorem SI.lay {B : Nat} (h : SI s B) (id : Int) {p : NP} (hp : RtP p ∧ SzP B p) : SI (s.layS id p) B := ⟨h.1.lay id hp, inn_rsm h.2 (rs_lay s id p)⟩
theorem SI.lock {B : Nat} (h : SI s B) (k : Int) (x : Nat) : SI (s.lockS k x) B := ⟨h.1.lock k x, inn_rsm h.2 (rs_lock s k x)⟩
theorem SI.unl {B : Nat} (h : SI s B) (k : Int) (c : Bool) : SI (s.unlS k c) B := ⟨h.1.unl k c, inn_rsm h.2 (rs_unl s k c)⟩
theorem SI.gro {B : Nat} (h : SI s B) (a b : Int) : SI (s.groS a b) B := by
 refine ⟨h.1.gro a b, ?_⟩
 unfold AS.groS
 split
 case isTrue hk => exact hk.1
 case isFalse => exact h.2
theorem SI.new (n : Int) (B : Nat) : SI (AS.new n) B := ⟨SR.new n B, ⟨Int.le_refl _, by simp [AS.new]⟩⟩
end
end Go.Proofs.YtpljbgcofmlhbaaGreat
