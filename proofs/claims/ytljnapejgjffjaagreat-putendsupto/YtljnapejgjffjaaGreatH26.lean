/- Texts of one's own. -/
import Derived.Test.YtljnapejgjffjaaGreatH20
import Derived.Test.YtljnapejgjffjaaGreatH23
import Derived.Test.YtljnapejgjffjaaGreatH19
namespace Go.Proofs.YtljnapejgjffjaaGreat
open Go.RowKit
set_option maxRecDepth 100000
abbrev Chn := List (Int × List Int)
def notAb (low : List Int) (p : NP) : Prop := 0 < low.length ∧ ((0 < p.ks.length ∧ cmpI (p.ks.getD 0 []) low < 0) ∨ (0 < p.hi.length ∧ cmpI p.hi low ≤ 0))
instance (low : List Int) (p : NP) : Decidable (notAb low p) := by unfold notAb; exact inferInstance
def liesP (low : List Int) (p : NP) : Prop := (∀ j,j < p.ks.length → 0 ≤ cmpI (p.ks.getD j []) low) ∧ (p.hi.length = 0 ∨ 0 < cmpI p.hi low)
instance (low : List Int) (p : NP) : Decidable (liesP low p) := by unfold liesP; exact inferInstance
theorem cmp_nil_le (k : List Int) : 0 ≤ cmpI k [] := by
 cases k with
 | nil => decide
 | cons a l => rw [cmpI_cons_nil]; decide
theorem cmp_nil_lt {k : List Int} (h : k ≠ []) : 0 < cmpI k [] := by cases k with
 | nil => exact absurd rfl h
 | cons a l => rw [cmpI_cons_nil]; decide
theorem KyP.rs {hi : List Int} {ks : List (List Int)} (h : KyP hi ks) : Rs ks := fun j hj => by
 have := (h (j + 1) (by omega)).2 (by omega)
 simpa using this
theorem lies_iff {low : List Int} {p : NP} (h : KyP p.hi p.ks) : liesP low p ↔ ¬ notAb low p := by
 unfold liesP notAb
 by_cases hl : low = []
 ·subst hl
  refine ⟨fun _ e => absurd e.1 (by simp),fun _ => ⟨fun j _ => cmp_nil_le _,?_⟩⟩
  by_cases hh : p.hi = []
  ·exact .inl (by rw [hh]; rfl)
  ·exact .inr (cmp_nil_lt hh)
 ·have hl' : 0 < low.length := by rcases low with _ | ⟨a,l⟩; exact absurd rfl hl; simp
  constructor
  ·rintro ⟨h1,h2⟩ ⟨_,h3 | h3⟩
   ·have := h1 0 h3.1; omega
   ·rcases h2 with h2 | h2 <;> omega
  ·intro hn
   refine ⟨fun j hj => ?_,?_⟩
   ·refine Decidable.byContradiction fun hc => hn ⟨hl',.inl ⟨by omega,?_⟩⟩
    rcases Nat.eq_zero_or_pos j with rfl | hj0
    ·omega
    ·have h4 := h.rs.far (j - 1) 0 (by omega)
     rw [show 0 + (j - 1) + 1 = j by omega] at h4
     exact cmp_lt_trans h4 (by omega)
   ·refine Decidable.byContradiction fun hc => hn ⟨hl',.inr ⟨?_,?_⟩⟩ <;> omega
def AS.metE (s : AS) (ck : NP → Int) (lev : Int) (low : List Int) (old : List Int) (id : Int) : Int :=
 if s.inn id then (if id ∈ old then 112 else if (s.n id).lv ≠ lev then 111 else if ck (s.n id) ≠ 0 then ck (s.n id) else if notAb low (s.n id) then 112 else 0) else 101
def AS.chn (s : AS) (ck : NP → Int) (lev : Int) (old : List Int) : Nat → Int → List Int → Chn → (Int × Int) ⊕ Chn
 | 0,_,_,_ => .inl (0,0)
 | f + 1,id,low,cur =>
  if s.metE ck lev low (old ++ cur.map (·.1)) id ≠ 0 then .inl (id,s.metE ck lev low (old ++ cur.map (·.1)) id)
  else if (s.n id).ri = 0 then .inr (cur ++ [(id,low)])
  else s.chn ck lev old f (s.n id).ri (s.n id).hi (cur ++ [(id,low)])
def AS.kidAt (s : AS) (x : Int × List Int) (k : Nat) : Int × List Int := ((s.n x.1).cs.getD k 0,if k = 0 then x.2 else (s.n x.1).ks.getD (k - 1) [])
def AS.kidsOk (s : AS) (down : Chn) (x : Int × List Int) : Prop := ∀ k,k < (s.n x.1).cs.length → s.kidAt x k ∈ down
instance (s : AS) (down : Chn) (x : Int × List Int) : Decidable (s.kidsOk down x) := by unfold AS.kidsOk; exact inferInstance
def AS.stray (s : AS) (up down : Chn) : Option Int := (up.find? fun x => !decide (s.kidsOk down x)).map (·.1)
def idsOf (outs : List Chn) : List Int := outs.flatMap fun c => c.map (·.1)
def AS.first (s : AS) (cur : Chn) : Int := (s.n (cur.headD (0,[])).1).cs.getD 0 0
def AS.lvs (s : AS) (ck : NP → Int) : Nat → Int → Int → List Chn → (Int × Int) ⊕ List Chn
 | 0,_,_,_ => .inl (0,0)
 | f + 1,lev,id,outs =>
  match s.chn ck lev (idsOf outs) (s.sl.length + 1 - (idsOf outs).length) id [] [] with
  | .inl e => .inl e
  | .inr cur =>
   match s.stray (outs.getLastD []) cur with
   | some up => .inl (up,113)
   | none => if lev = 0 then .inr (outs ++ [cur]) else s.lvs ck f (lev - 1) (s.first cur) (outs ++ [cur])
def AS.look (s : AS) (nd lf inn fl bk : Int) : (Int × Int) ⊕ List Chn :=
 if cfgOk nd lf inn fl bk then (match s.held with
  | h :: _ => .inl (h,102)
  | [] => s.lvs (fun p => nchkE p nd lf inn fl bk) (s.sl.length + 1) (s.rd s.root).lv s.root [])
 else .inl (0,1)
structure Met (s : AS) (l : List Int) : Prop where
 nd : l.Nodup
 inn : ∀ x ∈ l,s.inn x
theorem nodup_le : ∀ (n : Nat) (l : List Int),l.Nodup → (∀ x ∈ l,1 ≤ x ∧ x ≤ (n : Int)) → l.length ≤ n
 | 0,l,_,h => by
  cases l with
  | nil => exact Nat.le_refl _
  | cons a r => have := h a (.head _); omega
 | n + 1,l,hn,h => by
  by_cases hm : ((n : Int) + 1) ∈ l
  ·have h1 := nodup_le n (l.erase ((n : Int) + 1)) (hn.erase _) (fun x hx => by
    have := (hn.mem_erase_iff).1 hx
    have h2 := h x this.2
    have h3 := this.1
    omega)
   rw [List.length_erase_of_mem hm] at h1
   omega
  ·have := nodup_le n l hn (fun x hx => by
    have h2 := h x hx
    have h3 : x ≠ (n : Int) + 1 := fun e => hm (e ▸ hx)
    omega)
   omega
theorem Met.len {s : AS} {l : List Int} (h : Met s l) : l.length ≤ s.sl.length := nodup_le _ l h.nd (fun x hx => h.inn x hx)
theorem Met.nil (s : AS) : Met s [] := ⟨List.nodup_nil,fun x hx => by cases hx⟩
theorem metE_in {s : AS} {ck : NP → Int} {lev : Int} {low old : List Int} {id : Int} (h : s.metE ck lev low old id = 0) : s.inn id ∧ id ∉ old ∧ (s.n id).lv = lev ∧ ck (s.n id) = 0 ∧ ¬ notAb low (s.n id) := by
 unfold AS.metE at h
 split at h
 ·rename_i h1
  split at h
  ·omega
  ·rename_i h2
   split at h
   ·omega
   ·rename_i h3
    split at h
    ·contradiction
    ·rename_i h4
     split at h
     ·omega
     ·rename_i h5
      exact ⟨h1,h2,Decidable.not_not.1 h3,Decidable.not_not.1 h4,h5⟩
 ·omega
theorem Met.add {s : AS} {ck : NP → Int} {lev : Int} {low l : List Int} {id : Int} (h : Met s l) (he : s.metE ck lev low l id = 0) : Met s (l ++ [id]) := by
 obtain ⟨h1,h2,_⟩ := metE_in he
 refine ⟨List.nodup_append.2 ⟨h.nd,by simp,fun a ha b hb => ?_⟩,fun x hx => ?_⟩
 ·rw [List.mem_singleton.1 hb]; exact fun e => h2 (e ▸ ha)
 ·rcases List.mem_append.1 hx with h3 | h3
  ·exact h.inn x h3
  ·rw [List.mem_singleton.1 h3]; exact h1
theorem ids_snoc (outs : List Chn) (cur : Chn) : idsOf (outs ++ [cur]) = idsOf outs ++ cur.map (·.1) := by simp [idsOf]
structure ChnOk (s : AS) (ck : NP → Int) (lev : Int) (cur : Chn) : Prop where
 lv : ∀ x ∈ cur,(s.n x.1).lv = lev
 ck : ∀ x ∈ cur,ck (s.n x.1) = 0
 ab : ∀ x ∈ cur,¬ notAb x.2 (s.n x.1)
theorem ChnOk.nil (s : AS) (ck : NP → Int) (lev : Int) : ChnOk s ck lev [] := ⟨fun x hx => (by cases hx),fun x hx => (by cases hx),fun x hx => (by cases hx)⟩
theorem ChnOk.add {s : AS} {ck : NP → Int} {lev : Int} {low l : List Int} {id : Int} {cur : Chn} (h : ChnOk s ck lev cur) (he : s.metE ck lev low l id = 0) : ChnOk s ck lev (cur ++ [(id,low)]) := by
 obtain ⟨_,_,h1,h2,h3⟩ := metE_in he
 refine ⟨fun x hx => ?_,fun x hx => ?_,fun x hx => ?_⟩ <;>
 ·rcases List.mem_append.1 hx with h4 | h4
  ·first | exact h.lv x h4 | exact h.ck x h4 | exact h.ab x h4
  ·rw [List.mem_singleton.1 h4]; assumption
def NP.ents (p : NP) : List (List Int × List Int) := (List.range p.ks.length).map fun i => (p.ks.getD i [],p.vs.getD i [])
def AS.mapF (s : AS) : Nat → List Int → Bool → Int → List (List Int × List Int) → List (List Int × List Int)
 | 0,_,_,_,acc => acc
 | f + 1,met,leaf,id,acc =>
  if s.inn id ∧ id ∉ met then
   (if (s.n id).lv ≤ 0 then s.mapF f (met ++ [id]) true (s.n id).ri (acc ++ (s.n id).ents)
   else if leaf = true ∨ (s.n id).cs = [] then acc
   else s.mapF f (met ++ [id]) leaf ((s.n id).cs.getD 0 0) acc)
  else acc
def AS.map (s : AS) : List (List Int × List Int) := s.mapF (s.sl.length + 1) [] false s.root []
theorem Met.snoc {s : AS} {l : List Int} {id : Int} (h : Met s l) (h1 : s.inn id) (h2 : id ∉ l) : Met s (l ++ [id]) := by
 refine ⟨List.nodup_append.2 ⟨h.nd,by simp,fun a ha b hb => ?_⟩,fun x hx => ?_⟩
 ·rw [List.mem_singleton.1 hb]; exact fun e => h2 (e ▸ ha)
 ·rcases List.mem_append.1 hx with h3 | h3
  ·exact h.inn x h3
  ·rw [List.mem_singleton.1 h3]; exact h1
theorem mapF_stop {s : AS} {f : Nat} {met : List Int} {leaf : Bool} {id : Int} {acc : List (List Int × List Int)} (h : ¬ (s.inn id ∧ id ∉ met)) : s.mapF (f + 1) met leaf id acc = acc := by
 rw [AS.mapF,if_neg h]
theorem mapF_leaf {s : AS} {f : Nat} {met : List Int} {leaf : Bool} {id : Int} {acc : List (List Int × List Int)} (h : s.inn id ∧ id ∉ met) (h0 : (s.n id).lv ≤ 0) : s.mapF (f + 1) met leaf id acc = s.mapF f (met ++ [id]) true (s.n id).ri (acc ++ (s.n id).ents) := by
 rw [AS.mapF,if_pos h,if_pos h0]
theorem mapF_end {s : AS} {f : Nat} {met : List Int} {leaf : Bool} {id : Int} {acc : List (List Int × List Int)} (h : s.inn id ∧ id ∉ met) (h0 : ¬ (s.n id).lv ≤ 0) (h1 : leaf = true ∨ (s.n id).cs = []) : s.mapF (f + 1) met leaf id acc = acc := by
 rw [AS.mapF,if_pos h,if_neg h0,if_pos h1]
theorem mapF_down {s : AS} {f : Nat} {met : List Int} {leaf : Bool} {id : Int} {acc : List (List Int × List Int)} (h : s.inn id ∧ id ∉ met) (h0 : ¬ (s.n id).lv ≤ 0) (h1 : ¬ (leaf = true ∨ (s.n id).cs = [])) : s.mapF (f + 1) met leaf id acc = s.mapF f (met ++ [id]) leaf ((s.n id).cs.getD 0 0) acc := by
 rw [AS.mapF,if_pos h,if_neg h0,if_neg h1]
end Go.Proofs.YtljnapejgjffjaaGreat
