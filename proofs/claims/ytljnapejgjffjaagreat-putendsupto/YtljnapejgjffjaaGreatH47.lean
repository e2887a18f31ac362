/- Texts of one's own. -/
import Derived.Test.YtljnapejgjffjaaGreatH46
import Derived.Test.YtljnapejgjffjaaGreatH44
namespace Go.Proofs.YtljnapejgjffjaaGreat
open Go.RowKit
set_option maxRecDepth 100000
def AS.step (s : AS) (ck : NP → Int) (f : Nat) (lev : Int) (outs : List Chn) : (Int × Int) ⊕ Chn → (Int × Int) ⊕ List Chn
 | .inl e => .inl e
 | .inr cur =>
  match s.stray (outs.getLastD []) cur with
  | some up => .inl (up,113)
  | none => if lev = 0 then .inr (outs ++ [cur]) else s.lvs ck f (lev - 1) (s.first cur) (outs ++ [cur])
theorem lvs_succ (s : AS) (ck : NP → Int) (f : Nat) (lev id : Int) (outs : List Chn) : s.lvs ck (f + 1) lev id outs = s.step ck f lev outs (s.chn ck lev (idsOf outs) (s.sl.length + 1 - (idsOf outs).length) id [] []) := by
 rw [AS.lvs]
 cases s.chn ck lev (idsOf outs) (s.sl.length + 1 - (idsOf outs).length) id [] [] with
 | inl e => rfl
 | inr cur =>
  unfold AS.step
  cases s.stray (outs.getLastD []) cur <;> rfl
structure Lvs (s : AS) (ck : NP → Int) (O : List (List Sp)) (lev : Int) : Prop where
 ck : ∀ x ∈ O.flatten,ck (s.n x.id) = 0
 lv : ∀ i (hi : i < O.length),∀ x ∈ O[i],x.n.lv = lev + ((O.length - i : Nat) : Int)
 ne : ∀ c ∈ O,c ≠ []
 met : Met s (O.flatten.map (·.id))
theorem Lvs.nil (s : AS) (ck : NP → Int) (lev : Int) : Lvs s ck [] lev := ⟨fun x hx => (by cases hx),fun i hi => absurd hi (Nat.not_lt_zero i),fun c hc => (by cases hc),Met.nil s⟩
theorem Lvs.above {s : AS} {ck : NP → Int} {O : List (List Sp)} {lev : Int} (h : Lvs s ck O lev) : ∀ x ∈ O.flatten,lev < x.n.lv := by
 intro x hx
 obtain ⟨c,hc,hxc⟩ := List.mem_flatten.1 hx
 obtain ⟨i,hi,rfl⟩ := List.getElem_of_mem hc
 have := h.lv i hi x hxc
 omega
structure Cur (s : AS) (ck : NP → Int) (O : List (List Sp)) (cur : List Sp) (lev : Int) : Prop where
 ck : ∀ x ∈ cur,ck (s.n x.id) = 0
 lv : ∀ x ∈ cur,x.n.lv = lev
 met : Met s ((O.flatten ++ cur).map (·.id))
theorem Lvs.cur {s : AS} {ck : NP → Int} {O : List (List Sp)} {lev : Int} (h : Lvs s ck O lev) : Cur s ck O [] lev := ⟨fun x hx => (by cases hx),fun x hx => (by cases hx),by rw [List.append_nil]; exact h.met⟩
theorem Cur.add {s : AS} {ck : NP → Int} {O : List (List Sp)} {cur : List Sp} {lev : Int} (h : Cur s ck O cur lev) {x : Sp} {low : List Int} (hp : x.n.p = s.n x.id) (he : s.metE ck lev low ((O.flatten ++ cur).map (·.id)) x.id = 0) : Cur s ck O (cur ++ [x]) lev := by
 obtain ⟨_,_,h1,h2,_⟩ := metE_in he
 refine ⟨fun y hy => ?_,fun y hy => ?_,?_⟩
 ·rcases List.mem_append.1 hy with hy | hy
  ·exact h.ck y hy
  ·rw [List.mem_singleton.1 hy]; exact h2
 ·rcases List.mem_append.1 hy with hy | hy
  ·exact h.lv y hy
  ·rw [List.mem_singleton.1 hy,← h1,← hp]; rfl
 ·rw [← List.append_assoc,List.map_append]
  exact h.met.add he
theorem Cur.shut {s : AS} {ck : NP → Int} {O : List (List Sp)} {cur : List Sp} {lev : Int} (h : Cur s ck O cur lev) (hL : Lvs s ck O lev) (hne : cur ≠ []) : Lvs s ck (O ++ [cur]) (lev - 1) := by
 have hf : (O ++ [cur]).flatten = O.flatten ++ cur := by simp
 refine ⟨fun x hx => ?_,fun i hi x hx => ?_,fun c hc => ?_,by rw [hf]; exact h.met⟩
 ·rw [hf] at hx
  rcases List.mem_append.1 hx with hx | hx
  ·exact hL.ck x hx
  ·exact h.ck x hx
 ·rw [List.length_append] at hi ⊢
  simp only [List.length_cons,List.length_nil] at hi ⊢
  rcases Nat.lt_or_ge i O.length with h1 | h1
  ·rw [List.getElem_append_left h1] at hx
   have := hL.lv i h1 x hx
   omega
  ·obtain rfl : i = O.length := by omega
   rw [List.getElem_append_right (Nat.le_refl _)] at hx
   simp only [Nat.sub_self,List.getElem_cons_zero] at hx
   have := h.lv x hx
   omega
 ·rcases List.mem_append.1 hc with hc | hc
  ·exact hL.ne c hc
  ·rw [List.mem_singleton.1 hc]; exact hne
theorem chQ_snoc (O : List (List Sp)) (cur : List Sp) : chQ (O ++ [cur]) = chQ O ++ [cur.map Sp.q] := by simp [chQ]
theorem chn_succ (s : AS) (ck : NP → Int) (lev : Int) (old : List Int) (f : Nat) (id : Int) (low : List Int) (cur : Chn) : s.chn ck lev old (f + 1) id low cur = (if s.metE ck lev low (old ++ cur.map (·.1)) id ≠ 0 then .inl (id,s.metE ck lev low (old ++ cur.map (·.1)) id) else if (s.n id).ri = 0 then .inr (cur ++ [(id,low)]) else s.chn ck lev old f (s.n id).ri (s.n id).hi (cur ++ [(id,low)])) := rfl
theorem q_ids (cur : List Sp) : (cur.map Sp.q).map (·.1) = cur.map (·.id) := by simp [Sp.q]
theorem ids_all (O : List (List Sp)) (cur : List Sp) : idsOf (chQ O) ++ (cur.map Sp.q).map (·.1) = (O.flatten ++ cur).map (·.id) := by rw [chQ_ids,q_ids,List.map_append]
structure DW (W0 : World) (w : World) (X : Nat → Prop) (B m N A : Nat) (nd lf inn fl bk : Int) (s : AS) (O : List (List Sp)) (cur : List Sp) (lev id : Int) (low : Tx) (g : Nat) (R : (Int × Int) ⊕ List Chn) : Prop where
 lw : ∃ ga gc la lc ov,LW w X B m N A ga gc la lc nd lf inn fl bk s O ov cur ∧ (∀ y,low.a = some y → 0 < low.s.length → ¬ LAv X B m ga la y.block)
 lo : low.Ok w
 c : Cur s (fun p => nchkE p nd lf inn fl bk) O cur lev
 l : Lvs s (fun p => nchkE p nd lf inn fl bk) O lev
 r : ∃ f,f + (O.flatten.length + cur.length) = s.sl.length + 1 ∧ R = s.step (fun p => nchkE p nd lf inn fl bk) g lev (chQ O) (s.chn (fun p => nchkE p nd lf inn fl bk) lev (idsOf (chQ O)) f id low.s (cur.map Sp.q))
 g : s.sl.length ≤ g + O.flatten.length
 b : Below N W0 w
structure DQ (W0 : World) (w : World) (X : Nat → Prop) (B m N A : Nat) (nd lf inn fl bk : Int) (s : AS) (O : List (List Sp)) (lev id : Int) (g : Nat) (R : (Int × Int) ⊕ List Chn) : Prop where
 lq : ∃ ga gc ov,LQ w X B m N A ga gc nd lf inn fl bk s O ov
 l : Lvs s (fun p => nchkE p nd lf inn fl bk) O lev
 r : R = s.lvs (fun p => nchkE p nd lf inn fl bk) g lev id (chQ O)
 g : s.sl.length + 1 ≤ g + O.flatten.length
 b : Below N W0 w
theorem nchk_facts {p : NP} {nd lf inn fl bk : Int} (h : nchkE p nd lf inn fl bk = 0) : 0 ≤ p.lv ∧ p.lv ≤ 32 ∧ (0 < p.lv → p.cs.length = p.ks.length + 1) ∧ (p.lv = 0 → p.cs.length = 0) ∧ KyP p.hi p.ks := by
 unfold nchkE at h
 split at h
 ·split at h
  ·rename_i h2
   obtain ⟨⟨⟨h3,_⟩,_⟩,h4,_,h5⟩ := h2
   refine ⟨h3.1,h3.2,fun hp => ?_,fun hp => ?_,h4⟩
   ·rw [if_neg (by omega)] at h5
    exact h5.1.2
   ·rw [if_pos hp] at h5
    exact h5.1.1
  ·omega
 ·omega
section
variable {W W' : World} {X : Nat → Prop} {B m N A : Nat} {ga la : Option Addr} {gc lc : Nat} {nd lf inn fl bk : Int} {s : AS} {O : List (List Sp)} {ov : List IL} {cur : List Sp} {lev : Int}
theorem flat_ge {O : List (List Sp)} (h : ∀ c ∈ O,c ≠ []) : O.length ≤ O.flatten.length := by
 induction O with
 | nil => exact Nat.le_refl _
 | cons c r ih =>
  have h1 := ih (fun d hd => h d (.tail _ hd))
  have h2 : 0 < c.length := by
   cases hc : c with
   | nil => exact absurd hc (h c (.head _))
   | cons a l => simp
  rw [List.flatten_cons,List.length_append,List.length_cons]
  omega
theorem chain_le {O : List (List Sp)} {c : List Sp} (h : c ∈ O) : c.length ≤ O.flatten.length := by
 induction O with
 | nil => cases h
 | cons d r ih =>
  rw [List.flatten_cons,List.length_append]
  rcases List.mem_cons.1 h with rfl | h
  ·omega
  ·have := ih h; omega
theorem LQ.next_upd (h : LQ W X B m N A ga gc nd lf inn fl bk s O ov) {w5 w6 : World} (b5 : Below W.heap.size W w5) (v : Value) (g6 : w5.grownBy w6 (Value.slice ga O.length gc).ownBlock) : Upd (LMut B m ga none) W (w6.setCell ⟨B,7,none⟩ v) ∧ Below N W (w6.setCell ⟨B,7,none⟩ v) := by
 have hu6 : Upd (LMut B m ga none) W w6 := (Upd.of_below b5 (LMut B m ga none)).then (Upd.of_grown g6 (S := fun k => ∃ y,ga = some y ∧ y.block = k) (fun k hk _ => LW.lc_ob ga _ _ k hk)) (fun k _ e => .inr (.inr (.inl e)))
 have hu7 : Upd (LMut B m ga none) W (w6.setCell ⟨B,7,none⟩ v) := hu6.setCell _ _ (fun _ => .inl rfl)
 have hN : N ≤ W.heap.size := by have := h.mut_lt B (.inl rfl); omega
 exact ⟨hu7,hu7.below hN (fun k hk e => by have := h.mut_lt k e; omega)⟩
theorem stray_both (h : LQ W X B m N A ga gc nd lf inn fl bk s (O ++ [cur]) ov) (hL : Lvs s (fun p => nchkE p nd lf inn fl bk) O lev) (hC : Cur s (fun p => nchkE p nd lf inn fl bk) O cur lev) (h0 : 0 ≤ lev) (hz : s.sl.length ≤ 65536) :
  Calls Tryz.prog 121 #[.pointer (some ⟨B,0,none⟩),.int .i64 lev] W fun e w' => e = .returned (.int .i64 ((s.stray ((chQ O).getLastD []) (cur.map Sp.q)).getD 0)) ∧ Below W.heap.size W w' := by
 have hf : (O ++ [cur]).flatten = O.flatten ++ cur := by simp
 have hml : O.flatten.length ≤ s.sl.length := by have := hL.met.len; rw [List.length_map] at this; exact this
 have hge := flat_ge hL.ne
 rcases List.eq_nil_or_concat O with rfl | ⟨O',up,rfl⟩
 ·exact stray_one h rfl lev
 ·rw [List.concat_eq_append] at *
  have hup : (chQ (O' ++ [up])).getLastD [] = up.map Sp.q := by rw [chQ_snoc]; simp
  rw [hup]
  have hi : O'.length < (O' ++ [up]).length := by simp
  refine stray_any h O'.length (by simp) (by rw [List.length_append] at hge; simp only [List.length_cons,List.length_nil] at hge; omega) lev up cur (by simp) (fun x hx => by rw [hf]; exact List.mem_append.2 (.inr hx)) (fun x hx => ?_) (fun x hx => ?_) ?_
  ·rw [hf] at hx
   constructor
   ·intro e
    rcases List.mem_append.1 hx with hx | hx
    ·have := hL.above x hx; omega
    ·exact hx
   ·exact fun e => hC.lv x e
  ·have hxm : x ∈ (O' ++ [up]).flatten := by simp [hx]
   have h1 := hL.above x hxm
   have h2 := hL.ck x hxm
   have hxf : x ∈ (O' ++ [up] ++ [cur]).flatten := by rw [hf]; exact List.mem_append.2 (.inl hxm)
   have h3 := (h.sp x hxf).p
   rw [← h3] at h2
   have h4 := (nchk_facts h2).2.2.1 (by show 0 < x.n.lv; omega)
   refine ⟨by omega,?_⟩
   have h5 : x.n.p.cs.length = x.n.cs.s.length := rfl
   have h6 : x.n.p.ks.length = x.n.ks.L.length := TL.p_len _
   omega
  ·have : up.length ≤ (O' ++ [up]).flatten.length := chain_le (by simp)
   omega
theorem stray_pos {up down : Chn} {u : Int} (h : s.stray up down = some u) (hm : ∀ x ∈ up,1 ≤ x.1) : 1 ≤ u := by
 unfold AS.stray at h
 rw [Option.map_eq_some_iff] at h
 obtain ⟨x,h1,rfl⟩ := h
 exact hm x (List.mem_of_find?_eq_some h1)
theorem first_both (h : LQ W X B m N A ga gc nd lf inn fl bk s (O ++ [cur]) ov) (hC : Cur s (fun p => nchkE p nd lf inn fl bk) O cur lev) (hne : cur ≠ []) (h0 : 0 < lev) (hz : O.length ≤ 65536) :
  Calls Tryz.prog 123 #[.pointer (some ⟨B,0,none⟩)] W fun e w' => e = .returned (.int .i64 (s.first (cur.map Sp.q))) ∧ Below W.heap.size W w' := by
 obtain ⟨x,r,rfl⟩ : ∃ x r,cur = x :: r := by
  cases cur with
  | nil => exact absurd rfl hne
  | cons x r => exact ⟨x,r,rfl⟩
 have hxm : x ∈ (O ++ [x :: r]).flatten := by simp
 have hp := (h.sp x hxm).p
 have hck := hC.ck x (.head _)
 have hlv := hC.lv x (.head _)
 rw [← hp] at hck
 have h1 := (nchk_facts hck).2.2.1 (by show 0 < x.n.lv; omega)
 have h5 : x.n.p.cs.length = x.n.cs.s.length := rfl
 have := first_any h O.length (by simp) hz x (by simp) (by omega) (by omega)
 have he : s.first ((x :: r).map Sp.q) = x.n.cs.s.getD 0 0 := by
  unfold AS.first
  simp only [List.map_cons,List.headD_cons,Sp.q]
  rw [← hp]
  rfl
 rw [he]
 exact this
end
end Go.Proofs.YtljnapejgjffjaaGreat
