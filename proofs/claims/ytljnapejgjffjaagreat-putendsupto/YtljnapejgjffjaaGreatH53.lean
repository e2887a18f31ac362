/- Texts of one's own. -/
import Derived.Test.YtljnapejgjffjaaGreatH52
import Derived.Test.YtljnapejgjffjaaGreatH50
namespace Go.Proofs.YtljnapejgjffjaaGreat
open Go.RowKit
set_option maxRecDepth 100000
structure UR (w0 : World) (own : Nat → Nat → Prop) (W : World) (A : Nat) (c : Cfg) (s : AS) (L : List (Nat × US)) (R : List Nat) (vl : Value) : Prop where
 ap : ∀ t t' k,own t k → own t' k → t = t'
 lo : ∀ t k,own t k → w0.heap.size ≤ k ∧ k < W.heap.size
 bw : Below w0.heap.size w0 W
 px : PX W A (own 1) s
 rl : W.ownsRow w0.heap.size 45 1 vl R.length (R.map uptV)
 ol : ∀ k,vl.ownBlock = some k → own 3 k
 mx : ∀ i (h : i < L.length),own (i + 6) L[i].1 ∧ ∃ m,UP W L[i].1 A (fun k => own (i + 6) k ∧ k ≠ L[i].1) m L[i].2
section
variable {w0 : World} {own : Nat → Nat → Prop} {W W' : World} {A : Nat} {c : Cfg} {s s' : AS} {L : List (Nat × US)} {R : List Nat} {vl : Value}
theorem UR.below (h : UR w0 own W A c s L R vl) (hb : Below W.heap.size W W') : UR w0 own W' A c s L R vl := by
 have hu : Upd Noth W W' := Upd.of_below hb _
 refine ⟨h.ap,fun t k hk => ⟨(h.lo t k hk).1,Nat.lt_of_lt_of_le (h.lo t k hk).2 hb.size⟩,h.bw.trans (hb.mono h.bw.size),h.px.upd hu (fun _ _ e => e),uown_upd h.rl hu (fun _ _ e => e),h.ol,fun i hi => ?_⟩
 obtain ⟨h1,m,h2⟩ := h.mx i hi
 exact ⟨h1,m,h2.upd hu (fun _ _ e => e)⟩
theorem UR.step (h : UR w0 own W A c s L R vl) (i : Nat) (hi : i < L.length) (hok : UOk L[i].2) :
  Calls Tryz.prog 15 #[.pointer (some ⟨L[i].1,0,none⟩)] W fun e w' => e = .returned (.tuple #[.bool (decide (15 ≤ (L[i].2.step s).u.nx)),.bool (L[i].2.step s).tk]) ∧ ∃ own',UR w0 own' w' A c (L[i].2.step s).s (L.set i (L[i].1,(L[i].2.step s).u)) R vl ∧ ∀ G,G < W.heap.size → (∀ t,¬ own t G) → (∀ t,¬ own' t G) ∧ w'.heap[G]? = W.heap[G]? := by
 obtain ⟨h1,m,hm⟩ := h.mx i hi
 have hne : ∀ t k,t ≠ 1 → own 1 k → ¬ own t k := fun t k ht h1 h2 => ht (h.ap t 1 k h2 h1)
 refine (ustep_any hm h.px (fun x hx => ⟨fun e => hne (i + 6) x (by omega) hx e.1,fun e => hne (i + 6) x (by omega) hx (e ▸ h1)⟩) hok).mono ?_
 rintro e w' ⟨rfl,m',D',F',hq⟩
 have hu : Upd (fun k => own 1 k ∨ own (i + 6) k) W w' := hq.u.mono fun k _ e => by
  rcases e with e | e | e
  ·exact .inr (e ▸ h1)
  ·exact .inr (hm.pwD e).1
  ·exact .inl e
 have hS : ∀ t k,t ≠ 1 → t ≠ i + 6 → own t k → ¬ (own 1 k ∨ own (i + 6) k) := fun t k h1 h2 hk e => by
  rcases e with e | e
  ·exact h1 (h.ap _ _ _ hk e)
  ·exact h2 (h.ap _ _ _ hk e)
 let own' : Nat → Nat → Prop := fun t k => if t = 1 then F' k else if t = i + 6 then D' k ∨ k = L[i].1 else own t k
 have o1 : ∀ k,own' 1 k = F' k := fun k => if_pos rfl
 have oi : ∀ k,own' (i + 6) k = (D' k ∨ k = L[i].1) := fun k => (if_neg (by omega)).trans (if_pos rfl)
 have oo : ∀ t k,t ≠ 1 → t ≠ i + 6 → own' t k = own t k := fun t k h1 h2 => (if_neg h1).trans (if_neg h2)
 have hold : ∀ t k,own' t k → own t k ∨ (W.heap.size ≤ k ∧ (t = 1 ∨ t = i + 6)) := fun t k hk => by
  by_cases e1 : t = 1
  ·subst e1
   rw [o1] at hk
   rcases hq.f k hk with g | g
   ·exact .inl g
   ·exact .inr ⟨g,.inl rfl⟩
  ·by_cases e2 : t = i + 6
   ·subst e2
    rw [oi] at hk
    rcases hk with hk | rfl
    ·rcases hq.d k hk with g | g
     ·exact .inl g.1
     ·exact .inr ⟨g,.inr rfl⟩
    ·exact .inl h1
   ·rw [oo t k e1 e2] at hk
    exact .inl hk
 have hap1 : ∀ k,own' 1 k → ¬ own' (i + 6) k := fun k ha hb => by
  rw [o1] at ha
  rw [oi] at hb
  obtain ⟨q1,q2⟩ := hq.ap k ha
  rcases hb with hb | hb
  ·exact q1 hb
  ·exact q2 hb
 have hlt : ∀ t k,own' t k → k < w'.heap.size := fun t k hk => by
  by_cases e1 : t = 1
  ·subst e1
   rw [o1] at hk
   exact hq.px.lt k hk
  ·by_cases e2 : t = i + 6
   ·subst e2
    rw [oi] at hk
    rcases hk with hk | rfl
    ·exact hq.up.lt k hk
    ·exact lt_of_block hq.up.c
   ·rw [oo t k e1 e2] at hk
    exact Nat.lt_of_lt_of_le (h.lo t k hk).2 hu.size
 refine ⟨rfl,own',?_,fun G hG hn => ⟨fun t hk => (hold t G hk).elim (hn t) (fun q => absurd hG (by omega)),hu.block G hG (fun e => e.elim (hn 1) (hn (i + 6)))⟩⟩
 refine ⟨?_,fun t k hk => ⟨?_,hlt t k hk⟩,h.bw.trans (hu.below h.bw.size fun k hk e => ?_),?_,?_,?_,fun j hj => ?_⟩
 ·intro t t' k ha hb
  rcases hold t k ha with g1 | ⟨g1,g2⟩
  ·rcases hold t' k hb with g3 | ⟨g3,g4⟩
   ·exact h.ap t t' k g1 g3
   ·have := (h.lo t k g1).2; omega
  ·rcases hold t' k hb with g3 | ⟨g3,g4⟩
   ·have := (h.lo t' k g3).2; omega
   ·rcases g2 with rfl | rfl <;> rcases g4 with rfl | rfl
    ·rfl
    ·exact absurd hb (hap1 k ha)
    ·exact absurd ha (hap1 k hb)
    ·rfl
 ·rcases hold t k hk with g | ⟨g,_⟩
  ·exact (h.lo t k g).1
  ·have := h.bw.size; omega
 ·rcases e with e | e
  ·have := (h.lo _ k e).1; omega
  ·have := (h.lo _ k e).1; omega
 ·have : own' 1 = F' := funext o1
  rw [this]; exact hq.px
 ·exact uown_upd h.rl hu (fun k hk => hS 3 k (by omega) (by omega) (h.ol k hk))
 ·intro k hk
  rw [oo 3 k (by omega) (by omega)]; exact h.ol k hk
 ·rw [List.length_set] at hj
  by_cases e : i = j
  ·subst e
   rw [List.getElem_set_self]
   refine ⟨by rw [oi]; exact .inr rfl,m',?_⟩
   have : (fun k => own' (i + 6) k ∧ k ≠ L[i].1) = D' := by
    funext k
    rw [oi]
    refine propext ⟨fun g => ?_,fun g => ⟨.inl g,fun e => hq.up.pd (e ▸ g)⟩⟩
    rcases g with ⟨g | g,g2⟩
    ·exact g
    ·exact absurd g g2
   show UP w' L[i].1 A (fun k => own' (i + 6) k ∧ k ≠ L[i].1) m' _
   rw [this]
   exact hq.up
  ·rw [List.getElem_set_ne e]
   obtain ⟨g1,mj,g2⟩ := h.mx j hj
   have e3 : own' (j + 6) = own (j + 6) := funext fun k => oo (j + 6) k (by omega) (by omega)
   rw [e3]
   refine ⟨g1,mj,g2.upd hu fun x hx => ?_⟩
   rcases hx with rfl | hx
   ·exact hS (j + 6) _ (by omega) (by omega) g1
   ·exact hS (j + 6) _ (by omega) (by omega) hx.1
theorem UR.add {k v : Tx} (h : UR w0 own W A c s L R vl) (hk : k.Ok W) (hv : v.Ok W) :
  Calls Tryz.prog 14 #[.pointer (some ⟨A,0,none⟩),c.v,k.v,v.v] W fun e w' => ∃ P own',e = .returned (uptV P) ∧ UR w0 own' w' A c s (L ++ [(P,US.new c k.s v.s)]) R vl ∧ W.heap.size ≤ w'.heap.size ∧ ∀ G,G < W.heap.size → (∀ t,¬ own t G) → (∀ t,¬ own' t G) ∧ w'.heap[G]? = W.heap[G]? := by
 refine (unew_any h.px c k v hk hv).mono ?_
 rintro e w' ⟨P,m,D,F',rfl,hm,hp,hP,hD,hF,hap,hu⟩
 have hS : ∀ t k,t ≠ 1 → own t k → ¬ own 1 k := fun t k h1 hk e => h1 (h.ap _ _ _ hk e)
 let own' : Nat → Nat → Prop := fun t k => if t = 1 then F' k else if t = L.length + 6 then D k ∨ k = P else own t k
 have o1 : ∀ k,own' 1 k = F' k := fun k => if_pos rfl
 have oi : ∀ k,own' (L.length + 6) k = (D k ∨ k = P) := fun k => (if_neg (by omega)).trans (if_pos rfl)
 have oo : ∀ t k,t ≠ 1 → t ≠ L.length + 6 → own' t k = own t k := fun t k h1 h2 => (if_neg h1).trans (if_neg h2)
 have hold : ∀ t k,own' t k → (own t k ∧ t ≠ L.length + 6) ∨ (W.heap.size ≤ k ∧ (t = 1 ∨ t = L.length + 6)) := fun t k hk => by
  by_cases e1 : t = 1
  ·subst e1
   rw [o1] at hk
   rcases hF k hk with g | g
   ·exact .inl ⟨g,by omega⟩
   ·exact .inr ⟨g,.inl rfl⟩
  ·by_cases e2 : t = L.length + 6
   ·subst e2
    rw [oi] at hk
    rcases hk with hk | rfl
    ·exact .inr ⟨hD k hk,.inr rfl⟩
    ·exact .inr ⟨hP,.inr rfl⟩
   ·rw [oo t k e1 e2] at hk
    exact .inl ⟨hk,e2⟩
 have hap1 : ∀ k,own' 1 k → ¬ own' (L.length + 6) k := fun k ha hb => by
  rw [o1] at ha
  rw [oi] at hb
  obtain ⟨q1,q2⟩ := hap k ha
  rcases hb with hb | hb
  ·exact q1 hb
  ·exact q2 hb
 have hlt : ∀ t k,own' t k → k < w'.heap.size := fun t k hk => by
  by_cases e1 : t = 1
  ·subst e1
   rw [o1] at hk
   exact hp.lt k hk
  ·by_cases e2 : t = L.length + 6
   ·subst e2
    rw [oi] at hk
    rcases hk with hk | rfl
    ·exact hm.lt k hk
    ·exact lt_of_block hm.c
   ·rw [oo t k e1 e2] at hk
    exact Nat.lt_of_lt_of_le (h.lo t k hk).2 hu.size
 refine ⟨P,own',rfl,?_,hu.size,fun G hG hn => ⟨fun t hk => (hold t G hk).elim (fun q => hn t q.1) (fun q => absurd hG (by omega)),hu.block G hG (hn 1)⟩⟩
 refine ⟨?_,fun t k hk => ⟨?_,hlt t k hk⟩,h.bw.trans (hu.below h.bw.size fun k hk e => ?_),?_,uown_upd h.rl hu (fun k hk => hS 3 k (by omega) (h.ol k hk)),?_,fun j hj => ?_⟩
 ·intro t t' k ha hb
  rcases hold t k ha with ⟨g1,_⟩ | ⟨g1,g2⟩
  ·rcases hold t' k hb with ⟨g3,_⟩ | ⟨g3,g4⟩
   ·exact h.ap t t' k g1 g3
   ·have := (h.lo t k g1).2; omega
  ·rcases hold t' k hb with ⟨g3,_⟩ | ⟨g3,g4⟩
   ·have := (h.lo t' k g3).2; omega
   ·rcases g2 with rfl | rfl <;> rcases g4 with rfl | rfl
    ·rfl
    ·exact absurd hb (hap1 k ha)
    ·exact absurd ha (hap1 k hb)
    ·rfl
 ·rcases hold t k hk with ⟨g,_⟩ | ⟨g,_⟩
  ·exact (h.lo t k g).1
  ·have := h.bw.size; omega
 ·have := (h.lo _ k e).1; omega
 ·have : own' 1 = F' := funext o1
  rw [this]; exact hp
 ·intro k hk
  rw [oo 3 k (by omega) (by omega)]; exact h.ol k hk
 ·rw [List.length_append,List.length_singleton] at hj
  by_cases e : j < L.length
  ·rw [List.getElem_append_left e]
   obtain ⟨g1,mj,g2⟩ := h.mx j e
   have e3 : own' (j + 6) = own (j + 6) := funext fun k => oo (j + 6) k (by omega) (by omega)
   rw [e3]
   refine ⟨g1,mj,g2.upd hu fun x hx => ?_⟩
   rcases hx with rfl | hx
   ·exact hS (j + 6) _ (by omega) g1
   ·exact hS (j + 6) _ (by omega) hx.1
  ·obtain rfl : j = L.length := by omega
   rw [List.getElem_append_right (Nat.le_refl _)]
   simp only [Nat.sub_self,List.getElem_cons_zero]
   refine ⟨by rw [oi]; exact .inr rfl,m,?_⟩
   have : (fun k => own' (L.length + 6) k ∧ k ≠ P) = D := by
    funext k
    rw [oi]
    refine propext ⟨fun g => ?_,fun g => ⟨.inl g,fun e => hm.pd (e ▸ g)⟩⟩
    rcases g with ⟨g | g,g2⟩
    ·exact g
    ·exact absurd g g2
   rw [this]
   exact hm
theorem UR.begin {F : Nat → Prop} (hb : Below w0.heap.size w0 W) (hp : PX W A F s) (hF : ∀ k,F k → w0.heap.size ≤ k) : UR w0 (fun t k => t = 1 ∧ F k) W A c s [] [] (.slice none 0 0) := by
 have e1 : (fun k => (1 : Nat) = 1 ∧ F k) = F := by funext k; simp
 refine ⟨fun t t' k ha hb => by omega,fun t k hk => ⟨hF k hk.2,hp.lt k hk.2⟩,hb,by rw [e1]; exact hp,World.ownsRow_nil _ _ _ _,fun k hk => (by cases hk),fun i hi => absurd hi (Nat.not_lt_zero i)⟩
theorem UR.pushL {g cap p : Nat} (h : UR w0 own W A c s L R vl) (ho : W'.ownsRow w0.heap.size 45 1 (.slice (some ⟨g,0,none⟩) (R.length + 1) cap) (R.length + 1) (R.map uptV ++ [uptV p])) (hg : W.grownBy W' vl.ownBlock) (hor : vl.ownBlock = some g ∨ W.heap.size ≤ g) :
  UR w0 (addB own 3 g) W' A c s L (R ++ [p]) (.slice (some ⟨g,0,none⟩) (R.length + 1) cap) := by
 have hu : Upd (fun k => own 3 k) W W' := Upd.of_grown hg (fun k hk _ => h.ol k hk)
 have hS : ∀ t k,t ≠ 3 → own t k → ¬ own 3 k := fun t k h2 hk e => h2 (h.ap _ _ _ hk e)
 have hgg : own 3 g ∨ W.heap.size ≤ g := hor.imp (h.ol g) (fun q => q)
 have hold : ∀ t k,addB own 3 g t k → own t k ∨ (t = 3 ∧ k = g ∧ W.heap.size ≤ g) := fun t k hk => by
  by_cases e : t = 3
  ·subst e
   rw [addB_at] at hk
   rcases hk with hk | rfl
   ·exact .inl hk
   ·exact hgg.imp (fun q => q) (fun q => ⟨rfl,rfl,q⟩)
  ·rw [addB_ne e] at hk
   exact .inl hk
 have hb0 := h.bw.size
 have hlt := (ho.lt g rfl).2
 have e1 : addB own 3 g 1 = own 1 := funext fun k => addB_ne (by omega)
 refine ⟨fun t t' k ha hb => ?_,fun t k hk => ?_,h.bw.trans (hu.below hb0 fun k hk e => ?_),by rw [e1]; exact h.px.upd hu (fun k hk => hS 1 k (by omega) hk),by rw [List.length_append,List.map_append]; exact ho,fun k hk => ?_,fun j hj => ?_⟩
 ·rcases hold t k ha with g1 | ⟨g1,g2,g3⟩
  ·rcases hold t' k hb with g4 | ⟨g4,g5,g6⟩
   ·exact h.ap t t' k g1 g4
   ·have := (h.lo t k g1).2; omega
  ·rcases hold t' k hb with g4 | ⟨g4,g5,g6⟩
   ·have := (h.lo t' k g4).2; omega
   ·rw [g1,g4]
 ·rcases hold t k hk with g1 | ⟨g1,g2,g3⟩
  ·exact ⟨(h.lo t k g1).1,Nat.lt_of_lt_of_le (h.lo t k g1).2 hu.size⟩
  ·omega
 ·have := (h.lo _ k e).1; omega
 ·have e : g = k := by simpa [Value.ownBlock] using hk
  rw [addB_at]
  exact .inr e.symm
 ·obtain ⟨g1,mj,g2⟩ := h.mx j hj
  have e3 : addB own 3 g (j + 6) = own (j + 6) := funext fun k => addB_ne (by omega)
  rw [e3]
  refine ⟨g1,mj,g2.upd hu fun x hx => ?_⟩
  rcases hx with rfl | hx
  ·exact hS (j + 6) _ (by omega) g1
  ·exact hS (j + 6) _ (by omega) hx.1
end
def cfgA (c : Cfg) : Array Value := #[.int .i64 c.nd,.int .i64 c.lf,.int .i64 c.inn,.int .i64 c.fl,.int .i64 c.bk]
def UEa (w W : World) (A B : Nat) (c : Cfg) (vl : Value) (n : Nat) : Prop := ∃ own L kv,UR w own W A c (AS.new c.nd) L (L.map (·.1)) vl ∧ L.length = n ∧ (∀ t,¬ own t B) ∧ W.heap[B]? = some (.cells (cfgA c) 23 (0,0)) ∧ WS c (AS.new c.nd) (L.map (·.2)) kv [] 0 ∧ (∀ u ∈ L.map (·.2),u.nx ≤ 1)
def UEp (w W : World) (A B : Nat) (c : Cfg) (vl : Value) (n P : Nat) : Prop := ∃ own L kv u,UR w own W A c (AS.new c.nd) (L ++ [(P,u)]) (L.map (·.1)) vl ∧ L.length = n ∧ (∀ t,¬ own t B) ∧ W.heap[B]? = some (.cells (cfgA c) 23 (0,0)) ∧ WS c (AS.new c.nd) ((L ++ [(P,u)]).map (·.2)) kv [] 0 ∧ (∀ v ∈ (L ++ [(P,u)]).map (·.2),v.nx ≤ 1)
def UEb (w W : World) (A B : Nat) (c : Cfg) (vl : Value) (n r k op : Nat) : Prop := ∃ own L s kv E M,UR w own W A c s L (L.map (·.1)) vl ∧ L.length = n ∧ (∀ t,¬ own t B) ∧ W.heap[B]? = some (.cells (cfgA c) 23 (0,0)) ∧ WS c s (L.map (·.2)) kv E M ∧ EZ c s (L.map (·.2)) M r k 19000 ∧ M ≤ 12 * r + k ∧ n ≤ 12 ∧ k ≤ n ∧ r ≤ 19000 ∧ (op = 0 ↔ ∀ (i : Nat) (u : US),i < k → (L.map (·.2))[i]? = some u → 15 ≤ u.nx) ∧ op ≤ k
section
variable {w W W' : World} {A B P n r k op : Nat} {c : Cfg} {vl : Value} {kx vx : Tx}
theorem UEa.below (h : UEa w W A B c vl n) (hb : Below W.heap.size W W') : UEa w W' A B c vl n := by
 obtain ⟨own,L,kv,h1,h2,h3,h4,h5⟩ := h
 exact ⟨own,L,kv,h1.below hb,h2,h3,(hb.block B (lt_of_block h4)).trans h4,h5⟩
theorem UEb.below (h : UEb w W A B c vl n r k op) (hb : Below W.heap.size W W') : UEb w W' A B c vl n r k op := by
 obtain ⟨own,L,s,kv,E,M,h1,h2,h3,h4,h5⟩ := h
 exact ⟨own,L,s,kv,E,M,h1.below hb,h2,h3,(hb.block B (lt_of_block h4)).trans h4,h5⟩
theorem UEp.below (h : UEp w W A B c vl n P) (hb : Below W.heap.size W W') : UEp w W' A B c vl n P := by
 obtain ⟨own,L,kv,u,h1,h2,h3,h4,h5⟩ := h
 exact ⟨own,L,kv,u,h1.below hb,h2,h3,(hb.block B (lt_of_block h4)).trans h4,h5⟩
def CfC (W : World) (B : Nat) (c : Cfg) : Prop := W.cell? ⟨B,0,none⟩ = some (.int .i64 c.nd) ∧ W.cell? ⟨B,1,none⟩ = some (.int .i64 c.lf) ∧ W.cell? ⟨B,2,none⟩ = some (.int .i64 c.inn) ∧ W.cell? ⟨B,3,none⟩ = some (.int .i64 c.fl) ∧ W.cell? ⟨B,4,none⟩ = some (.int .i64 c.bk)
theorem cfc_of (h : W.heap[B]? = some (.cells (cfgA c) 23 (0,0))) : CfC W B c :=
 ⟨by rw [cell_of_row _ _ _ _ _ _ h]; rfl,by rw [cell_of_row _ _ _ _ _ _ h]; rfl,by rw [cell_of_row _ _ _ _ _ _ h]; rfl,by rw [cell_of_row _ _ _ _ _ _ h]; rfl,by rw [cell_of_row _ _ _ _ _ _ h]; rfl⟩
theorem UEa.cells (h : UEa w W A B c vl n) : CfC W B c ∧ Below w.heap.size w W := by
 obtain ⟨own,L,kv,h1,h2,h3,h4,h5⟩ := h
 exact ⟨cfc_of h4,h1.bw⟩
theorem UEb.cells (h : UEb w W A B c vl n r k op) : CfC W B c ∧ Below w.heap.size w W := by
 obtain ⟨own,L,s,kv,E,M,h1,h2,h3,h4,h5⟩ := h
 exact ⟨cfc_of h4,h1.bw⟩
theorem UEp.cells (h : UEp w W A B c vl n P) : CfC W B c ∧ Below w.heap.size w W := by
 obtain ⟨own,L,kv,u,h1,h2,h3,h4,h5⟩ := h
 exact ⟨cfc_of h4,h1.bw⟩
theorem UEa.begin {F : Nat → Prop} (hb : Below w.heap.size w W) (hp : PX W A F (AS.new c.nd)) (hF : ∀ k,F k → w.heap.size ≤ k) (hB : ¬ F B) (hc : W.heap[B]? = some (.cells (cfgA c) 23 (0,0))) (hok : cfgOk c.nd c.lf c.inn c.fl c.bk ∧ c.nd ≤ 60) : UEa w W A B c (.slice none 0 0) 0 :=
 ⟨_,[],[],UR.begin hb hp hF,rfl,fun t ht => hB ht.2,hc,WS.new hok,fun u hu => (by cases hu)⟩
theorem new_nx1 (c : Cfg) (key val : List Int) : (US.new c key val).nx ≤ 1 := by unfold US.new; split <;> simp
theorem UEa.new (h : UEa w W A B c vl n) (hk : kx.Ok w) (hv : vx.Ok w) (Y : World) (hY : Below W.heap.size W Y) :
  Calls Tryz.prog 14 #[.pointer (some ⟨A,0,none⟩),c.v,kx.v,vx.v] Y fun e w' => ∃ P,e = .returned (uptV P) ∧ UEp w w' A B c vl n P ∧ Y.heap.size ≤ w'.heap.size := by
 obtain ⟨own,L,kv,h1,h2,h3,h4,h5,h6⟩ := h
 have hTY := h1.below hY
 have hBY := (hY.block B (lt_of_block h4)).trans h4
 refine (hTY.add (hk.below hTY.bw) (hv.below hTY.bw)).mono ?_
 rintro e w' ⟨P,own',rfl,hT',hsz,hfr⟩
 obtain ⟨g1,g2⟩ := hfr B (lt_of_block hBY) h3
 refine ⟨P,rfl,⟨own',L,kv ++ [(kx.s,vx.s)],_,hT',h2,g1,g2.trans hBY,?_,?_⟩,?_⟩
 ·rw [List.map_append]
  exact h5.more (kx.s,vx.s)
 ·intro u hu
  rw [List.map_append] at hu
  rcases List.mem_append.1 hu with q | q
  ·exact h6 u q
  ·rw [List.mem_singleton.1 q]; exact new_nx1 _ _ _
 ·exact hsz
theorem UEp.row {la : Option Addr} {ll lc : Nat} (h : UEp w W A B c (.slice la ll lc) n P) : ll = n ∧ w.heap.size ≤ W.heap.size ∧ ∃ xs,W.ownsRow w.heap.size 45 1 (.slice la ll lc) n xs ∧ ∀ g cap W',W'.ownsRow w.heap.size 45 1 (.slice (some ⟨g,0,none⟩) (n + 1) cap) (n + 1) (xs ++ [uptV P]) → W.grownBy W' (Value.slice la ll lc).ownBlock → ((Value.slice la ll lc).ownBlock = some g ∨ W.heap.size ≤ g) → UEa w W' A B c (.slice (some ⟨g,0,none⟩) (n + 1) cap) (n + 1) := by
 obtain ⟨own,L,kv,u,hT,h3,h4,h5,h6,h7⟩ := h
 have hl : (L.map (·.1)).length = n := by rw [List.length_map]; exact h3
 have hr := hT.rl
 rw [hl] at hr
 refine ⟨?_,hT.bw.size,_,hr,fun g cap W' ho hg hor => ?_⟩
 ·rcases hr.2 with ⟨q1,q2⟩ | ⟨g,cap,cur,q1,_⟩
  ·simp only [Value.slice.injEq] at q1; omega
  ·simp only [Value.slice.injEq] at q1; omega
 ·have := hT.pushL (g := g) (cap := cap) (p := P) (by rw [hl]; exact ho) hg hor
  rw [hl] at this
  have hlB := lt_of_block h5
  refine ⟨_,_,kv,by rw [List.map_append]; exact this,by simp [h3],fun t ht => ?_,(hg.block B hlB (fun e => h4 3 (hT.ol B e.symm))).trans h5,h6,h7⟩
  by_cases e : t = 3
  ·subst e
   rw [addB_at] at ht
   rcases ht with ht | rfl
   ·exact h4 3 ht
   ·rcases hor with q | q
    ·exact h4 3 (hT.ol _ q)
    ·omega
  ·rw [addB_ne e] at ht
   exact h4 t ht
theorem UEa.start (h : UEa w W A B c vl n) (hn : n ≤ 12) : UEb w W A B c vl n 0 0 0 := by
 obtain ⟨own,L,kv,h1,h2,h3,h4,h5,h6⟩ := h
 refine ⟨own,L,_,kv,[],0,h1,h2,h3,h4,h5,EZ.new h5 ?_ h6 (by simp; omega) (by simp [AS.new]),Nat.le_refl _,hn,Nat.zero_le _,Nat.zero_le _,⟨fun _ i u hi => absurd hi (by omega),fun _ => rfl⟩,Nat.le_refl _⟩
 intro x hx
 simp only [AS.new,List.mem_singleton] at hx
 rw [hx]
 decide
theorem UEb.step {la : Option Addr} {ll lc : Nat} (h : UEb w W A B c (.slice la ll lc) n r k op) (hk : k < n) : ∃ g p,la = some ⟨g,0,none⟩ ∧ W.cell? ⟨g,k,none⟩ = some (uptV p) ∧
  ∀ Y,Below W.heap.size W Y → Calls Tryz.prog 15 #[uptV p] Y fun e w' => ∃ thr tk,e = .returned (.tuple #[.bool thr,.bool tk]) ∧ UEb w w' A B c (.slice la ll lc) n r (k + 1) (if thr = true then op else op + 1) := by
 obtain ⟨own,L,s,kv,E,M,hT,hL,hG,hX,hW,hZ,hM,hn,hkn,hr,hop,hok⟩ := h
 have hiL : k < L.length := by omega
 have hrow := hT.rl
 obtain ⟨g,rfl,hcell⟩ := row_cell1 (j := k) (u := uptV L[k].1) hrow rfl (by simp [hiL])
 have hu : (L.map (·.2))[k]? = some L[k].2 := by simp [hiL]
 have hlen := hW.len
 have hkk : k < kv.length := by rw [← hlen,List.length_map]; exact hiL
 have hok2 := hW.ok hu (by omega)
 refine ⟨g,L[k].1,rfl,hcell,fun Y hY => ((hT.below hY).step k hiL hok2).mono ?_⟩
 rintro e w' ⟨rfl,own',hT',hfr⟩
 have hXY := (hY.block B (lt_of_block hX)).trans hX
 obtain ⟨hG',hX'⟩ := hfr B (lt_of_block hXY) hG
 obtain ⟨h1,_⟩ := hW.step hu (List.getElem?_eq_getElem hkk) (fun k hk => px_wlt hT.px k hk) (by omega)
 have h2 := hZ.step hW hu (by omega)
 have e1 : L.map (·.1) = (L.set k (L[k].1,(L[k].2.step s).u)).map (·.1) := by
  refine List.ext_getElem? fun j => ?_
  rw [List.getElem?_map,List.getElem?_map,List.getElem?_set]
  by_cases e : k = j
  ·subst e; simp [hiL]
  ·rw [if_neg e]
 have e2 : (L.set k (L[k].1,(L[k].2.step s).u)).map (·.2) = (L.map (·.2)).set k (L[k].2.step s).u := by rw [List.map_set]
 refine ⟨_,_,rfl,own',L.set k (L[k].1,(L[k].2.step s).u),_,kv,_,M + 1,by rw [← e1]; exact hT',by rw [List.length_set]; exact hL,hG',hX'.trans hXY,by rw [e2]; exact h1,by rw [e2]; exact h2,by omega,hn,hk,hr,?_,by split <;> omega⟩
 rw [e2]
 have hself : ((L.map (·.2)).set k (L[k].2.step s).u)[k]? = some (L[k].2.step s).u := List.getElem?_set_self (by rw [List.length_map]; exact hiL)
 by_cases hth : 15 ≤ (L[k].2.step s).u.nx
 ·rw [if_pos (decide_eq_true hth)]
  refine ⟨fun e0 i u hi hui => ?_,fun hh => hop.2 fun i u hi hui => hh i u (by omega) (by rw [List.getElem?_set_ne (by omega)]; exact hui)⟩
  by_cases e : k = i
  ·subst e
   rw [hself] at hui
   obtain rfl := Option.some.inj hui
   exact hth
  ·rw [List.getElem?_set_ne e] at hui
   exact hop.1 e0 i u (by omega) hui
 ·rw [if_neg (by simpa using hth)]
  exact ⟨fun e0 => absurd e0 (by omega),fun hh => absurd (hh k _ (by omega) hself) hth⟩
theorem UEb.next (h : UEb w W A B c vl n r n op) (h0 : op ≠ 0) : UEb w W A B c vl n (r + 1) 0 0 ∧ r + 1 ≤ 19000 := by
 obtain ⟨own,L,s,kv,E,M,hT,hL,hG,hX,hW,hZ,hM,hn,hkn,hr,hop,hok⟩ := h
 have hZ2 := EZ.round (by rw [List.length_map,hL]; exact hZ)
 have hr2 : r + 1 ≤ 19000 := by
  refine Nat.le_of_not_lt fun hlt => h0 (hop.2 fun i u _ hui => hZ2.over hlt i u hui)
 exact ⟨⟨own,L,s,kv,E,M,hT,hL,hG,hX,hW,hZ2,by omega,hn,Nat.zero_le _,hr2,⟨fun _ i u hi => absurd hi (by omega),fun _ => rfl⟩,Nat.le_refl _⟩,hr2⟩
theorem UEb.ends (h : UEb w W A B c vl n r n 0) : (∀ Y,Below W.heap.size W Y → Calls Tryz.prog 16 #[.pointer (some ⟨A,0,none⟩)] Y fun e w' => ∃ va vc,e = .returned (.slice va 0 vc) ∧ Below W.heap.size W w') ∧ ∀ Y,Below W.heap.size W Y →
  (Calls Tryz.prog 17 #[.pointer (some ⟨A,0,none⟩),c.v] Y fun e w' => (∃ id er lv no en,e = .returned (rpt true id er lv no en)) ∧ Below W.heap.size W w') := by
 obtain ⟨own,L,s,kv,E,M,hT,hL,hG,hX,hW,hZ,hM,hn,hkn,hr,hop,hok⟩ := h
 have hh := hW.free fun i u hui => hop.1 rfl i u (by have := (List.getElem?_eq_some_iff.1 hui).1; rw [List.length_map] at this; omega) hui
 obtain ⟨⟨ls,hl⟩,hm⟩ := hW.look hh
 refine ⟨fun Y hb => (px_held (hT.below hb).px).mono fun e w' he => ?_,fun Y hb => (scheck_any (hT.below hb).px c.nd c.lf c.inn c.fl c.bk).mono fun e w' he => ?_⟩
 ·obtain ⟨x,rfl,hrow,hbel⟩ := he
  rw [hh] at hrow
  rcases hrow.2 with ⟨q1,q2⟩ | ⟨g,cap,cur,q1,_⟩
  ·exact ⟨none,0,by rw [q1],hb.trans (hbel.mono hb.size)⟩
  ·exact ⟨_,_,by rw [q1]; rfl,hb.trans (hbel.mono hb.size)⟩
 ·obtain ⟨x,rfl,hr,hbel⟩ := he
  rcases hr with ⟨id,er,h9,rfl⟩ | ⟨ls',d,h9,h10,rfl⟩
  ·rw [hl] at h9
   cases h9
  ·exact ⟨⟨_,_,_,_,_,rfl⟩,hb.trans (hbel.mono hb.size)⟩
end
theorem infoUPE : (Tryz.prog.info? 45).map (fun i => (i.zero,i.size,i.bytes)) = some (some (.pointer none),1,8) := by kernel_rfl
theorem one_newE {w : World} {u : Value} {T : TypeId} : ∀ j x,[u][j]? = some x → (w.alloc (.cells #[u] T)).cell? ((⟨w.heap.size,0,none⟩ : Addr).add j) = some x := by
 intro j x hx
 match j,hx with
 | 0,hx => rw [Addr.add_lit,cell_of_row _ _ _ _ _ _ (heap_alloc_new w _)]; simpa using hx
 | j + 1,hx => simp at hx
set_option linter.unusedSimpArgs false in
set_option maxHeartbeats 25600000 in
theorem putEnds_any (c : Cfg) (hc : CfgI c) (aS : Option Addr) (lS cS : Nat) (O : List En) (w : World) (hL : O.length = lS) (hO : UEns w aS O) (hlS : lS ≤ 1048576) :
  Calls Tryz.prog 4 #[c.v,.slice aS lS cS] w fun e w' => e = .returned (.bool true) ∧ Below w.heap.size w w' := by
 obtain ⟨i0,hi0,hz0,hz1,hz2⟩ := info_parts infoUPE
 have HHD : Hid (∀ W,Calls Tryz.prog 8 #[] W fun e w' => e = .returned (.bool true) ∧ Below W.heap.size W w') := fun W => uhead_any W
 have HFI : Hid (∀ W,Calls Tryz.prog 12 #[c.v] W fun e w' => e = .returned (fitC c).v ∧ Below W.heap.size W w') := fun W => ufit_any c hc W
 have HO := hide hO
 have HLL := hide hL
 have HLS := hide hlS
 have hlS2 : (lS : Int) ≤ 9223372036854775807 := by omega
 have hfit := fit_ok c
 generalize fitC c = d at *
 obtain ⟨dn,dl,di,df,db⟩ := d
 have HNEW : Hid (∀ W,Calls Tryz.prog 13 #[.int .i64 dn] W (NewP W dn)) := fun W => px_new dn W hfit.1.1.1 (by have := hfit.2; simp only at this; omega)
 have HFIT := hide hfit
 obtain ⟨nd,lf,inn,fl,bk⟩ := c
 simp only [Cfg.v] at HFI ⊢
 obtain ⟨wa,hwa⟩ : ∃ wa,wa = w.alloc (.cells #[.int .i64 nd,.int .i64 lf,.int .i64 inn,.int .i64 fl,.int .i64 bk] 23) := ⟨_,rfl⟩
 have ba : Below w.heap.size w wa := by rw [hwa]; exact (Below.refl _ _).alloc (Nat.le_refl _) _
 have ga : wa.heap[w.heap.size]? = some (.cells #[.int .i64 nd,.int .i64 lf,.int .i64 inn,.int .i64 fl,.int .i64 bk] 23 (0,0)) := by rw [hwa]; exact heap_alloc_new w _
 have HWA := hide hwa
 have HBA := hide ba
 have HGA := hide ga
 clear hO hL hlS hc hfit hwa ba ga
 go_enter Tryz.func4,Tryz.ntmps4
 go_upto_region 1 with fail
 rw [← HWA.out]
 clear HWA
 go_wp2_with fail
 refine (HHD.out wa).mono ?_
 rintro e w1 ⟨rfl,hb1⟩
 have g1 := (hb1.block _ (lt_of_block HGA.out)).trans HGA.out
 have HB1 := hide (HBA.out.trans (hb1.mono HBA.out.size))
 have y0 : w1.cell? ⟨w.heap.size,0,none⟩ = some (.int .i64 nd) := by rw [cell_of_row _ _ _ _ _ _ g1]; rfl
 have y1 : w1.cell? ⟨w.heap.size,1,none⟩ = some (.int .i64 lf) := by rw [cell_of_row _ _ _ _ _ _ g1]; rfl
 have y2 : w1.cell? ⟨w.heap.size,2,none⟩ = some (.int .i64 inn) := by rw [cell_of_row _ _ _ _ _ _ g1]; rfl
 have y3 : w1.cell? ⟨w.heap.size,3,none⟩ = some (.int .i64 fl) := by rw [cell_of_row _ _ _ _ _ _ g1]; rfl
 have y4 : w1.cell? ⟨w.heap.size,4,none⟩ = some (.int .i64 bk) := by rw [cell_of_row _ _ _ _ _ _ g1]; rfl
 clear hb1 HHD HBA HGA g1
 go_wp2_with fail
 refine (HFI.out w1).mono ?_
 rintro e w2 ⟨rfl,hb2⟩
 have HB2 := hide (HB1.out.trans (hb2.mono HB1.out.size))
 obtain ⟨wb,hwb⟩ : ∃ wb,wb = w2.alloc (.cells #[.int .i64 dn,.int .i64 dl,.int .i64 di,.int .i64 df,.int .i64 db] 23) := ⟨_,rfl⟩
 have bb : Below w2.heap.size w2 wb := by rw [hwb]; exact (Below.refl _ _).alloc (Nat.le_refl _) _
 have gb : wb.heap[w2.heap.size]? = some (.cells #[.int .i64 dn,.int .i64 dl,.int .i64 di,.int .i64 df,.int .i64 db] 23 (0,0)) := by rw [hwb]; exact heap_alloc_new w2 _
 have z0 : wb.cell? ⟨w2.heap.size,0,none⟩ = some (.int .i64 dn) := by rw [cell_of_row _ _ _ _ _ _ gb]; rfl
 have HWB := hide hwb
 have HBB := hide (HB2.out.trans (bb.mono HB2.out.size))
 have HGB := hide gb
 clear hb2 HFI HB1 y0 y1 y2 y3 y4 hwb bb gb
 go_upto_region 3 with fail
 rw [← HWB.out]
 clear HWB
 go_wp2_with fail
 refine (HNEW.out wb).mono ?_
 rintro e w3 ⟨A,F,rfl,hp,hf,hb3⟩
 obtain ⟨B,hB⟩ : ∃ B,B = w2.heap.size := ⟨_,rfl⟩
 rw [← hB] at HGB
 have HD0 : Hid (UEa w w3 A B ⟨dn,dl,di,df,db⟩ (.slice none 0 0) 0) := UEa.begin (F := F) (HBB.out.trans (hb3.mono HBB.out.size)) hp (fun k hk => Nat.le_trans HBB.out.size (hf k hk)) (fun hF => by have := hf B hF; have := lt_of_block HGB.out; omega) ((hb3.block _ (lt_of_block HGB.out)).trans HGB.out) HFIT.out
 rw [← hB]
 clear hp hf hb3 z0 hB HNEW HGB
 go_wp2_with fail
 go_loopw [9,10] (fun q9 q10 wr => ∃ (i : Nat) (la : Option Addr) (lc : Nat),i ≤ lS ∧ i ≤ 12 ∧ q9 = .slice la i lc ∧ q10 = .int .i64 (i : Int) ∧ Hid (UEa w wr A B ⟨dn,dl,di,df,db⟩ (.slice la i lc) i)) (fun _ q10 _ => lS - (intOf q10).toNat)
 case atStart => exact ⟨0,none,0,Nat.zero_le _,Nat.zero_le _,rfl,rfl,HD0.out⟩
 case round =>
  clear HD0
  obtain ⟨i,la,lc,hi,h12,rfl,rfl,HU⟩ := hrel
  rename World => wr
  have HI12 := hide h12
  obtain ⟨bt,hbt⟩ : ∃ b,decide (i < lS ∧ i < 12) = b := ⟨_,rfl⟩
  have HBT := hide hbt
  clear hbt
  go_upto_region 8 with fail
  go_cut [42] (fun qb wq => qb = .bool bt ∧ wq = wr)
  case first =>
   by_cases h1 : i < lS
   ·have j1 : (i : Int) < (lS : Int) := by omega
    by_cases h2 : i < 12
    ·have j2 : (i : Int) < 12 := by omega
     have hb : bt = true := by rw [← HBT.out]; exact decide_eq_true ⟨h1,h2⟩
     go_wp2_with fail
     go_meet
     exact ⟨by rw [hb],rfl⟩
    ·have j2 : ¬ (i : Int) < 12 := by omega
     have hb : bt = false := by rw [← HBT.out]; exact decide_eq_false (fun h => h2 h.2)
     go_wp2_with fail
     go_meet
     exact ⟨by rw [hb],rfl⟩
   ·have j1 : ¬ (i : Int) < (lS : Int) := by omega
    have hb : bt = false := by rw [← HBT.out]; exact decide_eq_false (fun h => h1 h.1)
    go_wp2_with fail
    go_meet
    exact ⟨by rw [hb],rfl⟩
  case rest =>
  rename World => wq
  obtain ⟨rfl,hwq⟩ := hcut
  rw [hwq]
  clear hwq
  cases bt with
  | true =>
   have hi12 : i < lS ∧ i < 12 := of_decide_eq_true HBT.out
   have hiL : i < O.length := by rw [HLL.out]; exact hi12.1
   obtain ⟨ob,oo,hoa,hob,he0,he1⟩ := HO.out.c i hiL
   subst hoa
   obtain ⟨okk,okv⟩ := HO.out.ok O[i] (List.getElem_mem hiL)
   generalize O[i] = op at *
   obtain ⟨⟨k1a,k1c,k1⟩,⟨v1a,v1c,v1⟩⟩ := op
   simp only [Tx.v] at he0 he1 okk okv
   obtain ⟨l1,hl1⟩ : ∃ x,k1.length = x := ⟨_,rfl⟩
   obtain ⟨l2,hl2⟩ : ∃ x,v1.length = x := ⟨_,rfl⟩
   rw [hl1] at he0
   rw [hl2] at he1
   have HOB := hide hob
   have HE0 := hide he0
   have HE1 := hide he1
   have HNW : Hid (∀ Y,Below wr.heap.size wr Y → Calls Tryz.prog 14 #[.pointer (some ⟨A,0,none⟩),.agg #[.int .i64 dn,.int .i64 dl,.int .i64 di,.int .i64 df,.int .i64 db],.slice k1a l1 k1c,.slice v1a l2 v1c] Y fun e w' => ∃ P,e = .returned (.pointer (some ⟨P,0,none⟩)) ∧ UEp w w' A B ⟨dn,dl,di,df,db⟩ (.slice la i lc) i P ∧ Y.heap.size ≤ w'.heap.size) := fun Y hY => by
    have := HU.out.new okk okv Y hY
    simp only [Tx.v,Cfg.v,uptV] at this
    rw [hl1,hl2] at this
    exact this
   have b0 : wr.cell? ⟨B,0,none⟩ = some (.int .i64 dn) := (HU.out.cells.1).1
   have b1 : wr.cell? ⟨B,1,none⟩ = some (.int .i64 dl) := (HU.out.cells.1).2.1
   have b2 : wr.cell? ⟨B,2,none⟩ = some (.int .i64 di) := (HU.out.cells.1).2.2.1
   have b3 : wr.cell? ⟨B,3,none⟩ = some (.int .i64 df) := (HU.out.cells.1).2.2.2.1
   have b4 : wr.cell? ⟨B,4,none⟩ = some (.int .i64 db) := (HU.out.cells.1).2.2.2.2
   have e0 : wr.cell? ⟨ob,oo + i * 2,none⟩ = some (.slice k1a l1 k1c) := (HU.out.cells.2.cell (p := ⟨ob,oo + i * 2,none⟩) HOB.out).trans HE0.out
   have e1 : wr.cell? ⟨ob,oo + i * 2 + 1,none⟩ = some (.slice v1a l2 v1c) := (HU.out.cells.2.cell (p := ⟨ob,oo + i * 2 + 1,none⟩) HOB.out).trans HE1.out
   have j0 : (0 : Int) ≤ (i : Int) := by omega
   have j1 : (i : Int) < (lS : Int) := by omega
   have hn63 : i + 1 ≤ maxLen := by unfold maxLen; omega
   have hn8 : (i + 1) * 8 ≤ 140737488355328 := by omega
   clear he0 he1 hob okk okv hl1 hl2
   go_wp2_with fail
   go_region_held3 (fun W' => W'.cell? ⟨B,0,none⟩ = some (.int .i64 dn) ∧ W'.cell? ⟨B,1,none⟩ = some (.int .i64 dl) ∧ W'.cell? ⟨B,2,none⟩ = some (.int .i64 di) ∧ W'.cell? ⟨B,3,none⟩ = some (.int .i64 df) ∧ W'.cell? ⟨B,4,none⟩ = some (.int .i64 db) ∧ W'.cell? ⟨ob,oo + i * 2,none⟩ = some (.slice k1a l1 k1c) ∧ W'.cell? ⟨ob,oo + i * 2 + 1,none⟩ = some (.slice v1a l2 v1c)) (go_keep) (first
    | (refine step_append_lies _ rfl (.tmp 45) (.tmp 59) 44 rfl w.heap.size 45 i0 (.pointer none) 1 8 Tryz.underlying44 hi0 hz0 hz1 hz2 rfl (by decide) (.slice la i lc) i xs (by simp [Act.eval]) HR.out ⟨w2.heap.size,0,none⟩ 1 1 [.pointer (some ⟨P,0,none⟩)] (by simp [Act.eval]) rfl one_newE (by intro u hu; simp only [List.mem_singleton] at hu; subst hu; rfl) (by decide) hn63 hn8 HWL.out _ rfl ?_; intro g6 cap6 w3 ho6 hg6 hor6 hgl6; have HB3 := hide (HPU.out g6 cap6 w3 ho6 hg6 (hor6.imp id (fun e => by rw [e]; exact Nat.le_refl _))); have f0 : w3.cell? ⟨B,0,none⟩ = some (.int .i64 dn) := (HB3.out.cells.1).1; have f1 : w3.cell? ⟨B,1,none⟩ = some (.int .i64 dl) := (HB3.out.cells.1).2.1; have f2 : w3.cell? ⟨B,2,none⟩ = some (.int .i64 di) := (HB3.out.cells.1).2.2.1; have f3 : w3.cell? ⟨B,3,none⟩ = some (.int .i64 df) := (HB3.out.cells.1).2.2.2.1; have f4 : w3.cell? ⟨B,4,none⟩ = some (.int .i64 db) := (HB3.out.cells.1).2.2.2.2; have v0 : w3.cell? ⟨ob,oo + i * 2,none⟩ = some (.slice k1a l1 k1c) := (HB3.out.cells.2.cell (p := ⟨ob,oo + i * 2,none⟩) HOB.out).trans HE0.out; have v1 : w3.cell? ⟨ob,oo + i * 2 + 1,none⟩ = some (.slice v1a l2 v1c) := (HB3.out.cells.2.cell (p := ⟨ob,oo + i * 2 + 1,none⟩) HOB.out).trans HE1.out; clear ho6 hg6 hor6 hgl6)
    | (go_at_call 14; refine (HNW.out _ (below_drew (Below.refl _ _))).mono ?_; rintro e w2 ⟨P,rfl,hva,hsz⟩; have c0 : w2.cell? ⟨B,0,none⟩ = some (.int .i64 dn) := (hva.cells.1).1; have c1 : w2.cell? ⟨B,1,none⟩ = some (.int .i64 dl) := (hva.cells.1).2.1; have c2 : w2.cell? ⟨B,2,none⟩ = some (.int .i64 di) := (hva.cells.1).2.2.1; have c3 : w2.cell? ⟨B,3,none⟩ = some (.int .i64 df) := (hva.cells.1).2.2.2.1; have c4 : w2.cell? ⟨B,4,none⟩ = some (.int .i64 db) := (hva.cells.1).2.2.2.2; have z0 : w2.cell? ⟨ob,oo + i * 2,none⟩ = some (.slice k1a l1 k1c) := (hva.cells.2.cell (p := ⟨ob,oo + i * 2,none⟩) HOB.out).trans HE0.out; have z1 : w2.cell? ⟨ob,oo + i * 2 + 1,none⟩ = some (.slice v1a l2 v1c) := (hva.cells.2.cell (p := ⟨ob,oo + i * 2 + 1,none⟩) HOB.out).trans HE1.out; have hva2 := hva.below (W' := (w2.alloc (.cells #[.pointer (some ⟨P,0,none⟩)] 45))) ((Below.refl _ _).alloc (Nat.le_refl _) _); have d0 : (w2.alloc (.cells #[.pointer (some ⟨P,0,none⟩)] 45)).cell? ⟨B,0,none⟩ = some (.int .i64 dn) := (hva2.cells.1).1; have d1 : (w2.alloc (.cells #[.pointer (some ⟨P,0,none⟩)] 45)).cell? ⟨B,1,none⟩ = some (.int .i64 dl) := (hva2.cells.1).2.1; have d2 : (w2.alloc (.cells #[.pointer (some ⟨P,0,none⟩)] 45)).cell? ⟨B,2,none⟩ = some (.int .i64 di) := (hva2.cells.1).2.2.1; have d3 : (w2.alloc (.cells #[.pointer (some ⟨P,0,none⟩)] 45)).cell? ⟨B,3,none⟩ = some (.int .i64 df) := (hva2.cells.1).2.2.2.1; have d4 : (w2.alloc (.cells #[.pointer (some ⟨P,0,none⟩)] 45)).cell? ⟨B,4,none⟩ = some (.int .i64 db) := (hva2.cells.1).2.2.2.2; have y0 : (w2.alloc (.cells #[.pointer (some ⟨P,0,none⟩)] 45)).cell? ⟨ob,oo + i * 2,none⟩ = some (.slice k1a l1 k1c) := (hva2.cells.2.cell (p := ⟨ob,oo + i * 2,none⟩) HOB.out).trans HE0.out; have y1 : (w2.alloc (.cells #[.pointer (some ⟨P,0,none⟩)] 45)).cell? ⟨ob,oo + i * 2 + 1,none⟩ = some (.slice v1a l2 v1c) := (hva2.cells.2.cell (p := ⟨ob,oo + i * 2 + 1,none⟩) HOB.out).trans HE1.out; obtain ⟨_,hwl,xs,hrx,hpx⟩ := hva2.row; have HR := hide hrx; have HPU := hide hpx; have HWL : Hid (w.heap.size ≤ (w2.alloc (.cells #[.pointer (some ⟨P,0,none⟩)] 45)).heap.size) := hwl; clear hva hva2 hsz hrx hpx hwl)
    | fail)
   all_goals (try go_wp2_with fail)
   all_goals go_roundw
   case rel => exact ⟨i + 1,some ⟨g6,0,none⟩,cap6,by omega,by omega,rfl,by go_num,HB3.out⟩
   case measure => simp [intOf]; omega
  | false =>
   have hi12 : i ≤ 12 := HI12.out
   have HS : Hid (UEb w wr A B ⟨dn,dl,di,df,db⟩ (.slice la i lc) i 0 0 0) := HU.out.start hi12
   clear HU HBT HO HLL HLS
   go_wp2_with fail
   go_loopw [11] (fun q11 wo => ∃ r : Nat,r ≤ 19000 ∧ q11 = .int .i64 (r : Int) ∧ Hid (UEb w wo A B ⟨dn,dl,di,df,db⟩ (.slice la i lc) i r 0 0)) (fun q11 _ => 20000 - (intOf q11).toNat)
   case atStart => exact ⟨0,Nat.zero_le _,rfl,HS.out⟩
   case round =>
    clear HS
    obtain ⟨r,hr,rfl,HV⟩ := hrel
    rename World => wo
    have jr : (r : Int) < 20000 := by omega
    go_wp2_with fail
    go_loopw [12,13] (fun q12 q13 wi => ∃ (op k : Nat),k ≤ i ∧ op ≤ k ∧ q12 = .int .i64 (op : Int) ∧ q13 = .int .i64 (k : Int) ∧ Hid (UEb w wi A B ⟨dn,dl,di,df,db⟩ (.slice la i lc) i r k op)) (fun _ q13 _ => i - (intOf q13).toNat)
    case atStart => exact ⟨0,0,Nat.zero_le _,Nat.le_refl _,rfl,rfl,HV.out⟩
    case round =>
     clear HV
     obtain ⟨op,k,hk,hok,rfl,rfl,HW⟩ := hrel
     rename World => wi
     by_cases hki : k < i
     ·have jk : (k : Int) < (i : Int) := by omega
      have jk0 : (0 : Int) ≤ (k : Int) := by omega
      obtain ⟨g0,p,hg0,hrow,hst⟩ := HW.out.step hki
      subst hg0
      simp only [uptV] at hrow hst
      have HST := hide (hst wi (Below.refl _ _))
      clear hst
      go_wp2_with fail
      refine HST.out.mono ?_
      rintro e w5 ⟨thr,tk,rfl,h5⟩
      cases thr with
      | true =>
       rw [if_pos rfl] at h5
       have H5 := hide h5
       clear h5 HST hrow HW
       go_wp2_with fail
       go_roundw
       case rel => exact ⟨op,k + 1,by omega,by omega,rfl,by go_num,H5.out⟩
       case measure => simp [intOf]; omega
      | false =>
       rw [if_neg (by decide)] at h5
       have H5 := hide h5
       clear h5 HST hrow HW
       go_wp2_with fail
       go_roundw
       case rel => exact ⟨op + 1,k + 1,by omega,by omega,by go_num,by go_num,H5.out⟩
       case measure => simp [intOf]; omega
     ·have jk : ¬ (k : Int) < (i : Int) := by omega
      obtain rfl : k = i := by omega
      by_cases h0 : op = 0
      ·subst h0
       have b0 : wi.cell? ⟨B,0,none⟩ = some (.int .i64 dn) := (HW.out.cells.1).1
       have b1 : wi.cell? ⟨B,1,none⟩ = some (.int .i64 dl) := (HW.out.cells.1).2.1
       have b2 : wi.cell? ⟨B,2,none⟩ = some (.int .i64 di) := (HW.out.cells.1).2.2.1
       have b3 : wi.cell? ⟨B,3,none⟩ = some (.int .i64 df) := (HW.out.cells.1).2.2.2.1
       have b4 : wi.cell? ⟨B,4,none⟩ = some (.int .i64 db) := (HW.out.cells.1).2.2.2.2
       obtain ⟨hheld,hlook⟩ := HW.out.ends
       have HHE := hide hheld
       have HCK : Hid (∀ Y,Below wi.heap.size wi Y → Calls Tryz.prog 17 #[.pointer (some ⟨A,0,none⟩),.agg #[.int .i64 dn,.int .i64 dl,.int .i64 di,.int .i64 df,.int .i64 db]] Y fun e w' => (∃ id er lv no en,e = .returned (.agg #[.bool true,.int .i64 id,.int .i64 er,.int .i64 lv,.int .i64 no,.int .i64 en])) ∧ Below wi.heap.size wi w') := hlook
       have FLD : ∀ (b : Bool) (i e l n m : Int) (Y : World),(Instr.field 54 (.agg #[.bool b,.int .i64 i,.int .i64 e,.int .i64 l,.int .i64 n,.int .i64 m]) 0).run Tryz.prog Y = .ok (.bool b) Y := fun b i e l n m Y => by kernel_rfl
       clear hheld hlook
       go_wp2_with (first
        | (go_at_call 16; refine (HHE.out _ (Below.refl _ _)).mono ?_; rintro e w12 ⟨va,vc,rfl,hb12⟩; have B12 := hide hb12; have g0 : w12.cell? ⟨B,0,none⟩ = some (.int .i64 dn) := ((HW.out.below hb12).cells.1).1; have g1 : w12.cell? ⟨B,1,none⟩ = some (.int .i64 dl) := ((HW.out.below hb12).cells.1).2.1; have g2 : w12.cell? ⟨B,2,none⟩ = some (.int .i64 di) := ((HW.out.below hb12).cells.1).2.2.1; have g3 : w12.cell? ⟨B,3,none⟩ = some (.int .i64 df) := ((HW.out.below hb12).cells.1).2.2.2.1; have g4 : w12.cell? ⟨B,4,none⟩ = some (.int .i64 db) := ((HW.out.below hb12).cells.1).2.2.2.2; clear hb12)
        | (go_at_call 17; refine (HCK.out _ B12.out).mono ?_; rintro e w13 ⟨⟨id7,er7,lv7,no7,en7,rfl⟩,hb13⟩; have B13 := hide hb13; clear hb13)
        | fail)
       have BF : Hid (Below w.heap.size w w13) := HW.out.cells.2.trans (B13.out.mono HW.out.cells.2.size)
       go_ret
       exact ⟨rfl,BF.out⟩
      ·have jo : ¬ (op : Int) = 0 := by omega
       obtain ⟨hn,hr2⟩ := HW.out.next h0
       have HN := hide hn
       clear hn HW
       go_wp2_with fail
       go_roundw
       case rel => exact ⟨r + 1,by omega,by go_num,HN.out⟩
       case measure => simp [intOf]; omega
end Go.Proofs.YtljnapejgjffjaaGreat
