/- Texts of one's own. -/
import Derived.Test.YtljnapejgjffjaaGreatH18
import Derived.Test.YtljnapejgjffjaaGreatH15
import Derived.Test.YtljnapejgjffjaaGreatH3
namespace Go.Proofs.YtljnapejgjffjaaGreat
open Go.RowKit
set_option maxRecDepth 100000
structure Sl where
 b : Nat
 w : Nat
 n : Nd
def Sl.cells (s : Sl) : Array Value := #[.int .u64 (s.w : Nat),.int .i64 s.n.lv,s.n.hi.v,.int .i64 s.n.ri,s.n.ks.v,s.n.vs.v,s.n.cs.v]
def Sl.ptr (s : Sl) : Value := .pointer (some ⟨s.b,0,none⟩)
structure Nd.In (D : Nat → Prop) (n : Nd) : Prop where
 h : ∀ x,n.hi.a = some x → 0 < n.hi.s.length → D x.block
 k : ∀ x,n.ks.a = some x → 0 < n.ks.L.length → D x.block
 ke : ∀ t ∈ n.ks.L,∀ x,t.a = some x → 0 < t.s.length → D x.block
 v : ∀ x,n.vs.a = some x → 0 < n.vs.L.length → D x.block
 ve : ∀ t ∈ n.vs.L,∀ x,t.a = some x → 0 < t.s.length → D x.block
 c : ∀ x,n.cs.a = some x → 0 < n.cs.s.length → D x.block
theorem Nd.In.mono {D E : Nat → Prop} {n : Nd} (h : n.In D) (hd : ∀ k,D k → E k) : n.In E :=
 ⟨fun x e l => hd _ (h.h x e l),fun x e l => hd _ (h.k x e l),fun t ht x e l => hd _ (h.ke t ht x e l),fun x e l => hd _ (h.v x e l),fun t ht x e l => hd _ (h.ve t ht x e l),fun x e l => hd _ (h.c x e l)⟩
theorem TCells.upd {W W' : World} {S : Nat → Prop} {a : Option Addr} {L : List Tx} (h : TCells W a L) (hb : Upd S W W') (hs : ∀ x,a = some x → 0 < L.length → ¬ S x.block) : TCells W' a L := by
 intro i hi
 obtain ⟨b,o,ha,hc⟩ := h i hi
 exact ⟨b,o,ha,hb.cell (p := ⟨b,o + i,none⟩) hc (fun e => hs ⟨b,o,none⟩ ha (by omega) e)⟩
theorem Tx.Ok.updL {W W' : World} {S : Nat → Prop} {t : Tx} (h : t.Ok W) (hb : Upd S W W') (hs : ∀ x,t.a = some x → 0 < t.s.length → ¬ S x.block) : t.Ok W' := ⟨h.r.upd hb hs,h.n,h.lc,h.b8,h.z⟩
theorem TL.Ok.upd {W W' : World} {S : Nat → Prop} {t : TL} (h : t.Ok W) (hb : Upd S W W') (hs : ∀ x,t.a = some x → 0 < t.L.length → ¬ S x.block) (he : ∀ y ∈ t.L,∀ x,y.a = some x → 0 < y.s.length → ¬ S x.block) : t.Ok W' :=
 ⟨h.r.upd hb hs,fun y hy => (h.ok y hy).updL hb (he y hy),h.n,h.lc⟩
theorem IL.Ok.upd {W W' : World} {S : Nat → Prop} {t : IL} (h : t.Ok W) (hb : Upd S W W') (hs : ∀ x,t.a = some x → 0 < t.s.length → ¬ S x.block) : t.Ok W' :=
 ⟨h.r.upd hb hs,h.n,h.lc⟩
theorem Nd.Ok.upd {W W' : World} {S D : Nat → Prop} {n : Nd} (h : n.Ok W) (hi : n.In D) (hb : Upd S W W') (hs : ∀ k,D k → ¬ S k) : n.Ok W' :=
 ⟨h.h.updL hb (fun x e l => hs _ (hi.h x e l)),h.k.upd hb (fun x e l => hs _ (hi.k x e l)) (fun t ht x e l => hs _ (hi.ke t ht x e l)),h.v.upd hb (fun x e l => hs _ (hi.v x e l)) (fun t ht x e l => hs _ (hi.ve t ht x e l)),h.c.upd hb (fun x e l => hs _ (hi.c x e l)),h.kz,h.vz,h.cz⟩
theorem Nd.Ok.in_ {W : World} {n : Nd} (h : n.Ok W) : n.In (fun k => k < W.heap.size) := by
 have hr : ∀ {k : IntKind} {a : Option Addr} {zs : List Int},Row W k a zs → ∀ x,a = some x → 0 < zs.length → x.block < W.heap.size := fun r x e l => by
  obtain ⟨b,o,ha,hc⟩ := r 0 l
  rw [e] at ha
  cases ha
  exact World.block_lt_of_cell? W ⟨b,o + 0,none⟩ hc
 have ht : ∀ {a : Option Addr} {L : List Tx},TCells W a L → ∀ x,a = some x → 0 < L.length → x.block < W.heap.size := fun r x e l => by
  obtain ⟨b,o,ha,hc⟩ := r 0 l
  rw [e] at ha
  cases ha
  exact World.block_lt_of_cell? W ⟨b,o + 0,none⟩ hc
 exact ⟨hr h.h.r,ht h.k.r,fun t hm => hr (h.k.ok t hm).r,ht h.v.r,fun t hm => hr (h.v.ok t hm).r,hr h.c.r⟩
theorem ownB_in {W : World} {N : Nat} {x : Tx} (h : OwnB W N 5 x.v x.s) : ∀ y,x.a = some y → N ≤ y.block ∧ y.block < W.heap.size := by
 intro y hy
 rcases h with ⟨hv,_⟩ | ⟨g,cap,cur,hv,hb,hh,_⟩
 ·simp only [Tx.v,Value.slice.injEq] at hv; rw [hy] at hv; exact absurd hv.1 (by simp)
 ·simp only [Tx.v,Value.slice.injEq] at hv
  rw [hy] at hv
  obtain ⟨h1,_,_⟩ := hv
  obtain rfl := Option.some.inj h1
  exact ⟨hb,lt_of_block hh⟩
theorem owns_in {W : World} {N : Nat} {e : TypeId} {a : Option Addr} {n m c : Nat} {xs : List Value} (h : W.ownsRow N e 1 (.slice a n c) m xs) : ∀ y,a = some y → N ≤ y.block ∧ y.block < W.heap.size := by
 intro y hy
 subst hy
 exact h.lt y.block (by
  rcases h.2 with ⟨hv,_⟩ | ⟨g,cap,cur,hv,_⟩
  ·cases hv
  ·cases hv; rfl)
theorem Nd.Own.in_ {W : World} {N : Nat} {n : Nd} (h : n.Own W N) : n.In (fun k => N ≤ k ∧ k < W.heap.size) :=
 ⟨fun x e _ => ownB_in h.h x e,fun x e _ => owns_in h.k.row x e,fun t ht x e _ => ownB_in (h.k.each t ht) x e,fun x e _ => owns_in h.v.row x e,fun t ht x e _ => ownB_in (h.v.each t ht) x e,fun x e _ => owns_in h.c x e⟩
def Nd.zero : Nd := ⟨0,⟨none,0,[]⟩,0,⟨none,0,[]⟩,⟨none,0,[]⟩,⟨none,0,[]⟩⟩
def NP.zero : NP := ⟨0,[],0,[],[],[]⟩
theorem Nd.zero_ok (W : World) : Nd.zero.Ok W := ⟨Tx.nil_ok W,TL.nil_ok W,TL.nil_ok W,IL.nil_ok W,Nat.zero_le _,Nat.zero_le _,Nat.zero_le _⟩
theorem Nd.zero_in (D : Nat → Prop) : Nd.zero.In D := ⟨(fun _ h _ => nomatch h),(fun _ h _ => nomatch h),(fun _ h => nomatch h),(fun _ h _ => nomatch h),(fun _ h => nomatch h),(fun _ h _ => nomatch h)⟩
structure Sl.Ok (W : World) (M D : Nat → Prop) (s : Sl) : Prop where
 c : W.heap[s.b]? = some (.cells s.cells 112 (0,0))
 m : M s.b
 n : s.n.Ok W
 d : s.n.In D
 w : s.w < 18446744073709551616
structure PA (W : World) (A : Nat) (M D : Nat → Prop) (nodes root : Int) (L : List Sl) : Prop where
 row : ∃ g c,W.heap[A]? = some (.cells #[.slice (some ⟨g,0,none⟩) L.length c,.int .i64 nodes,.int .i64 root] 115 (0,0)) ∧ W.ownsRow 0 96 1 (.slice (some ⟨g,0,none⟩) L.length c) L.length (L.map Sl.ptr) ∧ M g
 mA : M A
 lt : ∀ k,M k ∨ D k → k < W.heap.size
 dj : ∀ k,M k → ¬ D k
 sl : ∀ s ∈ L,s.Ok W M D
 nd : (L.map (·.b)).Nodup
 one : 1 ≤ L.length
 le : (L.length : Int) ≤ nodes
 nz : nodes ≤ 65536
theorem Sl.Ok.upd {W W' : World} {M D S : Nat → Prop} {s : Sl} (h : s.Ok W M D) (hb : Upd S W W') (hs : ∀ k,M k ∨ D k → ¬ S k) : s.Ok W' M D :=
 ⟨hb.heap h.c (hs _ (.inl h.m)),h.m,h.n.upd h.d hb (fun k hk => hs k (.inr hk)),h.d,h.w⟩
theorem PA.upd {W W' : World} {A : Nat} {M D S : Nat → Prop} {nodes root : Int} {L : List Sl} (h : PA W A M D nodes root L) (hb : Upd S W W') (hs : ∀ k,M k ∨ D k → ¬ S k) : PA W' A M D nodes root L := by
 obtain ⟨g,c,h1,h2,h3⟩ := h.row
 refine ⟨⟨g,c,hb.heap h1 (hs _ (.inl h.mA)),owns_upd h2 hb (fun k hk => ?_),h3⟩,h.mA,fun k hk => Nat.lt_of_lt_of_le (h.lt k hk) hb.size,h.dj,fun s hs' => (h.sl s hs').upd hb hs,h.nd,h.one,h.le,h.nz⟩
 cases hk
 exact hs _ (.inl h3)
theorem PA.drewN {W : World} {A : Nat} {M D : Nat → Prop} {nodes root : Int} {L : List Sl} (h : PA W A M D nodes root L) (m : Nat) : PA (W.drewN m) A M D nodes root L :=
 h.upd (S := Noth) ⟨rfl,rfl,rfl,Nat.le_refl _,fun _ _ _ => rfl⟩ (fun _ _ e => e)
theorem PA.below {W W' : World} {A : Nat} {M D : Nat → Prop} {nodes root : Int} {L : List Sl} (h : PA W A M D nodes root L) (hb : Below W.heap.size W W') : PA W' A M D nodes root L :=
 h.upd (S := Noth) (Upd.of_below hb _) (fun _ _ e => e)
theorem upd_drewN (S : Nat → Prop) (W : World) (m : Nat) : Upd S W (W.drewN m) := ⟨rfl,rfl,rfl,Nat.le_refl _,fun _ _ _ => rfl⟩
theorem PA.slot_ne {W : World} {A : Nat} {M D : Nat → Prop} {nodes root : Int} {L : List Sl} (h : PA W A M D nodes root L) {i j : Nat} (hi : i < L.length) (hj : j < L.length) (hne : i ≠ j) : L[i].b ≠ L[j].b := by
 intro e
 have h1 := List.pairwise_iff_getElem.1 h.nd
 rcases Nat.lt_or_gt_of_ne hne with hl | hl
 ·exact h1 i j (by simpa using hi) (by simpa using hj) hl (by simpa using e)
 ·exact h1 j i (by simpa using hj) (by simpa using hi) hl (by simpa using e.symm)
theorem PA.slot_A {W : World} {A : Nat} {M D : Nat → Prop} {nodes root : Int} {L : List Sl} (h : PA W A M D nodes root L) {s : Sl} (hs : s ∈ L) : s.b ≠ A := by
 intro e
 obtain ⟨g,c,h1,_⟩ := h.row
 have := (h.sl s hs).c
 rw [e,h1] at this
 simp at this
theorem PA.row_ne {W : World} {A : Nat} {M D : Nat → Prop} {nodes root : Int} {L : List Sl} (h : PA W A M D nodes root L) {g c : Nat} {xs : List Value} (hr : W.ownsRow 0 96 1 (.slice (some ⟨g,0,none⟩) L.length c) L.length xs) : g ≠ A ∧ ∀ s ∈ L,s.b ≠ g := by
 rcases hr.2 with ⟨hv,_⟩ | ⟨g',c',cur,hv,_,hh,_⟩
 ·cases hv
 ·cases hv
  constructor
  ·intro e
   obtain ⟨g2,c2,h1,_⟩ := h.row
   rw [e,h1] at hh
   simp at hh
  ·intro s hs e
   have := (h.sl s hs).c
   rw [e,hh] at this
   simp at this
theorem PA.put {W W1 : World} {A : Nat} {M D D' : Nat → Prop} {nodes root : Int} {L : List Sl} (h : PA W A M D nodes root L) {i : Nat} (hi : i < L.length) (s : Sl) (hb : s.b = L[i].b) (hu : Upd (fun k => k = L[i].b) W W1)
  (hD : ∀ k,D k → D' k) (hlt : ∀ k,D' k → k < W1.heap.size) (hdj : ∀ k,M k → ¬ D' k) (hok : s.Ok W1 M D') : PA W1 A M D' nodes root (L.set i s) := by
 have hmem : L[i] ∈ L := List.getElem_mem hi
 obtain ⟨g,c,h1,h2,h3⟩ := h.row
 obtain ⟨n1,n2⟩ := h.row_ne h2
 refine ⟨⟨g,c,?_,?_,h3⟩,h.mA,?_,hdj,?_,?_,by rw [List.length_set]; exact h.one,by rw [List.length_set]; exact h.le,h.nz⟩
 ·rw [List.length_set]
  exact hu.heap h1 (fun e => h.slot_A hmem e.symm)
 ·rw [List.length_set,List.map_set,show s.ptr = (L.map Sl.ptr)[i]'(by simpa using hi) by rw [List.getElem_map]; unfold Sl.ptr; rw [hb],List.set_getElem_self]
  exact owns_upd h2 hu (fun k hk e => by cases hk; exact n2 _ hmem e.symm)
 ·intro k hk
  rcases hk with hk | hk
  ·exact Nat.lt_of_lt_of_le (h.lt k (.inl hk)) hu.size
  ·exact hlt k hk
 ·intro t ht
  obtain ⟨j,hj,rfl⟩ := List.mem_iff_getElem.1 ht
  rw [List.length_set] at hj
  by_cases hij : i = j
  ·subst hij; rw [List.getElem_set_self]; exact hok
  ·rw [List.getElem_set_ne hij]
   have ho := h.sl L[j] (List.getElem_mem hj)
   refine ⟨hu.heap ho.c (fun e => h.slot_ne hi hj hij e.symm),ho.m,ho.n.upd ho.d hu (fun k hk e => h.dj L[i].b (h.sl _ hmem).m (by rw [← e]; exact hk)),ho.d.mono hD,ho.w⟩
 ·rw [List.map_set,hb,show L[i].b = (L.map (·.b))[i]'(by simpa using hi) by rw [List.getElem_map],List.set_getElem_self]
  exact h.nd
theorem PA.setW {W : World} {A : Nat} {M D : Nat → Prop} {nodes root : Int} {L : List Sl} (h : PA W A M D nodes root L) {i : Nat} (hi : i < L.length) (x : Nat) (hx : x < 18446744073709551616) :
  PA (W.setCell ⟨L[i].b,0,none⟩ (.int .u64 (x : Nat))) A M D nodes root (L.set i ⟨L[i].b,x,L[i].n⟩) := by
 have ho := h.sl L[i] (List.getElem_mem hi)
 have hu : Upd (fun k => k = L[i].b) W (W.setCell ⟨L[i].b,0,none⟩ (.int .u64 (x : Nat))) := (Upd.refl _ _).setCell _ _ (fun _ => rfl)
 refine h.put hi ⟨L[i].b,x,L[i].n⟩ rfl hu (fun k hk => hk) (fun k hk => Nat.lt_of_lt_of_le (h.lt k (.inr hk)) hu.size) h.dj ⟨block_setCell ho.c 0 _,ho.m,ho.n.upd ho.d hu (fun k hk e => h.dj _ ho.m (by rw [← e]; exact hk)),ho.d,hx⟩
def ndsOf (L : List Sl) : List (Nat × NP) := L.map fun s => (s.w,s.n.p)
theorem ndsOf_len (L : List Sl) : (ndsOf L).length = L.length := by simp [ndsOf]
set_option maxHeartbeats 400000 in
theorem used_raw (A : Nat) (a : Option Addr) (n c : Nat) (w : World) (hc : w.cell? ⟨A,0,none⟩ = some (.slice a n c)) : Calls Tryz.prog 32 #[.pointer (some ⟨A,0,none⟩)] w fun e w' => e = .returned (.int .i64 (n : Nat)) ∧ w' = w := by
 go_enter Tryz.func32,Tryz.ntmps32
 go_wp2
 go_ret
 exact ⟨rfl,rfl⟩
set_option maxHeartbeats 400000 in
theorem root_raw (A : Nat) (r : Int) (w : World) (hc : w.cell? ⟨A,2,none⟩ = some (.int .i64 r)) : Calls Tryz.prog 45 #[.pointer (some ⟨A,0,none⟩)] w fun e w' => e = .returned (.int .i64 r) ∧ w' = w := by
 go_enter Tryz.func45,Tryz.ntmps45
 go_wp2
 go_ret
 exact ⟨rfl,rfl⟩
set_option maxHeartbeats 800000 in
theorem left_raw (A : Nat) (a : Option Addr) (n c : Nat) (m : Int) (w : World) (hc : w.cell? ⟨A,0,none⟩ = some (.slice a n c)) (hm : w.cell? ⟨A,1,none⟩ = some (.int .i64 m)) (h0 : 0 ≤ m) (h1 : m ≤ 65536) (hn : n ≤ 65536) :
  Calls Tryz.prog 43 #[.pointer (some ⟨A,0,none⟩)] w fun e w' => e = .returned (.int .i64 (m - (n : Nat))) ∧ ∃ k,w' = w.drewN k := by
 have j0 : -65536 ≤ m - (n : Int) := by omega
 have j1 : m - (n : Int) ≤ 65536 := by omega
 go_enter Tryz.func43,Tryz.ntmps43
 go_wp2_with fail
 go_quiet (fail)
 go_wp2
 go_ret
 exact ⟨rfl,_,rfl⟩
set_option maxHeartbeats 800000 in
theorem slot_good (A g n c i b : Nat) (w : World) (hc : w.cell? ⟨A,0,none⟩ = some (.slice (some ⟨g,0,none⟩) n c)) (hp : w.cell? ⟨g,i,none⟩ = some (.pointer (some ⟨b,0,none⟩))) (hi : i < n) (hn : n ≤ 65536) :
  Calls Tryz.prog 69 #[.pointer (some ⟨A,0,none⟩),.int .i64 ((i : Int) + 1)] w fun e w' => e = .returned (.tuple #[.pointer (some ⟨b,0,none⟩),.int .i64 0]) ∧ w' = w := by
 have HU := hide (used_raw A _ n c w hc)
 have j4 : (i : Int) < (n : Int) := by omega
 obtain ⟨id,hid⟩ : ∃ id,id = (i : Int) + 1 := ⟨_,rfl⟩
 rw [← hid]
 have j1 : ¬ id < 1 := by omega
 have j2 : ¬ (n : Int) < id := by omega
 have j3 : id - 1 = (i : Int) := by omega
 have j5 : id ≤ 65536 := by omega
 clear hid
 go_enter Tryz.func69,Tryz.ntmps69
 go_wp2_with fail
 refine keep HU.out ?_
 go_wp2_with fail
 go_ret2
 exact ⟨rfl,rfl⟩
set_option maxHeartbeats 800000 in
theorem slot_bad (A n c : Nat) (a : Option Addr) (id : Int) (w : World) (hc : w.cell? ⟨A,0,none⟩ = some (.slice a n c)) (hi : ¬ (1 ≤ id ∧ id ≤ n)) :
  Calls Tryz.prog 69 #[.pointer (some ⟨A,0,none⟩),.int .i64 id] w fun e w' => e = .returned (.tuple #[.pointer none,.int .i64 101]) ∧ w' = w := by
 have HU := hide (used_raw A _ n c w hc)
 by_cases h : id < 1
 ·clear hi
  go_enter Tryz.func69,Tryz.ntmps69
  go_wp2_with fail
  go_ret2
  exact ⟨rfl,rfl⟩
 ·have j2 : (n : Int) < id := by omega
  clear hi
  go_enter Tryz.func69,Tryz.ntmps69
  go_wp2_with fail
  refine keep HU.out ?_
  go_wp2_with fail
  go_ret2
  exact ⟨rfl,rfl⟩
section
variable {W : World} {A : Nat} {M D : Nat → Prop} {nodes root : Int} {L : List Sl}
theorem PA.n_le (h : PA W A M D nodes root L) : L.length ≤ 65536 := by have := h.le; have := h.nz; omega
theorem PA.cells (h : PA W A M D nodes root L) : ∃ g c,W.cell? ⟨A,0,none⟩ = some (.slice (some ⟨g,0,none⟩) L.length c) ∧ W.cell? ⟨A,1,none⟩ = some (.int .i64 nodes) ∧ W.cell? ⟨A,2,none⟩ = some (.int .i64 root) ∧ ∀ i (hi : i < L.length),W.cell? ⟨g,i,none⟩ = some (.pointer (some ⟨L[i].b,0,none⟩)) := by
 obtain ⟨g,c,h1,h2,_⟩ := h.row
 refine ⟨g,c,by rw [cell_of_row _ _ _ _ _ _ h1]; rfl,by rw [cell_of_row _ _ _ _ _ _ h1]; rfl,by rw [cell_of_row _ _ _ _ _ _ h1]; rfl,fun i hi => ?_⟩
 have hc := h2.cells (g := g) rfl i (L[i].ptr) (by rw [List.getElem?_map,List.getElem?_eq_getElem hi]; rfl)
 rw [Addr.add_lit,Nat.zero_add] at hc
 exact hc
theorem root_any (h : PA W A M D nodes root L) : Calls Tryz.prog 45 #[.pointer (some ⟨A,0,none⟩)] W fun e w' => e = .returned (.int .i64 root) ∧ w' = W := by
 obtain ⟨g,c,_,_,h3,_⟩ := h.cells
 exact root_raw A root W h3
theorem left_any (h : PA W A M D nodes root L) : Calls Tryz.prog 43 #[.pointer (some ⟨A,0,none⟩)] W fun e w' => e = .returned (.int .i64 (nodes - (L.length : Nat))) ∧ ∃ k,w' = W.drewN k := by
 obtain ⟨g,c,h1,h2,_⟩ := h.cells
 exact left_raw A _ _ c nodes W h1 h2 (by have := h.le; omega) h.nz h.n_le
theorem slot_any (h : PA W A M D nodes root L) (i : Nat) (hi : i < L.length) :
  Calls Tryz.prog 69 #[.pointer (some ⟨A,0,none⟩),.int .i64 ((i : Int) + 1)] W fun e w' => e = .returned (.tuple #[.pointer (some ⟨L[i].b,0,none⟩),.int .i64 0]) ∧ w' = W := by
 obtain ⟨g,c,h1,_,_,h4⟩ := h.cells
 exact slot_good A g _ c i _ W h1 (h4 i hi) hi h.n_le
theorem slot_none (h : PA W A M D nodes root L) (id : Int) (hi : ¬ (1 ≤ id ∧ id ≤ (L.length : Nat))) :
  Calls Tryz.prog 69 #[.pointer (some ⟨A,0,none⟩),.int .i64 id] W fun e w' => e = .returned (.tuple #[.pointer none,.int .i64 101]) ∧ w' = W := by
 obtain ⟨g,c,h1,_⟩ := h.cells
 exact slot_bad A _ c _ id W h1 hi
theorem PA.wcell (h : PA W A M D nodes root L) (i : Nat) (hi : i < L.length) : W.cell? ⟨L[i].b,0,none⟩ = some (.int .u64 (L[i].w : Nat)) ∧ W.frozen? ⟨L[i].b,0,none⟩ = false ∧ L[i].w < 18446744073709551616 := by
 have ho := h.sl L[i] (List.getElem_mem hi)
 exact ⟨by rw [cell_of_row _ _ _ _ _ _ ho.c]; rfl,frozen_of ho.c 0,ho.w⟩
set_option maxHeartbeats 800000 in
theorem word_any (h : PA W A M D nodes root L) (i : Nat) (hi : i < L.length) :
  Calls Tryz.prog 31 #[.pointer (some ⟨A,0,none⟩),.int .i64 ((i : Int) + 1)] W fun e w' => e = .returned (.tuple #[.int .u64 (L[i].w : Nat),.int .i64 0]) ∧ w' = W := by
 have HS := hide (slot_any h i hi)
 obtain ⟨h1,h2,h3⟩ := h.wcell i hi
 generalize L[i].b = b at *
 generalize L[i].w = x at *
 have HR := hide (lread_any b x W h1)
 clear h h1 h2 h3 hi
 generalize (i : Int) + 1 = id at *
 go_enter Tryz.func31,Tryz.ntmps31
 go_wp2_with fail
 refine keep HS.out ?_
 go_wp2_with fail
 refine keep HR.out ?_
 go_wp2_with fail
 go_ret2
 exact ⟨rfl,rfl⟩
set_option maxHeartbeats 800000 in
theorem word_none (h : PA W A M D nodes root L) (id : Int) (hi : ¬ (1 ≤ id ∧ id ≤ (L.length : Nat))) :
  Calls Tryz.prog 31 #[.pointer (some ⟨A,0,none⟩),.int .i64 id] W fun e w' => e = .returned (.tuple #[.int .u64 0,.int .i64 101]) ∧ w' = W := by
 have HS := hide (slot_none h id hi)
 clear h hi
 go_enter Tryz.func31,Tryz.ntmps31
 go_wp2_with fail
 refine keep HS.out ?_
 go_wp2_with fail
 go_ret2
 exact ⟨rfl,rfl⟩
end
def NewPost (w : World) (nodes : Int) (e : Ending) (w' : World) : Prop :=
 ∃ A b M,e = .returned (.tuple #[.pointer (some ⟨A,0,none⟩),.int .i64 0]) ∧ PA w' A M Noth nodes 1 [⟨b,0,Nd.zero⟩] ∧ (∀ k,M k → w.heap.size ≤ k) ∧ Below w.heap.size w w'
set_option maxHeartbeats 800000 in
theorem new_good (nodes : Int) (w : World) (h1 : 1 ≤ nodes) (h2 : nodes ≤ 65536) : Calls Tryz.prog 13 #[.int .i64 nodes] w (NewPost w nodes) := by
 have j1 : ¬ nodes < 1 := by omega
 have j2 : ¬ 65536 < nodes := by omega
 obtain ⟨w1,hw1⟩ : ∃ w1,w1 = w.alloc (.cells #[.int .u64 0,.int .i64 0,.slice none 0 0,.int .i64 0,.slice none 0 0,.slice none 0 0,.slice none 0 0] 112) := ⟨_,rfl⟩
 obtain ⟨w2,hw2⟩ : ∃ w2,w2 = w1.alloc (.cells #[.pointer (some ⟨w.heap.size,0,none⟩)] 96) := ⟨_,rfl⟩
 obtain ⟨w3,hw3⟩ : ∃ w3,w3 = w2.alloc (.cells #[.slice (some ⟨w.heap.size + 1,0,none⟩) 1 1,.int .i64 nodes,.int .i64 1] 115) := ⟨_,rfl⟩
 have s1 : w1.heap.size = w.heap.size + 1 := by rw [hw1]; simp
 have s2 : w2.heap.size = w.heap.size + 1 + 1 := by rw [hw2]; simp [s1]
 have s3 : w3.heap.size = w.heap.size + 3 := by rw [hw3]; simp [s2]
 have a1 : w3.heap[w.heap.size]? = some (.cells #[.int .u64 0,.int .i64 0,.slice none 0 0,.int .i64 0,.slice none 0 0,.slice none 0 0,.slice none 0 0] 112 (0,0)) := by
  rw [hw3,Below.heap_alloc _ _ _ (by omega),hw2,Below.heap_alloc _ _ _ (by omega),hw1]; exact heap_alloc_new w _
 have a2 : w3.heap[w.heap.size + 1]? = some (.cells #[.pointer (some ⟨w.heap.size,0,none⟩)] 96 (0,0)) := by
  rw [hw3,Below.heap_alloc _ _ _ (by omega),hw2,← s1]; exact heap_alloc_new w1 _
 have a3 : w3.heap[w.heap.size + 1 + 1]? = some (.cells #[.slice (some ⟨w.heap.size + 1,0,none⟩) 1 1,.int .i64 nodes,.int .i64 1] 115 (0,0)) := by
  rw [hw3,← s2]; exact heap_alloc_new w2 _
 have B : Below w.heap.size w w3 := by
  rw [hw3,hw2,hw1]
  exact (((Below.refl _ _).alloc (Nat.le_refl _) _).alloc (by simp) _).alloc (by simp; omega) _
 have HP : Hid (NewPost w nodes (.returned (.tuple #[.pointer (some ⟨w.heap.size + 1 + 1,0,none⟩),.int .i64 0])) w3) := by
  refine ⟨w.heap.size + 1 + 1,w.heap.size,fun k => w.heap.size ≤ k ∧ k < w.heap.size + 3,rfl,⟨⟨w.heap.size + 1,1,a3,⟨rfl,.inr ⟨w.heap.size + 1,1,_,rfl,Nat.zero_le _,a2,Nat.le_refl _,by unfold maxLen; omega,rfl,rfl⟩⟩,by omega,by omega⟩,⟨by omega,by omega⟩,?_,fun k _ e => e,?_,by simp,Nat.le_refl _,h1,h2⟩,fun k hk => hk.1,B⟩
  ·intro k hk
   rcases hk with hk | hk
   ·omega
   ·exact hk.elim
  ·intro s hs
   obtain rfl := List.mem_singleton.1 hs
   exact ⟨a1,⟨Nat.le_refl _,by simp only; omega⟩,Nd.zero_ok _,Nd.zero_in _,by simp only; decide⟩
 have HW : Hid (w3 = ((w.alloc (.cells #[.int .u64 0,.int .i64 0,.slice none 0 0,.int .i64 0,.slice none 0 0,.slice none 0 0,.slice none 0 0] 112)).alloc (.cells #[.pointer (some ⟨w.heap.size,0,none⟩)] 96)).alloc (.cells #[.slice (some ⟨w.heap.size + 1,0,none⟩) 1 1,.int .i64 nodes,.int .i64 1] 115)) := by
  show _ = _
  rw [hw3,hw2,hw1]
 clear s1 s2 s3 a1 a2 a3 B hw1 hw2 hw3 h1 h2
 go_enter Tryz.func13,Tryz.ntmps13
 go_wp2_with fail
 go_ret2
 rw [← HW.out]
 exact HP.out
theorem PA.push {W W5 : World} {A : Nat} {M D : Nat → Prop} {nodes root : Int} {L : List Sl} (h : PA W A M D nodes root L) (hn : (L.length : Int) < nodes) (hu : Upd M W W5) {g c b : Nat}
  (hA : W5.heap[A]? = some (.cells #[.slice (some ⟨g,0,none⟩) (L.length + 1) c,.int .i64 nodes,.int .i64 root] 115 (0,0)))
  (ho : W5.ownsRow 0 96 1 (.slice (some ⟨g,0,none⟩) (L.length + 1) c) (L.length + 1) (L.map Sl.ptr ++ [.pointer (some ⟨b,0,none⟩)])) (hg : M g ∨ W.heap.size ≤ g)
  (hs : ∀ s ∈ L,W5.heap[s.b]? = W.heap[s.b]?) (hb : W.heap.size ≤ b) (hbk : W5.heap[b]? = some (.cells (Sl.cells ⟨b,1,Nd.zero⟩) 112 (0,0))) :
  PA W5 A (fun k => M k ∨ (W.heap.size ≤ k ∧ k < W5.heap.size)) D nodes root (L ++ [⟨b,1,Nd.zero⟩]) := by
 have hgl : g < W5.heap.size := (ho.lt g rfl).2
 have hl : (L ++ [(⟨b,1,Nd.zero⟩ : Sl)]).length = L.length + 1 := by simp
 have hbl := lt_of_block hbk
 refine ⟨⟨g,c,by rw [hl]; exact hA,?_,?_⟩,.inl h.mA,?_,?_,?_,?_,by rw [hl]; omega,by rw [hl]; omega,h.nz⟩
 ·rw [hl,List.map_append]; exact ho
 ·rcases hg with hg | hg
  ·exact .inl hg
  ·exact .inr ⟨hg,hgl⟩
 ·intro k hk
  rcases hk with (hk | hk) | hk
  ·exact Nat.lt_of_lt_of_le (h.lt k (.inl hk)) hu.size
  ·exact hk.2
  ·exact Nat.lt_of_lt_of_le (h.lt k (.inr hk)) hu.size
 ·intro k hk hd
  rcases hk with hk | hk
  ·exact h.dj k hk hd
  ·have := h.lt k (.inr hd); omega
 ·intro s hs'
  rcases List.mem_append.1 hs' with hs' | hs'
  ·have ho := h.sl s hs'
   exact ⟨(hs s hs').trans ho.c,.inl ho.m,ho.n.upd ho.d hu (fun k hk e => h.dj k e hk),ho.d,ho.w⟩
  ·obtain rfl := List.mem_singleton.1 hs'
   exact ⟨hbk,.inr ⟨hb,hbl⟩,Nd.zero_ok _,Nd.zero_in _,by simp only; decide⟩
 ·rw [List.map_append,List.nodup_append]
  refine ⟨h.nd,by simp,?_⟩
  intro x hx y hy e
  obtain ⟨s,hs',rfl⟩ := List.mem_map.1 hx
  simp only [List.map_cons,List.map_nil,List.mem_singleton] at hy
  have := h.lt s.b (.inl (h.sl s hs').m)
  omega
def AlPost (w : World) (A : Nat) (M D : Nat → Prop) (nodes root : Int) (L : List Sl) (e : Ending) (w' : World) : Prop :=
 ∃ M' b,e = .returned (.tuple #[.int .i64 ((L.length : Int) + 1),.int .i64 0]) ∧ PA w' A M' D nodes root (L ++ [⟨b,1,Nd.zero⟩]) ∧ (∀ k,M' k → M k ∨ w.heap.size ≤ k) ∧ Upd M w w'
theorem infoP' : (Tryz.prog.info? 96).map (fun i => (i.zero,i.size,i.bytes)) = some (some (.pointer none),1,8) := by kernel_rfl
set_option maxHeartbeats 800000 in
theorem alloc_full {w : World} {A : Nat} {M D : Nat → Prop} {nodes root : Int} {L : List Sl} (h : PA w A M D nodes root L) (hn : (L.length : Int) = nodes) :
  Calls Tryz.prog 170 #[.pointer (some ⟨A,0,none⟩)] w fun e w' => e = .returned (.tuple #[.int .i64 0,.int .i64 2]) ∧ ∃ k,w' = w.drewN k := by
 have HL := hide (left_any h)
 rw [show nodes - ((L.length : Nat) : Int) = 0 by omega] at HL
 clear h hn
 go_enter Tryz.func170,Tryz.ntmps170
 go_wp2_with fail
 refine HL.out.mono ?_
 rintro e w1 ⟨rfl,k,rfl⟩
 go_wp2_with fail
 go_ret2
 exact ⟨rfl,_,rfl⟩
set_option maxHeartbeats 1600000 in
theorem alloc_any {w : World} {A : Nat} {M D : Nat → Prop} {nodes root : Int} {L : List Sl} (h : PA w A M D nodes root L) (hn : (L.length : Int) < nodes) :
  Calls Tryz.prog 170 #[.pointer (some ⟨A,0,none⟩)] w (AlPost w A M D nodes root L) := by
 obtain ⟨i0,hi,hz0,hz1,hz2⟩ := info_parts infoP'
 have HL := hide (left_any h)
 have HN := hide hn
 obtain ⟨r,hr⟩ : ∃ r,r = nodes - ((L.length : Nat) : Int) := ⟨_,rfl⟩
 rw [← hr] at HL
 have jr : ¬ r = 0 := by omega
 have HP := hide h
 have hl6 := h.n_le
 clear h hn hr
 obtain ⟨n,hln⟩ : ∃ n,L.length = n := ⟨_,rfl⟩
 rw [hln] at hl6
 have HLN := hide hln
 clear hln
 go_enter Tryz.func170,Tryz.ntmps170
 go_wp2_with fail
 refine HL.out.mono ?_
 rintro e w1 ⟨rfl,k,hk⟩
 have P1 : Hid (PA w1 A M D nodes root L) := by show PA _ _ _ _ _ _ _; rw [hk]; exact HP.out.drewN k
 have U1 : Hid (Upd M w w1) := by show Upd _ _ _; rw [hk]; exact upd_drewN _ _ _
 have Z1 : Hid (w1.heap.size = w.heap.size) := by show _ = _; rw [hk]; rfl
 clear hk HP HL
 obtain ⟨w2,hw2⟩ : ∃ w2,w2 = w1.alloc (.cells #[.int .u64 0,.int .i64 0,.slice none 0 0,.int .i64 0,.slice none 0 0,.slice none 0 0,.slice none 0 0] 112) := ⟨_,rfl⟩
 have z2 : w2.heap.size = w1.heap.size + 1 := by rw [hw2]; simp
 have b2 : w2.heap[w1.heap.size]? = some (.cells #[.int .u64 0,.int .i64 0,.slice none 0 0,.int .i64 0,.slice none 0 0,.slice none 0 0,.slice none 0 0] 112 (0,0)) := by rw [hw2]; exact heap_alloc_new w1 _
 have B2 : Below w1.heap.size w1 w2 := by rw [hw2]; exact (Below.refl _ _).alloc (Nat.le_refl _) _
 have HT := hide (take_hit w1.heap.size 0 w2 (by rw [cell_of_row _ _ _ _ _ _ b2]; rfl) (frozen_of b2 0) (by decide) rfl)
 obtain ⟨w3,hw3⟩ : ∃ w3,w3 = w2.setCell ⟨w1.heap.size,0,none⟩ (.int .u64 ((0 + 1 : Nat) : Int)) := ⟨_,rfl⟩
 rw [← hw3] at HT
 have b3 : w3.heap[w1.heap.size]? = some (.cells (Sl.cells ⟨w1.heap.size,1,Nd.zero⟩) 112 (0,0)) := by rw [hw3]; exact block_setCell b2 0 _
 have B3 : Below w1.heap.size w1 w3 := by rw [hw3]; exact B2.setCell (Nat.le_refl _) _
 have z3 : w3.heap.size = w1.heap.size + 1 := by rw [hw3]; simp [World.setCell,z2]
 have P3 := hide (P1.out.below B3)
 obtain ⟨g,c,hA3,ho3,hg3⟩ := P3.out.row
 have c0 : w3.cell? ⟨A,0,none⟩ = some (.slice (some ⟨g,0,none⟩) n c) := by rw [cell_of_row _ _ _ _ _ _ hA3,← HLN.out]; rfl
 have HW2 := hide hw2
 have HA3 := hide hA3
 have HO3 := hide ho3
 have HG3 := hide hg3
 have Bb3 := hide b3
 have BB3 := hide B3
 have Z3 := hide z3
 clear hw2 hA3 ho3 hg3 b3 B3 B2 b2 z2 z3 hw3
 go_wp2_with fail
 rw [← HW2.out]
 refine HT.out.mono ?_
 rintro e w3' ⟨rfl,h3⟩
 rw [h3]
 clear h3 w3'
 have HPB : Hid (∀ j u,[Value.pointer (some ⟨w1.heap.size,0,none⟩)][j]? = some u → (w3.alloc (.cells #[.pointer (some ⟨w1.heap.size,0,none⟩)] 96)).cell? ((⟨w3.heap.size,0,none⟩ : Addr).add j) = some u) := cell_one_new _ _ _
 have HO4 := hide (HO3.out.alloc (.cells #[.pointer (some ⟨w1.heap.size,0,none⟩)] 96))
 rw [HLN.out] at HO4
 have HRN := hide (P3.out.row_ne HO3.out)
 have HA4 : Hid ((w3.alloc (.cells #[.pointer (some ⟨w1.heap.size,0,none⟩)] 96)).heap[A]? = _) := (Below.heap_alloc _ _ _ (lt_of_block HA3.out)).trans HA3.out
 go_wp2_with (first
  | (at_builtin; refine append_mineN rfl (.tmp 18) (.tmp 20) 113 rfl 0 96 i0 (.pointer none) 1 8 Tryz.underlying113 hi hz0 hz1 hz2 rfl (by decide) (.slice (some ⟨g,0,none⟩) n c) n (L.map Sl.ptr) rfl HO4.out ⟨w3.heap.size,0,none⟩ 1 1 [.pointer (some ⟨w1.heap.size,0,none⟩)] rfl rfl HPB.out (by intro u hu; simp at hu; subst hu; rfl) (by omega) (by unfold maxLen; omega) (by omega) (Nat.zero_le _) ?_; intro g' c' w5 hown5 hg5 hor5; have HA5 := hide ((hg5.block A (lt_of_block HA4.out) (fun e => HRN.out.1 (Option.some.inj e).symm)).trans HA4.out); have HOW5 := hide hown5; have HG5 := hide hg5; have HOR5 := hide hor5; clear hown5 hg5 hor5; have f5 := frozen_of HA5.out 0; have c5 : w5.cell? ⟨A,0,none⟩ = some (.slice (some ⟨g,0,none⟩) n c) := (by rw [cell_of_row _ _ _ _ _ _ HA5.out,← HLN.out]; rfl))
  | fail)
 obtain ⟨w6,hw6⟩ : ∃ w6,w6 = w5.setCell ⟨A,0,none⟩ (.slice (some ⟨g',0,none⟩) (n + 1) c') := ⟨_,rfl⟩
 have hA6 : w6.heap[A]? = some (.cells #[.slice (some ⟨g',0,none⟩) (n + 1) c',.int .i64 nodes,.int .i64 root] 115 (0,0)) := by rw [hw6]; exact block_setCell HA5.out 0 _
 have HU := hide (used_raw A _ (n + 1) c' w6 (by rw [cell_of_row _ _ _ _ _ _ hA6]; rfl))
 have hm : ∀ k,k = A → M k := fun k e => by rw [e]; exact P1.out.mA
 have U13 : Upd (fun k => M k) w1 w3 := Upd.of_below BB3.out _
 have U35 : Upd M w3 w5 := ((Upd.refl M w3).alloc _).trans (Upd.of_grown HG5.out (fun k hk _ => by cases hk; exact HG3.out))
 have U15 := U13.trans U35
 have U16 : Upd M w1 w6 := by rw [hw6]; exact U15.setCell _ _ (fun _ => P1.out.mA)
 have hsl : ∀ s ∈ L,w6.heap[s.b]? = w1.heap[s.b]? := by
  intro s hs
  have h1 := (P3.out.sl s hs).c
  have h2 : w5.heap[s.b]? = w3.heap[s.b]? := (HG5.out.block _ (by have := lt_of_block h1; simp; omega) (fun e => HRN.out.2 s hs (Option.some.inj e))).trans (Below.heap_alloc _ _ _ (lt_of_block h1))
  rw [hw6,Below.heap_setCell _ _ _ _ (P3.out.slot_A hs),h2]
  exact BB3.out.block _ (lt_of_block (P1.out.sl s hs).c)
 have hbk : w6.heap[w1.heap.size]? = some (.cells (Sl.cells ⟨w1.heap.size,1,Nd.zero⟩) 112 (0,0)) := by
  have hgl := P1.out.lt g (.inl HG3.out)
  have hAl := P1.out.lt A (.inl P1.out.mA)
  have h2 : w5.heap[w1.heap.size]? = w3.heap[w1.heap.size]? := (HG5.out.block _ (by have := lt_of_block Bb3.out; simp; omega) (fun e => by have : w1.heap.size = g := Option.some.inj e; omega)).trans (Below.heap_alloc _ _ _ (lt_of_block Bb3.out))
  rw [hw6,Below.heap_setCell _ _ _ _ (by simp only; omega),h2]
  exact Bb3.out
 have ho6 : w6.ownsRow 0 96 1 (.slice (some ⟨g',0,none⟩) (n + 1) c') (n + 1) (L.map Sl.ptr ++ [.pointer (some ⟨w1.heap.size,0,none⟩)]) := by
  rw [hw6]
  refine owns_upd (S := fun k => k = A) HOW5.out ((Upd.refl _ _).setCell _ _ (fun _ => rfl)) (fun k hk e => ?_)
  cases hk
  rcases HOW5.out.2 with ⟨hv,_⟩ | ⟨g2,c2,cur,hv,_,hh,_⟩
  ·cases hv
  ·cases hv
   have e' : g' = A := e
   rw [e',HA5.out] at hh
   simp at hh
 have hor : M g' ∨ w1.heap.size ≤ g' := by
  rcases HOR5.out with h | h
  ·cases h; exact .inl HG3.out
  ·have := Z3.out; right; simp at h; omega
 have HF : Hid (AlPost w A M D nodes root L (.returned (.tuple #[.int .i64 ((n : Int) + 1),.int .i64 0])) w6) := by
  refine ⟨_,w1.heap.size,by rw [HLN.out],P1.out.push HN.out U16 (by rw [HLN.out]; exact hA6) (by rw [HLN.out]; exact ho6) hor hsl (Nat.le_refl _) hbk,?_,U1.out.trans U16⟩
  intro k hk
  rcases hk with hk | hk
  ·exact .inl hk
  ·right; have := Z1.out; omega
 have HW6 := hide hw6
 clear hw6 hA6 hm U13 U35 U15 U16 hsl hbk ho6 hor
 rw [← HW6.out]
 refine keep HU.out ?_
 go_wp2_with fail
 go_ret2
 exact HF.out
def heldN (ws : List Nat) (i : Nat) : List Int := ((List.range i).filter fun j => decide (ws.getD j 0 % 2 = 1)).map fun (j : Nat) => (j : Int) + 1
def heldL (ws : List Nat) : List Int := heldN ws ws.length
theorem heldN_succ (ws : List Nat) (i : Nat) : heldN ws (i + 1) = heldN ws i ++ if ws.getD i 0 % 2 = 1 then [(i : Int) + 1] else [] := by
 unfold heldN
 rw [List.range_succ,List.filter_append,List.map_append]
 congr 1
 by_cases h : ws.getD i 0 % 2 = 1
 ·rw [if_pos h,List.filter_cons,if_pos (by exact decide_eq_true h)]; rfl
 ·rw [if_neg h,List.filter_cons,if_neg (by simpa using h)]; rfl
theorem heldN_len (ws : List Nat) (i : Nat) : (heldN ws i).length ≤ i := by
 unfold heldN
 rw [List.length_map]
 exact Nat.le_trans (List.length_filter_le _ _) (by simp)
def HeldPost (w : World) (xs : List Int) (e : Ending) (w' : World) : Prop :=
 ∃ v,e = .returned v ∧ w'.ownsRow w.heap.size 3 1 v xs.length (xs.map (Value.int .i64)) ∧ Below w.heap.size w w'
set_option maxHeartbeats 1600000 in
theorem held_any {w : World} {A : Nat} {M D : Nat → Prop} {nodes root : Int} {L : List Sl} (h : PA w A M D nodes root L) :
  Calls Tryz.prog 16 #[.pointer (some ⟨A,0,none⟩)] w (HeldPost w (heldL (L.map (·.w)))) := by
 obtain ⟨i0,hi,hz0,hz1,hz2⟩ := info_parts infoI
 obtain ⟨g,c,c0,_,_,h4⟩ := h.cells
 have hn := h.n_le
 have HP : Hid (∀ W,Below w.heap.size w W → PA W A M D nodes root L) := fun W hb => h.below hb
 have H4 : Hid (∀ W,Below w.heap.size w W → ∀ i (hi : i < L.length),W.cell? ⟨g,i,none⟩ = some (.pointer (some ⟨L[i].b,0,none⟩))) := fun W hb i hi => (hb.cell (p := ⟨g,i,none⟩) (World.block_lt_of_cell? w ⟨g,i,none⟩ (h4 i hi))).trans (h4 i hi)
 obtain ⟨ws,hws⟩ : ∃ ws,ws = L.map (·.w) := ⟨_,rfl⟩
 have HWS : Hid (∀ i (hi : i < L.length),ws.getD i 0 = L[i].w) := fun i hi => by rw [hws]; simp [hi]
 have HLW : Hid (ws.length = L.length) := by show _ = _; rw [hws]; simp
 rw [← hws]
 obtain ⟨n,hln⟩ : ∃ n,L.length = n := ⟨_,rfl⟩
 rw [hln] at c0 hn
 have HLN := hide hln
 have HF : Hid (heldL ws = heldN ws n) := by show _ = _; unfold heldL; rw [HLW.out,hln]
 rw [HF.out]
 clear h h4 hws hln
 go_enter Tryz.func16,Tryz.ntmps16
 go_wp2_with fail
 go_loopw [3,11] (fun q3 q11 wr => ∃ i : Nat,i ≤ n ∧ q11 = .int .i64 (i : Int) ∧ ∃ k,Hid (wr.ownsRow w.heap.size 3 1 q3 k ((heldN ws i).map (Value.int .i64)) ∧ k = (heldN ws i).length ∧ Below w.heap.size w wr)) (fun _ q11 _ => n - (intOf q11).toNat)
 case atStart => exact ⟨0,Nat.zero_le _,rfl,0,World.ownsRow_nil _ _ _ _,rfl,Below.refl _ _⟩
 case round =>
  obtain ⟨i,hin,rfl,k,HB⟩ := hrel
  rename World => wr
  by_cases hlt : i < n
  ·have j1 : (i : Int) < (n : Int) := by omega
   have hiL : i < L.length := by rw [HLN.out]; exact hlt
   have P := HP.out wr HB.out.2.2
   have cp := H4.out wr HB.out.2.2 i hiL
   obtain ⟨w1,w2,w3⟩ := P.wcell i hiL
   have hE := heldN_succ ws i
   rw [HWS.out i hiL] at hE
   generalize L[i].b = b at *
   generalize L[i].w = x at *
   have HL := hide (lheld_any b x wr w1 w3)
   have HE := hide hE
   have hkl := heldN_len ws i
   rw [← HB.out.2.1] at hkl
   have hk6 : k ≤ 65536 := by omega
   clear P w1 w2 w3 hE hkl
   obtain ⟨hown,hkk,hB⟩ := HB.out
   have HOW := hide hown
   have HKK := hide hkk
   have HBB := hide hB
   clear HB hown hkk hB
   rcases Nat.mod_two_eq_zero_or_one x with ex | ex
   ·rw [show decide (x % 2 = 1) = false by rw [ex]; rfl] at HL
    rw [if_neg (by omega)] at HE
    clear ex
    go_wp2_with fail
    refine keep HL.out ?_
    go_wp2_with fail
    go_roundw
    case rel => exact ⟨i + 1,by omega,by go_num,k,by rw [HE.out]; simpa using HOW.out,by rw [HE.out]; simpa using HKK.out,HBB.out⟩
    case measure => simp [intOf]; omega
   ·rw [show decide (x % 2 = 1) = true by rw [ex]; rfl] at HL
    rw [if_pos ex] at HE
    clear ex
    have j3 : (1 : Int) + (i : Int) ≤ 65536 := by omega
    go_wp2_with fail
    refine keep HL.out ?_
    go_wp2_with (first
     | (at_builtin; refine append_own_any rfl (.tmp 20) (.tmp 23) 51 rfl w.heap.size 3 i0 (.int .i64 0) 1 8 Tryz.underlying51 hi hz0 hz1 hz2 rfl (by decide) _ k ((heldN ws i).map (Value.int .i64)) rfl (HOW.out.alloc _) (some ⟨wr.heap.size,0,none⟩) 1 1 [.int .i64 (1 + (i : Int))] rfl rfl (by intro h; cases h) (fun ad had => by cases had; exact cell_one_new _ _ _) (by intro u hu; simp at hu; subst hu; rfl) (by unfold maxLen; omega) (by omega) (by have := HBB.out.size; simp; omega) ?_; intro v5 w5 hown5 hg5; have HO5 := hide hown5; have HG5 := hide hg5; clear hown5 hg5)
     | fail)
    go_roundw
    case rel =>
     refine ⟨i + 1,by omega,by go_num,k + 1,?_,?_,?_⟩
     ·rw [HE.out,List.map_append,show [((i : Int) + 1)].map (Value.int .i64) = [.int .i64 (1 + (i : Int))] by rw [Int.add_comm]; rfl]; exact HO5.out
     ·rw [HE.out,List.length_append,← HKK.out]; rfl
     ·exact (HBB.out.alloc HBB.out.size _).grown HG5.out (by have := HBB.out.size; simp; omega) (fun b hb => (HOW.out.lt b hb).1)
    case measure => simp [intOf]; omega
  ·have j1 : ¬ (i : Int) < (n : Int) := by omega
   obtain rfl : i = n := by omega
   go_wp2_with fail
   go_ret
   exact ⟨_,rfl,by rw [← HB.out.2.1]; exact HB.out.1,HB.out.2.2⟩
section
variable {W : World} {A : Nat} {M D : Nat → Prop} {nodes root : Int} {L : List Sl}
set_option maxHeartbeats 800000 in
theorem lock_hit (h : PA W A M D nodes root L) (i : Nat) (hi : i < L.length) (he : L[i].w % 2 = 0) :
  Calls Tryz.prog 142 #[.pointer (some ⟨A,0,none⟩),.int .i64 ((i : Int) + 1),.int .u64 (L[i].w : Nat)] W fun e w' => e = .returned (.tuple #[.bool true,.int .i64 0]) ∧ w' = W.setCell ⟨L[i].b,0,none⟩ (.int .u64 ((L[i].w + 1 : Nat) : Int)) := by
 have HS := hide (slot_any h i hi)
 obtain ⟨h1,h2,h3⟩ := h.wcell i hi
 generalize L[i].b = b at *
 generalize L[i].w = x at *
 have HR := hide (take_hit b x W h1 h2 h3 he)
 clear h h1 h2 h3 hi he
 generalize (i : Int) + 1 = id at *
 go_enter Tryz.func142,Tryz.ntmps142
 go_wp2_with fail
 refine keep HS.out ?_
 go_wp2_with fail
 refine HR.out.mono ?_
 rintro e w1 ⟨rfl,rfl⟩
 go_wp2_with fail
 go_ret2
 exact ⟨rfl,rfl⟩
set_option maxHeartbeats 800000 in
theorem lock_miss (h : PA W A M D nodes root L) (i : Nat) (hi : i < L.length) (x : Nat) (hx : x < 18446744073709551616) (hne : ¬ (L[i].w = x ∧ x % 2 = 0)) :
  Calls Tryz.prog 142 #[.pointer (some ⟨A,0,none⟩),.int .i64 ((i : Int) + 1),.int .u64 (x : Nat)] W fun e w' => e = .returned (.tuple #[.bool false,.int .i64 0]) ∧ w' = W := by
 have HS := hide (slot_any h i hi)
 obtain ⟨h1,h2,h3⟩ := h.wcell i hi
 generalize L[i].b = b at *
 generalize L[i].w = y at *
 have HR : Hid (Calls Tryz.prog 164 #[.pointer (some ⟨b,0,none⟩),.int .u64 (x : Nat)] W fun e w' => e = .returned (.bool false) ∧ w' = W) := by
  rcases Nat.mod_two_eq_zero_or_one x with ex | ex
  ·exact take_miss b x y W h1 h2 hx ex (fun e => hne ⟨e,ex⟩)
  ·exact take_odd b x W hx ex
 clear h h1 h2 h3 hi hx hne
 generalize (i : Int) + 1 = id at *
 go_enter Tryz.func142,Tryz.ntmps142
 go_wp2_with fail
 refine keep HS.out ?_
 go_wp2_with fail
 refine keep HR.out ?_
 go_wp2_with fail
 go_ret2
 exact ⟨rfl,rfl⟩
set_option maxHeartbeats 800000 in
theorem lock_none (h : PA W A M D nodes root L) (id : Int) (x : Int) (hi : ¬ (1 ≤ id ∧ id ≤ (L.length : Nat))) :
  Calls Tryz.prog 142 #[.pointer (some ⟨A,0,none⟩),.int .i64 id,.int .u64 x] W fun e w' => e = .returned (.tuple #[.bool false,.int .i64 101]) ∧ w' = W := by
 have HS := hide (slot_none h id hi)
 clear h hi
 go_enter Tryz.func142,Tryz.ntmps142
 go_wp2_with fail
 refine keep HS.out ?_
 go_wp2_with fail
 go_ret2
 exact ⟨rfl,rfl⟩
set_option maxHeartbeats 800000 in
theorem unlock_held (h : PA W A M D nodes root L) (i : Nat) (hi : i < L.length) (ch : Bool) (he : L[i].w % 2 = 1) :
  Calls Tryz.prog 186 #[.pointer (some ⟨A,0,none⟩),.int .i64 ((i : Int) + 1),.bool ch] W fun e w' => e = .returned (.int .i64 0) ∧ w' = W.setCell ⟨L[i].b,0,none⟩ (.int .u64 ((freeW L[i].w ch : Nat) : Int)) := by
 have HS := hide (slot_any h i hi)
 obtain ⟨h1,h2,h3⟩ := h.wcell i hi
 generalize L[i].b = b at *
 generalize L[i].w = x at *
 have HR := hide (give_held b x ch W h1 h2 h3 he)
 clear h h1 h2 h3 hi he
 generalize (i : Int) + 1 = id at *
 go_enter Tryz.func186,Tryz.ntmps186
 go_wp2_with fail
 refine keep HS.out ?_
 go_wp2_with fail
 refine HR.out.mono ?_
 rintro e w1 ⟨rfl,rfl⟩
 go_wp2_with fail
 go_ret
 exact ⟨rfl,rfl⟩
set_option maxHeartbeats 800000 in
theorem unlock_free (h : PA W A M D nodes root L) (i : Nat) (hi : i < L.length) (ch : Bool) (he : L[i].w % 2 = 0) :
  Calls Tryz.prog 186 #[.pointer (some ⟨A,0,none⟩),.int .i64 ((i : Int) + 1),.bool ch] W fun e w' => e = .returned (.int .i64 102) ∧ w' = W := by
 have HS := hide (slot_any h i hi)
 obtain ⟨h1,h2,h3⟩ := h.wcell i hi
 generalize L[i].b = b at *
 generalize L[i].w = x at *
 have HR := hide (give_free b x ch W h1 h3 he)
 clear h h1 h2 h3 hi he
 generalize (i : Int) + 1 = id at *
 go_enter Tryz.func186,Tryz.ntmps186
 go_wp2_with fail
 refine keep HS.out ?_
 go_wp2_with fail
 refine keep HR.out ?_
 go_wp2_with fail
 go_ret
 exact ⟨rfl,rfl⟩
set_option maxHeartbeats 800000 in
theorem unlock_none (h : PA W A M D nodes root L) (id : Int) (ch : Bool) (hi : ¬ (1 ≤ id ∧ id ≤ (L.length : Nat))) :
  Calls Tryz.prog 186 #[.pointer (some ⟨A,0,none⟩),.int .i64 id,.bool ch] W fun e w' => e = .returned (.int .i64 101) ∧ w' = W := by
 have HS := hide (slot_none h id hi)
 clear h hi
 go_enter Tryz.func186,Tryz.ntmps186
 go_wp2_with fail
 refine keep HS.out ?_
 go_wp2_with fail
 go_ret
 exact ⟨rfl,rfl⟩
set_option maxHeartbeats 800000 in
theorem open_any (h : PA W A M D nodes root L) (i : Nat) (hi : i < L.length) (he : L[i].w % 2 = 1) :
  Calls Tryz.prog 198 #[.pointer (some ⟨A,0,none⟩),.int .i64 ((i : Int) + 1)] W fun e w' => e = .returned (.tuple #[.pointer (some ⟨L[i].b,0,none⟩),.int .i64 0]) ∧ w' = W := by
 have HS := hide (slot_any h i hi)
 obtain ⟨h1,h2,h3⟩ := h.wcell i hi
 generalize L[i].b = b at *
 generalize L[i].w = x at *
 have HR := hide (lheld_any b x W h1 h3)
 rw [show decide (x % 2 = 1) = true by rw [he]; rfl] at HR
 clear h h1 h2 h3 hi he
 generalize (i : Int) + 1 = id at *
 go_enter Tryz.func198,Tryz.ntmps198
 go_wp2_with fail
 refine keep HS.out ?_
 go_wp2_with fail
 refine keep HR.out ?_
 go_wp2_with fail
 go_ret2
 exact ⟨rfl,rfl⟩
def opE (L : List Sl) (id : Int) : Int := if 1 ≤ id ∧ id ≤ (L.length : Nat) then 102 else 101
set_option maxHeartbeats 800000 in
theorem open_not (h : PA W A M D nodes root L) (id : Int) (hno : ∀ i (hi : i < L.length),id = (i : Int) + 1 → L[i].w % 2 = 0) :
  Calls Tryz.prog 198 #[.pointer (some ⟨A,0,none⟩),.int .i64 id] W fun e w' => e = .returned (.tuple #[.pointer none,.int .i64 (opE L id)]) ∧ w' = W := by
 by_cases hin : 1 ≤ id ∧ id ≤ (L.length : Nat)
 ·obtain ⟨i,hid⟩ : ∃ i : Nat,id = (i : Int) + 1 := ⟨(id - 1).toNat,by omega⟩
  have hi : i < L.length := by omega
  have he := hno i hi hid
  rw [show opE L id = 102 from if_pos hin]
  have HS := hide (slot_any h i hi)
  rw [← hid] at HS
  obtain ⟨h1,h2,h3⟩ := h.wcell i hi
  generalize L[i].b = b at *
  generalize L[i].w = x at *
  have HR := hide (lheld_any b x W h1 h3)
  rw [show decide (x % 2 = 1) = false by rw [he]; rfl] at HR
  clear h h1 h2 h3 hi he hid hno hin
  go_enter Tryz.func198,Tryz.ntmps198
  go_wp2_with fail
  refine keep HS.out ?_
  go_wp2_with fail
  refine keep HR.out ?_
  go_wp2_with fail
  go_ret2
  exact ⟨rfl,rfl⟩
 ·rw [show opE L id = 101 from if_neg hin]
  have HS := hide (slot_none h id hin)
  clear h hno hin
  go_enter Tryz.func198,Tryz.ntmps198
  go_wp2_with fail
  refine keep HS.out ?_
  go_wp2_with fail
  go_ret2
  exact ⟨rfl,rfl⟩
theorem PA.setR (h : PA W A M D nodes root L) (r : Int) : PA (W.setCell ⟨A,2,none⟩ (.int .i64 r)) A M D nodes r L := by
 have hu : Upd (fun k => k = A) W (W.setCell ⟨A,2,none⟩ (.int .i64 r)) := (Upd.refl _ _).setCell _ _ (fun _ => rfl)
 obtain ⟨g,c,h1,h2,h3⟩ := h.row
 obtain ⟨n1,_⟩ := h.row_ne h2
 refine ⟨⟨g,c,block_setCell h1 2 _,owns_upd h2 hu (fun k hk e => by cases hk; exact n1 e),h3⟩,h.mA,fun k hk => Nat.lt_of_lt_of_le (h.lt k hk) hu.size,h.dj,fun s hs => ?_,h.nd,h.one,h.le,h.nz⟩
 have ho := h.sl s hs
 exact ⟨hu.heap ho.c (h.slot_A hs),ho.m,ho.n.upd ho.d hu (fun k hk e => h.dj A h.mA (by rw [← e]; exact hk)),ho.d,ho.w⟩
set_option maxHeartbeats 800000 in
theorem grow_none (h : PA W A M D nodes root L) (old id : Int) (hi : ¬ (1 ≤ id ∧ id ≤ (L.length : Nat))) :
  Calls Tryz.prog 213 #[.pointer (some ⟨A,0,none⟩),.int .i64 old,.int .i64 id] W fun e w' => e = .returned (.tuple #[.bool false,.int .i64 101]) ∧ w' = W := by
 have HS := hide (slot_none h id hi)
 clear h hi
 go_enter Tryz.func213,Tryz.ntmps213
 go_wp2_with fail
 refine keep HS.out ?_
 go_wp2_with fail
 go_ret2
 exact ⟨rfl,rfl⟩
set_option maxHeartbeats 800000 in
theorem grow_no (h : PA W A M D nodes root L) (old id : Int) (hi : 1 ≤ id ∧ id ≤ (L.length : Nat)) (hr : ¬ root = old) :
  Calls Tryz.prog 213 #[.pointer (some ⟨A,0,none⟩),.int .i64 old,.int .i64 id] W fun e w' => e = .returned (.tuple #[.bool false,.int .i64 0]) ∧ w' = W := by
 obtain ⟨i,hid⟩ : ∃ i : Nat,id = (i : Int) + 1 := ⟨(id - 1).toNat,by omega⟩
 have hi' : i < L.length := by omega
 have HS := hide (slot_any h i hi')
 rw [← hid] at HS
 obtain ⟨g,c,_,_,c2,_⟩ := h.cells
 generalize L[i].b = b at *
 clear h hi hid hi'
 go_enter Tryz.func213,Tryz.ntmps213
 go_wp2_with fail
 refine keep HS.out ?_
 go_wp2_with fail
 go_ret2
 exact ⟨rfl,rfl⟩
set_option maxHeartbeats 800000 in
theorem grow_yes (h : PA W A M D nodes root L) (id : Int) (hi : 1 ≤ id ∧ id ≤ (L.length : Nat)) :
  Calls Tryz.prog 213 #[.pointer (some ⟨A,0,none⟩),.int .i64 root,.int .i64 id] W fun e w' => e = .returned (.tuple #[.bool true,.int .i64 0]) ∧ w' = W.setCell ⟨A,2,none⟩ (.int .i64 id) := by
 obtain ⟨i,hid⟩ : ∃ i : Nat,id = (i : Int) + 1 := ⟨(id - 1).toNat,by omega⟩
 have hi' : i < L.length := by omega
 have HS := hide (slot_any h i hi')
 rw [← hid] at HS
 obtain ⟨g,c,_,_,c2,_⟩ := h.cells
 obtain ⟨_,_,hA,_⟩ := h.row
 have f2 := frozen_of hA 2
 generalize L[i].b = b at *
 clear h hi hid hi' hA
 go_enter Tryz.func213,Tryz.ntmps213
 go_wp2_with fail
 refine keep HS.out ?_
 go_wp2_with fail
 go_ret2
 exact ⟨rfl,rfl⟩
end
theorem sl_cells {W : World} {M D : Nat → Prop} {s : Sl} (h : s.Ok W M D) :
  (W.cell? ⟨s.b,1,none⟩ = some (.int .i64 s.n.lv) ∧ W.cell? ⟨s.b,2,none⟩ = some s.n.hi.v ∧ W.cell? ⟨s.b,3,none⟩ = some (.int .i64 s.n.ri)) ∧ W.cell? ⟨s.b,4,none⟩ = some s.n.ks.v ∧ W.cell? ⟨s.b,5,none⟩ = some s.n.vs.v ∧ W.cell? ⟨s.b,6,none⟩ = some s.n.cs.v := by
 refine ⟨⟨?_,?_,?_⟩,?_,?_,?_⟩ <;> (rw [cell_of_row _ _ _ _ _ _ h.c]; rfl)
def HePost (w : World) (lv ri : Int) (l : Nat) (hs : List Int) (e : Ending) (w' : World) : Prop :=
 ∃ a c,e = .returned (.tuple #[.agg #[.int .i64 lv,.slice a l c,.int .i64 ri],.int .i64 0]) ∧ OwnB w' w.heap.size 5 (.slice a l c) hs ∧ Below w.heap.size w w'
def BoPost (w : World) (lk lw lc : Nat) (K V : List Tx) (C : List Int) (e : Ending) (w' : World) : Prop :=
 ∃ kn kd K' vn vd V' cn cd,e = .returned (.tuple #[.agg #[.slice kn lk kd,.slice vn lw vd,.slice cn lc cd],.int .i64 0]) ∧ K'.map (·.s) = K.map (·.s) ∧ V'.map (·.s) = V.map (·.s) ∧ K'.length = lk ∧ V'.length = lw ∧
  (⟨kn,kd,K'⟩ : TL).Own w' w.heap.size ∧ (⟨vn,vd,V'⟩ : TL).Own w' w.heap.size ∧ w'.ownsRow w.heap.size 3 1 (.slice cn lc cd) lc (C.map (Value.int .i64)) ∧ Below w.heap.size w w'
section
variable {W : World} {A : Nat} {M D : Nat → Prop} {nodes root : Int} {L : List Sl}
set_option maxHeartbeats 1600000 in
theorem head_none (h : PA W A M D nodes root L) (id : Int) (hi : ¬ (1 ≤ id ∧ id ≤ (L.length : Nat))) :
  Calls Tryz.prog 80 #[.pointer (some ⟨A,0,none⟩),.int .i64 id] W fun e w' => e = .returned (.tuple #[.agg #[.int .i64 0,.slice none 0 0,.int .i64 0],.int .i64 101]) ∧ Below W.heap.size W w' := by
 obtain ⟨w0,hw0⟩ : ∃ w0,w0 = W.alloc (.cells #[.int .i64 0,.slice none 0 0,.int .i64 0] 105) := ⟨_,rfl⟩
 have b0 : Below W.heap.size W w0 := by rw [hw0]; exact (Below.refl _ _).alloc (Nat.le_refl _) _
 have g0 : w0.heap[W.heap.size]? = some (.cells #[.int .i64 0,.slice none 0 0,.int .i64 0] 105 (0,0)) := by rw [hw0]; exact heap_alloc_new W _
 have HS := hide (slot_none (h.below b0) id hi)
 obtain ⟨c0,c1,c2⟩ := Tri.of g0
 have F0 := fun j => frozen_of g0 j
 have G0 := hide g0
 have B0 := hide b0
 have HW := hide hw0
 clear h hi g0 b0 hw0
 go_enter Tryz.func80,Tryz.ntmps80
 go_wp2_with fail
 rw [← HW.out]
 refine keep HS.out ?_
 go_wp2_with fail
 (try simp only [Exit.inBlock,Exit.then])
 have G6 := tri_block G0.out (.int .i64 0) (.slice none 0 0) (.int .i64 0)
 have U6 : Upd (fun b => b = W.heap.size) w0 (tri3 w0 W.heap.size (.int .i64 0) (.slice none 0 0) (.int .i64 0)) := tri_upd _ _ _ _ _ _ rfl
 obtain ⟨q0,q1,q2⟩ := Tri.of G6
 show bodyPost _ _ _ _ _ (tri3 w0 W.heap.size (.int .i64 0) (.slice none 0 0) (.int .i64 0))
 generalize tri3 w0 W.heap.size (.int .i64 0) (.slice none 0 0) (.int .i64 0) = w6 at *
 refine bodyPost_ret (v := .tuple #[.agg #[.int .i64 0,.slice none 0 0,.int .i64 0],.int .i64 101]) (by simp [results,Tryz.results80,go_sem,q0,q1,q2]) rfl ⟨rfl,?_⟩
 exact B0.out.trans (U6.below (by have := B0.out.size; omega) (fun k hk e => by omega))
set_option maxHeartbeats 1600000 in
theorem body_none (h : PA W A M D nodes root L) (id : Int) (hi : ¬ (1 ≤ id ∧ id ≤ (L.length : Nat))) :
  Calls Tryz.prog 82 #[.pointer (some ⟨A,0,none⟩),.int .i64 id] W fun e w' => e = .returned (.tuple #[.agg #[.slice none 0 0,.slice none 0 0,.slice none 0 0],.int .i64 101]) ∧ Below W.heap.size W w' := by
 obtain ⟨w0,hw0⟩ : ∃ w0,w0 = W.alloc (.cells #[.slice none 0 0,.slice none 0 0,.slice none 0 0] 108) := ⟨_,rfl⟩
 have b0 : Below W.heap.size W w0 := by rw [hw0]; exact (Below.refl _ _).alloc (Nat.le_refl _) _
 have g0 : w0.heap[W.heap.size]? = some (.cells #[.slice none 0 0,.slice none 0 0,.slice none 0 0] 108 (0,0)) := by rw [hw0]; exact heap_alloc_new W _
 have HS := hide (slot_none (h.below b0) id hi)
 obtain ⟨c0,c1,c2⟩ := Tri.of g0
 have F0 := fun j => frozen_of g0 j
 have G0 := hide g0
 have B0 := hide b0
 have HW := hide hw0
 clear h hi g0 b0 hw0
 go_enter Tryz.func82,Tryz.ntmps82
 go_wp2_with fail
 rw [← HW.out]
 refine keep HS.out ?_
 go_wp2_with fail
 (try simp only [Exit.inBlock,Exit.then])
 have G6 := tri_block G0.out (.slice none 0 0) (.slice none 0 0) (.slice none 0 0)
 have U6 : Upd (fun b => b = W.heap.size) w0 (tri3 w0 W.heap.size (.slice none 0 0) (.slice none 0 0) (.slice none 0 0)) := tri_upd _ _ _ _ _ _ rfl
 obtain ⟨q0,q1,q2⟩ := Tri.of G6
 show bodyPost _ _ _ _ _ (tri3 w0 W.heap.size (.slice none 0 0) (.slice none 0 0) (.slice none 0 0))
 generalize tri3 w0 W.heap.size (.slice none 0 0) (.slice none 0 0) (.slice none 0 0) = w6 at *
 refine bodyPost_ret (v := .tuple #[.agg #[.slice none 0 0,.slice none 0 0,.slice none 0 0],.int .i64 101]) (by simp [results,Tryz.results82,go_sem,q0,q1,q2]) rfl ⟨rfl,?_⟩
 exact B0.out.trans (U6.below (by have := B0.out.size; omega) (fun k hk e => by omega))
set_option maxHeartbeats 1600000 in
theorem ahead_any (h : PA W A M D nodes root L) (i : Nat) (hi : i < L.length) :
  Calls Tryz.prog 80 #[.pointer (some ⟨A,0,none⟩),.int .i64 ((i : Int) + 1)] W (HePost W L[i].n.lv L[i].n.ri L[i].n.hi.s.length L[i].n.hi.s) := by
 obtain ⟨w0,hw0⟩ : ∃ w0,w0 = W.alloc (.cells #[.int .i64 0,.slice none 0 0,.int .i64 0] 105) := ⟨_,rfl⟩
 have b0 : Below W.heap.size W w0 := by rw [hw0]; exact (Below.refl _ _).alloc (Nat.le_refl _) _
 have g0 : w0.heap[W.heap.size]? = some (.cells #[.int .i64 0,.slice none 0 0,.int .i64 0] 105 (0,0)) := by rw [hw0]; exact heap_alloc_new W _
 have h0 := h.below b0
 have HS := hide (slot_any h0 i hi)
 have ho := h0.sl L[i] (List.getElem_mem hi)
 obtain ⟨k1,k2,k3⟩ := (sl_cells ho).1
 have HCH := hide (copyHead_any L[i].n.lv L[i].n.ri L[i].n.hi w0 ho.n.h)
 generalize L[i].b = b at *
 generalize L[i].n.lv = lv at *
 generalize L[i].n.ri = ri at *
 generalize L[i].n.hi = t at *
 clear ho h0 h hi
 obtain ⟨ha,hc,hs⟩ := t
 simp only [Tx.v] at *
 obtain ⟨lh,hlh⟩ : ∃ lh,hs.length = lh := ⟨_,rfl⟩
 rw [hlh] at k2 HCH ⊢
 clear hlh
 generalize (i : Int) + 1 = id at *
 have G0 := hide g0
 have B0 := hide b0
 have HW := hide hw0
 clear g0 b0 hw0
 go_enter Tryz.func80,Tryz.ntmps80
 go_wp2_with fail
 rw [← HW.out]
 refine keep HS.out ?_
 go_wp2_with fail
 refine HCH.out.mono ?_
 rintro e w2 ⟨na,nc,rfl,hv2,hb2⟩
 have G2 : Hid (w2.heap[W.heap.size]? = some (.cells #[.int .i64 0,.slice none 0 0,.int .i64 0] 105 (0,0))) := (hb2.block _ (lt_of_block G0.out)).trans G0.out
 obtain ⟨c0,c1,c2⟩ := Tri.of G2.out
 have F0 := fun j => frozen_of G2.out j
 have V2 := hide hv2
 have B2 := hide hb2
 clear hv2 hb2 HCH
 go_wp2_with fail
 (try simp only [Exit.inBlock,Exit.then])
 have G6 := tri_block G2.out (.int .i64 lv) (.slice na lh nc) (.int .i64 ri)
 have U6 : Upd (fun b => b = W.heap.size) w2 (tri3 w2 W.heap.size (.int .i64 lv) (.slice na lh nc) (.int .i64 ri)) := tri_upd _ _ _ _ _ _ rfl
 obtain ⟨q0,q1,q2⟩ := Tri.of G6
 have z0 : w0.heap.size = W.heap.size + 1 := by rw [HW.out]; simp
 show bodyPost _ _ _ _ _ (tri3 w2 W.heap.size (.int .i64 lv) (.slice na lh nc) (.int .i64 ri))
 generalize tri3 w2 W.heap.size (.int .i64 lv) (.slice na lh nc) (.int .i64 ri) = w6 at *
 refine bodyPost_ret (v := .tuple #[.agg #[.int .i64 lv,.slice na lh nc,.int .i64 ri],.int .i64 0]) (by simp [results,Tryz.results80,go_sem,q0,q1,q2]) rfl ⟨na,nc,rfl,?_,?_⟩
 ·exact (ownB_upd' V2.out U6 (fun b h1 h2 h3 => by omega)).mono (by omega)
 ·have b02 := B0.out.trans (B2.out.mono B0.out.size)
  exact b02.trans (U6.below (by have := b02.size; omega) (fun k hk e => by omega))
set_option maxHeartbeats 1600000 in
theorem abody_any (h : PA W A M D nodes root L) (i : Nat) (hi : i < L.length) :
  Calls Tryz.prog 82 #[.pointer (some ⟨A,0,none⟩),.int .i64 ((i : Int) + 1)] W (BoPost W L[i].n.ks.L.length L[i].n.vs.L.length L[i].n.cs.s.length L[i].n.ks.L L[i].n.vs.L L[i].n.cs.s) := by
 obtain ⟨w0,hw0⟩ : ∃ w0,w0 = W.alloc (.cells #[.slice none 0 0,.slice none 0 0,.slice none 0 0] 108) := ⟨_,rfl⟩
 have b0 : Below W.heap.size W w0 := by rw [hw0]; exact (Below.refl _ _).alloc (Nat.le_refl _) _
 have g0 : w0.heap[W.heap.size]? = some (.cells #[.slice none 0 0,.slice none 0 0,.slice none 0 0] 108 (0,0)) := by rw [hw0]; exact heap_alloc_new W _
 have h0 := h.below b0
 have HS := hide (slot_any h0 i hi)
 have ho := h0.sl L[i] (List.getElem_mem hi)
 obtain ⟨k1,k2,k3⟩ := (sl_cells ho).2
 have HCH := hide (copyBody_any L[i].n.ks L[i].n.vs L[i].n.cs w0 ho.n.k ho.n.v ho.n.c ho.n.kz ho.n.vz ho.n.cz)
 generalize L[i].b = b at *
 generalize L[i].n.ks = kt at *
 generalize L[i].n.vs = vt at *
 generalize L[i].n.cs = ct at *
 clear ho h0 h hi
 obtain ⟨ka,kc,K⟩ := kt
 obtain ⟨va,vc,V⟩ := vt
 obtain ⟨ca,cc,C⟩ := ct
 simp only [TL.v,IL.v] at *
 obtain ⟨lk,hlk⟩ : ∃ lk,K.length = lk := ⟨_,rfl⟩
 obtain ⟨lw,hlw⟩ : ∃ lw,V.length = lw := ⟨_,rfl⟩
 obtain ⟨lc,hlc⟩ : ∃ lc,C.length = lc := ⟨_,rfl⟩
 rw [hlk] at k1
 rw [hlw] at k2
 rw [hlc] at k3
 rw [hlk,hlw,hlc] at HCH ⊢
 clear hlk hlw hlc
 generalize (i : Int) + 1 = id at *
 have G0 := hide g0
 have B0 := hide b0
 have HW := hide hw0
 clear g0 b0 hw0
 go_enter Tryz.func82,Tryz.ntmps82
 go_wp2_with fail
 rw [← HW.out]
 refine keep HS.out ?_
 go_wp2_with fail
 refine HCH.out.mono ?_
 rintro e w2 ⟨kn,kd,K',vn,vd,V',cn,cd,rfl,p1,p2,l1,l2,o1,o2,o3,hb2⟩
 have G2 : Hid (w2.heap[W.heap.size]? = some (.cells #[.slice none 0 0,.slice none 0 0,.slice none 0 0] 108 (0,0))) := (hb2.block _ (lt_of_block G0.out)).trans G0.out
 obtain ⟨c0,c1,c2⟩ := Tri.of G2.out
 have F0 := fun j => frozen_of G2.out j
 have V2 := hide (And.intro p1 (And.intro p2 (And.intro l1 (And.intro l2 (And.intro o1 (And.intro o2 o3))))))
 have B2 := hide hb2
 clear p1 p2 l1 l2 o1 o2 o3 hb2 HCH
 go_wp2_with fail
 (try simp only [Exit.inBlock,Exit.then])
 have G6 := tri_block G2.out (.slice kn lk kd) (.slice vn lw vd) (.slice cn lc cd)
 have U6 : Upd (fun b => b = W.heap.size) w2 (tri3 w2 W.heap.size (.slice kn lk kd) (.slice vn lw vd) (.slice cn lc cd)) := tri_upd _ _ _ _ _ _ rfl
 obtain ⟨q0,q1,q2⟩ := Tri.of G6
 have z0 : w0.heap.size = W.heap.size + 1 := by rw [HW.out]; simp
 show bodyPost _ _ _ _ _ (tri3 w2 W.heap.size (.slice kn lk kd) (.slice vn lw vd) (.slice cn lc cd))
 generalize tri3 w2 W.heap.size (.slice kn lk kd) (.slice vn lw vd) (.slice cn lc cd) = w6 at *
 obtain ⟨p1,p2,l1,l2,o1,o2,o3⟩ := V2.out
 refine bodyPost_ret (v := .tuple #[.agg #[.slice kn lk kd,.slice vn lw vd,.slice cn lc cd],.int .i64 0]) (by simp [results,Tryz.results82,go_sem,q0,q1,q2]) rfl ⟨kn,kd,K',vn,vd,V',cn,cd,rfl,p1,p2,l1,l2,?_,?_,?_,?_⟩
 ·exact (o1.upd U6 (fun b h1 h2 h3 => by omega)).mono (by omega)
 ·exact (o2.upd U6 (fun b h1 h2 h3 => by omega)).mono (by omega)
 ·exact owns_mono (ownsI_upd o3 U6 (fun b h1 h2 h3 => by omega)) (by omega)
 ·have b02 := B0.out.trans (B2.out.mono B0.out.size)
  exact b02.trans (U6.below (by have := b02.size; omega) (fun k hk e => by omega))
end
def SetPost (w : World) (A : Nat) (M D : Nat → Prop) (nodes root : Int) (L : List Sl) (i b x : Nat) (p : NP) (e : Ending) (w' : World) : Prop :=
 ∃ D' n,e = .returned (.int .i64 0) ∧ PA w' A M D' nodes root (L.set i ⟨b,x,n⟩) ∧ n.p = p ∧ (∀ k,D' k → D k ∨ w.heap.size ≤ k) ∧ Upd M w w'
def NP.setH (p : NP) (lv : Int) (hi : List Int) (ri : Int) : NP := ⟨lv,hi,ri,p.ks,p.vs,p.cs⟩
def NP.setB (p : NP) (ks vs : List (List Int)) (cs : List Int) : NP := ⟨p.lv,p.hi,p.ri,ks,vs,cs⟩
section
variable {W : World} {A : Nat} {M D : Nat → Prop} {nodes root : Int} {L : List Sl}
def slH (W : World) (b : Nat) (x0 x1 x2 : Value) : World := ((W.setCell ⟨b,1,none⟩ x0).setCell ⟨b,2,none⟩ x1).setCell ⟨b,3,none⟩ x2
def slB (W : World) (b : Nat) (x0 x1 x2 : Value) : World := ((W.setCell ⟨b,4,none⟩ x0).setCell ⟨b,5,none⟩ x1).setCell ⟨b,6,none⟩ x2
theorem slH_block {W : World} {b : Nat} {T : TypeId} {a0 a1 a2 a3 a4 a5 a6 : Value} (h : W.heap[b]? = some (.cells #[a0,a1,a2,a3,a4,a5,a6] T (0,0))) (x0 x1 x2 : Value) : (slH W b x0 x1 x2).heap[b]? = some (.cells #[a0,x0,x1,x2,a4,a5,a6] T (0,0)) := by
 have := block_setCell (block_setCell (block_setCell h 1 x0) 2 x1) 3 x2
 exact this
theorem slB_block {W : World} {b : Nat} {T : TypeId} {a0 a1 a2 a3 a4 a5 a6 : Value} (h : W.heap[b]? = some (.cells #[a0,a1,a2,a3,a4,a5,a6] T (0,0))) (x0 x1 x2 : Value) : (slB W b x0 x1 x2).heap[b]? = some (.cells #[a0,a1,a2,a3,x0,x1,x2] T (0,0)) := by
 have := block_setCell (block_setCell (block_setCell h 4 x0) 5 x1) 6 x2
 exact this
theorem slH_upd (S : Nat → Prop) (W : World) (b : Nat) (x0 x1 x2 : Value) (h : S b) : Upd S W (slH W b x0 x1 x2) :=
 (((Upd.refl S W).setCell _ _ (fun _ => h)).setCell _ _ (fun _ => h)).setCell _ _ (fun _ => h)
theorem slB_upd (S : Nat → Prop) (W : World) (b : Nat) (x0 x1 x2 : Value) (h : S b) : Upd S W (slB W b x0 x1 x2) :=
 (((Upd.refl S W).setCell _ _ (fun _ => h)).setCell _ _ (fun _ => h)).setCell _ _ (fun _ => h)
set_option maxHeartbeats 800000 in
theorem setHead_not (h : PA W A M D nodes root L) (id lv ri : Int) (t : Tx) (hno : ∀ i (hi : i < L.length),id = (i : Int) + 1 → L[i].w % 2 = 0) :
  Calls Tryz.prog 193 #[.pointer (some ⟨A,0,none⟩),.int .i64 id,.agg #[.int .i64 lv,t.v,.int .i64 ri]] W fun e w' => e = .returned (.int .i64 (opE L id)) ∧ Below W.heap.size W w' := by
 have hne : opE L id ≠ 0 := by unfold opE; split <;> decide
 obtain ⟨ha,hc,hs⟩ := t
 simp only [Tx.v]
 obtain ⟨w0,hw0⟩ : ∃ w0,w0 = W.alloc (.cells #[.int .i64 lv,.slice ha hs.length hc,.int .i64 ri] 105) := ⟨_,rfl⟩
 have b0 : Below W.heap.size W w0 := by rw [hw0]; exact (Below.refl _ _).alloc (Nat.le_refl _) _
 have HO := hide (open_not (h.below b0) id hno)
 have B0 := hide b0
 have HW := hide hw0
 clear h hno b0 hw0
 generalize opE L id = er at *
 generalize hs.length = lh at *
 go_enter Tryz.func193,Tryz.ntmps193
 go_wp2_with fail
 rw [← HW.out]
 refine keep HO.out ?_
 go_wp2_with fail
 go_ret
 exact ⟨rfl,B0.out⟩
set_option maxHeartbeats 800000 in
theorem setBody_not (h : PA W A M D nodes root L) (id : Int) (k v : TL) (c : IL) (hno : ∀ i (hi : i < L.length),id = (i : Int) + 1 → L[i].w % 2 = 0) :
  Calls Tryz.prog 180 #[.pointer (some ⟨A,0,none⟩),.int .i64 id,.agg #[k.v,v.v,c.v]] W fun e w' => e = .returned (.int .i64 (opE L id)) ∧ Below W.heap.size W w' := by
 have hne : opE L id ≠ 0 := by unfold opE; split <;> decide
 obtain ⟨ka,kc,K⟩ := k
 obtain ⟨va,vc,V⟩ := v
 obtain ⟨ca,cc,C⟩ := c
 simp only [TL.v,IL.v]
 obtain ⟨w0,hw0⟩ : ∃ w0,w0 = W.alloc (.cells #[.slice ka K.length kc,.slice va V.length vc,.slice ca C.length cc] 108) := ⟨_,rfl⟩
 have b0 : Below W.heap.size W w0 := by rw [hw0]; exact (Below.refl _ _).alloc (Nat.le_refl _) _
 have HO := hide (open_not (h.below b0) id hno)
 have B0 := hide b0
 have HW := hide hw0
 clear h hno b0 hw0
 generalize opE L id = er at *
 generalize K.length = lk at *
 generalize V.length = lw at *
 generalize C.length = lc at *
 go_enter Tryz.func180,Tryz.ntmps180
 go_wp2_with fail
 rw [← HW.out]
 refine keep HO.out ?_
 go_wp2_with fail
 go_ret
 exact ⟨rfl,B0.out⟩
set_option maxHeartbeats 1600000 in
theorem setHead_any (h : PA W A M D nodes root L) (i : Nat) (hi : i < L.length) (he : L[i].w % 2 = 1) (lv ri : Int) (t : Tx) (ht : t.Ok W) :
  Calls Tryz.prog 193 #[.pointer (some ⟨A,0,none⟩),.int .i64 ((i : Int) + 1),.agg #[.int .i64 lv,t.v,.int .i64 ri]] W (SetPost W A M D nodes root L i L[i].b L[i].w (L[i].n.p.setH lv t.s ri)) := by
 obtain ⟨w0,hw0⟩ : ∃ w0,w0 = W.alloc (.cells #[.int .i64 lv,t.v,.int .i64 ri] 105) := ⟨_,rfl⟩
 have b0 : Below W.heap.size W w0 := by rw [hw0]; exact (Below.refl _ _).alloc (Nat.le_refl _) _
 have g0 : w0.heap[W.heap.size]? = some (.cells #[.int .i64 lv,t.v,.int .i64 ri] 105 (0,0)) := by rw [hw0]; exact heap_alloc_new W _
 have z0 : w0.heap.size = W.heap.size + 1 := by rw [hw0]; simp
 have HO := hide (open_any (h.below b0) i hi he)
 have HCH := hide (copyHead_any lv ri t w0 (ht.below b0))
 have H0 := hide (h.below b0)
 have hbl := h.lt L[i].b (.inl (h.sl L[i] (List.getElem_mem hi)).m)
 have HSL : Hid (∀ w2,Below w0.heap.size w0 w2 → (w2.heap[L[i].b]? = some (.cells L[i].cells 112 (0,0)))) := fun w2 hb => ((h.below b0).below hb).sl L[i] (List.getElem_mem hi) |>.c
 have HSC : Hid (L[i].cells = #[.int .u64 (L[i].w : Nat),.int .i64 L[i].n.lv,L[i].n.hi.v,.int .i64 L[i].n.ri,L[i].n.ks.v,L[i].n.vs.v,L[i].n.cs.v]) := rfl
 rw [HSC.out] at HSL
 have HB8 := hide (And.intro ht.b8 ht.z)
 have HP := hide h
 have HI := hide hi
 -- the end
 have HFIN : Hid (∀ w2 na nc,Below w0.heap.size w0 w2 → OwnB w2 w0.heap.size 5 (.slice na t.s.length nc) t.s → SetPost W A M D nodes root L i L[i].b L[i].w (L[i].n.p.setH lv t.s ri) (.returned (.int .i64 0)) (slH w2 L[i].b (.int .i64 lv) (.slice na t.s.length nc) (.int .i64 ri))) := by
  intro w2 na nc hb hv
  have hU : Upd (fun k => k = L[i].b) w2 (slH w2 L[i].b (.int .i64 lv) (.slice na t.s.length nc) (.int .i64 ri)) := slH_upd _ _ _ _ _ _ rfl
  have bel := b0.trans (hb.mono b0.size)
  have P2 := h.below bel
  have ho := P2.sl L[i] (List.getElem_mem hi)
  have hcc := slH_block (HSL.out w2 hb) (.int .i64 lv) (.slice na t.s.length nc) (.int .i64 ri)
  have hv' : OwnB (slH w2 L[i].b (.int .i64 lv) (.slice na t.s.length nc) (.int .i64 ri)) w0.heap.size 5 (.slice na t.s.length nc) t.s := ownB_upd' hv hU (fun b h1 h2 h3 => by omega)
  generalize slH w2 L[i].b (.int .i64 lv) (.slice na t.s.length nc) (.int .i64 ri) = w6 at *
  have hin := ownB_in (x := ⟨na,nc,t.s⟩) hv'
  have hn : L[i].n.Ok w6 := ho.n.upd ho.d hU (fun k hk e => P2.dj _ ho.m (by rw [← e]; exact hk))
  refine ⟨fun k => D k ∨ (w0.heap.size ≤ k ∧ k < w6.heap.size),⟨lv,⟨na,nc,t.s⟩,ri,L[i].n.ks,L[i].n.vs,L[i].n.cs⟩,rfl,?_,rfl,?_,?_⟩
  ·refine P2.put hi ⟨L[i].b,L[i].w,⟨lv,⟨na,nc,t.s⟩,ri,L[i].n.ks,L[i].n.vs,L[i].n.cs⟩⟩ rfl hU (fun k hk => .inl hk) ?_ ?_ ⟨hcc,ho.m,⟨ownB_ok (x := ⟨na,nc,t.s⟩) hv' HB8.out.1 HB8.out.2,hn.k,hn.v,hn.c,hn.kz,hn.vz,hn.cz⟩,?_,ho.w⟩
   ·intro k hk
    rcases hk with hk | hk
    ·exact Nat.lt_of_lt_of_le (P2.lt k (.inr hk)) hU.size
    ·exact hk.2
   ·intro k hk hd
    rcases hd with hd | hd
    ·exact P2.dj k hk hd
    ·have := h.lt k (.inl hk); omega
   ·exact ⟨fun x e _ => .inr (hin x e),fun x e l => .inl (ho.d.k x e l),fun y hy x e l => .inl (ho.d.ke y hy x e l),fun x e l => .inl (ho.d.v x e l),fun y hy x e l => .inl (ho.d.ve y hy x e l),fun x e l => .inl (ho.d.c x e l)⟩
  ·intro k hk
   rcases hk with hk | hk
   ·exact .inl hk
   ·right; omega
  ·exact (Upd.of_below bel M).then hU (fun k _ e => by rw [e]; exact ho.m)
 obtain ⟨ha,hc,hs⟩ := t
 simp only [Tx.v] at *
 generalize SetPost W A M D nodes root L i L[i].b L[i].w (L[i].n.p.setH lv hs ri) = PO at *
 generalize L[i].b = b at *
 obtain ⟨lh,hlh⟩ : ∃ lh,hs.length = lh := ⟨_,rfl⟩
 rw [hlh] at HCH HFIN g0 hw0 ⊢
 generalize L[i].n = nd at *
 generalize L[i].w = xx at *
 clear hlh h he ht HSC HB8 H0 HP HI
 generalize (i : Int) + 1 = id at *
 have G0 := hide (Tri.of g0)
 have B0 := hide b0
 have HW := hide hw0
 have Z0 := hide z0
 clear g0 b0 hw0 z0
 go_enter Tryz.func193,Tryz.ntmps193
 go_wp2_with fail
 rw [← HW.out]
 refine keep HO.out ?_
 obtain ⟨t0,t1,t2⟩ := G0.out
 go_wp2_with fail
 refine HCH.out.mono ?_
 rintro e w2 ⟨na,nc,rfl,hv2,hb2⟩
 have g2 := HSL.out w2 hb2
 have F2 := fun j => frozen_of g2 j
 have q1 : w2.cell? ⟨b,1,none⟩ = some (.int .i64 nd.lv) := by rw [cell_of_row _ _ _ _ _ _ g2]; rfl
 have q2 : w2.cell? ⟨b,2,none⟩ = some nd.hi.v := by rw [cell_of_row _ _ _ _ _ _ g2]; rfl
 have q3 : w2.cell? ⟨b,3,none⟩ = some (.int .i64 nd.ri) := by rw [cell_of_row _ _ _ _ _ _ g2]; rfl
 have HF := hide (HFIN.out w2 na nc hb2 hv2)
 clear hv2 hb2 HCH HFIN g2 HSL
 go_wp2_with fail
 exact HF.out
set_option maxHeartbeats 1600000 in
theorem setBody_any (h : PA W A M D nodes root L) (i : Nat) (hi : i < L.length) (he : L[i].w % 2 = 1) (k v : TL) (c : IL) (hk : k.Ok W) (hv : v.Ok W) (hc : c.Ok W) (kz : k.L.length * 24 ≤ 140737488352000) (vz : v.L.length * 24 ≤ 140737488352000) (cz : c.s.length * 8 ≤ 140737488352000) :
  Calls Tryz.prog 180 #[.pointer (some ⟨A,0,none⟩),.int .i64 ((i : Int) + 1),.agg #[k.v,v.v,c.v]] W (SetPost W A M D nodes root L i L[i].b L[i].w (L[i].n.p.setB k.p v.p c.s)) := by
 obtain ⟨w0,hw0⟩ : ∃ w0,w0 = W.alloc (.cells #[k.v,v.v,c.v] 108) := ⟨_,rfl⟩
 have b0 : Below W.heap.size W w0 := by rw [hw0]; exact (Below.refl _ _).alloc (Nat.le_refl _) _
 have g0 : w0.heap[W.heap.size]? = some (.cells #[k.v,v.v,c.v] 108 (0,0)) := by rw [hw0]; exact heap_alloc_new W _
 have z0 : w0.heap.size = W.heap.size + 1 := by rw [hw0]; simp
 have HO := hide (open_any (h.below b0) i hi he)
 have HCH := hide (copyBody_any k v c w0 (hk.below b0) (hv.below b0) (hc.below b0) kz vz cz)
 have hbl := h.lt L[i].b (.inl (h.sl L[i] (List.getElem_mem hi)).m)
 have HSL : Hid (∀ w2,Below w0.heap.size w0 w2 → (w2.heap[L[i].b]? = some (.cells L[i].cells 112 (0,0)))) := fun w2 hb => ((h.below b0).below hb).sl L[i] (List.getElem_mem hi) |>.c
 have HSC : Hid (L[i].cells = #[.int .u64 (L[i].w : Nat),.int .i64 L[i].n.lv,L[i].n.hi.v,.int .i64 L[i].n.ri,L[i].n.ks.v,L[i].n.vs.v,L[i].n.cs.v]) := rfl
 rw [HSC.out] at HSL
 -- the end
 have HFIN : Hid (∀ w2 kn kd K' vn vd V' cn cd,Below w0.heap.size w0 w2 → K'.map (·.s) = k.L.map (·.s) → V'.map (·.s) = v.L.map (·.s) → K'.length = k.L.length → V'.length = v.L.length → (⟨kn,kd,K'⟩ : TL).Own w2 w0.heap.size → (⟨vn,vd,V'⟩ : TL).Own w2 w0.heap.size → w2.ownsRow w0.heap.size 3 1 (.slice cn c.s.length cd) c.s.length (c.s.map (Value.int .i64)) →
   SetPost W A M D nodes root L i L[i].b L[i].w (L[i].n.p.setB k.p v.p c.s) (.returned (.int .i64 0)) (slB w2 L[i].b (.slice kn k.L.length kd) (.slice vn v.L.length vd) (.slice cn c.s.length cd))) := by
  intro w2 kn kd K' vn vd V' cn cd hb p1 p2 l1 l2 o1 o2 o3
  have hU : Upd (fun k => k = L[i].b) w2 (slB w2 L[i].b (.slice kn k.L.length kd) (.slice vn v.L.length vd) (.slice cn c.s.length cd)) := slB_upd _ _ _ _ _ _ rfl
  have bel := b0.trans (hb.mono b0.size)
  have P2 := h.below bel
  have ho := P2.sl L[i] (List.getElem_mem hi)
  have hcc := slB_block (HSL.out w2 hb) (.slice kn k.L.length kd) (.slice vn v.L.length vd) (.slice cn c.s.length cd)
  have q1 := o1.upd hU (fun b h1 h2 h3 => by omega)
  have q2 := o2.upd hU (fun b h1 h2 h3 => by omega)
  have q3 := ownsI_upd o3 hU (fun b h1 h2 h3 => by omega)
  generalize slB w2 L[i].b (.slice kn k.L.length kd) (.slice vn v.L.length vd) (.slice cn c.s.length cd) = w6 at *
  have hn : L[i].n.Ok w6 := ho.n.upd ho.d hU (fun k hk e => P2.dj _ ho.m (by rw [← e]; exact hk))
  obtain ⟨m,hm⟩ : ∃ m : Nd,m = ⟨L[i].n.lv,L[i].n.hi,L[i].n.ri,⟨kn,kd,K'⟩,⟨vn,vd,V'⟩,⟨cn,cd,c.s⟩⟩ := ⟨_,rfl⟩
  refine ⟨fun k => D k ∨ (w0.heap.size ≤ k ∧ k < w6.heap.size),m,rfl,?_,?_,?_,?_⟩
  ·rw [hm]
   refine P2.put hi ⟨L[i].b,L[i].w,⟨L[i].n.lv,L[i].n.hi,L[i].n.ri,⟨kn,kd,K'⟩,⟨vn,vd,V'⟩,⟨cn,cd,c.s⟩⟩⟩ rfl hU (fun k hk => .inl hk) ?_ ?_ ⟨?_,ho.m,⟨hn.h,q1.ok,q2.ok,il_of_owns (t := ⟨cn,cd,c.s⟩) q3,?_,?_,cz⟩,?_,ho.w⟩
   ·intro k hk
    rcases hk with hk | hk
    ·exact Nat.lt_of_lt_of_le (P2.lt k (.inr hk)) hU.size
    ·exact hk.2
   ·intro k hk hd
    rcases hd with hd | hd
    ·exact P2.dj k hk hd
    ·have := h.lt k (.inl hk); omega
   ·rw [hcc]
    simp only [Sl.cells,TL.v,IL.v,l1,l2]
   ·simp only [l1]; exact kz
   ·simp only [l2]; exact vz
   ·exact ⟨fun x e l => .inl (ho.d.h x e l),fun x e _ => .inr (owns_in q1.row x e),fun y hy x e _ => .inr (ownB_in (q1.each y hy) x e),fun x e _ => .inr (owns_in q2.row x e),fun y hy x e _ => .inr (ownB_in (q2.each y hy) x e),fun x e _ => .inr (owns_in q3 x e)⟩
  ·rw [hm]
   simp only [Nd.p,NP.setB,TL.p,p1,p2]
  ·intro k hk
   rcases hk with hk | hk
   ·exact .inl hk
   ·right; omega
  ·exact (Upd.of_below bel M).then hU (fun k _ e => by rw [e]; exact ho.m)
 obtain ⟨ka,kc,K⟩ := k
 obtain ⟨va,vc,V⟩ := v
 obtain ⟨ca,cc,C⟩ := c
 simp only [TL.v,IL.v] at *
 generalize SetPost W A M D nodes root L i L[i].b L[i].w (L[i].n.p.setB (TL.p ⟨ka,kc,K⟩) (TL.p ⟨va,vc,V⟩) C) = PO at *
 generalize L[i].b = b at *
 obtain ⟨lk,hlk⟩ : ∃ lk,K.length = lk := ⟨_,rfl⟩
 obtain ⟨lw,hlw⟩ : ∃ lw,V.length = lw := ⟨_,rfl⟩
 obtain ⟨lc,hlc⟩ : ∃ lc,C.length = lc := ⟨_,rfl⟩
 simp only [hlk,hlw,hlc] at HCH HFIN g0 hw0 ⊢
 generalize L[i].n = nd at *
 generalize L[i].w = xx at *
 clear h he hk hv hc kz vz cz HSC hlk hlw hlc
 generalize (i : Int) + 1 = id at *
 have G0 := hide (Tri.of g0)
 have B0 := hide b0
 have HW := hide hw0
 have Z0 := hide z0
 clear g0 b0 hw0 z0
 go_enter Tryz.func180,Tryz.ntmps180
 go_wp2_with fail
 rw [← HW.out]
 refine keep HO.out ?_
 obtain ⟨t0,t1,t2⟩ := G0.out
 go_wp2_with fail
 refine HCH.out.mono ?_
 rintro e w2 ⟨kn,kd,K',vn,vd,V',cn,cd,rfl,p1,p2,l1,l2,o1,o2,o3,hb2⟩
 have g2 := HSL.out w2 hb2
 have F2 := fun j => frozen_of g2 j
 have q1 : w2.cell? ⟨b,4,none⟩ = some nd.ks.v := by rw [cell_of_row _ _ _ _ _ _ g2]; rfl
 have q2 : w2.cell? ⟨b,5,none⟩ = some nd.vs.v := by rw [cell_of_row _ _ _ _ _ _ g2]; rfl
 have q3 : w2.cell? ⟨b,6,none⟩ = some nd.cs.v := by rw [cell_of_row _ _ _ _ _ _ g2]; rfl
 have HF := hide (HFIN.out w2 kn kd K' vn vd V' cn cd hb2 p1 p2 l1 l2 o1 o2 o3)
 clear p1 p2 l1 l2 o1 o2 o3 hb2 HCH HFIN g2 HSL
 go_wp2_with fail
 exact HF.out
end
structure RS where
 w : Nat
 n : Nd
def RS.cells (s : RS) : List Value := [.int .u64 (s.w : Nat),.int .i64 s.n.lv,s.n.hi.v,.int .i64 s.n.ri,s.n.ks.v,s.n.vs.v,s.n.cs.v]
structure RS.Ok (W : World) (D : Nat → Prop) (s : RS) : Prop where
 n : s.n.Ok W
 d : s.n.In D
 w : s.w < 18446744073709551616
structure RA (W : World) (A g c : Nat) (M D : Nat → Prop) (nodes root : Int) (L : List RS) : Prop where
 a : W.heap[A]? = some (.cells #[.int .i64 nodes,.slice (some ⟨g,0,none⟩) L.length c,.int .i64 root] 161 (0,0))
 row : W.ownsRow 0 163 7 (.slice (some ⟨g,0,none⟩) L.length c) L.length (L.flatMap RS.cells)
 mg : M g
 mA : M A
 lt : ∀ k,M k ∨ D k → k < W.heap.size
 dj : ∀ k,M k → ¬ D k
 sl : ∀ s ∈ L,s.Ok W D
 one : 1 ≤ L.length
 le : (L.length : Int) ≤ nodes
 nz : nodes ≤ 65536
theorem owns_blkN {w w' : World} {base : Nat} {e : TypeId} {size : Nat} {v : Value} {n : Nat} {xs : List Value} (h : w.ownsRow base e size v n xs) (hb : ∀ k,v.ownBlock = some k → w'.heap[k]? = w.heap[k]?) : w'.ownsRow base e size v n xs := by
 refine ⟨h.1,?_⟩
 rcases h.2 with h | ⟨g,cap,cur,hv,hg,hh,r⟩
 ·exact .inl h
 ·exact .inr ⟨g,cap,cur,hv,hg,by rw [hb g (by rw [hv]; rfl)]; exact hh,r⟩
section
variable {W W' : World} {A g c : Nat} {M D : Nat → Prop} {nodes root : Int} {L : List RS}
theorem RA.blk (h : RA W A g c M D nodes root L) : ∃ cur,W.heap[g]? = some (.cells cur 163 (0,0)) ∧ L.length ≤ c ∧ c ≤ maxLen ∧ cur.size = c * 7 ∧ cur.toList.take (L.length * 7) = L.flatMap RS.cells := by
 rcases h.row.2 with ⟨hv,_⟩ | ⟨g',c',cur,hv,hb,hh,h1,h2,h3,h4⟩
 ·cases hv
 ·cases hv; exact ⟨cur,hh,h1,h2,h3,h4⟩
theorem RA.ne (h : RA W A g c M D nodes root L) : g ≠ A := by
 intro e
 obtain ⟨cur,hh,_⟩ := h.blk
 rw [e,h.a] at hh
 simp at hh
theorem RS.Ok.upd {S : Nat → Prop} {s : RS} (h : s.Ok W D) (hb : Upd S W W') (hs : ∀ k,D k → ¬ S k) : s.Ok W' D := ⟨h.n.upd h.d hb hs,h.d,h.w⟩
theorem RA.upd {S : Nat → Prop} (h : RA W A g c M D nodes root L) (hb : Upd S W W') (hs : ∀ k,M k ∨ D k → ¬ S k) : RA W' A g c M D nodes root L := by
 refine ⟨hb.heap h.a (hs _ (.inl h.mA)),owns_blkN h.row (fun k hk => ?_),h.mg,h.mA,fun k hk => Nat.lt_of_lt_of_le (h.lt k hk) hb.size,h.dj,fun s hs' => (h.sl s hs').upd hb (fun k hk => hs k (.inr hk)),h.one,h.le,h.nz⟩
 cases hk
 exact hb.block _ (h.lt _ (.inl h.mg)) (hs _ (.inl h.mg))
theorem RA.below (h : RA W A g c M D nodes root L) (hb : Below W.heap.size W W') : RA W' A g c M D nodes root L :=
 h.upd (S := Noth) (Upd.of_below hb _) (fun _ _ e => e)
theorem RA.drewN (h : RA W A g c M D nodes root L) (m : Nat) : RA (W.drewN m) A g c M D nodes root L :=
 h.upd (S := Noth) ⟨rfl,rfl,rfl,Nat.le_refl _,fun _ _ _ => rfl⟩ (fun _ _ e => e)
theorem RA.cells (h : RA W A g c M D nodes root L) : W.cell? ⟨A,0,none⟩ = some (.int .i64 nodes) ∧ W.cell? ⟨A,1,none⟩ = some (.slice (some ⟨g,0,none⟩) L.length c) ∧ W.cell? ⟨A,2,none⟩ = some (.int .i64 root) :=
 ⟨by rw [cell_of_row _ _ _ _ _ _ h.a]; rfl,by rw [cell_of_row _ _ _ _ _ _ h.a]; rfl,by rw [cell_of_row _ _ _ _ _ _ h.a]; rfl⟩
end
def ndsR (L : List RS) : List (Nat × NP) := L.map fun s => (s.w,s.n.p)
structure AS where
 nodes : Int
 root : Int
 sl : List (Nat × NP)
def AS.inn (s : AS) (id : Int) : Prop := 1 ≤ id ∧ id ≤ (s.sl.length : Nat)
instance (s : AS) (id : Int) : Decidable (s.inn id) := by unfold AS.inn; exact inferInstance
def AS.w (s : AS) (id : Int) : Nat := (s.sl.getD (id - 1).toNat (0,NP.zero)).1
def AS.n (s : AS) (id : Int) : NP := (s.sl.getD (id - 1).toNat (0,NP.zero)).2
def AS.setw (s : AS) (id : Int) (x : Nat) : AS := ⟨s.nodes,s.root,s.sl.set (id - 1).toNat (x,s.n id)⟩
def AS.setn (s : AS) (id : Int) (p : NP) : AS := ⟨s.nodes,s.root,s.sl.set (id - 1).toNat (s.w id,p)⟩
def AS.wordE (s : AS) (id : Int) : Int := if s.inn id then 0 else 101
def AS.wordW (s : AS) (id : Int) : Nat := if s.inn id then s.w id else 0
def AS.lockB (s : AS) (id : Int) (x : Nat) : Bool := decide (s.inn id ∧ s.w id = x ∧ x % 2 = 0)
def AS.lockS (s : AS) (id : Int) (x : Nat) : AS := if s.inn id ∧ s.w id = x ∧ x % 2 = 0 then s.setw id (x + 1) else s
def AS.unlE (s : AS) (id : Int) : Int := if s.inn id then (if s.w id % 2 = 0 then 102 else 0) else 101
def AS.unlS (s : AS) (id : Int) (ch : Bool) : AS := if s.unlE id = 0 then s.setw id (freeW (s.w id) ch) else s
def AS.hedS (s : AS) (id : Int) (lv : Int) (hi : List Int) (ri : Int) : AS := if s.unlE id = 0 then s.setn id ((s.n id).setH lv hi ri) else s
def AS.bodS (s : AS) (id : Int) (ks vs : List (List Int)) (cs : List Int) : AS := if s.unlE id = 0 then s.setn id ((s.n id).setB ks vs cs) else s
def AS.groB (s : AS) (old id : Int) : Bool := decide (s.inn id ∧ s.root = old)
def AS.groS (s : AS) (old id : Int) : AS := if s.inn id ∧ s.root = old then ⟨s.nodes,id,s.sl⟩ else s
def AS.allI (s : AS) : Int := if (s.sl.length : Int) < s.nodes then (s.sl.length : Int) + 1 else 0
def AS.allE (s : AS) : Int := if (s.sl.length : Int) < s.nodes then 0 else 2
def AS.allS (s : AS) : AS := if (s.sl.length : Int) < s.nodes then ⟨s.nodes,s.root,s.sl ++ [(1,NP.zero)]⟩ else s
theorem AS.idx {s : AS} {id : Int} (h : s.inn id) : ∃ i : Nat,i < s.sl.length ∧ id = (i : Int) + 1 ∧ (id - 1).toNat = i :=
 ⟨(id - 1).toNat,by unfold AS.inn at h; omega,by unfold AS.inn at h; omega,rfl⟩
def PX (W : World) (A : Nat) (F : Nat → Prop) (s : AS) : Prop := ∃ M D L,PA W A M D s.nodes s.root L ∧ ndsOf L = s.sl ∧ (∀ k,M k ∨ D k → F k) ∧ (∀ k,F k → k < W.heap.size)
def RX (W : World) (A : Nat) (F : Nat → Prop) (s : AS) : Prop := ∃ g c M D L,RA W A g c M D s.nodes s.root L ∧ ndsR L = s.sl ∧ (∀ k,M k ∨ D k → F k) ∧ (∀ k,F k → k < W.heap.size)
structure Stp (F F' : Nat → Prop) (W W' : World) : Prop where
 f : ∀ k,F' k → F k ∨ W.heap.size ≤ k
 u : Upd F W W'
theorem Stp.refl (F : Nat → Prop) (W : World) : Stp F F W W := ⟨fun _ h => .inl h,Upd.refl _ _⟩
theorem PX.upd {W W' : World} {A : Nat} {F S : Nat → Prop} {s : AS} (h : PX W A F s) (hb : Upd S W W') (hs : ∀ k,F k → ¬ S k) : PX W' A F s := by
 obtain ⟨M,D,L,h1,h2,h3,h4⟩ := h
 exact ⟨M,D,L,h1.upd hb (fun k hk => hs k (h3 k hk)),h2,h3,fun k hk => Nat.lt_of_lt_of_le (h4 k hk) hb.size⟩
theorem RX.upd {W W' : World} {A : Nat} {F S : Nat → Prop} {s : AS} (h : RX W A F s) (hb : Upd S W W') (hs : ∀ k,F k → ¬ S k) : RX W' A F s := by
 obtain ⟨g,c,M,D,L,h1,h2,h3,h4⟩ := h
 exact ⟨g,c,M,D,L,h1.upd hb (fun k hk => hs k (h3 k hk)),h2,h3,fun k hk => Nat.lt_of_lt_of_le (h4 k hk) hb.size⟩
theorem PX.lt {W : World} {A : Nat} {F : Nat → Prop} {s : AS} (h : PX W A F s) : ∀ k,F k → k < W.heap.size := by obtain ⟨M,D,L,_,_,_,h4⟩ := h; exact h4
theorem RX.lt {W : World} {A : Nat} {F : Nat → Prop} {s : AS} (h : RX W A F s) : ∀ k,F k → k < W.heap.size := by obtain ⟨g,c,M,D,L,_,_,_,h4⟩ := h; exact h4
def PNext (W : World) (A : Nat) (F : Nat → Prop) (s' : AS) (W' : World) : Prop := ∃ F',PX W' A F' s' ∧ Stp F F' W W'
def RNext (W : World) (A : Nat) (F : Nat → Prop) (s' : AS) (W' : World) : Prop := ∃ F',RX W' A F' s' ∧ Stp F F' W W'
theorem PX.still {W W' : World} {A : Nat} {F : Nat → Prop} {s : AS} (h : PX W A F s) (hb : Below W.heap.size W W') : PNext W A F s W' :=
 ⟨F,h.upd (S := Noth) (Upd.of_below hb _) (fun _ _ e => e),fun _ h => .inl h,Upd.of_below hb _⟩
theorem pnext_of {W W' : World} {A : Nat} {F M D M' D' : Nat → Prop} {s' : AS} {L' : List Sl} (hF : ∀ k,M k ∨ D k → F k) (hlt : ∀ k,F k → k < W.heap.size) (h : PA W' A M' D' s'.nodes s'.root L') (he : ndsOf L' = s'.sl) (hm : ∀ k,M' k → M k ∨ W.heap.size ≤ k) (hd : ∀ k,D' k → D k ∨ W.heap.size ≤ k) (hu : Upd M W W') : PNext W A F s' W' := by
 refine ⟨fun k => F k ∨ (W.heap.size ≤ k ∧ k < W'.heap.size),⟨M',D',L',h,he,?_,?_⟩,⟨?_,hu.mono (fun k _ hk => hF k (.inl hk))⟩⟩
 ·intro k hk
  have hl := h.lt k hk
  rcases hk with hk | hk
  ·rcases hm k hk with h1 | h1
   ·exact .inl (hF k (.inl h1))
   ·exact .inr ⟨h1,hl⟩
  ·rcases hd k hk with h1 | h1
   ·exact .inl (hF k (.inr h1))
   ·exact .inr ⟨h1,hl⟩
 ·intro k hk
  rcases hk with hk | hk
  ·exact Nat.lt_of_lt_of_le (hlt k hk) hu.size
  ·exact hk.2
 ·intro k hk
  rcases hk with hk | hk
  ·exact .inl hk
  ·exact .inr hk.1
theorem ndsOf_at {L : List Sl} {s : AS} (h : ndsOf L = s.sl) {i : Nat} (hi : i < L.length) {id : Int} (hid : id = (i : Int) + 1) : s.w id = L[i].w ∧ s.n id = L[i].n.p := by
 have : s.sl.getD (id - 1).toNat (0,NP.zero) = (L[i].w,L[i].n.p) := by
  rw [← h,show (id - 1).toNat = i by omega]
  simp [ndsOf,hi]
 unfold AS.w AS.n
 rw [this]
 exact ⟨rfl,rfl⟩
theorem ndsOf_set {L : List Sl} {s : AS} (h : ndsOf L = s.sl) {i : Nat} {id : Int} (hid : id = (i : Int) + 1) (t : Sl) : ndsOf (L.set i t) = s.sl.set (id - 1).toNat (t.w,t.n.p) := by
 rw [← h,show (id - 1).toNat = i by omega]
 simp [ndsOf,List.map_set]
theorem ndsOf_lenS {L : List Sl} {s : AS} (h : ndsOf L = s.sl) : L.length = s.sl.length := by rw [← h,ndsOf_len]
section
variable {W : World} {A : Nat} {F : Nat → Prop} {s : AS}
theorem px_root (h : PX W A F s) : Calls Tryz.prog 45 #[.pointer (some ⟨A,0,none⟩)] W fun e w' => e = .returned (.int .i64 s.root) ∧ w' = W := by
 obtain ⟨M,D,L,h1,_⟩ := h
 exact root_any h1
theorem px_len (h : PX W A F s) : s.sl.length ≤ 65536 ∧ (s.sl.length : Int) ≤ s.nodes ∧ s.nodes ≤ 65536 ∧ 1 ≤ s.sl.length := by
 obtain ⟨M,D,L,h1,h2,_⟩ := h
 rw [← ndsOf_lenS h2]
 exact ⟨h1.n_le,h1.le,h1.nz,h1.one⟩
theorem px_wlt (h : PX W A F s) (id : Int) (hin : s.inn id) : s.w id < 18446744073709551616 := by
 obtain ⟨M,D,L,h1,h2,_⟩ := h
 obtain ⟨i,hi,hid,_⟩ := AS.idx hin
 have hi' : i < L.length := by rw [ndsOf_lenS h2]; exact hi
 rw [(ndsOf_at h2 hi' hid).1]
 exact (h1.sl L[i] (List.getElem_mem hi')).w
theorem px_word (h : PX W A F s) (id : Int) : Calls Tryz.prog 31 #[.pointer (some ⟨A,0,none⟩),.int .i64 id] W fun e w' => e = .returned (.tuple #[.int .u64 (s.wordW id : Nat),.int .i64 (s.wordE id)]) ∧ w' = W := by
 obtain ⟨M,D,L,h1,h2,_⟩ := h
 by_cases hin : s.inn id
 ·obtain ⟨i,hi,hid,_⟩ := AS.idx hin
  have hi' : i < L.length := by rw [ndsOf_lenS h2]; exact hi
  have := word_any h1 i hi'
  rw [← hid,← (ndsOf_at h2 hi' hid).1] at this
  unfold AS.wordW AS.wordE
  rw [if_pos hin,if_pos hin]; exact this
 ·unfold AS.wordW AS.wordE
  rw [if_neg hin,if_neg hin]
  exact word_none h1 id (by rw [ndsOf_lenS h2]; exact hin)
theorem px_lock (h : PX W A F s) (id : Int) (x : Nat) (hx : x < 18446744073709551616) : Calls Tryz.prog 142 #[.pointer (some ⟨A,0,none⟩),.int .i64 id,.int .u64 (x : Nat)] W fun e w' => e = .returned (.tuple #[.bool (s.lockB id x),.int .i64 (s.wordE id)]) ∧ PNext W A F (s.lockS id x) w' := by
 have h0 := h
 obtain ⟨M,D,L,h1,h2,h3,h4⟩ := h
 by_cases hin : s.inn id
 ·obtain ⟨i,hi,hid,_⟩ := AS.idx hin
  have hi' : i < L.length := by rw [ndsOf_lenS h2]; exact hi
  obtain ⟨hw,hn⟩ := ndsOf_at h2 hi' hid
  rw [show s.wordE id = 0 from if_pos hin]
  by_cases hl : s.w id = x ∧ x % 2 = 0
  ·rw [show s.lockB id x = true from decide_eq_true ⟨hin,hl⟩,show s.lockS id x = s.setw id (x + 1) from if_pos ⟨hin,hl⟩]
   have hx' : L[i].w = x := by rw [← hw]; exact hl.1
   have := lock_hit h1 i hi' (by rw [hx']; exact hl.2)
   rw [hx',← hid] at this
   refine this.mono fun e w' ⟨e1,e2⟩ => ⟨e1,?_⟩
   rw [e2]
   refine pnext_of (s' := s.setw id (x + 1)) h3 h4 (h1.setW hi' (x + 1) (by omega)) ?_ (fun k hk => .inl hk) (fun k hk => .inl hk) ((Upd.refl _ _).setCell _ _ (fun _ => (h1.sl L[i] (List.getElem_mem hi')).m))
   rw [ndsOf_set h2 hid]
   simp only [AS.setw,hn]
  ·rw [show s.lockB id x = false from decide_eq_false (fun e => hl e.2),show s.lockS id x = s from if_neg (fun e => hl e.2)]
   have := lock_miss h1 i hi' x hx (by rw [← hw]; exact hl)
   rw [← hid] at this
   exact this.mono fun e w' ⟨e1,e2⟩ => ⟨e1,by rw [e2]; exact h0.still (Below.refl _ _)⟩
 ·rw [show s.wordE id = 101 from if_neg hin,show s.lockB id x = false from decide_eq_false (fun e => hin e.1),show s.lockS id x = s from if_neg (fun e => hin e.1)]
  exact (lock_none h1 id _ (by rw [ndsOf_lenS h2]; exact hin)).mono fun e w' ⟨e1,e2⟩ => ⟨e1,by rw [e2]; exact h0.still (Below.refl _ _)⟩
theorem freeW_lt (x : Nat) (ch : Bool) (hx : x < 18446744073709551616) : freeW x ch < 18446744073709551616 := by
 unfold freeW
 cases ch
 ·simp; omega
 ·simp only [if_true]; omega
theorem px_unlock (h : PX W A F s) (id : Int) (ch : Bool) : Calls Tryz.prog 186 #[.pointer (some ⟨A,0,none⟩),.int .i64 id,.bool ch] W fun e w' => e = .returned (.int .i64 (s.unlE id)) ∧ PNext W A F (s.unlS id ch) w' := by
 have h0 := h
 obtain ⟨M,D,L,h1,h2,h3,h4⟩ := h
 by_cases hin : s.inn id
 ·obtain ⟨i,hi,hid,_⟩ := AS.idx hin
  have hi' : i < L.length := by rw [ndsOf_lenS h2]; exact hi
  obtain ⟨hw,hn⟩ := ndsOf_at h2 hi' hid
  by_cases hl : s.w id % 2 = 0
  ·have hE : s.unlE id = 102 := by unfold AS.unlE; rw [if_pos hin,if_pos hl]
   rw [show s.unlS id ch = s from if_neg (by rw [hE]; decide),hE]
   have := unlock_free h1 i hi' ch (by rw [← hw]; exact hl)
   rw [← hid] at this
   exact this.mono fun e w' ⟨e1,e2⟩ => ⟨e1,by rw [e2]; exact h0.still (Below.refl _ _)⟩
  ·have hE : s.unlE id = 0 := by unfold AS.unlE; rw [if_pos hin,if_neg hl]
   rw [show s.unlS id ch = s.setw id (freeW (s.w id) ch) from if_pos hE,hE]
   have := unlock_held h1 i hi' ch (by rw [← hw]; omega)
   rw [← hid] at this
   refine this.mono fun e w' ⟨e1,e2⟩ => ⟨e1,?_⟩
   rw [e2,hw]
   refine pnext_of (s' := s.setw id (freeW L[i].w ch)) h3 h4 (h1.setW hi' (freeW L[i].w ch) (freeW_lt _ _ (h1.sl L[i] (List.getElem_mem hi')).w)) ?_ (fun k hk => .inl hk) (fun k hk => .inl hk) ((Upd.refl _ _).setCell _ _ (fun _ => (h1.sl L[i] (List.getElem_mem hi')).m))
   rw [ndsOf_set h2 hid]
   simp only [AS.setw,hn]
 ·have hE : s.unlE id = 101 := by unfold AS.unlE; rw [if_neg hin]
  rw [show s.unlS id ch = s from if_neg (by rw [hE]; decide),hE]
  exact (unlock_none h1 id ch (by rw [ndsOf_lenS h2]; exact hin)).mono fun e w' ⟨e1,e2⟩ => ⟨e1,by rw [e2]; exact h0.still (Below.refl _ _)⟩
theorem px_grow (h : PX W A F s) (old id : Int) : Calls Tryz.prog 213 #[.pointer (some ⟨A,0,none⟩),.int .i64 old,.int .i64 id] W fun e w' => e = .returned (.tuple #[.bool (s.groB old id),.int .i64 (s.wordE id)]) ∧ PNext W A F (s.groS old id) w' := by
 have h0 := h
 obtain ⟨M,D,L,h1,h2,h3,h4⟩ := h
 by_cases hin : s.inn id
 ·rw [show s.wordE id = 0 from if_pos hin]
  have hin' : 1 ≤ id ∧ id ≤ (L.length : Nat) := by rw [ndsOf_lenS h2]; exact hin
  by_cases hr : s.root = old
  ·rw [show s.groB old id = true from decide_eq_true ⟨hin,hr⟩,show s.groS old id = ⟨s.nodes,id,s.sl⟩ from if_pos ⟨hin,hr⟩,← hr]
   refine (grow_yes h1 id hin').mono fun e w' ⟨e1,e2⟩ => ⟨e1,?_⟩
   rw [e2]
   exact pnext_of (s' := ⟨s.nodes,id,s.sl⟩) h3 h4 (h1.setR id) h2 (fun k hk => .inl hk) (fun k hk => .inl hk) ((Upd.refl _ _).setCell _ _ (fun _ => h1.mA))
  ·rw [show s.groB old id = false from decide_eq_false (fun e => hr e.2),show s.groS old id = s from if_neg (fun e => hr e.2)]
   exact (grow_no h1 old id hin' hr).mono fun e w' ⟨e1,e2⟩ => ⟨e1,by rw [e2]; exact h0.still (Below.refl _ _)⟩
 ·rw [show s.wordE id = 101 from if_neg hin,show s.groB old id = false from decide_eq_false (fun e => hin e.1),show s.groS old id = s from if_neg (fun e => hin e.1)]
  exact (grow_none h1 old id (by rw [ndsOf_lenS h2]; exact hin)).mono fun e w' ⟨e1,e2⟩ => ⟨e1,by rw [e2]; exact h0.still (Below.refl _ _)⟩
theorem px_alloc (h : PX W A F s) : Calls Tryz.prog 170 #[.pointer (some ⟨A,0,none⟩)] W fun e w' => e = .returned (.tuple #[.int .i64 s.allI,.int .i64 s.allE]) ∧ PNext W A F s.allS w' := by
 have h0 := h
 obtain ⟨M,D,L,h1,h2,h3,h4⟩ := h
 have hl := ndsOf_lenS h2
 by_cases hn : (s.sl.length : Int) < s.nodes
 ·rw [show s.allI = (s.sl.length : Int) + 1 from if_pos hn,show s.allE = 0 from if_pos hn,show s.allS = ⟨s.nodes,s.root,s.sl ++ [(1,NP.zero)]⟩ from if_pos hn]
  refine (alloc_any h1 (by rw [hl]; exact hn)).mono ?_
  rintro e w' ⟨M',b,rfl,hP,hM,hU⟩
  rw [hl]
  refine ⟨rfl,pnext_of (s' := ⟨s.nodes,s.root,s.sl ++ [(1,NP.zero)]⟩) h3 h4 hP ?_ hM (fun k hk => .inl hk) hU⟩
  simp only [ndsOf,List.map_append] at h2 ⊢
  rw [h2]
  rfl
 ·rw [show s.allI = 0 from if_neg hn,show s.allE = 2 from if_neg hn,show s.allS = s from if_neg hn]
  have := h1.le
  refine (alloc_full h1 (by rw [hl] at *; omega)).mono ?_
  rintro e w' ⟨rfl,k,rfl⟩
  exact ⟨rfl,h0.still (below_drewN (Below.refl _ _) k)⟩
def AS.held (s : AS) : List Int := heldL (s.sl.map (·.1))
theorem px_held (h : PX W A F s) : Calls Tryz.prog 16 #[.pointer (some ⟨A,0,none⟩)] W (HeldPost W s.held) := by
 obtain ⟨M,D,L,h1,h2,_⟩ := h
 have := held_any h1
 rwa [show heldL (L.map (·.w)) = s.held by unfold AS.held; rw [← h2]; simp [ndsOf,Function.comp_def]] at this
end
def AS.rd (s : AS) (id : Int) : NP := if s.inn id then s.n id else NP.zero
def HdP2 (W : World) (p : NP) (er : Int) (e : Ending) (w' : World) : Prop :=
 ∃ t : Tx,e = .returned (.tuple #[.agg #[.int .i64 p.lv,t.v,.int .i64 p.ri],.int .i64 er]) ∧ t.s = p.hi ∧ OwnB w' W.heap.size 5 t.v t.s ∧ B8 t.s ∧ t.s.length ≤ 140737488351232 ∧ Below W.heap.size W w'
def BdP2 (W : World) (p : NP) (er : Int) (e : Ending) (w' : World) : Prop :=
 ∃ (k v : TL) (c : IL),e = .returned (.tuple #[.agg #[k.v,v.v,c.v],.int .i64 er]) ∧ k.p = p.ks ∧ v.p = p.vs ∧ c.s = p.cs ∧ k.Own w' W.heap.size ∧ v.Own w' W.heap.size ∧ w'.ownsRow W.heap.size 3 1 c.v c.s.length (c.s.map (Value.int .i64)) ∧
  (k.L.length * 24 ≤ 140737488352000 ∧ v.L.length * 24 ≤ 140737488352000 ∧ c.s.length * 8 ≤ 140737488352000) ∧ Below W.heap.size W w'
theorem tl_own_nil (W : World) (N : Nat) : (⟨none,0,[]⟩ : TL).Own W N := ⟨World.ownsRow_nil _ _ _ _,fun x hx => (by cases hx),fun x hx => (by cases hx)⟩
theorem hdP2_of {W w' : World} {e : Ending} {n : Nd} (hn : n.Ok W) (h : HePost W n.lv n.ri n.hi.s.length n.hi.s e w') : HdP2 W n.p 0 e w' := by
 obtain ⟨a,c,rfl,h1,h2⟩ := h
 exact ⟨⟨a,c,n.hi.s⟩,rfl,rfl,h1,hn.h.b8,hn.h.z,h2⟩
theorem bdP2_of {W w' : World} {e : Ending} {n : Nd} (hn : n.Ok W) (h : BoPost W n.ks.L.length n.vs.L.length n.cs.s.length n.ks.L n.vs.L n.cs.s e w') : BdP2 W n.p 0 e w' := by
 obtain ⟨kn,kd,K',vn,vd,V',cn,cd,rfl,p1,p2,l1,l2,o1,o2,o3,hb⟩ := h
 refine ⟨⟨kn,kd,K'⟩,⟨vn,vd,V'⟩,⟨cn,cd,n.cs.s⟩,?_,p1,p2,rfl,o1,o2,o3,⟨by simp only [l1]; exact hn.kz,by simp only [l2]; exact hn.vz,hn.cz⟩,hb⟩
 simp only [TL.v,IL.v,l1,l2]
section
variable {W : World} {A : Nat} {F : Nat → Prop} {s : AS}
theorem px_head (h : PX W A F s) (id : Int) : Calls Tryz.prog 80 #[.pointer (some ⟨A,0,none⟩),.int .i64 id] W (HdP2 W (s.rd id) (s.wordE id)) := by
 obtain ⟨M,D,L,h1,h2,_⟩ := h
 unfold AS.rd
 by_cases hin : s.inn id
 ·obtain ⟨i,hi,hid,_⟩ := AS.idx hin
  have hi' : i < L.length := by rw [ndsOf_lenS h2]; exact hi
  obtain ⟨hw,hn⟩ := ndsOf_at h2 hi' hid
  rw [show s.wordE id = 0 from if_pos hin,if_pos hin,hn]
  have := ahead_any h1 i hi'
  rw [← hid] at this
  exact this.mono fun e w' h => hdP2_of (h1.sl L[i] (List.getElem_mem hi')).n h
 ·rw [show s.wordE id = 101 from if_neg hin,if_neg hin]
  refine (head_none h1 id (by rw [ndsOf_lenS h2]; exact hin)).mono ?_
  rintro e w' ⟨rfl,hb⟩
  exact ⟨⟨none,0,[]⟩,rfl,rfl,OwnB.nil _ _ _,B8.nil,Nat.zero_le _,hb⟩
theorem px_body (h : PX W A F s) (id : Int) : Calls Tryz.prog 82 #[.pointer (some ⟨A,0,none⟩),.int .i64 id] W (BdP2 W (s.rd id) (s.wordE id)) := by
 obtain ⟨M,D,L,h1,h2,_⟩ := h
 unfold AS.rd
 by_cases hin : s.inn id
 ·obtain ⟨i,hi,hid,_⟩ := AS.idx hin
  have hi' : i < L.length := by rw [ndsOf_lenS h2]; exact hi
  obtain ⟨hw,hn⟩ := ndsOf_at h2 hi' hid
  rw [show s.wordE id = 0 from if_pos hin,if_pos hin,hn]
  have := abody_any h1 i hi'
  rw [← hid] at this
  exact this.mono fun e w' h => bdP2_of (h1.sl L[i] (List.getElem_mem hi')).n h
 ·rw [show s.wordE id = 101 from if_neg hin,if_neg hin]
  refine (body_none h1 id (by rw [ndsOf_lenS h2]; exact hin)).mono ?_
  rintro e w' ⟨rfl,hb⟩
  exact ⟨⟨none,0,[]⟩,⟨none,0,[]⟩,⟨none,0,[]⟩,rfl,rfl,rfl,rfl,tl_own_nil _ _,tl_own_nil _ _,World.ownsRow_nil _ _ _ _,⟨Nat.zero_le _,Nat.zero_le _,Nat.zero_le _⟩,hb⟩
theorem opE_eq {L : List Sl} (h : ndsOf L = s.sl) (id : Int) (hne : s.unlE id ≠ 0) : opE L id = s.unlE id ∧ ∀ i (hi : i < L.length),id = (i : Int) + 1 → L[i].w % 2 = 0 := by
 unfold opE
 by_cases hin : s.inn id
 ·have hw : s.w id % 2 = 0 := Decidable.byContradiction fun hc => hne (by unfold AS.unlE; rw [if_pos hin,if_neg hc])
  refine ⟨?_,fun i hi hid => by rw [← (ndsOf_at h hi hid).1]; exact hw⟩
  unfold AS.unlE
  rw [if_pos hin,if_pos hw,if_pos (by rw [ndsOf_lenS h]; exact hin)]
 ·refine ⟨?_,fun i hi hid => absurd (show s.inn id by unfold AS.inn; rw [← ndsOf_lenS h]; omega) hin⟩
  unfold AS.unlE
  rw [if_neg hin,if_neg (by rw [ndsOf_lenS h]; exact hin)]
theorem unl_in {id : Int} (hE : s.unlE id = 0) : s.inn id ∧ s.w id % 2 = 1 := by
 have hin : s.inn id := Decidable.byContradiction fun hc => by unfold AS.unlE at hE; rw [if_neg hc] at hE; cases hE
 have hl : ¬ s.w id % 2 = 0 := fun hc => by unfold AS.unlE at hE; rw [if_pos hin,if_pos hc] at hE; cases hE
 exact ⟨hin,by omega⟩
theorem px_setH (h : PX W A F s) (id lv ri : Int) (t : Tx) (ht : t.Ok W) : Calls Tryz.prog 193 #[.pointer (some ⟨A,0,none⟩),.int .i64 id,.agg #[.int .i64 lv,t.v,.int .i64 ri]] W fun e w' => e = .returned (.int .i64 (s.unlE id)) ∧ PNext W A F (s.hedS id lv t.s ri) w' := by
 have h0 := h
 obtain ⟨M,D,L,h1,h2,h3,h4⟩ := h
 by_cases hE : s.unlE id = 0
 ·obtain ⟨hin,hodd⟩ := unl_in hE
  obtain ⟨i,hi,hid,_⟩ := AS.idx hin
  have hi' : i < L.length := by rw [ndsOf_lenS h2]; exact hi
  obtain ⟨hw,hn⟩ := ndsOf_at h2 hi' hid
  rw [show s.hedS id lv t.s ri = s.setn id ((s.n id).setH lv t.s ri) from if_pos hE,hE]
  have := setHead_any h1 i hi' (by rw [← hw]; exact hodd) lv ri t ht
  rw [← hid] at this
  refine this.mono ?_
  rintro e w' ⟨D',n,rfl,hP,hp,hD,hU⟩
  refine ⟨rfl,pnext_of (s' := s.setn id ((s.n id).setH lv t.s ri)) h3 h4 hP ?_ (fun k hk => .inl hk) hD hU⟩
  rw [ndsOf_set h2 hid]
  simp only [AS.setn,hn,hw,hp]
 ·rw [show s.hedS id lv t.s ri = s from if_neg hE]
  obtain ⟨e1,e2⟩ := opE_eq h2 id hE
  rw [← e1]
  exact (setHead_not h1 id lv ri t e2).mono fun e w' ⟨a1,a2⟩ => ⟨a1,h0.still a2⟩
theorem px_setB (h : PX W A F s) (id : Int) (k v : TL) (c : IL) (hk : k.Ok W) (hv : v.Ok W) (hc : c.Ok W) (kz : k.L.length * 24 ≤ 140737488352000) (vz : v.L.length * 24 ≤ 140737488352000) (cz : c.s.length * 8 ≤ 140737488352000) :
  Calls Tryz.prog 180 #[.pointer (some ⟨A,0,none⟩),.int .i64 id,.agg #[k.v,v.v,c.v]] W fun e w' => e = .returned (.int .i64 (s.unlE id)) ∧ PNext W A F (s.bodS id k.p v.p c.s) w' := by
 have h0 := h
 obtain ⟨M,D,L,h1,h2,h3,h4⟩ := h
 by_cases hE : s.unlE id = 0
 ·obtain ⟨hin,hodd⟩ := unl_in hE
  obtain ⟨i,hi,hid,_⟩ := AS.idx hin
  have hi' : i < L.length := by rw [ndsOf_lenS h2]; exact hi
  obtain ⟨hw,hn⟩ := ndsOf_at h2 hi' hid
  rw [show s.bodS id k.p v.p c.s = s.setn id ((s.n id).setB k.p v.p c.s) from if_pos hE,hE]
  have := setBody_any h1 i hi' (by rw [← hw]; exact hodd) k v c hk hv hc kz vz cz
  rw [← hid] at this
  refine this.mono ?_
  rintro e w' ⟨D',n,rfl,hP,hp,hD,hU⟩
  refine ⟨rfl,pnext_of (s' := s.setn id ((s.n id).setB k.p v.p c.s)) h3 h4 hP ?_ (fun k hk => .inl hk) hD hU⟩
  rw [ndsOf_set h2 hid]
  simp only [AS.setn,hn,hw,hp]
 ·rw [show s.bodS id k.p v.p c.s = s from if_neg hE]
  obtain ⟨e1,e2⟩ := opE_eq h2 id hE
  rw [← e1]
  exact (setBody_not h1 id k v c e2).mono fun e w' ⟨a1,a2⟩ => ⟨a1,h0.still a2⟩
end
def AS.new (nodes : Int) : AS := ⟨nodes,1,[(0,NP.zero)]⟩
def NewP (w : World) (nodes : Int) (e : Ending) (w' : World) : Prop := ∃ A F,e = .returned (.tuple #[.pointer (some ⟨A,0,none⟩),.int .i64 0]) ∧ PX w' A F (AS.new nodes) ∧ (∀ k,F k → w.heap.size ≤ k) ∧ Below w.heap.size w w'
theorem px_new (nodes : Int) (w : World) (h1 : 1 ≤ nodes) (h2 : nodes ≤ 65536) : Calls Tryz.prog 13 #[.int .i64 nodes] w (NewP w nodes) := by
 refine (new_good nodes w h1 h2).mono ?_
 rintro e w' ⟨A,b,M,rfl,hP,hM,hB⟩
 refine ⟨A,M,rfl,⟨M,Noth,_,hP,rfl,fun k hk => ?_,fun k hk => hP.lt k (.inl hk)⟩,hM,hB⟩
 rcases hk with hk | hk
 ·exact hk
 ·exact hk.elim
def AW (K : Nat → Prop) (W : World) (P AX AY : Nat) (s t : AS) : Prop :=
 ∃ FX FY,W.heap[P]? = some (.cells #[.pointer (some ⟨AX,0,none⟩),.pointer (some ⟨AY,0,none⟩)] 74 (0,0)) ∧ PX W AX FX s ∧ RX W AY FY t ∧ (∀ k,FX k → ¬ FY k) ∧ (∀ k,FX k ∨ FY k → ¬ K k) ∧ K P ∧ (∀ k,K k → k < W.heap.size)
section
variable {K : Nat → Prop} {W W' : World} {P AX AY : Nat} {s t : AS}
theorem AW.cells (h : AW K W P AX AY s t) : W.cell? ⟨P,0,none⟩ = some (.pointer (some ⟨AX,0,none⟩)) ∧ W.cell? ⟨P,1,none⟩ = some (.pointer (some ⟨AY,0,none⟩)) := by
 obtain ⟨FX,FY,h1,_⟩ := h
 exact ⟨by rw [cell_of_row _ _ _ _ _ _ h1]; rfl,by rw [cell_of_row _ _ _ _ _ _ h1]; rfl⟩
theorem AW.kp (h : AW K W P AX AY s t) : K P := by obtain ⟨_,_,_,_,_,_,_,h6,_⟩ := h; exact h6
theorem AW.more (h : AW K W P AX AY s t) (hb : Below W.heap.size W W') {K' : Nat → Prop} (h1 : ∀ k,K' k → K k ∨ (W.heap.size ≤ k ∧ k < W'.heap.size)) (h2 : K' P) : AW K' W' P AX AY s t := by
 obtain ⟨FX,FY,a1,a2,a3,a4,a5,a6,a7⟩ := h
 have hu : Upd Noth W W' := Upd.of_below hb _
 refine ⟨FX,FY,hu.heap a1 (fun e => e),a2.upd hu (fun _ _ e => e),a3.upd hu (fun _ _ e => e),a4,fun k hk hk' => ?_,h2,fun k hk => ?_⟩
 ·rcases h1 k hk' with h | h
  ·exact a5 k hk h
  ·rcases hk with hk | hk
   ·have := a2.lt k hk; omega
   ·have := a3.lt k hk; omega
 ·rcases h1 k hk with h | h
  ·exact Nat.lt_of_lt_of_le (a7 k h) hb.size
  ·exact h.2
theorem AW.below (h : AW K W P AX AY s t) (hb : Below W.heap.size W W') : AW K W' P AX AY s t := h.more hb (fun _ hk => .inl hk) h.kp
theorem AW.X (h : AW K W P AX AY s t) {f : FuncId} {args : Array Value} {r : Value} {s' : AS} (H : ∀ F,PX W AX F s → Calls Tryz.prog f args W fun e w' => e = .returned r ∧ PNext W AX F s' w') :
  Calls Tryz.prog f args W fun e w' => e = .returned r ∧ AW K w' P AX AY s' t ∧ Upd (fun k => ¬ K k) W w' := by
 obtain ⟨FX,FY,a1,a2,a3,a4,a5,a6,a7⟩ := h
 refine (H FX a2).mono fun e w' ⟨e1,F',p1,st⟩ => ⟨e1,⟨F',FY,?_,p1,?_,?_,?_,a6,?_⟩,?_⟩
 ·exact st.u.heap a1 (fun e => a5 P (.inl e) a6)
 ·exact a3.upd st.u (fun k hk e => a4 k e hk)
 ·intro k hk hy
  rcases st.f k hk with h | h
  ·exact a4 k h hy
  ·have := a3.lt k hy; omega
 ·intro k hk hK
  rcases hk with hk | hk
  ·rcases st.f k hk with h | h
   ·exact a5 k (.inl h) hK
   ·have := a7 k hK; omega
  ·exact a5 k (.inr hk) hK
 ·exact fun k hk => Nat.lt_of_lt_of_le (a7 k hk) st.u.size
 ·exact st.u.mono (fun k _ hk => a5 k (.inl hk))
theorem AW.Y (h : AW K W P AX AY s t) {f : FuncId} {args : Array Value} {r : Value} {t' : AS} (H : ∀ F,RX W AY F t → Calls Tryz.prog f args W fun e w' => e = .returned r ∧ RNext W AY F t' w') :
  Calls Tryz.prog f args W fun e w' => e = .returned r ∧ AW K w' P AX AY s t' ∧ Upd (fun k => ¬ K k) W w' := by
 obtain ⟨FX,FY,a1,a2,a3,a4,a5,a6,a7⟩ := h
 refine (H FY a3).mono fun e w' ⟨e1,F',p1,st⟩ => ⟨e1,⟨FX,F',?_,?_,p1,?_,?_,a6,?_⟩,?_⟩
 ·exact st.u.heap a1 (fun e => a5 P (.inr e) a6)
 ·exact a2.upd st.u (fun k hk e => a4 k hk e)
 ·intro k hk hy
  rcases st.f k hy with h | h
  ·exact a4 k hk h
  ·have := a2.lt k hk; omega
 ·intro k hk hK
  rcases hk with hk | hk
  ·exact a5 k (.inl hk) hK
  ·rcases st.f k hk with h | h
   ·exact a5 k (.inr h) hK
   ·have := a7 k hK; omega
 ·exact fun k hk => Nat.lt_of_lt_of_le (a7 k hk) st.u.size
 ·exact st.u.mono (fun k _ hk => a5 k (.inr hk))
theorem AW.px (h : AW K W P AX AY s t) : ∃ F,PX W AX F s := by obtain ⟨FX,FY,_,a2,_⟩ := h; exact ⟨FX,a2⟩
theorem AW.len (h : AW K W P AX AY s t) : s.sl.length ≤ 65536 ∧ (s.sl.length : Int) ≤ s.nodes ∧ s.nodes ≤ 65536 ∧ 1 ≤ s.sl.length := by obtain ⟨F,h⟩ := h.px; exact px_len h
end
structure AOp where
 kind : Int
 a : Int
 b : Int
 w : Nat
 ch : Bool
 n : Nd
def AOp.v (o : AOp) : Value := .agg #[.int .i64 o.kind,.int .i64 o.a,.int .i64 o.b,.int .u64 (o.w : Nat),.bool o.ch,.int .i64 o.n.lv,o.n.hi.v,.int .i64 o.n.ri,o.n.ks.v,o.n.vs.v,o.n.cs.v]
structure AOp.Ok (K : Nat → Prop) (W : World) (o : AOp) : Prop where
 k1 : -9223372036854775808 ≤ o.kind ∧ o.kind ≤ 9223372036854775807
 a1 : -9223372036854775808 ≤ o.a ∧ o.a ≤ 9223372036854775807
 b1 : -9223372036854775808 ≤ o.b ∧ o.b ≤ 9223372036854775807
 w1 : o.w < 18446744073709551616
 n : o.n.Ok W
 i : o.n.In K
def AS.id (s : AS) (c : Int) : Int := ((pickN c (s.sl.length + 2) : Nat) : Int)
section
variable {K : Nat → Prop} {W : World} {P AX AY : Nat} {s : AS}
end
structure Ops (K : Nat → Prop) (W : World) (a : Option Addr) (L : List AOp) : Prop where
 c : ∀ i (h : i < L.length),∃ b o,a = some ⟨b,o,none⟩ ∧ K b ∧ ∀ j (v : Value),(match L[i].v with | .agg cs => cs | _ => #[])[j]? = some v → W.cell? ⟨b,o + i * 11 + j,none⟩ = some v
 ok : ∀ x ∈ L,x.Ok K W
theorem Ops.mono {K K' : Nat → Prop} {W : World} {a : Option Addr} {L : List AOp} (h : Ops K W a L) (hk : ∀ k,K k → K' k) : Ops K' W a L := by
 refine ⟨fun i hi => ?_,fun x hx => ?_⟩
 ·obtain ⟨b,o,ha,hb,hc⟩ := h.c i hi
  exact ⟨b,o,ha,hk b hb,hc⟩
 ·have := h.ok x hx
  exact ⟨this.k1,this.a1,this.b1,this.w1,this.n,this.i.mono hk⟩
theorem AS.setw_len (s : AS) (id : Int) (x : Nat) : (s.setw id x).sl.length = s.sl.length := by simp [AS.setw]
theorem AS.setw_w {s : AS} {id : Int} {x : Nat} (h : s.inn id) : (s.setw id x).w id = x := by
 obtain ⟨i,hi,_,e⟩ := AS.idx h
 unfold AS.w AS.setw
 simp only [e]
 rw [List.getD_eq_getElem?_getD,List.getElem?_set_self hi]
 rfl
theorem AS.idx_ne {s : AS} {j k : Int} (hj : s.inn j) (hk : s.inn k) (h : j ≠ k) : (j - 1).toNat ≠ (k - 1).toNat := by unfold AS.inn at *; omega
theorem AS.n_setw {s : AS} {k : Int} (hk : s.inn k) (x : Nat) (j : Int) : (s.setw k x).n j = s.n j := by
 obtain ⟨i,hi,_,e⟩ := AS.idx hk
 unfold AS.n AS.setw
 simp only [e]
 by_cases h : (j - 1).toNat = i
 ·rw [h,List.getD_eq_getElem?_getD,List.getElem?_set_self hi]
  unfold AS.n
  rw [e]; rfl
 ·rw [List.getD_eq_getElem?_getD,List.getElem?_set_ne (fun e => h e.symm),← List.getD_eq_getElem?_getD]
theorem AS.n_setn {s : AS} {k : Int} (hk : s.inn k) (p : NP) {j : Int} (hj : s.inn j) : (s.setn k p).n j = if j = k then p else s.n j := by
 obtain ⟨i,hi,_,e⟩ := AS.idx hk
 unfold AS.n AS.setn
 simp only [e]
 by_cases h : j = k
 ·rw [if_pos h,h,e,List.getD_eq_getElem?_getD,List.getElem?_set_self hi]
  rfl
 ·have hne := AS.idx_ne hj hk h
  rw [e] at hne
  rw [if_neg h,List.getD_eq_getElem?_getD,List.getElem?_set_ne (fun e => hne e.symm),← List.getD_eq_getElem?_getD]
theorem AS.w_setn {s : AS} {k : Int} (hk : s.inn k) (p : NP) (j : Int) : (s.setn k p).w j = s.w j := by
 obtain ⟨i,hi,_,e⟩ := AS.idx hk
 unfold AS.w AS.setn
 simp only [e]
 by_cases h : (j - 1).toNat = i
 ·rw [h,List.getD_eq_getElem?_getD,List.getElem?_set_self hi]
  unfold AS.w
  rw [e]; rfl
 ·rw [List.getD_eq_getElem?_getD,List.getElem?_set_ne (fun e => h e.symm),← List.getD_eq_getElem?_getD]
theorem AS.setn_len (s : AS) (k : Int) (p : NP) : (s.setn k p).sl.length = s.sl.length := by simp [AS.setn]
theorem AS.inn_of_len {s t : AS} (h : t.sl.length = s.sl.length) (j : Int) : t.inn j ↔ s.inn j := by unfold AS.inn; rw [h]
end Go.Proofs.YtljnapejgjffjaaGreat
