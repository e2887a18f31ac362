/- The program's arena in memory. No function is named here. -/
import Derived.Test.YtpljbgcofmlhbaaGreatG21
import Derived.Test.YtpljbgcofmlhbaaGreatG16
import Derived.Test.YtpljbgcofmlhbaaGreatG3
import Derived.Test.YtpljbgcofmlhbaaGreatG18
import Derived.Test.YtpljbgcofmlhbaaGreatG22
import Derived.Test.YtpljbgcofmlhbaaGreatG15
namespace Go.Proofs.YtpljbgcofmlhbaaGreat
open Go.RowKit
set_option maxRecDepth 100000
structure Sl where
 b : Nat
 w : Nat
 n : Nd
def Sl.cells (s : Sl) : Array Value := #[.int .u64 (s.w : Nat), .int .i64 s.n.lv, s.n.hi.v, .int .i64 s.n.ri, s.n.ks.v, s.n.vs.v, s.n.cs.v]
def Sl.ptr (s : Sl) : Value := .pointer (some ⟨s.b, 0, none⟩)
structure Nd.In (D : Nat → Prop) (n : Nd) : Prop where
 h : ∀ x, n.hi.a = some x → 0 < n.hi.s.length → D x.block
 k : ∀ x, n.ks.a = some x → 0 < n.ks.L.length → D x.block
 ke : ∀ t ∈ n.ks.L, ∀ x, t.a = some x → 0 < t.s.length → D x.block
 v : ∀ x, n.vs.a = some x → 0 < n.vs.L.length → D x.block
 ve : ∀ t ∈ n.vs.L, ∀ x, t.a = some x → 0 < t.s.length → D x.block
 c : ∀ x, n.cs.a = some x → 0 < n.cs.s.length → D x.block
theorem Nd.In.mono {D E : Nat → Prop} {n : Nd} (h : n.In D) (hd : ∀ k, D k → E k) : n.In E :=
 ⟨fun x e l => hd _ (h.h x e l), fun x e l => hd _ (h.k x e l), fun t ht x e l => hd _ (h.ke t ht x e l), fun x e l => hd _ (h.v x e l), fun t ht x e l => hd _ (h.ve t ht x e l), fun x e l => hd _ (h.c x e l)⟩
theorem TCells.upd {W W' : World} {S : Nat → Prop} {a : Option Addr} {L : List Tx} (h : TCells W a L) (hb : Upd S W W') (hs : ∀ x, a = some x → 0 < L.length → ¬ S x.block) : TCells W' a L := by
 intro i hi
 obtain ⟨b, o, ha, hc⟩ := h i hi
 exact ⟨b, o, ha, hb.cell (p := ⟨b, o + i, none⟩) hc (fun e => hs ⟨b, o, none⟩ ha (by omega) e)⟩
theorem Tx.Ok.updL {W W' : World} {S : Nat → Prop} {t : Tx} (h : t.Ok W) (hb : Upd S W W') (hs : ∀ x, t.a = some x → 0 < t.s.length → ¬ S x.block) : t.Ok W' := ⟨h.r.upd hb hs, h.n, h.lc, h.b8, h.z⟩
theorem TL.Ok.upd {W W' : World} {S : Nat → Prop} {t : TL} (h : t.Ok W) (hb : Upd S W W') (hs : ∀ x, t.a = some x → 0 < t.L.length → ¬ S x.block) (he : ∀ y ∈ t.L, ∀ x, y.a = some x → 0 < y.s.length → ¬ S x.block) : t.Ok W' :=
 ⟨h.r.upd hb hs, fun y hy => (h.ok y hy).updL hb (he y hy), h.n, h.lc⟩
theorem IL.Ok.upd {W W' : World} {S : Nat → Prop} {t : IL} (h : t.Ok W) (hb : Upd S W W') (hs : ∀ x, t.a = some x → 0 < t.s.length → ¬ S x.block) : t.Ok W' :=
 ⟨h.r.upd hb hs, h.n, h.lc⟩
theorem Nd.Ok.upd {W W' : World} {S D : Nat → Prop} {n : Nd} (h : n.Ok W) (hi : n.In D) (hb : Upd S W W') (hs : ∀ k, D k → ¬ S k) : n.Ok W' :=
 ⟨h.h.updL hb (fun x e l => hs _ (hi.h x e l)), h.k.upd hb (fun x e l => hs _ (hi.k x e l)) (fun t ht x e l => hs _ (hi.ke t ht x e l)), h.v.upd hb (fun x e l => hs _ (hi.v x e l)) (fun t ht x e l => hs _ (hi.ve t ht x e l)), h.c.upd hb (fun x e l => hs _ (hi.c x e l)), h.kz, h.vz, h.cz⟩
theorem Nd.Ok.in_ {W : World} {n : Nd} (h : n.Ok W) : n.In (fun k => k < W.heap.size) := by
 have hr : ∀ {k : IntKind} {a : Option Addr} {zs : List Int}, Row W k a zs → ∀ x, a = some x → 0 < zs.length → x.block < W.heap.size := fun r x e l => by
  obtain ⟨b, o, ha, hc⟩ := r 0 l
  rw [e] at ha
  cases ha
  exact World.block_lt_of_cell? W ⟨b, o + 0, none⟩ hc
 have ht : ∀ {a : Option Addr} {L : List Tx}, TCells W a L → ∀ x, a = some x → 0 < L.length → x.block < W.heap.size := fun r x e l => by
  obtain ⟨b, o, ha, hc⟩ := r 0 l
  rw [e] at ha
  cases ha
  exact World.block_lt_of_cell? W ⟨b, o + 0, none⟩ hc
 exact ⟨hr h.h.r, ht h.k.r, fun t hm => hr (h.k.ok t hm).r, ht h.v.r, fun t hm => hr (h.v.ok t hm).r, hr h.c.r⟩
theorem ownB_in {W : World} {N : Nat} {x : Tx} (h : OwnB W N 5 x.v x.s) : ∀ y, x.a = some y → N ≤ y.block ∧ y.block < W.heap.size := by
 intro y hy
 rcases h with ⟨hv, _⟩ | ⟨g, cap, cur, hv, hb, hh, _⟩
 ·simp only [Tx.v, Value.slice.injEq] at hv; rw [hy] at hv; exact absurd hv.1 (by simp)
 ·simp only [Tx.v, Value.slice.injEq] at hv
  rw [hy] at hv
  obtain ⟨h1, _, _⟩ := hv
  obtain rfl := Option.some.inj h1
  exact ⟨hb, lt_of_block hh⟩
theorem owns_in {W : World} {N : Nat} {e : TypeId} {a : Option Addr} {n m c : Nat} {xs : List Value} (h : W.ownsRow N e 1 (.slice a n c) m xs) : ∀ y, a = some y → N ≤ y.block ∧ y.block < W.heap.size := by
 intro y hy
 subst hy
 exact h.lt y.block (by
  rcases h.2 with ⟨hv, _⟩ | ⟨g, cap, cur, hv, _⟩
  ·cases hv
  ·cases hv; rfl)
theorem Nd.Own.in_ {W : World} {N : Nat} {n : Nd} (h : n.Own W N) : n.In (fun k => N ≤ k ∧ k < W.heap.size) :=
 ⟨fun x e _ => ownB_in h.h x e, fun x e _ => owns_in h.k.row x e, fun t ht x e _ => ownB_in (h.k.each t ht) x e, fun x e _ => owns_in h.v.row x e, fun t ht x e _ => ownB_in (h.v.each t ht) x e, fun x e _ => owns_in h.c x e⟩
def Nd.zero : Nd := ⟨0, ⟨none, 0, []⟩, 0, ⟨none, 0, []⟩, ⟨none, 0, []⟩, ⟨none, 0, []⟩⟩
def NP.zero : NP := ⟨0, [], 0, [], [], []⟩
theorem Nd.zero_p : Nd.zero.p = NP.zero := rfl
theorem Nd.zero_ok (W : World) : Nd.zero.Ok W := ⟨Tx.nil_ok W, TL.nil_ok W, TL.nil_ok W, IL.nil_ok W, Nat.zero_le _, Nat.zero_le _, Nat.zero_le _⟩
theorem Nd.zero_in (D : Nat → Prop) : Nd.zero.In D := ⟨(fun _ h _ => nomatch h), (fun _ h _ => nomatch h), (fun _ h => nomatch h), (fun _ h _ => nomatch h), (fun _ h => nomatch h), (fun _ h _ => nomatch h)⟩
structure Sl.Ok (W : World) (M D : Nat → Prop) (s : Sl) : Prop where
 c : W.heap[s.b]? = some (.cells s.cells 162 (0, 0))
 m : M s.b
 n : s.n.Ok W
 d : s.n.In D
 w : s.w < 18446744073709551616
structure PA (W : World) (A : Nat) (M D : Nat → Prop) (nodes root : Int) (L : List Sl) : Prop where
 row : ∃ g c, W.heap[A]? = some (.cells #[.slice (some ⟨g, 0, none⟩) L.length c, .int .i64 nodes, .int .i64 root] 152 (0, 0)) ∧ W.ownsRow 0 153 1 (.slice (some ⟨g, 0, none⟩) L.length c) L.length (L.map Sl.ptr) ∧ M g
 mA : M A
 lt : ∀ k, M k ∨ D k → k < W.heap.size
 dj : ∀ k, M k → ¬ D k
 sl : ∀ s ∈ L, s.Ok W M D
 nd : (L.map (·.b)).Nodup
 one : 1 ≤ L.length
 le : (L.length : Int) ≤ nodes
 nz : nodes ≤ 65536
theorem Sl.Ok.upd {W W' : World} {M D S : Nat → Prop} {s : Sl} (h : s.Ok W M D) (hb : Upd S W W') (hs : ∀ k, M k ∨ D k → ¬ S k) : s.Ok W' M D :=
 ⟨hb.heap h.c (hs _ (.inl h.m)), h.m, h.n.upd h.d hb (fun k hk => hs k (.inr hk)), h.d, h.w⟩
theorem PA.upd {W W' : World} {A : Nat} {M D S : Nat → Prop} {nodes root : Int} {L : List Sl} (h : PA W A M D nodes root L) (hb : Upd S W W') (hs : ∀ k, M k ∨ D k → ¬ S k) : PA W' A M D nodes root L := by
 obtain ⟨g, c, h1, h2, h3⟩ := h.row
 refine ⟨⟨g, c, hb.heap h1 (hs _ (.inl h.mA)), owns_upd h2 hb (fun k hk => ?_), h3⟩, h.mA, fun k hk => Nat.lt_of_lt_of_le (h.lt k hk) hb.size, h.dj, fun s hs' => (h.sl s hs').upd hb hs, h.nd, h.one, h.le, h.nz⟩
 cases hk
 exact hs _ (.inl h3)
theorem PA.drewN {W : World} {A : Nat} {M D : Nat → Prop} {nodes root : Int} {L : List Sl} (h : PA W A M D nodes root L) (m : Nat) : PA (W.drewN m) A M D nodes root L :=
 h.upd (S := Noth) ⟨rfl, rfl, rfl, Nat.le_refl _, fun _ _ _ => rfl⟩ (fun _ _ e => e)
theorem PA.below {W W' : World} {A : Nat} {M D : Nat → Prop} {nodes root : Int} {L : List Sl} (h : PA W A M D nodes root L) (hb : Below W.heap.size W W') : PA W' A M D nodes root L :=
 h.upd (S := Noth) (Upd.of_below hb _) (fun _ _ e => e)
theorem upd_drewN (S : Nat → Prop) (W : World) (m : Nat) : Upd S W (W.drewN m) := ⟨rfl, rfl, rfl, Nat.le_refl _, fun _ _ _ => rfl⟩
theorem PA.slot_ne {W : World} {A : Nat} {M D : Nat → Prop} {nodes root : Int} {L : List Sl} (h : PA W A M D nodes root L) {i j : Nat} (hi : i < L.length) (hj : j < L.length) (hne : i ≠ j) : L[i].b ≠ L[j].b := by
 intro e
 have h1 := List.pairwise_iff_getElem.1 h.nd
 rcases Nat.lt_or_gt_of_ne hne with hl | hl
 ·exact h1 i j (by simpa using hi) (by simpa using hj) hl (by simpa using e)
 ·exact h1 j i (by simpa using hj) (by simpa using hi) hl (by simpa using e.symm)
theorem PA.slot_A {W : World} {A : Nat} {M D : Nat → Prop} {nodes root : Int} {L : List Sl} (h : PA W A M D nodes root L) {s : Sl} (hs : s ∈ L) : s.b ≠ A := by
 intro e
 obtain ⟨g, c, h1, _⟩ := h.row
 have := (h.sl s hs).c
 rw [e, h1] at this
 simp at this
theorem PA.row_ne {W : World} {A : Nat} {M D : Nat → Prop} {nodes root : Int} {L : List Sl} (h : PA W A M D nodes root L) {g c : Nat} {xs : List Value} (hr : W.ownsRow 0 153 1 (.slice (some ⟨g, 0, none⟩) L.length c) L.length xs) : g ≠ A ∧ ∀ s ∈ L, s.b ≠ g := by
 rcases hr.2 with ⟨hv, _⟩ | ⟨g', c', cur, hv, _, hh, _⟩
 ·cases hv
 ·cases hv
  constructor
  ·intro e
   obtain ⟨g2, c2, h1, _⟩ := h.row
   rw [e, h1] at hh
   simp at hh
  ·intro s hs e
   have := (h.sl s hs).c
   rw [e, hh] at this
   simp at this
theorem PA.put {W W1 : World} {A : Nat} {M D D' : Nat → Prop} {nodes root : Int} {L : List Sl} (h : PA W A M D nodes root L) {i : Nat} (hi : i < L.length) (s : Sl) (hb : s.b = L[i].b) (hu : Upd (fun k => k = L[i].b) W W1)
  (hD : ∀ k, D k → D' k) (hlt : ∀ k, D' k → k < W1.heap.size) (hdj : ∀ k, M k → ¬ D' k) (hok : s.Ok W1 M D') : PA W1 A M D' nodes root (L.set i s) := by
 have hmem : L[i] ∈ L := List.getElem_mem hi
 obtain ⟨g, c, h1, h2, h3⟩ := h.row
 obtain ⟨n1, n2⟩ := h.row_ne h2
 refine ⟨⟨g, c, ?_, ?_, h3⟩, h.mA, ?_, hdj, ?_, ?_, by rw [List.length_set]; exact h.one, by rw [List.length_set]; exact h.le, h.nz⟩
 ·rw [List.length_set]
  exact hu.heap h1 (fun e => h.slot_A hmem e.symm)
 ·rw [List.length_set, List.map_set, show s.ptr = (L.map Sl.ptr)[i]'(by simpa using hi) by rw [List.getElem_map]; unfold Sl.ptr; rw [hb], List.set_getElem_self]
  exact owns_upd h2 hu (fun k hk e => by cases hk; exact n2 _ hmem e.symm)
 ·intro k hk
  rcases hk with hk | hk
  ·exact Nat.lt_of_lt_of_le (h.lt k (.inl hk)) hu.size
  ·exact hlt k hk
 ·intro t ht
  obtain ⟨j, hj, rfl⟩ := List.mem_iff_getElem.1 ht
  rw [List.length_set] at hj
  by_cases hij : i = j
  ·subst hij; rw [List.getElem_set_self]; exact hok
  ·rw [List.getElem_set_ne hij]
   have ho := h.sl L[j] (List.getElem_mem hj)
   refine ⟨hu.heap ho.c (fun e => h.slot_ne hi hj hij e.symm), ho.m, ho.n.upd ho.d hu (fun k hk e => h.dj L[i].b (h.sl _ hmem).m (by rw [← e]; exact hk)), ho.d.mono hD, ho.w⟩
 ·rw [List.map_set, hb, show L[i].b = (L.map (·.b))[i]'(by simpa using hi) by rw [List.getElem_map], List.set_getElem_self]
  exact h.nd
theorem PA.setW {W : World} {A : Nat} {M D : Nat → Prop} {nodes root : Int} {L : List Sl} (h : PA W A M D nodes root L) {i : Nat} (hi : i < L.length) (x : Nat) (hx : x < 18446744073709551616) :
  PA (W.setCell ⟨L[i].b, 0, none⟩ (.int .u64 (x : Nat))) A M D nodes root (L.set i ⟨L[i].b, x, L[i].n⟩) := by
 have ho := h.sl L[i] (List.getElem_mem hi)
 have hu : Upd (fun k => k = L[i].b) W (W.setCell ⟨L[i].b, 0, none⟩ (.int .u64 (x : Nat))) := (Upd.refl _ _).setCell _ _ (fun _ => rfl)
 refine h.put hi ⟨L[i].b, x, L[i].n⟩ rfl hu (fun k hk => hk) (fun k hk => Nat.lt_of_lt_of_le (h.lt k (.inr hk)) hu.size) h.dj ⟨block_setCell ho.c 0 _, ho.m, ho.n.upd ho.d hu (fun k hk e => h.dj _ ho.m (by rw [← e]; exact hk)), ho.d, hx⟩
def ndsOf (L : List Sl) : List (Nat × NP) := L.map fun s => (s.w, s.n.p)
theorem ndsOf_len (L : List Sl) : (ndsOf L).length = L.length := by simp [ndsOf]
end Go.Proofs.YtpljbgcofmlhbaaGreat
namespace Go.Proofs.YtpljbgcofmlhbaaGreat
open Go.RowKit
set_option maxRecDepth 100000
set_option maxHeartbeats 400000 in
theorem used_raw (A : Nat) (a : Option Addr) (n c : Nat) (w : World) (hc : w.cell? ⟨A, 0, none⟩ = some (.slice a n c)) : Calls Tryz.prog 42 #[.pointer (some ⟨A, 0, none⟩)] w fun e w' => e = .returned (.int .i64 (n : Nat)) ∧ w' = w := by
 go_enter Tryz.func42, Tryz.ntmps42
 go_wp2
 go_ret
 exact ⟨rfl, rfl⟩
set_option maxHeartbeats 400000 in
theorem root_raw (A : Nat) (r : Int) (w : World) (hc : w.cell? ⟨A, 2, none⟩ = some (.int .i64 r)) : Calls Tryz.prog 71 #[.pointer (some ⟨A, 0, none⟩)] w fun e w' => e = .returned (.int .i64 r) ∧ w' = w := by
 go_enter Tryz.func71, Tryz.ntmps71
 go_wp2
 go_ret
 exact ⟨rfl, rfl⟩
set_option maxHeartbeats 800000 in
theorem left_raw (A : Nat) (a : Option Addr) (n c : Nat) (m : Int) (w : World) (hc : w.cell? ⟨A, 0, none⟩ = some (.slice a n c)) (hm : w.cell? ⟨A, 1, none⟩ = some (.int .i64 m)) (h0 : 0 ≤ m) (h1 : m ≤ 65536) (hn : n ≤ 65536) :
  Calls Tryz.prog 37 #[.pointer (some ⟨A, 0, none⟩)] w fun e w' => e = .returned (.int .i64 (m - (n : Nat))) ∧ ∃ k, w' = w.drewN k := by
 have j0 : -65536 ≤ m - (n : Int) := by omega
 have j1 : m - (n : Int) ≤ 65536 := by omega
 go_enter Tryz.func37, Tryz.ntmps37
 go_wp2_with fail
 go_quiet (fail)
 go_wp2
 go_ret
 exact ⟨rfl, _, rfl⟩
set_option maxHeartbeats 800000 in
theorem slot_good (A g n c i b : Nat) (w : World) (hc : w.cell? ⟨A, 0, none⟩ = some (.slice (some ⟨g, 0, none⟩) n c)) (hp : w.cell? ⟨g, i, none⟩ = some (.pointer (some ⟨b, 0, none⟩))) (hi : i < n) (hn : n ≤ 65536) :
  Calls Tryz.prog 84 #[.pointer (some ⟨A, 0, none⟩), .int .i64 ((i : Int) + 1)] w fun e w' => e = .returned (.tuple #[.pointer (some ⟨b, 0, none⟩), .int .i64 0]) ∧ w' = w := by
 have HU := hide (used_raw A _ n c w hc)
 have j4 : (i : Int) < (n : Int) := by omega
 obtain ⟨id, hid⟩ : ∃ id, id = (i : Int) + 1 := ⟨_, rfl⟩
 rw [← hid]
 have j1 : ¬ id < 1 := by omega
 have j2 : ¬ (n : Int) < id := by omega
 have j3 : id - 1 = (i : Int) := by omega
 have j5 : id ≤ 65536 := by omega
 clear hid
 go_enter Tryz.func84, Tryz.ntmps84
 go_wp2_with fail
 refine keep HU.out ?_
 go_wp2_with fail
 go_ret2
 exact ⟨rfl, rfl⟩
set_option maxHeartbeats 800000 in
theorem slot_bad (A n c : Nat) (a : Option Addr) (id : Int) (w : World) (hc : w.cell? ⟨A, 0, none⟩ = some (.slice a n c)) (hi : ¬ (1 ≤ id ∧ id ≤ n)) :
  Calls Tryz.prog 84 #[.pointer (some ⟨A, 0, none⟩), .int .i64 id] w fun e w' => e = .returned (.tuple #[.pointer none, .int .i64 101]) ∧ w' = w := by
 have HU := hide (used_raw A _ n c w hc)
 by_cases h : id < 1
 ·clear hi
  go_enter Tryz.func84, Tryz.ntmps84
  go_wp2_with fail
  go_ret2
  exact ⟨rfl, rfl⟩
 ·have j2 : (n : Int) < id := by omega
  clear hi
  go_enter Tryz.func84, Tryz.ntmps84
  go_wp2_with fail
  refine keep HU.out ?_
  go_wp2_with fail
  go_ret2
  exact ⟨rfl, rfl⟩
/-! ### over an arena -/
section
variable {W : World} {A : Nat} {M D : Nat → Prop} {nodes root : Int} {L : List Sl}
theorem PA.n_le (h : PA W A M D nodes root L) : L.length ≤ 65536 := by have := h.le; have := h.nz; omega
theorem PA.cells (h : PA W A M D nodes root L) : ∃ g c, W.cell? ⟨A, 0, none⟩ = some (.slice (some ⟨g, 0, none⟩) L.length c) ∧ W.cell? ⟨A, 1, none⟩ = some (.int .i64 nodes) ∧ W.cell? ⟨A, 2, none⟩ = some (.int .i64 root) ∧ ∀ i (hi : i < L.length), W.cell? ⟨g, i, none⟩ = some (.pointer (some ⟨L[i].b, 0, none⟩)) := by
 obtain ⟨g, c, h1, h2, _⟩ := h.row
 refine ⟨g, c, by rw [cell_of_row _ _ _ _ _ _ h1]; rfl, by rw [cell_of_row _ _ _ _ _ _ h1]; rfl, by rw [cell_of_row _ _ _ _ _ _ h1]; rfl, fun i hi => ?_⟩
 have hc := h2.cells (g := g) rfl i (L[i].ptr) (by rw [List.getElem?_map, List.getElem?_eq_getElem hi]; rfl)
 rw [Addr.add_lit, Nat.zero_add] at hc
 exact hc
theorem used_any (h : PA W A M D nodes root L) : Calls Tryz.prog 42 #[.pointer (some ⟨A, 0, none⟩)] W fun e w' => e = .returned (.int .i64 (L.length : Nat)) ∧ w' = W := by
 obtain ⟨g, c, h1, _⟩ := h.cells
 exact used_raw A _ _ c W h1
theorem root_any (h : PA W A M D nodes root L) : Calls Tryz.prog 71 #[.pointer (some ⟨A, 0, none⟩)] W fun e w' => e = .returned (.int .i64 root) ∧ w' = W := by
 obtain ⟨g, c, _, _, h3, _⟩ := h.cells
 exact root_raw A root W h3
theorem left_any (h : PA W A M D nodes root L) : Calls Tryz.prog 37 #[.pointer (some ⟨A, 0, none⟩)] W fun e w' => e = .returned (.int .i64 (nodes - (L.length : Nat))) ∧ ∃ k, w' = W.drewN k := by
 obtain ⟨g, c, h1, h2, _⟩ := h.cells
 exact left_raw A _ _ c nodes W h1 h2 (by have := h.le; omega) h.nz h.n_le
theorem slot_any (h : PA W A M D nodes root L) (i : Nat) (hi : i < L.length) :
  Calls Tryz.prog 84 #[.pointer (some ⟨A, 0, none⟩), .int .i64 ((i : Int) + 1)] W fun e w' => e = .returned (.tuple #[.pointer (some ⟨L[i].b, 0, none⟩), .int .i64 0]) ∧ w' = W := by
 obtain ⟨g, c, h1, _, _, h4⟩ := h.cells
 exact slot_good A g _ c i _ W h1 (h4 i hi) hi h.n_le
theorem slot_none (h : PA W A M D nodes root L) (id : Int) (hi : ¬ (1 ≤ id ∧ id ≤ (L.length : Nat))) :
  Calls Tryz.prog 84 #[.pointer (some ⟨A, 0, none⟩), .int .i64 id] W fun e w' => e = .returned (.tuple #[.pointer none, .int .i64 101]) ∧ w' = W := by
 obtain ⟨g, c, h1, _⟩ := h.cells
 exact slot_bad A _ c _ id W h1 hi
theorem PA.wcell (h : PA W A M D nodes root L) (i : Nat) (hi : i < L.length) : W.cell? ⟨L[i].b, 0, none⟩ = some (.int .u64 (L[i].w : Nat)) ∧ W.frozen? ⟨L[i].b, 0, none⟩ = false ∧ L[i].w < 18446744073709551616 := by
 have ho := h.sl L[i] (List.getElem_mem hi)
 exact ⟨by rw [cell_of_row _ _ _ _ _ _ ho.c]; rfl, frozen_of ho.c 0, ho.w⟩
set_option maxHeartbeats 800000 in
theorem word_any (h : PA W A M D nodes root L) (i : Nat) (hi : i < L.length) :
  Calls Tryz.prog 41 #[.pointer (some ⟨A, 0, none⟩), .int .i64 ((i : Int) + 1)] W fun e w' => e = .returned (.tuple #[.int .u64 (L[i].w : Nat), .int .i64 0]) ∧ w' = W := by
 have HS := hide (slot_any h i hi)
 obtain ⟨h1, h2, h3⟩ := h.wcell i hi
 generalize L[i].b = b at *
 generalize L[i].w = x at *
 have HR := hide (lread_any b x W h1)
 clear h h1 h2 h3 hi
 generalize (i : Int) + 1 = id at *
 go_enter Tryz.func41, Tryz.ntmps41
 go_wp2_with fail
 refine keep HS.out ?_
 go_wp2_with fail
 refine keep HR.out ?_
 go_wp2_with fail
 go_ret2
 exact ⟨rfl, rfl⟩
set_option maxHeartbeats 800000 in
theorem word_none (h : PA W A M D nodes root L) (id : Int) (hi : ¬ (1 ≤ id ∧ id ≤ (L.length : Nat))) :
  Calls Tryz.prog 41 #[.pointer (some ⟨A, 0, none⟩), .int .i64 id] W fun e w' => e = .returned (.tuple #[.int .u64 0, .int .i64 101]) ∧ w' = W := by
 have HS := hide (slot_none h id hi)
 clear h hi
 go_enter Tryz.func41, Tryz.ntmps41
 go_wp2_with fail
 refine keep HS.out ?_
 go_wp2_with fail
 go_ret2
 exact ⟨rfl, rfl⟩
end
end Go.Proofs.YtpljbgcofmlhbaaGreat
namespace Go.Proofs.YtpljbgcofmlhbaaGreat
open Go.RowKit
set_option maxRecDepth 100000
set_option maxHeartbeats 800000 in
theorem new_bad (nodes : Int) (w : World) (h : ¬ (1 ≤ nodes ∧ nodes ≤ 65536)) : Calls Tryz.prog 32 #[.int .i64 nodes] w fun e w' => e = .returned (.tuple #[.pointer none, .int .i64 1]) ∧ w' = w := by
 by_cases h1 : nodes < 1
 ·clear h
  go_enter Tryz.func32, Tryz.ntmps32
  go_wp2_with fail
  go_ret2
  exact ⟨rfl, rfl⟩
 ·have h2 : 65536 < nodes := by omega
  clear h
  go_enter Tryz.func32, Tryz.ntmps32
  go_wp2_with fail
  go_ret2
  exact ⟨rfl, rfl⟩
def NewPost (w : World) (nodes : Int) (e : Ending) (w' : World) : Prop :=
 ∃ A b M, e = .returned (.tuple #[.pointer (some ⟨A, 0, none⟩), .int .i64 0]) ∧ PA w' A M Noth nodes 1 [⟨b, 0, Nd.zero⟩] ∧ (∀ k, M k → w.heap.size ≤ k) ∧ Below w.heap.size w w'
set_option maxHeartbeats 800000 in
theorem new_good (nodes : Int) (w : World) (h1 : 1 ≤ nodes) (h2 : nodes ≤ 65536) : Calls Tryz.prog 32 #[.int .i64 nodes] w (NewPost w nodes) := by
 have j1 : ¬ nodes < 1 := by omega
 have j2 : ¬ 65536 < nodes := by omega
 obtain ⟨w1, hw1⟩ : ∃ w1, w1 = w.alloc (.cells #[.int .u64 0, .int .i64 0, .slice none 0 0, .int .i64 0, .slice none 0 0, .slice none 0 0, .slice none 0 0] 162) := ⟨_, rfl⟩
 obtain ⟨w2, hw2⟩ : ∃ w2, w2 = w1.alloc (.cells #[.pointer (some ⟨w.heap.size, 0, none⟩)] 153) := ⟨_, rfl⟩
 obtain ⟨w3, hw3⟩ : ∃ w3, w3 = w2.alloc (.cells #[.slice (some ⟨w.heap.size + 1, 0, none⟩) 1 1, .int .i64 nodes, .int .i64 1] 152) := ⟨_, rfl⟩
 have s1 : w1.heap.size = w.heap.size + 1 := by rw [hw1]; simp
 have s2 : w2.heap.size = w.heap.size + 1 + 1 := by rw [hw2]; simp [s1]
 have s3 : w3.heap.size = w.heap.size + 3 := by rw [hw3]; simp [s2]
 have a1 : w3.heap[w.heap.size]? = some (.cells #[.int .u64 0, .int .i64 0, .slice none 0 0, .int .i64 0, .slice none 0 0, .slice none 0 0, .slice none 0 0] 162 (0, 0)) := by
  rw [hw3, Below.heap_alloc _ _ _ (by omega), hw2, Below.heap_alloc _ _ _ (by omega), hw1]; exact heap_alloc_new w _
 have a2 : w3.heap[w.heap.size + 1]? = some (.cells #[.pointer (some ⟨w.heap.size, 0, none⟩)] 153 (0, 0)) := by
  rw [hw3, Below.heap_alloc _ _ _ (by omega), hw2, ← s1]; exact heap_alloc_new w1 _
 have a3 : w3.heap[w.heap.size + 1 + 1]? = some (.cells #[.slice (some ⟨w.heap.size + 1, 0, none⟩) 1 1, .int .i64 nodes, .int .i64 1] 152 (0, 0)) := by
  rw [hw3, ← s2]; exact heap_alloc_new w2 _
 have B : Below w.heap.size w w3 := by
  rw [hw3, hw2, hw1]
  exact (((Below.refl _ _).alloc (Nat.le_refl _) _).alloc (by simp) _).alloc (by simp; omega) _
 have HP : Hid (NewPost w nodes (.returned (.tuple #[.pointer (some ⟨w.heap.size + 1 + 1, 0, none⟩), .int .i64 0])) w3) := by
  refine ⟨w.heap.size + 1 + 1, w.heap.size, fun k => w.heap.size ≤ k ∧ k < w.heap.size + 3, rfl, ⟨⟨w.heap.size + 1, 1, a3, ⟨rfl, .inr ⟨w.heap.size + 1, 1, _, rfl, Nat.zero_le _, a2, Nat.le_refl _, by unfold maxLen; omega, rfl, rfl⟩⟩, by omega, by omega⟩, ⟨by omega, by omega⟩, ?_, fun k _ e => e, ?_, by simp, Nat.le_refl _, h1, h2⟩, fun k hk => hk.1, B⟩
  ·intro k hk
   rcases hk with hk | hk
   ·omega
   ·exact hk.elim
  ·intro s hs
   obtain rfl := List.mem_singleton.1 hs
   exact ⟨a1, ⟨Nat.le_refl _, by simp only; omega⟩, Nd.zero_ok _, Nd.zero_in _, by simp only; decide⟩
 have HW : Hid (w3 = ((w.alloc (.cells #[.int .u64 0, .int .i64 0, .slice none 0 0, .int .i64 0, .slice none 0 0, .slice none 0 0, .slice none 0 0] 162)).alloc (.cells #[.pointer (some ⟨w.heap.size, 0, none⟩)] 153)).alloc (.cells #[.slice (some ⟨w.heap.size + 1, 0, none⟩) 1 1, .int .i64 nodes, .int .i64 1] 152)) := by
  show _ = _
  rw [hw3, hw2, hw1]
 clear s1 s2 s3 a1 a2 a3 B hw1 hw2 hw3 h1 h2
 go_enter Tryz.func32, Tryz.ntmps32
 go_wp2_with fail
 go_ret2
 rw [← HW.out]
 exact HP.out
theorem PA.push {W W5 : World} {A : Nat} {M D : Nat → Prop} {nodes root : Int} {L : List Sl} (h : PA W A M D nodes root L) (hn : (L.length : Int) < nodes) (hu : Upd M W W5) {g c b : Nat}
  (hA : W5.heap[A]? = some (.cells #[.slice (some ⟨g, 0, none⟩) (L.length + 1) c, .int .i64 nodes, .int .i64 root] 152 (0, 0)))
  (ho : W5.ownsRow 0 153 1 (.slice (some ⟨g, 0, none⟩) (L.length + 1) c) (L.length + 1) (L.map Sl.ptr ++ [.pointer (some ⟨b, 0, none⟩)])) (hg : M g ∨ W.heap.size ≤ g)
  (hs : ∀ s ∈ L, W5.heap[s.b]? = W.heap[s.b]?) (hb : W.heap.size ≤ b) (hbk : W5.heap[b]? = some (.cells (Sl.cells ⟨b, 1, Nd.zero⟩) 162 (0, 0))) :
  PA W5 A (fun k => M k ∨ (W.heap.size ≤ k ∧ k < W5.heap.size)) D nodes root (L ++ [⟨b, 1, Nd.zero⟩]) := by
 have hgl : g < W5.heap.size := (ho.lt g rfl).2
 have hl : (L ++ [(⟨b, 1, Nd.zero⟩ : Sl)]).length = L.length + 1 := by simp
 have hbl := lt_of_block hbk
 refine ⟨⟨g, c, by rw [hl]; exact hA, ?_, ?_⟩, .inl h.mA, ?_, ?_, ?_, ?_, by rw [hl]; omega, by rw [hl]; omega, h.nz⟩
 ·rw [hl, List.map_append]; exact ho
 ·rcases hg with hg | hg
  ·exact .inl hg
  ·exact .inr ⟨hg, hgl⟩
 ·intro k hk
  rcases hk with (hk | hk) | hk
  ·exact Nat.lt_of_lt_of_le (h.lt k (.inl hk)) hu.size
  ·exact hk.2
  ·exact Nat.lt_of_lt_of_le (h.lt k (.inr hk)) hu.size
 ·intro k hk hd
  rcases hk with hk | hk
  ·exact h.dj k hk hd
  ·have := h.lt k (.inr hd); omega
 ·intro s hs'
  rcases List.mem_append.1 hs' with hs' | hs'
  ·have ho := h.sl s hs'
   exact ⟨(hs s hs').trans ho.c, .inl ho.m, ho.n.upd ho.d hu (fun k hk e => h.dj k e hk), ho.d, ho.w⟩
  ·obtain rfl := List.mem_singleton.1 hs'
   exact ⟨hbk, .inr ⟨hb, hbl⟩, Nd.zero_ok _, Nd.zero_in _, by simp only; decide⟩
 ·rw [List.map_append, List.nodup_append]
  refine ⟨h.nd, by simp, ?_⟩
  intro x hx y hy e
  obtain ⟨s, hs', rfl⟩ := List.mem_map.1 hx
  simp only [List.map_cons, List.map_nil, List.mem_singleton] at hy
  have := h.lt s.b (.inl (h.sl s hs').m)
  omega
def AlPost (w : World) (A : Nat) (M D : Nat → Prop) (nodes root : Int) (L : List Sl) (e : Ending) (w' : World) : Prop :=
 ∃ M' b, e = .returned (.tuple #[.int .i64 ((L.length : Int) + 1), .int .i64 0]) ∧ PA w' A M' D nodes root (L ++ [⟨b, 1, Nd.zero⟩]) ∧ (∀ k, M' k → M k ∨ w.heap.size ≤ k) ∧ Upd M w w'
theorem infoP' : (Tryz.prog.info? 153).map (fun i => (i.zero, i.size, i.bytes)) = some (some (.pointer none), 1, 8) := by kernel_rfl
set_option maxHeartbeats 800000 in
theorem alloc_full {w : World} {A : Nat} {M D : Nat → Prop} {nodes root : Int} {L : List Sl} (h : PA w A M D nodes root L) (hn : (L.length : Int) = nodes) :
  Calls Tryz.prog 96 #[.pointer (some ⟨A, 0, none⟩)] w fun e w' => e = .returned (.tuple #[.int .i64 0, .int .i64 2]) ∧ ∃ k, w' = w.drewN k := by
 have HL := hide (left_any h)
 rw [show nodes - ((L.length : Nat) : Int) = 0 by omega] at HL
 clear h hn
 go_enter Tryz.func96, Tryz.ntmps96
 go_wp2_with fail
 refine HL.out.mono ?_
 rintro e w1 ⟨rfl, k, rfl⟩
 go_wp2_with fail
 go_ret2
 exact ⟨rfl, _, rfl⟩
set_option maxRecDepth 100000 in
set_option maxHeartbeats 1600000 in
theorem alloc_any {w : World} {A : Nat} {M D : Nat → Prop} {nodes root : Int} {L : List Sl} (h : PA w A M D nodes root L) (hn : (L.length : Int) < nodes) :
  Calls Tryz.prog 96 #[.pointer (some ⟨A, 0, none⟩)] w (AlPost w A M D nodes root L) := by
 obtain ⟨i0, hi, hz0, hz1, hz2⟩ := info_parts infoP'
 have HL := hide (left_any h)
 have HN := hide hn
 obtain ⟨r, hr⟩ : ∃ r, r = nodes - ((L.length : Nat) : Int) := ⟨_, rfl⟩
 rw [← hr] at HL
 have jr : ¬ r = 0 := by omega
 have HP := hide h
 have hl6 := h.n_le
 clear h hn hr
 obtain ⟨n, hln⟩ : ∃ n, L.length = n := ⟨_, rfl⟩
 rw [hln] at hl6
 have HLN := hide hln
 clear hln
 go_enter Tryz.func96, Tryz.ntmps96
 go_wp2_with fail
 refine HL.out.mono ?_
 rintro e w1 ⟨rfl, k, hk⟩
 have P1 : Hid (PA w1 A M D nodes root L) := by show PA _ _ _ _ _ _ _; rw [hk]; exact HP.out.drewN k
 have U1 : Hid (Upd M w w1) := by show Upd _ _ _; rw [hk]; exact upd_drewN _ _ _
 have Z1 : Hid (w1.heap.size = w.heap.size) := by show _ = _; rw [hk]; rfl
 clear hk HP HL
 obtain ⟨w2, hw2⟩ : ∃ w2, w2 = w1.alloc (.cells #[.int .u64 0, .int .i64 0, .slice none 0 0, .int .i64 0, .slice none 0 0, .slice none 0 0, .slice none 0 0] 162) := ⟨_, rfl⟩
 have z2 : w2.heap.size = w1.heap.size + 1 := by rw [hw2]; simp
 have b2 : w2.heap[w1.heap.size]? = some (.cells #[.int .u64 0, .int .i64 0, .slice none 0 0, .int .i64 0, .slice none 0 0, .slice none 0 0, .slice none 0 0] 162 (0, 0)) := by rw [hw2]; exact heap_alloc_new w1 _
 have B2 : Below w1.heap.size w1 w2 := by rw [hw2]; exact (Below.refl _ _).alloc (Nat.le_refl _) _
 have HT := hide (take_hit w1.heap.size 0 w2 (by rw [cell_of_row _ _ _ _ _ _ b2]; rfl) (frozen_of b2 0) (by decide) rfl)
 obtain ⟨w3, hw3⟩ : ∃ w3, w3 = w2.setCell ⟨w1.heap.size, 0, none⟩ (.int .u64 ((0 + 1 : Nat) : Int)) := ⟨_, rfl⟩
 rw [← hw3] at HT
 have b3 : w3.heap[w1.heap.size]? = some (.cells (Sl.cells ⟨w1.heap.size, 1, Nd.zero⟩) 162 (0, 0)) := by rw [hw3]; exact block_setCell b2 0 _
 have B3 : Below w1.heap.size w1 w3 := by rw [hw3]; exact B2.setCell (Nat.le_refl _) _
 have z3 : w3.heap.size = w1.heap.size + 1 := by rw [hw3]; simp [World.setCell, z2]
 have P3 := hide (P1.out.below B3)
 obtain ⟨g, c, hA3, ho3, hg3⟩ := P3.out.row
 have c0 : w3.cell? ⟨A, 0, none⟩ = some (.slice (some ⟨g, 0, none⟩) n c) := by rw [cell_of_row _ _ _ _ _ _ hA3, ← HLN.out]; rfl
 have HW2 := hide hw2
 have HA3 := hide hA3
 have HO3 := hide ho3
 have HG3 := hide hg3
 have Bb3 := hide b3
 have BB3 := hide B3
 have Z3 := hide z3
 clear hw2 hA3 ho3 hg3 b3 B3 B2 b2 z2 z3 hw3
 go_wp2_with fail
 rw [← HW2.out]
 refine HT.out.mono ?_
 rintro e w3' ⟨rfl, h3⟩
 rw [h3]
 clear h3 w3'
 have HPB : Hid (∀ j u, [Value.pointer (some ⟨w1.heap.size, 0, none⟩)][j]? = some u → (w3.alloc (.cells #[.pointer (some ⟨w1.heap.size, 0, none⟩)] 153)).cell? ((⟨w3.heap.size, 0, none⟩ : Addr).add j) = some u) := cell_one_new _ _ _
 have HO4 := hide (HO3.out.alloc (.cells #[.pointer (some ⟨w1.heap.size, 0, none⟩)] 153))
 rw [HLN.out] at HO4
 have HRN := hide (P3.out.row_ne HO3.out)
 have HA4 : Hid ((w3.alloc (.cells #[.pointer (some ⟨w1.heap.size, 0, none⟩)] 153)).heap[A]? = _) := (Below.heap_alloc _ _ _ (lt_of_block HA3.out)).trans HA3.out
 go_wp2_with (first
  | (at_builtin; refine append_mineN rfl (.tmp 18) (.tmp 20) 150 rfl 0 153 i0 (.pointer none) 1 8 Tryz.underlying150 hi hz0 hz1 hz2 rfl (by decide) (.slice (some ⟨g, 0, none⟩) n c) n (L.map Sl.ptr) rfl HO4.out ⟨w3.heap.size, 0, none⟩ 1 1 [.pointer (some ⟨w1.heap.size, 0, none⟩)] rfl rfl HPB.out (by intro u hu; simp at hu; subst hu; rfl) (by omega) (by unfold maxLen; omega) (by omega) (Nat.zero_le _) ?_; intro g' c' w5 hown5 hg5 hor5; have HA5 := hide ((hg5.block A (lt_of_block HA4.out) (fun e => HRN.out.1 (Option.some.inj e).symm)).trans HA4.out); have HOW5 := hide hown5; have HG5 := hide hg5; have HOR5 := hide hor5; clear hown5 hg5 hor5; have f5 := frozen_of HA5.out 0; have c5 : w5.cell? ⟨A, 0, none⟩ = some (.slice (some ⟨g, 0, none⟩) n c) := (by rw [cell_of_row _ _ _ _ _ _ HA5.out, ← HLN.out]; rfl))
  | fail)
 obtain ⟨w6, hw6⟩ : ∃ w6, w6 = w5.setCell ⟨A, 0, none⟩ (.slice (some ⟨g', 0, none⟩) (n + 1) c') := ⟨_, rfl⟩
 have hA6 : w6.heap[A]? = some (.cells #[.slice (some ⟨g', 0, none⟩) (n + 1) c', .int .i64 nodes, .int .i64 root] 152 (0, 0)) := by rw [hw6]; exact block_setCell HA5.out 0 _
 have HU := hide (used_raw A _ (n + 1) c' w6 (by rw [cell_of_row _ _ _ _ _ _ hA6]; rfl))
 have hm : ∀ k, k = A → M k := fun k e => by rw [e]; exact P1.out.mA
 have U13 : Upd (fun k => M k) w1 w3 := Upd.of_below BB3.out _
 have U35 : Upd M w3 w5 := ((Upd.refl M w3).alloc _).trans (Upd.of_grown HG5.out (fun k hk _ => by cases hk; exact HG3.out))
 have U15 := U13.trans U35
 have U16 : Upd M w1 w6 := by rw [hw6]; exact U15.setCell _ _ (fun _ => P1.out.mA)
 have hsl : ∀ s ∈ L, w6.heap[s.b]? = w1.heap[s.b]? := by
  intro s hs
  have h1 := (P3.out.sl s hs).c
  have h2 : w5.heap[s.b]? = w3.heap[s.b]? := (HG5.out.block _ (by have := lt_of_block h1; simp; omega) (fun e => HRN.out.2 s hs (Option.some.inj e))).trans (Below.heap_alloc _ _ _ (lt_of_block h1))
  rw [hw6, Below.heap_setCell _ _ _ _ (P3.out.slot_A hs), h2]
  exact BB3.out.block _ (lt_of_block (P1.out.sl s hs).c)
 have hbk : w6.heap[w1.heap.size]? = some (.cells (Sl.cells ⟨w1.heap.size, 1, Nd.zero⟩) 162 (0, 0)) := by
  have hgl := P1.out.lt g (.inl HG3.out)
  have hAl := P1.out.lt A (.inl P1.out.mA)
  have h2 : w5.heap[w1.heap.size]? = w3.heap[w1.heap.size]? := (HG5.out.block _ (by have := lt_of_block Bb3.out; simp; omega) (fun e => by have : w1.heap.size = g := Option.some.inj e; omega)).trans (Below.heap_alloc _ _ _ (lt_of_block Bb3.out))
  rw [hw6, Below.heap_setCell _ _ _ _ (by simp only; omega), h2]
  exact Bb3.out
 have ho6 : w6.ownsRow 0 153 1 (.slice (some ⟨g', 0, none⟩) (n + 1) c') (n + 1) (L.map Sl.ptr ++ [.pointer (some ⟨w1.heap.size, 0, none⟩)]) := by
  rw [hw6]
  refine owns_upd (S := fun k => k = A) HOW5.out ((Upd.refl _ _).setCell _ _ (fun _ => rfl)) (fun k hk e => ?_)
  cases hk
  rcases HOW5.out.2 with ⟨hv, _⟩ | ⟨g2, c2, cur, hv, _, hh, _⟩
  ·cases hv
  ·cases hv
   have e' : g' = A := e
   rw [e', HA5.out] at hh
   simp at hh
 have hor : M g' ∨ w1.heap.size ≤ g' := by
  rcases HOR5.out with h | h
  ·cases h; exact .inl HG3.out
  ·have := Z3.out; right; simp at h; omega
 have HF : Hid (AlPost w A M D nodes root L (.returned (.tuple #[.int .i64 ((n : Int) + 1), .int .i64 0])) w6) := by
  refine ⟨_, w1.heap.size, by rw [HLN.out], P1.out.push HN.out U16 (by rw [HLN.out]; exact hA6) (by rw [HLN.out]; exact ho6) hor hsl (Nat.le_refl _) hbk, ?_, U1.out.trans U16⟩
  intro k hk
  rcases hk with hk | hk
  ·exact .inl hk
  ·right; have := Z1.out; omega
 have HW6 := hide hw6
 clear hw6 hA6 hm U13 U35 U15 U16 hsl hbk ho6 hor
 rw [← HW6.out]
 refine keep HU.out ?_
 go_wp2_with fail
 go_ret2
 exact HF.out
end Go.Proofs.YtpljbgcofmlhbaaGreat
namespace Go.Proofs.YtpljbgcofmlhbaaGreat
open Go.RowKit
set_option maxRecDepth 100000
def heldN (ws : List Nat) (i : Nat) : List Int := ((List.range i).filter fun j => decide (ws.getD j 0 % 2 = 1)).map fun (j : Nat) => (j : Int) + 1
def heldL (ws : List Nat) : List Int := heldN ws ws.length
theorem heldN_succ (ws : List Nat) (i : Nat) : heldN ws (i + 1) = heldN ws i ++ if ws.getD i 0 % 2 = 1 then [(i : Int) + 1] else [] := by
 unfold heldN
 rw [List.range_succ, List.filter_append, List.map_append]
 congr 1
 by_cases h : ws.getD i 0 % 2 = 1
 ·rw [if_pos h, List.filter_cons, if_pos (by exact decide_eq_true h)]; rfl
 ·rw [if_neg h, List.filter_cons, if_neg (by simpa using h)]; rfl
theorem heldN_len (ws : List Nat) (i : Nat) : (heldN ws i).length ≤ i := by
 unfold heldN
 rw [List.length_map]
 exact Nat.le_trans (List.length_filter_le _ _) (by simp)
def HeldPost (w : World) (xs : List Int) (e : Ending) (w' : World) : Prop :=
 ∃ v, e = .returned v ∧ w'.ownsRow w.heap.size 3 1 v xs.length (xs.map (Value.int .i64)) ∧ Below w.heap.size w w'
set_option maxRecDepth 100000 in
set_option maxHeartbeats 1600000 in
theorem held_any {w : World} {A : Nat} {M D : Nat → Prop} {nodes root : Int} {L : List Sl} (h : PA w A M D nodes root L) :
  Calls Tryz.prog 27 #[.pointer (some ⟨A, 0, none⟩)] w (HeldPost w (heldL (L.map (·.w)))) := by
 obtain ⟨i0, hi, hz0, hz1, hz2⟩ := info_parts infoI
 obtain ⟨g, c, c0, _, _, h4⟩ := h.cells
 have hn := h.n_le
 have HP : Hid (∀ W, Below w.heap.size w W → PA W A M D nodes root L) := fun W hb => h.below hb
 have H4 : Hid (∀ W, Below w.heap.size w W → ∀ i (hi : i < L.length), W.cell? ⟨g, i, none⟩ = some (.pointer (some ⟨L[i].b, 0, none⟩))) := fun W hb i hi => (hb.cell (p := ⟨g, i, none⟩) (World.block_lt_of_cell? w ⟨g, i, none⟩ (h4 i hi))).trans (h4 i hi)
 obtain ⟨ws, hws⟩ : ∃ ws, ws = L.map (·.w) := ⟨_, rfl⟩
 have HWS : Hid (∀ i (hi : i < L.length), ws.getD i 0 = L[i].w) := fun i hi => by rw [hws]; simp [hi]
 have HLW : Hid (ws.length = L.length) := by show _ = _; rw [hws]; simp
 rw [← hws]
 obtain ⟨n, hln⟩ : ∃ n, L.length = n := ⟨_, rfl⟩
 rw [hln] at c0 hn
 have HLN := hide hln
 have HF : Hid (heldL ws = heldN ws n) := by show _ = _; unfold heldL; rw [HLW.out, hln]
 rw [HF.out]
 clear h h4 hws hln
 go_enter Tryz.func27, Tryz.ntmps27
 go_wp2_with fail
 go_loopw [3, 11] (fun q3 q11 wr => ∃ i : Nat, i ≤ n ∧ q11 = .int .i64 (i : Int) ∧ ∃ k, Hid (wr.ownsRow w.heap.size 3 1 q3 k ((heldN ws i).map (Value.int .i64)) ∧ k = (heldN ws i).length ∧ Below w.heap.size w wr)) (fun _ q11 _ => n - (intOf q11).toNat)
 case atStart => exact ⟨0, Nat.zero_le _, rfl, 0, World.ownsRow_nil _ _ _ _, rfl, Below.refl _ _⟩
 case round =>
  obtain ⟨i, hin, rfl, k, HB⟩ := hrel
  rename World => wr
  by_cases hlt : i < n
  ·have j1 : (i : Int) < (n : Int) := by omega
   have hiL : i < L.length := by rw [HLN.out]; exact hlt
   have P := HP.out wr HB.out.2.2
   have cp := H4.out wr HB.out.2.2 i hiL
   obtain ⟨w1, w2, w3⟩ := P.wcell i hiL
   have hE := heldN_succ ws i
   rw [HWS.out i hiL] at hE
   generalize L[i].b = b at *
   generalize L[i].w = x at *
   have HL := hide (lheld_any b x wr w1 w3)
   have HE := hide hE
   have hkl := heldN_len ws i
   rw [← HB.out.2.1] at hkl
   have hk6 : k ≤ 65536 := by omega
   clear P w1 w2 w3 hE hkl
   obtain ⟨hown, hkk, hB⟩ := HB.out
   have HOW := hide hown
   have HKK := hide hkk
   have HBB := hide hB
   clear HB hown hkk hB
   rcases Nat.mod_two_eq_zero_or_one x with ex | ex
   ·rw [show decide (x % 2 = 1) = false by rw [ex]; rfl] at HL
    rw [if_neg (by omega)] at HE
    clear ex
    go_wp2_with fail
    refine keep HL.out ?_
    go_wp2_with fail
    go_roundw
    case rel => exact ⟨i + 1, by omega, by go_num, k, by rw [HE.out]; simpa using HOW.out, by rw [HE.out]; simpa using HKK.out, HBB.out⟩
    case measure => simp [intOf]; omega
   ·rw [show decide (x % 2 = 1) = true by rw [ex]; rfl] at HL
    rw [if_pos ex] at HE
    clear ex
    have j3 : (1 : Int) + (i : Int) ≤ 65536 := by omega
    go_wp2_with fail
    refine keep HL.out ?_
    go_wp2_with (first
     | (at_builtin; refine append_own_any rfl (.tmp 20) (.tmp 23) 32 rfl w.heap.size 3 i0 (.int .i64 0) 1 8 Tryz.underlying32 hi hz0 hz1 hz2 rfl (by decide) _ k ((heldN ws i).map (Value.int .i64)) rfl (HOW.out.alloc _) (some ⟨wr.heap.size, 0, none⟩) 1 1 [.int .i64 (1 + (i : Int))] rfl rfl (by intro h; cases h) (fun ad had => by cases had; exact cell_one_new _ _ _) (by intro u hu; simp at hu; subst hu; rfl) (by unfold maxLen; omega) (by omega) (by have := HBB.out.size; simp; omega) ?_; intro v5 w5 hown5 hg5; have HO5 := hide hown5; have HG5 := hide hg5; clear hown5 hg5)
     | fail)
    go_roundw
    case rel =>
     refine ⟨i + 1, by omega, by go_num, k + 1, ?_, ?_, ?_⟩
     ·rw [HE.out, List.map_append, show [((i : Int) + 1)].map (Value.int .i64) = [.int .i64 (1 + (i : Int))] by rw [Int.add_comm]; rfl]; exact HO5.out
     ·rw [HE.out, List.length_append, ← HKK.out]; rfl
     ·exact (HBB.out.alloc HBB.out.size _).grown HG5.out (by have := HBB.out.size; simp; omega) (fun b hb => (HOW.out.lt b hb).1)
    case measure => simp [intOf]; omega
  ·have j1 : ¬ (i : Int) < (n : Int) := by omega
   obtain rfl : i = n := by omega
   go_wp2_with fail
   go_ret
   exact ⟨_, rfl, by rw [← HB.out.2.1]; exact HB.out.1, HB.out.2.2⟩
end Go.Proofs.YtpljbgcofmlhbaaGreat
namespace Go.Proofs.YtpljbgcofmlhbaaGreat
open Go.RowKit
set_option maxRecDepth 100000
section
variable {W : World} {A : Nat} {M D : Nat → Prop} {nodes root : Int} {L : List Sl}
set_option maxHeartbeats 800000 in
theorem lock_hit (h : PA W A M D nodes root L) (i : Nat) (hi : i < L.length) (he : L[i].w % 2 = 0) :
  Calls Tryz.prog 47 #[.pointer (some ⟨A, 0, none⟩), .int .i64 ((i : Int) + 1), .int .u64 (L[i].w : Nat)] W fun e w' => e = .returned (.tuple #[.bool true, .int .i64 0]) ∧ w' = W.setCell ⟨L[i].b, 0, none⟩ (.int .u64 ((L[i].w + 1 : Nat) : Int)) := by
 have HS := hide (slot_any h i hi)
 obtain ⟨h1, h2, h3⟩ := h.wcell i hi
 generalize L[i].b = b at *
 generalize L[i].w = x at *
 have HR := hide (take_hit b x W h1 h2 h3 he)
 clear h h1 h2 h3 hi he
 generalize (i : Int) + 1 = id at *
 go_enter Tryz.func47, Tryz.ntmps47
 go_wp2_with fail
 refine keep HS.out ?_
 go_wp2_with fail
 refine HR.out.mono ?_
 rintro e w1 ⟨rfl, rfl⟩
 go_wp2_with fail
 go_ret2
 exact ⟨rfl, rfl⟩
set_option maxHeartbeats 800000 in
theorem lock_miss (h : PA W A M D nodes root L) (i : Nat) (hi : i < L.length) (x : Nat) (hx : x < 18446744073709551616) (hne : ¬ (L[i].w = x ∧ x % 2 = 0)) :
  Calls Tryz.prog 47 #[.pointer (some ⟨A, 0, none⟩), .int .i64 ((i : Int) + 1), .int .u64 (x : Nat)] W fun e w' => e = .returned (.tuple #[.bool false, .int .i64 0]) ∧ w' = W := by
 have HS := hide (slot_any h i hi)
 obtain ⟨h1, h2, h3⟩ := h.wcell i hi
 generalize L[i].b = b at *
 generalize L[i].w = y at *
 have HR : Hid (Calls Tryz.prog 89 #[.pointer (some ⟨b, 0, none⟩), .int .u64 (x : Nat)] W fun e w' => e = .returned (.bool false) ∧ w' = W) := by
  rcases Nat.mod_two_eq_zero_or_one x with ex | ex
  ·exact take_miss b x y W h1 h2 hx ex (fun e => hne ⟨e, ex⟩)
  ·exact take_odd b x W hx ex
 clear h h1 h2 h3 hi hx hne
 generalize (i : Int) + 1 = id at *
 go_enter Tryz.func47, Tryz.ntmps47
 go_wp2_with fail
 refine keep HS.out ?_
 go_wp2_with fail
 refine keep HR.out ?_
 go_wp2_with fail
 go_ret2
 exact ⟨rfl, rfl⟩
set_option maxHeartbeats 800000 in
theorem lock_none (h : PA W A M D nodes root L) (id : Int) (x : Int) (hi : ¬ (1 ≤ id ∧ id ≤ (L.length : Nat))) :
  Calls Tryz.prog 47 #[.pointer (some ⟨A, 0, none⟩), .int .i64 id, .int .u64 x] W fun e w' => e = .returned (.tuple #[.bool false, .int .i64 101]) ∧ w' = W := by
 have HS := hide (slot_none h id hi)
 clear h hi
 go_enter Tryz.func47, Tryz.ntmps47
 go_wp2_with fail
 refine keep HS.out ?_
 go_wp2_with fail
 go_ret2
 exact ⟨rfl, rfl⟩
set_option maxHeartbeats 800000 in
theorem unlock_held (h : PA W A M D nodes root L) (i : Nat) (hi : i < L.length) (ch : Bool) (he : L[i].w % 2 = 1) :
  Calls Tryz.prog 49 #[.pointer (some ⟨A, 0, none⟩), .int .i64 ((i : Int) + 1), .bool ch] W fun e w' => e = .returned (.int .i64 0) ∧ w' = W.setCell ⟨L[i].b, 0, none⟩ (.int .u64 ((freeW L[i].w ch : Nat) : Int)) := by
 have HS := hide (slot_any h i hi)
 obtain ⟨h1, h2, h3⟩ := h.wcell i hi
 generalize L[i].b = b at *
 generalize L[i].w = x at *
 have HR := hide (give_held b x ch W h1 h2 h3 he)
 clear h h1 h2 h3 hi he
 generalize (i : Int) + 1 = id at *
 go_enter Tryz.func49, Tryz.ntmps49
 go_wp2_with fail
 refine keep HS.out ?_
 go_wp2_with fail
 refine HR.out.mono ?_
 rintro e w1 ⟨rfl, rfl⟩
 go_wp2_with fail
 go_ret
 exact ⟨rfl, rfl⟩
set_option maxHeartbeats 800000 in
theorem unlock_free (h : PA W A M D nodes root L) (i : Nat) (hi : i < L.length) (ch : Bool) (he : L[i].w % 2 = 0) :
  Calls Tryz.prog 49 #[.pointer (some ⟨A, 0, none⟩), .int .i64 ((i : Int) + 1), .bool ch] W fun e w' => e = .returned (.int .i64 102) ∧ w' = W := by
 have HS := hide (slot_any h i hi)
 obtain ⟨h1, h2, h3⟩ := h.wcell i hi
 generalize L[i].b = b at *
 generalize L[i].w = x at *
 have HR := hide (give_free b x ch W h1 h3 he)
 clear h h1 h2 h3 hi he
 generalize (i : Int) + 1 = id at *
 go_enter Tryz.func49, Tryz.ntmps49
 go_wp2_with fail
 refine keep HS.out ?_
 go_wp2_with fail
 refine keep HR.out ?_
 go_wp2_with fail
 go_ret
 exact ⟨rfl, rfl⟩
set_option maxHeartbeats 800000 in
theorem unlock_none (h : PA W A M D nodes root L) (id : Int) (ch : Bool) (hi : ¬ (1 ≤ id ∧ id ≤ (L.length : Nat))) :
  Calls Tryz.prog 49 #[.pointer (some ⟨A, 0, none⟩), .int .i64 id, .bool ch] W fun e w' => e = .returned (.int .i64 101) ∧ w' = W := by
 have HS := hide (slot_none h id hi)
 clear h hi
 go_enter Tryz.func49, Tryz.ntmps49
 go_wp2_with fail
 refine keep HS.out ?_
 go_wp2_with fail
 go_ret
 exact ⟨rfl, rfl⟩
set_option maxHeartbeats 800000 in
theorem open_any (h : PA W A M D nodes root L) (i : Nat) (hi : i < L.length) (he : L[i].w % 2 = 1) :
  Calls Tryz.prog 90 #[.pointer (some ⟨A, 0, none⟩), .int .i64 ((i : Int) + 1)] W fun e w' => e = .returned (.tuple #[.pointer (some ⟨L[i].b, 0, none⟩), .int .i64 0]) ∧ w' = W := by
 have HS := hide (slot_any h i hi)
 obtain ⟨h1, h2, h3⟩ := h.wcell i hi
 generalize L[i].b = b at *
 generalize L[i].w = x at *
 have HR := hide (lheld_any b x W h1 h3)
 rw [show decide (x % 2 = 1) = true by rw [he]; rfl] at HR
 clear h h1 h2 h3 hi he
 generalize (i : Int) + 1 = id at *
 go_enter Tryz.func90, Tryz.ntmps90
 go_wp2_with fail
 refine keep HS.out ?_
 go_wp2_with fail
 refine keep HR.out ?_
 go_wp2_with fail
 go_ret2
 exact ⟨rfl, rfl⟩
def opE (L : List Sl) (id : Int) : Int := if 1 ≤ id ∧ id ≤ (L.length : Nat) then 102 else 101
set_option maxHeartbeats 800000 in
theorem open_not (h : PA W A M D nodes root L) (id : Int) (hno : ∀ i (hi : i < L.length), id = (i : Int) + 1 → L[i].w % 2 = 0) :
  Calls Tryz.prog 90 #[.pointer (some ⟨A, 0, none⟩), .int .i64 id] W fun e w' => e = .returned (.tuple #[.pointer none, .int .i64 (opE L id)]) ∧ w' = W := by
 by_cases hin : 1 ≤ id ∧ id ≤ (L.length : Nat)
 ·obtain ⟨i, hid⟩ : ∃ i : Nat, id = (i : Int) + 1 := ⟨(id - 1).toNat, by omega⟩
  have hi : i < L.length := by omega
  have he := hno i hi hid
  rw [show opE L id = 102 from if_pos hin]
  have HS := hide (slot_any h i hi)
  rw [← hid] at HS
  obtain ⟨h1, h2, h3⟩ := h.wcell i hi
  generalize L[i].b = b at *
  generalize L[i].w = x at *
  have HR := hide (lheld_any b x W h1 h3)
  rw [show decide (x % 2 = 1) = false by rw [he]; rfl] at HR
  clear h h1 h2 h3 hi he hid hno hin
  go_enter Tryz.func90, Tryz.ntmps90
  go_wp2_with fail
  refine keep HS.out ?_
  go_wp2_with fail
  refine keep HR.out ?_
  go_wp2_with fail
  go_ret2
  exact ⟨rfl, rfl⟩
 ·rw [show opE L id = 101 from if_neg hin]
  have HS := hide (slot_none h id hin)
  clear h hno hin
  go_enter Tryz.func90, Tryz.ntmps90
  go_wp2_with fail
  refine keep HS.out ?_
  go_wp2_with fail
  go_ret2
  exact ⟨rfl, rfl⟩
theorem PA.setR (h : PA W A M D nodes root L) (r : Int) : PA (W.setCell ⟨A, 2, none⟩ (.int .i64 r)) A M D nodes r L := by
 have hu : Upd (fun k => k = A) W (W.setCell ⟨A, 2, none⟩ (.int .i64 r)) := (Upd.refl _ _).setCell _ _ (fun _ => rfl)
 obtain ⟨g, c, h1, h2, h3⟩ := h.row
 obtain ⟨n1, _⟩ := h.row_ne h2
 refine ⟨⟨g, c, block_setCell h1 2 _, owns_upd h2 hu (fun k hk e => by cases hk; exact n1 e), h3⟩, h.mA, fun k hk => Nat.lt_of_lt_of_le (h.lt k hk) hu.size, h.dj, fun s hs => ?_, h.nd, h.one, h.le, h.nz⟩
 have ho := h.sl s hs
 exact ⟨hu.heap ho.c (h.slot_A hs), ho.m, ho.n.upd ho.d hu (fun k hk e => h.dj A h.mA (by rw [← e]; exact hk)), ho.d, ho.w⟩
set_option maxHeartbeats 800000 in
theorem grow_none (h : PA W A M D nodes root L) (old id : Int) (hi : ¬ (1 ≤ id ∧ id ≤ (L.length : Nat))) :
  Calls Tryz.prog 104 #[.pointer (some ⟨A, 0, none⟩), .int .i64 old, .int .i64 id] W fun e w' => e = .returned (.tuple #[.bool false, .int .i64 101]) ∧ w' = W := by
 have HS := hide (slot_none h id hi)
 clear h hi
 go_enter Tryz.func104, Tryz.ntmps104
 go_wp2_with fail
 refine keep HS.out ?_
 go_wp2_with fail
 go_ret2
 exact ⟨rfl, rfl⟩
set_option maxHeartbeats 800000 in
theorem grow_no (h : PA W A M D nodes root L) (old id : Int) (hi : 1 ≤ id ∧ id ≤ (L.length : Nat)) (hr : ¬ root = old) :
  Calls Tryz.prog 104 #[.pointer (some ⟨A, 0, none⟩), .int .i64 old, .int .i64 id] W fun e w' => e = .returned (.tuple #[.bool false, .int .i64 0]) ∧ w' = W := by
 obtain ⟨i, hid⟩ : ∃ i : Nat, id = (i : Int) + 1 := ⟨(id - 1).toNat, by omega⟩
 have hi' : i < L.length := by omega
 have HS := hide (slot_any h i hi')
 rw [← hid] at HS
 obtain ⟨g, c, _, _, c2, _⟩ := h.cells
 generalize L[i].b = b at *
 clear h hi hid hi'
 go_enter Tryz.func104, Tryz.ntmps104
 go_wp2_with fail
 refine keep HS.out ?_
 go_wp2_with fail
 go_ret2
 exact ⟨rfl, rfl⟩
set_option maxHeartbeats 800000 in
theorem grow_yes (h : PA W A M D nodes root L) (id : Int) (hi : 1 ≤ id ∧ id ≤ (L.length : Nat)) :
  Calls Tryz.prog 104 #[.pointer (some ⟨A, 0, none⟩), .int .i64 root, .int .i64 id] W fun e w' => e = .returned (.tuple #[.bool true, .int .i64 0]) ∧ w' = W.setCell ⟨A, 2, none⟩ (.int .i64 id) := by
 obtain ⟨i, hid⟩ : ∃ i : Nat, id = (i : Int) + 1 := ⟨(id - 1).toNat, by omega⟩
 have hi' : i < L.length := by omega
 have HS := hide (slot_any h i hi')
 rw [← hid] at HS
 obtain ⟨g, c, _, _, c2, _⟩ := h.cells
 obtain ⟨_, _, hA, _⟩ := h.row
 have f2 := frozen_of hA 2
 generalize L[i].b = b at *
 clear h hi hid hi' hA
 go_enter Tryz.func104, Tryz.ntmps104
 go_wp2_with fail
 refine keep HS.out ?_
 go_wp2_with fail
 go_ret2
 exact ⟨rfl, rfl⟩
end
end Go.Proofs.YtpljbgcofmlhbaaGreat
namespace Go.Proofs.YtpljbgcofmlhbaaGreat
open Go.RowKit
set_option maxRecDepth 100000
theorem sl_cells {W : World} {M D : Nat → Prop} {s : Sl} (h : s.Ok W M D) :
  (W.cell? ⟨s.b, 1, none⟩ = some (.int .i64 s.n.lv) ∧ W.cell? ⟨s.b, 2, none⟩ = some s.n.hi.v ∧ W.cell? ⟨s.b, 3, none⟩ = some (.int .i64 s.n.ri)) ∧ W.cell? ⟨s.b, 4, none⟩ = some s.n.ks.v ∧ W.cell? ⟨s.b, 5, none⟩ = some s.n.vs.v ∧ W.cell? ⟨s.b, 6, none⟩ = some s.n.cs.v := by
 refine ⟨⟨?_, ?_, ?_⟩, ?_, ?_, ?_⟩ <;> (rw [cell_of_row _ _ _ _ _ _ h.c]; rfl)
def HePost (w : World) (lv ri : Int) (l : Nat) (hs : List Int) (e : Ending) (w' : World) : Prop :=
 ∃ a c, e = .returned (.tuple #[.agg #[.int .i64 lv, .slice a l c, .int .i64 ri], .int .i64 0]) ∧ OwnB w' w.heap.size 5 (.slice a l c) hs ∧ Below w.heap.size w w'
def BoPost (w : World) (lk lw lc : Nat) (K V : List Tx) (C : List Int) (e : Ending) (w' : World) : Prop :=
 ∃ kn kd K' vn vd V' cn cd, e = .returned (.tuple #[.agg #[.slice kn lk kd, .slice vn lw vd, .slice cn lc cd], .int .i64 0]) ∧ K'.map (·.s) = K.map (·.s) ∧ V'.map (·.s) = V.map (·.s) ∧ K'.length = lk ∧ V'.length = lw ∧
  (⟨kn, kd, K'⟩ : TL).Own w' w.heap.size ∧ (⟨vn, vd, V'⟩ : TL).Own w' w.heap.size ∧ w'.ownsRow w.heap.size 3 1 (.slice cn lc cd) lc (C.map (Value.int .i64)) ∧ Below w.heap.size w w'
section
variable {W : World} {A : Nat} {M D : Nat → Prop} {nodes root : Int} {L : List Sl}
set_option maxRecDepth 100000 in
set_option maxHeartbeats 1600000 in
theorem head_none (h : PA W A M D nodes root L) (id : Int) (hi : ¬ (1 ≤ id ∧ id ≤ (L.length : Nat))) :
  Calls Tryz.prog 118 #[.pointer (some ⟨A, 0, none⟩), .int .i64 id] W fun e w' => e = .returned (.tuple #[.agg #[.int .i64 0, .slice none 0 0, .int .i64 0], .int .i64 101]) ∧ Below W.heap.size W w' := by
 obtain ⟨w0, hw0⟩ : ∃ w0, w0 = W.alloc (.cells #[.int .i64 0, .slice none 0 0, .int .i64 0] 30) := ⟨_, rfl⟩
 have b0 : Below W.heap.size W w0 := by rw [hw0]; exact (Below.refl _ _).alloc (Nat.le_refl _) _
 have g0 : w0.heap[W.heap.size]? = some (.cells #[.int .i64 0, .slice none 0 0, .int .i64 0] 30 (0, 0)) := by rw [hw0]; exact heap_alloc_new W _
 have HS := hide (slot_none (h.below b0) id hi)
 obtain ⟨c0, c1, c2⟩ := Tri.of g0
 have F0 := fun j => frozen_of g0 j
 have G0 := hide g0
 have B0 := hide b0
 have HW := hide hw0
 clear h hi g0 b0 hw0
 go_enter Tryz.func118, Tryz.ntmps118
 go_wp2_with fail
 rw [← HW.out]
 refine keep HS.out ?_
 go_wp2_with fail
 (try simp only [Exit.inBlock, Exit.then])
 have G6 := tri_block G0.out (.int .i64 0) (.slice none 0 0) (.int .i64 0)
 have U6 : Upd (fun b => b = W.heap.size) w0 (tri3 w0 W.heap.size (.int .i64 0) (.slice none 0 0) (.int .i64 0)) := tri_upd _ _ _ _ _ _ rfl
 obtain ⟨q0, q1, q2⟩ := Tri.of G6
 show bodyPost _ _ _ _ _ (tri3 w0 W.heap.size (.int .i64 0) (.slice none 0 0) (.int .i64 0))
 generalize tri3 w0 W.heap.size (.int .i64 0) (.slice none 0 0) (.int .i64 0) = w6 at *
 refine bodyPost_ret (v := .tuple #[.agg #[.int .i64 0, .slice none 0 0, .int .i64 0], .int .i64 101]) (by simp [results, Tryz.results118, go_sem, q0, q1, q2]) rfl ⟨rfl, ?_⟩
 exact B0.out.trans (U6.below (by have := B0.out.size; omega) (fun k hk e => by omega))
set_option maxRecDepth 100000 in
set_option maxHeartbeats 1600000 in
theorem body_none (h : PA W A M D nodes root L) (id : Int) (hi : ¬ (1 ≤ id ∧ id ≤ (L.length : Nat))) :
  Calls Tryz.prog 119 #[.pointer (some ⟨A, 0, none⟩), .int .i64 id] W fun e w' => e = .returned (.tuple #[.agg #[.slice none 0 0, .slice none 0 0, .slice none 0 0], .int .i64 101]) ∧ Below W.heap.size W w' := by
 obtain ⟨w0, hw0⟩ : ∃ w0, w0 = W.alloc (.cells #[.slice none 0 0, .slice none 0 0, .slice none 0 0] 34) := ⟨_, rfl⟩
 have b0 : Below W.heap.size W w0 := by rw [hw0]; exact (Below.refl _ _).alloc (Nat.le_refl _) _
 have g0 : w0.heap[W.heap.size]? = some (.cells #[.slice none 0 0, .slice none 0 0, .slice none 0 0] 34 (0, 0)) := by rw [hw0]; exact heap_alloc_new W _
 have HS := hide (slot_none (h.below b0) id hi)
 obtain ⟨c0, c1, c2⟩ := Tri.of g0
 have F0 := fun j => frozen_of g0 j
 have G0 := hide g0
 have B0 := hide b0
 have HW := hide hw0
 clear h hi g0 b0 hw0
 go_enter Tryz.func119, Tryz.ntmps119
 go_wp2_with fail
 rw [← HW.out]
 refine keep HS.out ?_
 go_wp2_with fail
 (try simp only [Exit.inBlock, Exit.then])
 have G6 := tri_block G0.out (.slice none 0 0) (.slice none 0 0) (.slice none 0 0)
 have U6 : Upd (fun b => b = W.heap.size) w0 (tri3 w0 W.heap.size (.slice none 0 0) (.slice none 0 0) (.slice none 0 0)) := tri_upd _ _ _ _ _ _ rfl
 obtain ⟨q0, q1, q2⟩ := Tri.of G6
 show bodyPost _ _ _ _ _ (tri3 w0 W.heap.size (.slice none 0 0) (.slice none 0 0) (.slice none 0 0))
 generalize tri3 w0 W.heap.size (.slice none 0 0) (.slice none 0 0) (.slice none 0 0) = w6 at *
 refine bodyPost_ret (v := .tuple #[.agg #[.slice none 0 0, .slice none 0 0, .slice none 0 0], .int .i64 101]) (by simp [results, Tryz.results119, go_sem, q0, q1, q2]) rfl ⟨rfl, ?_⟩
 exact B0.out.trans (U6.below (by have := B0.out.size; omega) (fun k hk e => by omega))
set_option maxRecDepth 100000 in
set_option maxHeartbeats 1600000 in
theorem ahead_any (h : PA W A M D nodes root L) (i : Nat) (hi : i < L.length) :
  Calls Tryz.prog 118 #[.pointer (some ⟨A, 0, none⟩), .int .i64 ((i : Int) + 1)] W (HePost W L[i].n.lv L[i].n.ri L[i].n.hi.s.length L[i].n.hi.s) := by
 obtain ⟨w0, hw0⟩ : ∃ w0, w0 = W.alloc (.cells #[.int .i64 0, .slice none 0 0, .int .i64 0] 30) := ⟨_, rfl⟩
 have b0 : Below W.heap.size W w0 := by rw [hw0]; exact (Below.refl _ _).alloc (Nat.le_refl _) _
 have g0 : w0.heap[W.heap.size]? = some (.cells #[.int .i64 0, .slice none 0 0, .int .i64 0] 30 (0, 0)) := by rw [hw0]; exact heap_alloc_new W _
 have h0 := h.below b0
 have HS := hide (slot_any h0 i hi)
 have ho := h0.sl L[i] (List.getElem_mem hi)
 obtain ⟨k1, k2, k3⟩ := (sl_cells ho).1
 have HCH := hide (copyHead_any L[i].n.lv L[i].n.ri L[i].n.hi w0 ho.n.h)
 generalize L[i].b = b at *
 generalize L[i].n.lv = lv at *
 generalize L[i].n.ri = ri at *
 generalize L[i].n.hi = t at *
 clear ho h0 h hi
 obtain ⟨ha, hc, hs⟩ := t
 simp only [Tx.v] at *
 obtain ⟨lh, hlh⟩ : ∃ lh, hs.length = lh := ⟨_, rfl⟩
 rw [hlh] at k2 HCH ⊢
 clear hlh
 generalize (i : Int) + 1 = id at *
 have G0 := hide g0
 have B0 := hide b0
 have HW := hide hw0
 clear g0 b0 hw0
 go_enter Tryz.func118, Tryz.ntmps118
 go_wp2_with fail
 rw [← HW.out]
 refine keep HS.out ?_
 go_wp2_with fail
 refine HCH.out.mono ?_
 rintro e w2 ⟨na, nc, rfl, hv2, hb2⟩
 have G2 : Hid (w2.heap[W.heap.size]? = some (.cells #[.int .i64 0, .slice none 0 0, .int .i64 0] 30 (0, 0))) := (hb2.block _ (lt_of_block G0.out)).trans G0.out
 obtain ⟨c0, c1, c2⟩ := Tri.of G2.out
 have F0 := fun j => frozen_of G2.out j
 have V2 := hide hv2
 have B2 := hide hb2
 clear hv2 hb2 HCH
 go_wp2_with fail
 (try simp only [Exit.inBlock, Exit.then])
 have G6 := tri_block G2.out (.int .i64 lv) (.slice na lh nc) (.int .i64 ri)
 have U6 : Upd (fun b => b = W.heap.size) w2 (tri3 w2 W.heap.size (.int .i64 lv) (.slice na lh nc) (.int .i64 ri)) := tri_upd _ _ _ _ _ _ rfl
 obtain ⟨q0, q1, q2⟩ := Tri.of G6
 have z0 : w0.heap.size = W.heap.size + 1 := by rw [HW.out]; simp
 show bodyPost _ _ _ _ _ (tri3 w2 W.heap.size (.int .i64 lv) (.slice na lh nc) (.int .i64 ri))
 generalize tri3 w2 W.heap.size (.int .i64 lv) (.slice na lh nc) (.int .i64 ri) = w6 at *
 refine bodyPost_ret (v := .tuple #[.agg #[.int .i64 lv, .slice na lh nc, .int .i64 ri], .int .i64 0]) (by simp [results, Tryz.results118, go_sem, q0, q1, q2]) rfl ⟨na, nc, rfl, ?_, ?_⟩
 ·exact (ownB_upd' V2.out U6 (fun b h1 h2 h3 => by omega)).mono (by omega)
 ·have b02 := B0.out.trans (B2.out.mono B0.out.size)
  exact b02.trans (U6.below (by have := b02.size; omega) (fun k hk e => by omega))
set_option maxRecDepth 100000 in
set_option maxHeartbeats 1600000 in
theorem abody_any (h : PA W A M D nodes root L) (i : Nat) (hi : i < L.length) :
  Calls Tryz.prog 119 #[.pointer (some ⟨A, 0, none⟩), .int .i64 ((i : Int) + 1)] W (BoPost W L[i].n.ks.L.length L[i].n.vs.L.length L[i].n.cs.s.length L[i].n.ks.L L[i].n.vs.L L[i].n.cs.s) := by
 obtain ⟨w0, hw0⟩ : ∃ w0, w0 = W.alloc (.cells #[.slice none 0 0, .slice none 0 0, .slice none 0 0] 34) := ⟨_, rfl⟩
 have b0 : Below W.heap.size W w0 := by rw [hw0]; exact (Below.refl _ _).alloc (Nat.le_refl _) _
 have g0 : w0.heap[W.heap.size]? = some (.cells #[.slice none 0 0, .slice none 0 0, .slice none 0 0] 34 (0, 0)) := by rw [hw0]; exact heap_alloc_new W _
 have h0 := h.below b0
 have HS := hide (slot_any h0 i hi)
 have ho := h0.sl L[i] (List.getElem_mem hi)
 obtain ⟨k1, k2, k3⟩ := (sl_cells ho).2
 have HCH := hide (copyBody_any L[i].n.ks L[i].n.vs L[i].n.cs w0 ho.n.k ho.n.v ho.n.c ho.n.kz ho.n.vz ho.n.cz)
 generalize L[i].b = b at *
 generalize L[i].n.ks = kt at *
 generalize L[i].n.vs = vt at *
 generalize L[i].n.cs = ct at *
 clear ho h0 h hi
 obtain ⟨ka, kc, K⟩ := kt
 obtain ⟨va, vc, V⟩ := vt
 obtain ⟨ca, cc, C⟩ := ct
 simp only [TL.v, IL.v] at *
 obtain ⟨lk, hlk⟩ : ∃ lk, K.length = lk := ⟨_, rfl⟩
 obtain ⟨lw, hlw⟩ : ∃ lw, V.length = lw := ⟨_, rfl⟩
 obtain ⟨lc, hlc⟩ : ∃ lc, C.length = lc := ⟨_, rfl⟩
 rw [hlk] at k1
 rw [hlw] at k2
 rw [hlc] at k3
 rw [hlk, hlw, hlc] at HCH ⊢
 clear hlk hlw hlc
 generalize (i : Int) + 1 = id at *
 have G0 := hide g0
 have B0 := hide b0
 have HW := hide hw0
 clear g0 b0 hw0
 go_enter Tryz.func119, Tryz.ntmps119
 go_wp2_with fail
 rw [← HW.out]
 refine keep HS.out ?_
 go_wp2_with fail
 refine HCH.out.mono ?_
 rintro e w2 ⟨kn, kd, K', vn, vd, V', cn, cd, rfl, p1, p2, l1, l2, o1, o2, o3, hb2⟩
 have G2 : Hid (w2.heap[W.heap.size]? = some (.cells #[.slice none 0 0, .slice none 0 0, .slice none 0 0] 34 (0, 0))) := (hb2.block _ (lt_of_block G0.out)).trans G0.out
 obtain ⟨c0, c1, c2⟩ := Tri.of G2.out
 have F0 := fun j => frozen_of G2.out j
 have V2 := hide (And.intro p1 (And.intro p2 (And.intro l1 (And.intro l2 (And.intro o1 (And.intro o2 o3))))))
 have B2 := hide hb2
 clear p1 p2 l1 l2 o1 o2 o3 hb2 HCH
 go_wp2_with fail
 (try simp only [Exit.inBlock, Exit.then])
 have G6 := tri_block G2.out (.slice kn lk kd) (.slice vn lw vd) (.slice cn lc cd)
 have U6 : Upd (fun b => b = W.heap.size) w2 (tri3 w2 W.heap.size (.slice kn lk kd) (.slice vn lw vd) (.slice cn lc cd)) := tri_upd _ _ _ _ _ _ rfl
 obtain ⟨q0, q1, q2⟩ := Tri.of G6
 have z0 : w0.heap.size = W.heap.size + 1 := by rw [HW.out]; simp
 show bodyPost _ _ _ _ _ (tri3 w2 W.heap.size (.slice kn lk kd) (.slice vn lw vd) (.slice cn lc cd))
 generalize tri3 w2 W.heap.size (.slice kn lk kd) (.slice vn lw vd) (.slice cn lc cd) = w6 at *
 obtain ⟨p1, p2, l1, l2, o1, o2, o3⟩ := V2.out
 refine bodyPost_ret (v := .tuple #[.agg #[.slice kn lk kd, .slice vn lw vd, .slice cn lc cd], .int .i64 0]) (by simp [results, Tryz.results119, go_sem, q0, q1, q2]) rfl ⟨kn, kd, K', vn, vd, V', cn, cd, rfl, p1, p2, l1, l2, ?_, ?_, ?_, ?_⟩
 ·exact (o1.upd U6 (fun b h1 h2 h3 => by omega)).mono (by omega)
 ·exact (o2.upd U6 (fun b h1 h2 h3 => by omega)).mono (by omega)
 ·exact owns_mono (ownsI_upd o3 U6 (fun b h1 h2 h3 => by omega)) (by omega)
 ·have b02 := B0.out.trans (B2.out.mono B0.out.size)
  exact b02.trans (U6.below (by have := b02.size; omega) (fun k hk e => by omega))
end
end Go.Proofs.YtpljbgcofmlhbaaGreat
namespace Go.Proofs.YtpljbgcofmlhbaaGreat
open Go.RowKit
set_option maxRecDepth 100000
def SetPost (w : World) (A : Nat) (M D : Nat → Prop) (nodes root : Int) (L : List Sl) (i b x : Nat) (p : NP) (e : Ending) (w' : World) : Prop :=
 ∃ D' n, e = .returned (.int .i64 0) ∧ PA w' A M D' nodes root (L.set i ⟨b, x, n⟩) ∧ n.p = p ∧ (∀ k, D' k → D k ∨ w.heap.size ≤ k) ∧ Upd M w w'
def NP.setH (p : NP) (lv : Int) (hi : List Int) (ri : Int) : NP := ⟨lv, hi, ri, p.ks, p.vs, p.cs⟩
def NP.setB (p : NP) (ks vs : List (List Int)) (cs : List Int) : NP := ⟨p.lv, p.hi, p.ri, ks, vs, cs⟩
section
variable {W : World} {A : Nat} {M D : Nat → Prop} {nodes root : Int} {L : List Sl}
def slH (W : World) (b : Nat) (x0 x1 x2 : Value) : World := ((W.setCell ⟨b, 1, none⟩ x0).setCell ⟨b, 2, none⟩ x1).setCell ⟨b, 3, none⟩ x2
def slB (W : World) (b : Nat) (x0 x1 x2 : Value) : World := ((W.setCell ⟨b, 4, none⟩ x0).setCell ⟨b, 5, none⟩ x1).setCell ⟨b, 6, none⟩ x2
theorem slH_block {W : World} {b : Nat} {T : TypeId} {a0 a1 a2 a3 a4 a5 a6 : Value} (h : W.heap[b]? = some (.cells #[a0, a1, a2, a3, a4, a5, a6] T (0, 0))) (x0 x1 x2 : Value) : (slH W b x0 x1 x2).heap[b]? = some (.cells #[a0, x0, x1, x2, a4, a5, a6] T (0, 0)) := by
 have := block_setCell (block_setCell (block_setCell h 1 x0) 2 x1) 3 x2
 exact this
theorem slB_block {W : World} {b : Nat} {T : TypeId} {a0 a1 a2 a3 a4 a5 a6 : Value} (h : W.heap[b]? = some (.cells #[a0, a1, a2, a3, a4, a5, a6] T (0, 0))) (x0 x1 x2 : Value) : (slB W b x0 x1 x2).heap[b]? = some (.cells #[a0, a1, a2, a3, x0, x1, x2] T (0, 0)) := by
 have := block_setCell (block_setCell (block_setCell h 4 x0) 5 x1) 6 x2
 exact this
theorem slH_upd (S : Nat → Prop) (W : World) (b : Nat) (x0 x1 x2 : Value) (h : S b) : Upd S W (slH W b x0 x1 x2) :=
 (((Upd.refl S W).setCell _ _ (fun _ => h)).setCell _ _ (fun _ => h)).setCell _ _ (fun _ => h)
theorem slB_upd (S : Nat → Prop) (W : World) (b : Nat) (x0 x1 x2 : Value) (h : S b) : Upd S W (slB W b x0 x1 x2) :=
 (((Upd.refl S W).setCell _ _ (fun _ => h)).setCell _ _ (fun _ => h)).setCell _ _ (fun _ => h)
set_option maxHeartbeats 800000 in
theorem setHead_not (h : PA W A M D nodes root L) (id lv ri : Int) (t : Tx) (hno : ∀ i (hi : i < L.length), id = (i : Int) + 1 → L[i].w % 2 = 0) :
  Calls Tryz.prog 101 #[.pointer (some ⟨A, 0, none⟩), .int .i64 id, .agg #[.int .i64 lv, t.v, .int .i64 ri]] W fun e w' => e = .returned (.int .i64 (opE L id)) ∧ Below W.heap.size W w' := by
 have hne : opE L id ≠ 0 := by unfold opE; split <;> decide
 obtain ⟨ha, hc, hs⟩ := t
 simp only [Tx.v]
 obtain ⟨w0, hw0⟩ : ∃ w0, w0 = W.alloc (.cells #[.int .i64 lv, .slice ha hs.length hc, .int .i64 ri] 30) := ⟨_, rfl⟩
 have b0 : Below W.heap.size W w0 := by rw [hw0]; exact (Below.refl _ _).alloc (Nat.le_refl _) _
 have HO := hide (open_not (h.below b0) id hno)
 have B0 := hide b0
 have HW := hide hw0
 clear h hno b0 hw0
 generalize opE L id = er at *
 generalize hs.length = lh at *
 go_enter Tryz.func101, Tryz.ntmps101
 go_wp2_with fail
 rw [← HW.out]
 refine keep HO.out ?_
 go_wp2_with fail
 go_ret
 exact ⟨rfl, B0.out⟩
set_option maxHeartbeats 800000 in
theorem setBody_not (h : PA W A M D nodes root L) (id : Int) (k v : TL) (c : IL) (hno : ∀ i (hi : i < L.length), id = (i : Int) + 1 → L[i].w % 2 = 0) :
  Calls Tryz.prog 48 #[.pointer (some ⟨A, 0, none⟩), .int .i64 id, .agg #[k.v, v.v, c.v]] W fun e w' => e = .returned (.int .i64 (opE L id)) ∧ Below W.heap.size W w' := by
 have hne : opE L id ≠ 0 := by unfold opE; split <;> decide
 obtain ⟨ka, kc, K⟩ := k
 obtain ⟨va, vc, V⟩ := v
 obtain ⟨ca, cc, C⟩ := c
 simp only [TL.v, IL.v]
 obtain ⟨w0, hw0⟩ : ∃ w0, w0 = W.alloc (.cells #[.slice ka K.length kc, .slice va V.length vc, .slice ca C.length cc] 34) := ⟨_, rfl⟩
 have b0 : Below W.heap.size W w0 := by rw [hw0]; exact (Below.refl _ _).alloc (Nat.le_refl _) _
 have HO := hide (open_not (h.below b0) id hno)
 have B0 := hide b0
 have HW := hide hw0
 clear h hno b0 hw0
 generalize opE L id = er at *
 generalize K.length = lk at *
 generalize V.length = lw at *
 generalize C.length = lc at *
 go_enter Tryz.func48, Tryz.ntmps48
 go_wp2_with fail
 rw [← HW.out]
 refine keep HO.out ?_
 go_wp2_with fail
 go_ret
 exact ⟨rfl, B0.out⟩
set_option maxRecDepth 100000 in
set_option maxHeartbeats 1600000 in
theorem setHead_any (h : PA W A M D nodes root L) (i : Nat) (hi : i < L.length) (he : L[i].w % 2 = 1) (lv ri : Int) (t : Tx) (ht : t.Ok W) :
  Calls Tryz.prog 101 #[.pointer (some ⟨A, 0, none⟩), .int .i64 ((i : Int) + 1), .agg #[.int .i64 lv, t.v, .int .i64 ri]] W (SetPost W A M D nodes root L i L[i].b L[i].w (L[i].n.p.setH lv t.s ri)) := by
 obtain ⟨w0, hw0⟩ : ∃ w0, w0 = W.alloc (.cells #[.int .i64 lv, t.v, .int .i64 ri] 30) := ⟨_, rfl⟩
 have b0 : Below W.heap.size W w0 := by rw [hw0]; exact (Below.refl _ _).alloc (Nat.le_refl _) _
 have g0 : w0.heap[W.heap.size]? = some (.cells #[.int .i64 lv, t.v, .int .i64 ri] 30 (0, 0)) := by rw [hw0]; exact heap_alloc_new W _
 have z0 : w0.heap.size = W.heap.size + 1 := by rw [hw0]; simp
 have HO := hide (open_any (h.below b0) i hi he)
 have HCH := hide (copyHead_any lv ri t w0 (ht.below b0))
 have H0 := hide (h.below b0)
 have hbl := h.lt L[i].b (.inl (h.sl L[i] (List.getElem_mem hi)).m)
 have HSL : Hid (∀ w2, Below w0.heap.size w0 w2 → (w2.heap[L[i].b]? = some (.cells L[i].cells 162 (0, 0)))) := fun w2 hb => ((h.below b0).below hb).sl L[i] (List.getElem_mem hi) |>.c
 have HSC : Hid (L[i].cells = #[.int .u64 (L[i].w : Nat), .int .i64 L[i].n.lv, L[i].n.hi.v, .int .i64 L[i].n.ri, L[i].n.ks.v, L[i].n.vs.v, L[i].n.cs.v]) := rfl
 rw [HSC.out] at HSL
 have HB8 := hide (And.intro ht.b8 ht.z)
 have HP := hide h
 have HI := hide hi
 -- the end
 have HFIN : Hid (∀ w2 na nc, Below w0.heap.size w0 w2 → OwnB w2 w0.heap.size 5 (.slice na t.s.length nc) t.s → SetPost W A M D nodes root L i L[i].b L[i].w (L[i].n.p.setH lv t.s ri) (.returned (.int .i64 0)) (slH w2 L[i].b (.int .i64 lv) (.slice na t.s.length nc) (.int .i64 ri))) := by
  intro w2 na nc hb hv
  have hU : Upd (fun k => k = L[i].b) w2 (slH w2 L[i].b (.int .i64 lv) (.slice na t.s.length nc) (.int .i64 ri)) := slH_upd _ _ _ _ _ _ rfl
  have bel := b0.trans (hb.mono b0.size)
  have P2 := h.below bel
  have ho := P2.sl L[i] (List.getElem_mem hi)
  have hcc := slH_block (HSL.out w2 hb) (.int .i64 lv) (.slice na t.s.length nc) (.int .i64 ri)
  have hv' : OwnB (slH w2 L[i].b (.int .i64 lv) (.slice na t.s.length nc) (.int .i64 ri)) w0.heap.size 5 (.slice na t.s.length nc) t.s := ownB_upd' hv hU (fun b h1 h2 h3 => by omega)
  generalize slH w2 L[i].b (.int .i64 lv) (.slice na t.s.length nc) (.int .i64 ri) = w6 at *
  have hin := ownB_in (x := ⟨na, nc, t.s⟩) hv'
  have hn : L[i].n.Ok w6 := ho.n.upd ho.d hU (fun k hk e => P2.dj _ ho.m (by rw [← e]; exact hk))
  refine ⟨fun k => D k ∨ (w0.heap.size ≤ k ∧ k < w6.heap.size), ⟨lv, ⟨na, nc, t.s⟩, ri, L[i].n.ks, L[i].n.vs, L[i].n.cs⟩, rfl, ?_, rfl, ?_, ?_⟩
  ·refine P2.put hi ⟨L[i].b, L[i].w, ⟨lv, ⟨na, nc, t.s⟩, ri, L[i].n.ks, L[i].n.vs, L[i].n.cs⟩⟩ rfl hU (fun k hk => .inl hk) ?_ ?_ ⟨hcc, ho.m, ⟨ownB_ok (x := ⟨na, nc, t.s⟩) hv' HB8.out.1 HB8.out.2, hn.k, hn.v, hn.c, hn.kz, hn.vz, hn.cz⟩, ?_, ho.w⟩
   ·intro k hk
    rcases hk with hk | hk
    ·exact Nat.lt_of_lt_of_le (P2.lt k (.inr hk)) hU.size
    ·exact hk.2
   ·intro k hk hd
    rcases hd with hd | hd
    ·exact P2.dj k hk hd
    ·have := h.lt k (.inl hk); omega
   ·exact ⟨fun x e _ => .inr (hin x e), fun x e l => .inl (ho.d.k x e l), fun y hy x e l => .inl (ho.d.ke y hy x e l), fun x e l => .inl (ho.d.v x e l), fun y hy x e l => .inl (ho.d.ve y hy x e l), fun x e l => .inl (ho.d.c x e l)⟩
  ·intro k hk
   rcases hk with hk | hk
   ·exact .inl hk
   ·right; omega
  ·exact (Upd.of_below bel M).then hU (fun k _ e => by rw [e]; exact ho.m)
 obtain ⟨ha, hc, hs⟩ := t
 simp only [Tx.v] at *
 generalize SetPost W A M D nodes root L i L[i].b L[i].w (L[i].n.p.setH lv hs ri) = PO at *
 generalize L[i].b = b at *
 obtain ⟨lh, hlh⟩ : ∃ lh, hs.length = lh := ⟨_, rfl⟩
 rw [hlh] at HCH HFIN g0 hw0 ⊢
 generalize L[i].n = nd at *
 generalize L[i].w = xx at *
 clear hlh h he ht HSC HB8 H0 HP HI
 generalize (i : Int) + 1 = id at *
 have G0 := hide (Tri.of g0)
 have B0 := hide b0
 have HW := hide hw0
 have Z0 := hide z0
 clear g0 b0 hw0 z0
 go_enter Tryz.func101, Tryz.ntmps101
 go_wp2_with fail
 rw [← HW.out]
 refine keep HO.out ?_
 obtain ⟨t0, t1, t2⟩ := G0.out
 go_wp2_with fail
 refine HCH.out.mono ?_
 rintro e w2 ⟨na, nc, rfl, hv2, hb2⟩
 have g2 := HSL.out w2 hb2
 have F2 := fun j => frozen_of g2 j
 have q1 : w2.cell? ⟨b, 1, none⟩ = some (.int .i64 nd.lv) := by rw [cell_of_row _ _ _ _ _ _ g2]; rfl
 have q2 : w2.cell? ⟨b, 2, none⟩ = some nd.hi.v := by rw [cell_of_row _ _ _ _ _ _ g2]; rfl
 have q3 : w2.cell? ⟨b, 3, none⟩ = some (.int .i64 nd.ri) := by rw [cell_of_row _ _ _ _ _ _ g2]; rfl
 have HF := hide (HFIN.out w2 na nc hb2 hv2)
 clear hv2 hb2 HCH HFIN g2 HSL
 go_wp2_with fail
 exact HF.out
set_option maxRecDepth 100000 in
set_option maxHeartbeats 1600000 in
theorem setBody_any (h : PA W A M D nodes root L) (i : Nat) (hi : i < L.length) (he : L[i].w % 2 = 1) (k v : TL) (c : IL) (hk : k.Ok W) (hv : v.Ok W) (hc : c.Ok W) (kz : k.L.length * 24 ≤ 140737488352000) (vz : v.L.length * 24 ≤ 140737488352000) (cz : c.s.length * 8 ≤ 140737488352000) :
  Calls Tryz.prog 48 #[.pointer (some ⟨A, 0, none⟩), .int .i64 ((i : Int) + 1), .agg #[k.v, v.v, c.v]] W (SetPost W A M D nodes root L i L[i].b L[i].w (L[i].n.p.setB k.p v.p c.s)) := by
 obtain ⟨w0, hw0⟩ : ∃ w0, w0 = W.alloc (.cells #[k.v, v.v, c.v] 34) := ⟨_, rfl⟩
 have b0 : Below W.heap.size W w0 := by rw [hw0]; exact (Below.refl _ _).alloc (Nat.le_refl _) _
 have g0 : w0.heap[W.heap.size]? = some (.cells #[k.v, v.v, c.v] 34 (0, 0)) := by rw [hw0]; exact heap_alloc_new W _
 have z0 : w0.heap.size = W.heap.size + 1 := by rw [hw0]; simp
 have HO := hide (open_any (h.below b0) i hi he)
 have HCH := hide (copyBody_any k v c w0 (hk.below b0) (hv.below b0) (hc.below b0) kz vz cz)
 have hbl := h.lt L[i].b (.inl (h.sl L[i] (List.getElem_mem hi)).m)
 have HSL : Hid (∀ w2, Below w0.heap.size w0 w2 → (w2.heap[L[i].b]? = some (.cells L[i].cells 162 (0, 0)))) := fun w2 hb => ((h.below b0).below hb).sl L[i] (List.getElem_mem hi) |>.c
 have HSC : Hid (L[i].cells = #[.int .u64 (L[i].w : Nat), .int .i64 L[i].n.lv, L[i].n.hi.v, .int .i64 L[i].n.ri, L[i].n.ks.v, L[i].n.vs.v, L[i].n.cs.v]) := rfl
 rw [HSC.out] at HSL
 -- the end
 have HFIN : Hid (∀ w2 kn kd K' vn vd V' cn cd, Below w0.heap.size w0 w2 → K'.map (·.s) = k.L.map (·.s) → V'.map (·.s) = v.L.map (·.s) → K'.length = k.L.length → V'.length = v.L.length → (⟨kn, kd, K'⟩ : TL).Own w2 w0.heap.size → (⟨vn, vd, V'⟩ : TL).Own w2 w0.heap.size → w2.ownsRow w0.heap.size 3 1 (.slice cn c.s.length cd) c.s.length (c.s.map (Value.int .i64)) →
   SetPost W A M D nodes root L i L[i].b L[i].w (L[i].n.p.setB k.p v.p c.s) (.returned (.int .i64 0)) (slB w2 L[i].b (.slice kn k.L.length kd) (.slice vn v.L.length vd) (.slice cn c.s.length cd))) := by
  intro w2 kn kd K' vn vd V' cn cd hb p1 p2 l1 l2 o1 o2 o3
  have hU : Upd (fun k => k = L[i].b) w2 (slB w2 L[i].b (.slice kn k.L.length kd) (.slice vn v.L.length vd) (.slice cn c.s.length cd)) := slB_upd _ _ _ _ _ _ rfl
  have bel := b0.trans (hb.mono b0.size)
  have P2 := h.below bel
  have ho := P2.sl L[i] (List.getElem_mem hi)
  have hcc := slB_block (HSL.out w2 hb) (.slice kn k.L.length kd) (.slice vn v.L.length vd) (.slice cn c.s.length cd)
  have q1 := o1.upd hU (fun b h1 h2 h3 => by omega)
  have q2 := o2.upd hU (fun b h1 h2 h3 => by omega)
  have q3 := ownsI_upd o3 hU (fun b h1 h2 h3 => by omega)
  generalize slB w2 L[i].b (.slice kn k.L.length kd) (.slice vn v.L.length vd) (.slice cn c.s.length cd) = w6 at *
  have hn : L[i].n.Ok w6 := ho.n.upd ho.d hU (fun k hk e => P2.dj _ ho.m (by rw [← e]; exact hk))
  obtain ⟨m, hm⟩ : ∃ m : Nd, m = ⟨L[i].n.lv, L[i].n.hi, L[i].n.ri, ⟨kn, kd, K'⟩, ⟨vn, vd, V'⟩, ⟨cn, cd, c.s⟩⟩ := ⟨_, rfl⟩
  refine ⟨fun k => D k ∨ (w0.heap.size ≤ k ∧ k < w6.heap.size), m, rfl, ?_, ?_, ?_, ?_⟩
  ·rw [hm]
   refine P2.put hi ⟨L[i].b, L[i].w, ⟨L[i].n.lv, L[i].n.hi, L[i].n.ri, ⟨kn, kd, K'⟩, ⟨vn, vd, V'⟩, ⟨cn, cd, c.s⟩⟩⟩ rfl hU (fun k hk => .inl hk) ?_ ?_ ⟨?_, ho.m, ⟨hn.h, q1.ok, q2.ok, il_of_owns (t := ⟨cn, cd, c.s⟩) q3, ?_, ?_, cz⟩, ?_, ho.w⟩
   ·intro k hk
    rcases hk with hk | hk
    ·exact Nat.lt_of_lt_of_le (P2.lt k (.inr hk)) hU.size
    ·exact hk.2
   ·intro k hk hd
    rcases hd with hd | hd
    ·exact P2.dj k hk hd
    ·have := h.lt k (.inl hk); omega
   ·rw [hcc]
    simp only [Sl.cells, TL.v, IL.v, l1, l2]
   ·simp only [l1]; exact kz
   ·simp only [l2]; exact vz
   ·exact ⟨fun x e l => .inl (ho.d.h x e l), fun x e _ => .inr (owns_in q1.row x e), fun y hy x e _ => .inr (ownB_in (q1.each y hy) x e), fun x e _ => .inr (owns_in q2.row x e), fun y hy x e _ => .inr (ownB_in (q2.each y hy) x e), fun x e _ => .inr (owns_in q3 x e)⟩
  ·rw [hm]
   simp only [Nd.p, NP.setB, TL.p, p1, p2]
  ·intro k hk
   rcases hk with hk | hk
   ·exact .inl hk
   ·right; omega
  ·exact (Upd.of_below bel M).then hU (fun k _ e => by rw [e]; exact ho.m)
 obtain ⟨ka, kc, K⟩ := k
 obtain ⟨va, vc, V⟩ := v
 obtain ⟨ca, cc, C⟩ := c
 simp only [TL.v, IL.v] at *
 generalize SetPost W A M D nodes root L i L[i].b L[i].w (L[i].n.p.setB (TL.p ⟨ka, kc, K⟩) (TL.p ⟨va, vc, V⟩) C) = PO at *
 generalize L[i].b = b at *
 obtain ⟨lk, hlk⟩ : ∃ lk, K.length = lk := ⟨_, rfl⟩
 obtain ⟨lw, hlw⟩ : ∃ lw, V.length = lw := ⟨_, rfl⟩
 obtain ⟨lc, hlc⟩ : ∃ lc, C.length = lc := ⟨_, rfl⟩
 simp only [hlk, hlw, hlc] at HCH HFIN g0 hw0 ⊢
 generalize L[i].n = nd at *
 generalize L[i].w = xx at *
 clear h he hk hv hc kz vz cz HSC hlk hlw hlc
 generalize (i : Int) + 1 = id at *
 have G0 := hide (Tri.of g0)
 have B0 := hide b0
 have HW := hide hw0
 have Z0 := hide z0
 clear g0 b0 hw0 z0
 go_enter Tryz.func48, Tryz.ntmps48
 go_wp2_with fail
 rw [← HW.out]
 refine keep HO.out ?_
 obtain ⟨t0, t1, t2⟩ := G0.out
 go_wp2_with fail
 refine HCH.out.mono ?_
 rintro e w2 ⟨kn, kd, K', vn, vd, V', cn, cd, rfl, p1, p2, l1, l2, o1, o2, o3, hb2⟩
 have g2 := HSL.out w2 hb2
 have F2 := fun j => frozen_of g2 j
 have q1 : w2.cell? ⟨b, 4, none⟩ = some nd.ks.v := by rw [cell_of_row _ _ _ _ _ _ g2]; rfl
 have q2 : w2.cell? ⟨b, 5, none⟩ = some nd.vs.v := by rw [cell_of_row _ _ _ _ _ _ g2]; rfl
 have q3 : w2.cell? ⟨b, 6, none⟩ = some nd.cs.v := by rw [cell_of_row _ _ _ _ _ _ g2]; rfl
 have HF := hide (HFIN.out w2 kn kd K' vn vd V' cn cd hb2 p1 p2 l1 l2 o1 o2 o3)
 clear p1 p2 l1 l2 o1 o2 o3 hb2 HCH HFIN g2 HSL
 go_wp2_with fail
 exact HF.out
end
end Go.Proofs.YtpljbgcofmlhbaaGreat
namespace Go.Proofs.YtpljbgcofmlhbaaGreat
open Go.RowKit
set_option maxRecDepth 100000
theorem rsFromT (k : Option Addr) (lk ck n : Nat) (hn : n ≤ lk) (W : World) : (Instr.slice 31 (.slice k lk ck) (some (.int .i64 (n : Int))) none none).run Tryz.prog W = .ok (.slice (cutAt k n ck) (lk - n) (ck - n)) W := by
 rw [run_slice_l (P := Tryz.prog) W 31 k lk ck undT .i64 (n : Int) (by omega) (by omega), elemT, sizeT]
 simp [Result.andThen, sliced, cutAt]
theorem rsUptoT (k : Option Addr) (lk ck m : Nat) (hm : m ≤ ck) (W : World) : (Instr.slice 31 (.slice k lk ck) none (some (.int .i64 (m : Int))) none).run Tryz.prog W = .ok (.slice k m ck) W := by
 rw [run_slice_h (P := Tryz.prog) W 31 k lk ck undT .i64 (m : Int) (by omega) (by omega), elemT, sizeT]
 cases k <;> simp [Result.andThen, sliced, Addr.add]
theorem rsFromI (k : Option Addr) (lk ck n : Nat) (hn : n ≤ lk) (W : World) : (Instr.slice 32 (.slice k lk ck) (some (.int .i64 (n : Int))) none none).run Tryz.prog W = .ok (.slice (cutAt k n ck) (lk - n) (ck - n)) W := by
 rw [run_slice_l (P := Tryz.prog) W 32 k lk ck undI .i64 (n : Int) (by omega) (by omega), elemI, sizeI]
 simp [Result.andThen, sliced, cutAt]
theorem rsUptoI (k : Option Addr) (lk ck m : Nat) (hm : m ≤ ck) (W : World) : (Instr.slice 32 (.slice k lk ck) none (some (.int .i64 (m : Int))) none).run Tryz.prog W = .ok (.slice k m ck) W := by
 rw [run_slice_h (P := Tryz.prog) W 32 k lk ck undI .i64 (m : Int) (by omega) (by omega), elemI, sizeI]
 cases k <;> simp [Result.andThen, sliced, Addr.add]
theorem TL.Ok.upto {W : World} {a : Option Addr} {c : Nat} {L : List Tx} (h : (⟨a, c, L⟩ : TL).Ok W) (m : Nat) (hm : m ≤ L.length) : (⟨a, c, L.take m⟩ : TL).Ok W :=
 ⟨h.r.takeN m, fun x hx => h.ok x (List.mem_of_mem_take hx), fun e => by have := h.n e; simp only [List.length_take] at this ⊢; omega, by have := h.lc; simp only [List.length_take] at this ⊢; omega⟩
theorem TL.Ok.from_ {W : World} {a : Option Addr} {c : Nat} {L : List Tx} (h : (⟨a, c, L⟩ : TL).Ok W) (m : Nat) : (⟨cutAt a m c, c - m, L.drop m⟩ : TL).Ok W :=
 ⟨h.r.dropN m c h.lc, fun x hx => h.ok x (List.mem_of_mem_drop hx), fun e => by have := h.n (cutAt_none e); simp only [List.length_drop] at this ⊢; omega, by have := h.lc; simp only [List.length_drop] at this ⊢; omega⟩
theorem IL.Ok.upto {W : World} {a : Option Addr} {c : Nat} {s : List Int} (h : (⟨a, c, s⟩ : IL).Ok W) (m : Nat) (hm : m ≤ s.length) : (⟨a, c, s.take m⟩ : IL).Ok W :=
 ⟨row_takeN h.r m, fun e => by have := h.n e; simp only [List.length_take] at this ⊢; omega, by have := h.lc; simp only [List.length_take] at this ⊢; omega⟩
theorem IL.Ok.from_ {W : World} {a : Option Addr} {c : Nat} {s : List Int} (h : (⟨a, c, s⟩ : IL).Ok W) (m : Nat) : (⟨cutAt a m c, c - m, s.drop m⟩ : IL).Ok W :=
 ⟨row_dropN h.r m c h.lc, fun e => by have := h.n (cutAt_none e); simp only [List.length_drop] at this ⊢; omega, by have := h.lc; simp only [List.length_drop] at this ⊢; omega⟩
def RspP (w : World) (p1 p2 : NP) (bt : List Int) (e : Ending) (w' : World) : Prop :=
 ∃ (l r : Nd) (k : Tx), e = .returned (.tuple #[l.v, r.v, k.v]) ∧ l.p = p1 ∧ r.p = p2 ∧ k.s = bt ∧ l.Own w' w.heap.size ∧ r.Own w' w.heap.size ∧ k.Ok w' ∧ Below w.heap.size w w'
def RSb (b a1 a2 : Nat) (k : Nat) : Prop := k = b + 1 ∨ k = b + 1 + 1 ∨ k = a1 ∨ k = a2
structure RSp (w : World) (A : Array Value) (a1 a2 : Nat) (W : World) (L R : Array Value) : Prop where
 bw : Below w.heap.size w W
 ga : W.heap[w.heap.size]? = some (.cells A 36 (0, 0))
 g4 : W.heap[w.heap.size + 1]? = some (.cells #[.int .i64 0, .slice none 0 0, .int .i64 0, .slice none 0 0, .slice none 0 0, .slice none 0 0] 36 (0, 0))
 g5 : W.heap[w.heap.size + 1 + 1]? = some (.cells #[.int .i64 0, .slice none 0 0, .int .i64 0, .slice none 0 0, .slice none 0 0, .slice none 0 0] 36 (0, 0))
 g8 : W.heap[a1]? = some (.cells L 36 (0, 0))
 g10 : W.heap[a2]? = some (.cells R 36 (0, 0))
 lt : w.heap.size + 1 + 1 < a1 ∧ a1 < a2
section
variable {w W W' : World} {A L R : Array Value} {a1 a2 : Nat}
theorem RSp.below (h : RSp w A a1 a2 W L R) (hb : Below W.heap.size W W') : RSp w A a1 a2 W' L R :=
 ⟨h.bw.trans (hb.mono h.bw.size), (hb.block _ (lt_of_block h.ga)).trans h.ga, (hb.block _ (lt_of_block h.g4)).trans h.g4, (hb.block _ (lt_of_block h.g5)).trans h.g5, (hb.block _ (lt_of_block h.g8)).trans h.g8, (hb.block _ (lt_of_block h.g10)).trans h.g10, h.lt⟩
theorem RSp.set8 (h : RSp w A a1 a2 W L R) (j : Nat) (v : Value) : RSp w A a1 a2 (W.setCell ⟨a1, j, none⟩ v) (L.setIfInBounds j v) R := by
 have hu : Upd (fun k => k = a1) W (W.setCell ⟨a1, j, none⟩ v) := (Upd.refl _ _).setCell _ _ (fun _ => rfl)
 have hl := h.lt
 exact ⟨h.bw.trans (hu.below h.bw.size (fun k hk e => by omega)), hu.heap h.ga (fun e => by omega), hu.heap h.g4 (fun e => by omega), hu.heap h.g5 (fun e => by omega), block_setCell h.g8 j v, hu.heap h.g10 (fun e => by omega), h.lt⟩
theorem RSp.set10 (h : RSp w A a1 a2 W L R) (j : Nat) (v : Value) : RSp w A a1 a2 (W.setCell ⟨a2, j, none⟩ v) L (R.setIfInBounds j v) := by
 have hu : Upd (fun k => k = a2) W (W.setCell ⟨a2, j, none⟩ v) := (Upd.refl _ _).setCell _ _ (fun _ => rfl)
 have hl := h.lt
 exact ⟨h.bw.trans (hu.below h.bw.size (fun k hk e => by omega)), hu.heap h.ga (fun e => by omega), hu.heap h.g4 (fun e => by omega), hu.heap h.g5 (fun e => by omega), hu.heap h.g8 (fun e => by omega), block_setCell h.g10 j v, h.lt⟩
theorem sp_set8 (W : World) (b a1 a2 j : Nat) (v : Value) : Upd (RSb b a1 a2) W (W.setCell ⟨a1, j, none⟩ v) := (Upd.refl _ _).setCell _ _ (fun _ => .inr (.inr (.inl rfl)))
theorem sp_set10 (W : World) (b a1 a2 j : Nat) (v : Value) : Upd (RSb b a1 a2) W (W.setCell ⟨a2, j, none⟩ v) := (Upd.refl _ _).setCell _ _ (fun _ => .inr (.inr (.inr rfl)))
end
end Go.Proofs.YtpljbgcofmlhbaaGreat
namespace Go.Proofs.YtpljbgcofmlhbaaGreat
open Go.RowKit
set_option maxRecDepth 100000
/-! ### rows of seven cells -/
theorem flat_len {α : Type} (f : α → List Value) (hf : ∀ a, (f a).length = 7) (L : List α) : (L.flatMap f).length = L.length * 7 := by
 induction L with
 | nil => rfl
 | cons a L ih => rw [List.flatMap_cons, List.length_append, hf, ih, List.length_cons]; omega
theorem flat_get {α : Type} (f : α → List Value) (hf : ∀ a, (f a).length = 7) (L : List α) (i j : Nat) (hi : i < L.length) (hj : j < 7) : (L.flatMap f)[i * 7 + j]? = (f L[i])[j]? := by
 induction L generalizing i with
 | nil => simp at hi
 | cons a L ih =>
  rw [List.flatMap_cons]
  cases i with
  | zero => rw [List.getElem?_append_left (by rw [hf]; omega)]; simp
  | succ i =>
   rw [List.getElem?_append_right (by rw [hf]; omega), hf, show (i + 1) * 7 + j - 7 = i * 7 + j by omega, ih i (by simpa using hi)]
   rfl
theorem flat_set {α : Type} (f : α → List Value) (hf : ∀ a, (f a).length = 7) (L : List α) (i j : Nat) (hi : i < L.length) (hj : j < 7) (u : Value) (s : α) (hs : f s = (f L[i]).set j u) : (L.flatMap f).set (i * 7 + j) u = (L.set i s).flatMap f := by
 induction L generalizing i with
 | nil => simp at hi
 | cons a L ih =>
  rw [List.flatMap_cons]
  cases i with
  | zero =>
   rw [List.set_append_left _ _ (by rw [hf]; omega), List.set_cons_zero, List.flatMap_cons, hs]
   simp
  | succ i =>
   rw [List.set_append_right _ _ (by rw [hf]; omega), hf, show (i + 1) * 7 + j - 7 = i * 7 + j by omega, ih i (by simpa using hi) (by simpa using hs), List.set_cons_succ, List.flatMap_cons]
structure RS where
 w : Nat
 n : Nd
def RS.cells (s : RS) : List Value := [.int .u64 (s.w : Nat), .int .i64 s.n.lv, s.n.hi.v, .int .i64 s.n.ri, s.n.ks.v, s.n.vs.v, s.n.cs.v]
theorem RS.cells_len (s : RS) : s.cells.length = 7 := rfl
structure RS.Ok (W : World) (D : Nat → Prop) (s : RS) : Prop where
 n : s.n.Ok W
 d : s.n.In D
 w : s.w < 18446744073709551616
structure RA (W : World) (A g c : Nat) (M D : Nat → Prop) (nodes root : Int) (L : List RS) : Prop where
 a : W.heap[A]? = some (.cells #[.int .i64 nodes, .slice (some ⟨g, 0, none⟩) L.length c, .int .i64 root] 121 (0, 0))
 row : W.ownsRow 0 118 7 (.slice (some ⟨g, 0, none⟩) L.length c) L.length (L.flatMap RS.cells)
 mg : M g
 mA : M A
 lt : ∀ k, M k ∨ D k → k < W.heap.size
 dj : ∀ k, M k → ¬ D k
 sl : ∀ s ∈ L, s.Ok W D
 one : 1 ≤ L.length
 le : (L.length : Int) ≤ nodes
 nz : nodes ≤ 65536
theorem owns_blkN {w w' : World} {base : Nat} {e : TypeId} {size : Nat} {v : Value} {n : Nat} {xs : List Value} (h : w.ownsRow base e size v n xs) (hb : ∀ k, v.ownBlock = some k → w'.heap[k]? = w.heap[k]?) : w'.ownsRow base e size v n xs := by
 refine ⟨h.1, ?_⟩
 rcases h.2 with h | ⟨g, cap, cur, hv, hg, hh, r⟩
 ·exact .inl h
 ·exact .inr ⟨g, cap, cur, hv, hg, by rw [hb g (by rw [hv]; rfl)]; exact hh, r⟩
section
variable {W W' : World} {A g c : Nat} {M D : Nat → Prop} {nodes root : Int} {L : List RS}
theorem RA.blk (h : RA W A g c M D nodes root L) : ∃ cur, W.heap[g]? = some (.cells cur 118 (0, 0)) ∧ L.length ≤ c ∧ c ≤ maxLen ∧ cur.size = c * 7 ∧ cur.toList.take (L.length * 7) = L.flatMap RS.cells := by
 rcases h.row.2 with ⟨hv, _⟩ | ⟨g', c', cur, hv, hb, hh, h1, h2, h3, h4⟩
 ·cases hv
 ·cases hv; exact ⟨cur, hh, h1, h2, h3, h4⟩
theorem RA.ne (h : RA W A g c M D nodes root L) : g ≠ A := by
 intro e
 obtain ⟨cur, hh, _⟩ := h.blk
 rw [e, h.a] at hh
 simp at hh
theorem RS.Ok.upd {S : Nat → Prop} {s : RS} (h : s.Ok W D) (hb : Upd S W W') (hs : ∀ k, D k → ¬ S k) : s.Ok W' D := ⟨h.n.upd h.d hb hs, h.d, h.w⟩
theorem RA.upd {S : Nat → Prop} (h : RA W A g c M D nodes root L) (hb : Upd S W W') (hs : ∀ k, M k ∨ D k → ¬ S k) : RA W' A g c M D nodes root L := by
 refine ⟨hb.heap h.a (hs _ (.inl h.mA)), owns_blkN h.row (fun k hk => ?_), h.mg, h.mA, fun k hk => Nat.lt_of_lt_of_le (h.lt k hk) hb.size, h.dj, fun s hs' => (h.sl s hs').upd hb (fun k hk => hs k (.inr hk)), h.one, h.le, h.nz⟩
 cases hk
 exact hb.block _ (h.lt _ (.inl h.mg)) (hs _ (.inl h.mg))
theorem RA.below (h : RA W A g c M D nodes root L) (hb : Below W.heap.size W W') : RA W' A g c M D nodes root L :=
 h.upd (S := Noth) (Upd.of_below hb _) (fun _ _ e => e)
theorem RA.drewN (h : RA W A g c M D nodes root L) (m : Nat) : RA (W.drewN m) A g c M D nodes root L :=
 h.upd (S := Noth) ⟨rfl, rfl, rfl, Nat.le_refl _, fun _ _ _ => rfl⟩ (fun _ _ e => e)
theorem RA.n_le (h : RA W A g c M D nodes root L) : L.length ≤ 65536 := by have := h.le; have := h.nz; omega
theorem RA.cells (h : RA W A g c M D nodes root L) : W.cell? ⟨A, 0, none⟩ = some (.int .i64 nodes) ∧ W.cell? ⟨A, 1, none⟩ = some (.slice (some ⟨g, 0, none⟩) L.length c) ∧ W.cell? ⟨A, 2, none⟩ = some (.int .i64 root) :=
 ⟨by rw [cell_of_row _ _ _ _ _ _ h.a]; rfl, by rw [cell_of_row _ _ _ _ _ _ h.a]; rfl, by rw [cell_of_row _ _ _ _ _ _ h.a]; rfl⟩
theorem RA.at_ (h : RA W A g c M D nodes root L) (i : Nat) (hi : i < L.length) (j : Nat) (hj : j < 7) : W.cell? ⟨g, i * 7 + j, none⟩ = L[i].cells[j]? := by
 obtain ⟨cur, hh, _, _, h3, h4⟩ := h.blk
 rw [cell_of_row _ _ _ _ _ _ hh, ← Array.getElem?_toList, ← flat_get RS.cells RS.cells_len L i j hi hj, ← h4, List.getElem?_take, if_pos (by omega)]
theorem RA.wat (h : RA W A g c M D nodes root L) (i : Nat) (hi : i < L.length) : W.cell? ⟨g, i * 7, none⟩ = some (.int .u64 (L[i].w : Nat)) := h.at_ i hi 0 (by omega)
theorem RA.frozen (h : RA W A g c M D nodes root L) (j : Nat) : W.frozen? ⟨g, j, none⟩ = false := by
 obtain ⟨cur, hh, _⟩ := h.blk
 exact frozen_of hh j
theorem row7_set {W : World} {g c n : Nat} {L : List RS} (h : W.ownsRow 0 118 7 (.slice (some ⟨g, 0, none⟩) n c) n (L.flatMap RS.cells)) (i : Nat) (hi : i < L.length) (j : Nat) (hj : j < 7) (u : Value) (s : RS) (hs : s.cells = (L[i].cells).set j u) :
  (W.setCell ⟨g, i * 7 + j, none⟩ u).ownsRow 0 118 7 (.slice (some ⟨g, 0, none⟩) n c) n ((L.set i s).flatMap RS.cells) := by
 refine ⟨?_, ?_⟩
 ·have := h.1
  rw [flat_len RS.cells RS.cells_len] at this ⊢
  rw [List.length_set]; exact this
 ·rcases h.2 with ⟨hv, _⟩ | ⟨g', c', cur, hv, hb, hh, h1, h2, h3, h4⟩
  ·cases hv
  ·cases hv
   refine .inr ⟨g, c, cur.setIfInBounds (i * 7 + j) u, rfl, hb, block_setCell hh _ _, h1, h2, by rw [Array.size_setIfInBounds]; exact h3, ?_⟩
   rw [← flat_set RS.cells RS.cells_len L i j hi hj u s hs, ← h4, Array.toList_setIfInBounds, List.take_set]
theorem RA.put {W1 : World} {D' : Nat → Prop} (h : RA W A g c M D nodes root L) {i : Nat} (s : RS) (hu : Upd (fun k => k = g) W W1)
  (hr : W1.ownsRow 0 118 7 (.slice (some ⟨g, 0, none⟩) L.length c) L.length ((L.set i s).flatMap RS.cells))
  (hD : ∀ k, D k → D' k) (hlt : ∀ k, D' k → k < W1.heap.size) (hdj : ∀ k, M k → ¬ D' k) (hok : s.Ok W1 D') : RA W1 A g c M D' nodes root (L.set i s) := by
 refine ⟨by rw [List.length_set]; exact hu.heap h.a (fun e => h.ne e.symm), by rw [List.length_set]; exact hr, h.mg, h.mA, ?_, hdj, ?_, by rw [List.length_set]; exact h.one, by rw [List.length_set]; exact h.le, h.nz⟩
 ·intro k hk
  rcases hk with hk | hk
  ·exact Nat.lt_of_lt_of_le (h.lt k (.inl hk)) hu.size
  ·exact hlt k hk
 ·intro t ht
  obtain ⟨j, hj, rfl⟩ := List.mem_iff_getElem.1 ht
  rw [List.length_set] at hj
  by_cases hij : i = j
  ·subst hij; rw [List.getElem_set_self]; exact hok
  ·rw [List.getElem_set_ne hij]
   have ho := h.sl L[j] (List.getElem_mem hj)
   exact ⟨ho.n.upd ho.d hu (fun k hk e => h.dj g h.mg (by rw [← e]; exact hk)), ho.d.mono hD, ho.w⟩
theorem RA.setW (h : RA W A g c M D nodes root L) (i : Nat) (hi : i < L.length) (x : Nat) (hx : x < 18446744073709551616) :
  RA (W.setCell ⟨g, i * 7, none⟩ (.int .u64 (x : Nat))) A g c M D nodes root (L.set i ⟨x, L[i].n⟩) := by
 have hu : Upd (fun k => k = g) W (W.setCell ⟨g, i * 7, none⟩ (.int .u64 (x : Nat))) := (Upd.refl _ _).setCell _ _ (fun _ => rfl)
 have ho := h.sl L[i] (List.getElem_mem hi)
 have hr := row7_set h.row i hi 0 (by omega) (.int .u64 (x : Nat)) ⟨x, L[i].n⟩ rfl
 exact h.put ⟨x, L[i].n⟩ hu hr (fun k hk => hk) (fun k hk => Nat.lt_of_lt_of_le (h.lt k (.inr hk)) hu.size) h.dj ⟨ho.n.upd ho.d hu (fun k hk e => h.dj g h.mg (by rw [← e]; exact hk)), ho.d, hx⟩
theorem RA.setR (h : RA W A g c M D nodes root L) (r : Int) : RA (W.setCell ⟨A, 2, none⟩ (.int .i64 r)) A g c M D nodes r L := by
 have hu : Upd (fun k => k = A) W (W.setCell ⟨A, 2, none⟩ (.int .i64 r)) := (Upd.refl _ _).setCell _ _ (fun _ => rfl)
 refine ⟨block_setCell h.a 2 _, owns_blkN h.row (fun k hk => ?_), h.mg, h.mA, fun k hk => Nat.lt_of_lt_of_le (h.lt k hk) hu.size, h.dj, fun s hs => (h.sl s hs).upd hu (fun k hk e => h.dj A h.mA (by rw [← e]; exact hk)), h.one, h.le, h.nz⟩
 cases hk
 exact hu.block _ (h.lt _ (.inl h.mg)) h.ne
theorem RA.push {W5 : World} {g' c' : Nat} {s : RS} (h : RA W A g c M D nodes root L) (hn : (L.length : Int) < nodes) (hu : Upd M W W5)
  (hA : W5.heap[A]? = some (.cells #[.int .i64 nodes, .slice (some ⟨g', 0, none⟩) (L.length + 1) c', .int .i64 root] 121 (0, 0)))
  (ho : W5.ownsRow 0 118 7 (.slice (some ⟨g', 0, none⟩) (L.length + 1) c') (L.length + 1) (L.flatMap RS.cells ++ s.cells)) (hg : M g' ∨ W.heap.size ≤ g') (hok : s.Ok W5 D) :
  RA W5 A g' c' (fun k => M k ∨ (W.heap.size ≤ k ∧ k < W5.heap.size)) D nodes root (L ++ [s]) := by
 have hgl : g' < W5.heap.size := (ho.lt g' rfl).2
 have hl : (L ++ [s]).length = L.length + 1 := by simp
 refine ⟨by rw [hl]; exact hA, ?_, ?_, .inl h.mA, ?_, ?_, ?_, by rw [hl]; omega, by rw [hl]; omega, h.nz⟩
 ·rw [hl, List.flatMap_append, List.flatMap_singleton]; exact ho
 ·rcases hg with hg | hg
  ·exact .inl hg
  ·exact .inr ⟨hg, hgl⟩
 ·intro k hk
  rcases hk with (hk | hk) | hk
  ·exact Nat.lt_of_lt_of_le (h.lt k (.inl hk)) hu.size
  ·exact hk.2
  ·exact Nat.lt_of_lt_of_le (h.lt k (.inr hk)) hu.size
 ·intro k hk hd
  rcases hk with hk | hk
  ·exact h.dj k hk hd
  ·have := h.lt k (.inr hd); omega
 ·intro t ht
  rcases List.mem_append.1 ht with ht | ht
  ·exact (h.sl t ht).upd hu (fun k hk e => h.dj k e hk)
  ·obtain rfl := List.mem_singleton.1 ht
   exact hok
end
def ndsR (L : List RS) : List (Nat × NP) := L.map fun s => (s.w, s.n.p)
theorem ndsR_len (L : List RS) : (ndsR L).length = L.length := by simp [ndsR]
end Go.Proofs.YtpljbgcofmlhbaaGreat
namespace Go.Proofs.YtpljbgcofmlhbaaGreat
open Go.RowKit
set_option maxRecDepth 100000
section
variable {W : World} {A g c : Nat} {M D : Nat → Prop} {nodes root : Int} {L : List RS}
set_option maxHeartbeats 400000 in
theorem rused_any (h : RA W A g c M D nodes root L) : Calls Tryz.prog 52 #[.pointer (some ⟨A, 0, none⟩)] W fun e w' => e = .returned (.int .i64 (L.length : Nat)) ∧ w' = W := by
 obtain ⟨c0, c1, c2⟩ := h.cells
 clear h
 generalize L.length = n at *
 go_enter Tryz.func52, Tryz.ntmps52
 go_wp2
 go_ret
 exact ⟨rfl, rfl⟩
set_option maxHeartbeats 400000 in
theorem rroot_any (h : RA W A g c M D nodes root L) : Calls Tryz.prog 59 #[.pointer (some ⟨A, 0, none⟩)] W fun e w' => e = .returned (.int .i64 root) ∧ w' = W := by
 obtain ⟨c0, c1, c2⟩ := h.cells
 clear h
 go_enter Tryz.func59, Tryz.ntmps59
 go_wp2
 go_ret
 exact ⟨rfl, rfl⟩
set_option maxHeartbeats 800000 in
theorem rleft_any (h : RA W A g c M D nodes root L) : Calls Tryz.prog 58 #[.pointer (some ⟨A, 0, none⟩)] W fun e w' => e = .returned (.int .i64 (nodes - (L.length : Nat))) ∧ ∃ k, w' = W.drewN k := by
 obtain ⟨c0, c1, c2⟩ := h.cells
 have h1 := h.le
 have h2 := h.nz
 clear h
 generalize L.length = n at *
 have j0 : -65536 ≤ nodes - (n : Int) := by omega
 have j1 : nodes - (n : Int) ≤ 65536 := by omega
 go_enter Tryz.func58, Tryz.ntmps58
 go_wp2_with fail
 go_quiet (fail)
 go_wp2
 go_ret
 exact ⟨rfl, _, rfl⟩
set_option maxHeartbeats 800000 in
theorem there_any (h : RA W A g c M D nodes root L) (id : Int) : Calls Tryz.prog 138 #[.pointer (some ⟨A, 0, none⟩), .int .i64 id] W fun e w' => e = .returned (.bool (decide (1 ≤ id ∧ id ≤ (L.length : Nat)))) ∧ w' = W := by
 obtain ⟨c0, c1, c2⟩ := h.cells
 clear h
 generalize L.length = n at *
 by_cases h1 : 1 ≤ id
 ·by_cases h2 : id ≤ (n : Int)
  ·rw [decide_eq_true ⟨h1, h2⟩]
   go_enter Tryz.func138, Tryz.ntmps138
   go_wp2
   go_ret
   exact ⟨rfl, rfl⟩
  ·rw [decide_eq_false (fun h => h2 h.2)]
   have h3 : (n : Int) < id := by omega
   go_enter Tryz.func138, Tryz.ntmps138
   go_wp2
   go_ret
   exact ⟨rfl, rfl⟩
 ·rw [decide_eq_false (fun h => h1 h.1)]
  have h3 : id < 1 := by omega
  go_enter Tryz.func138, Tryz.ntmps138
  go_wp2
  go_ret
  exact ⟨rfl, rfl⟩
theorem there_yes (h : RA W A g c M D nodes root L) (i : Nat) (hi : i < L.length) : Calls Tryz.prog 138 #[.pointer (some ⟨A, 0, none⟩), .int .i64 ((i : Int) + 1)] W fun e w' => e = .returned (.bool true) ∧ w' = W := by
 have := there_any h ((i : Int) + 1)
 rwa [decide_eq_true (by omega)] at this
theorem there_no (h : RA W A g c M D nodes root L) (id : Int) (hi : ¬ (1 ≤ id ∧ id ≤ (L.length : Nat))) : Calls Tryz.prog 138 #[.pointer (some ⟨A, 0, none⟩), .int .i64 id] W fun e w' => e = .returned (.bool false) ∧ w' = W := by
 have := there_any h id
 rwa [decide_eq_false hi] at this
set_option maxHeartbeats 800000 in
theorem rword_any (h : RA W A g c M D nodes root L) (i : Nat) (hi : i < L.length) :
  Calls Tryz.prog 98 #[.pointer (some ⟨A, 0, none⟩), .int .i64 ((i : Int) + 1)] W fun e w' => e = .returned (.tuple #[.int .u64 (L[i].w : Nat), .int .i64 0]) ∧ w' = W := by
 have HT := hide (there_yes h i hi)
 obtain ⟨c0, c1, c2⟩ := h.cells
 have cw := h.wat i hi
 have hn := h.n_le
 generalize L[i].w = x at *
 clear h
 generalize L.length = n at *
 have j4 : (i : Int) < (n : Int) := by omega
 obtain ⟨id, hid⟩ : ∃ id, id = (i : Int) + 1 := ⟨_, rfl⟩
 rw [← hid] at HT ⊢
 have j3 : id - 1 = (i : Int) := by omega
 have j5 : id ≤ 65536 := by omega
 have j6 : 1 ≤ id := by omega
 clear hid
 go_enter Tryz.func98, Tryz.ntmps98
 go_wp2_with fail
 refine keep HT.out ?_
 go_wp2_with fail
 go_ret2
 exact ⟨rfl, rfl⟩
set_option maxHeartbeats 800000 in
theorem rword_none (h : RA W A g c M D nodes root L) (id : Int) (hi : ¬ (1 ≤ id ∧ id ≤ (L.length : Nat))) :
  Calls Tryz.prog 98 #[.pointer (some ⟨A, 0, none⟩), .int .i64 id] W fun e w' => e = .returned (.tuple #[.int .u64 0, .int .i64 101]) ∧ w' = W := by
 have HT := hide (there_no h id hi)
 clear h hi
 go_enter Tryz.func98, Tryz.ntmps98
 go_wp2_with fail
 refine keep HT.out ?_
 go_wp2_with fail
 go_ret2
 exact ⟨rfl, rfl⟩
theorem tmod2 (x : Nat) : Int.tmod (x : Int) 2 = ((x % 2 : Nat) : Int) := by
 rw [Int.tmod_eq_emod_of_nonneg (by omega)]; omega
set_option maxHeartbeats 800000 in
theorem rlock_none (h : RA W A g c M D nodes root L) (id x : Int) (hi : ¬ (1 ≤ id ∧ id ≤ (L.length : Nat))) :
  Calls Tryz.prog 139 #[.pointer (some ⟨A, 0, none⟩), .int .i64 id, .int .u64 x] W fun e w' => e = .returned (.tuple #[.bool false, .int .i64 101]) ∧ w' = W := by
 have HT := hide (there_no h id hi)
 clear h hi
 go_enter Tryz.func139, Tryz.ntmps139
 go_wp2_with fail
 refine keep HT.out ?_
 go_wp2_with fail
 go_ret2
 exact ⟨rfl, rfl⟩
set_option maxHeartbeats 1600000 in
theorem rlock_hit (h : RA W A g c M D nodes root L) (i : Nat) (hi : i < L.length) (he : L[i].w % 2 = 0) :
  Calls Tryz.prog 139 #[.pointer (some ⟨A, 0, none⟩), .int .i64 ((i : Int) + 1), .int .u64 (L[i].w : Nat)] W fun e w' => e = .returned (.tuple #[.bool true, .int .i64 0]) ∧ w' = W.setCell ⟨g, i * 7, none⟩ (.int .u64 ((L[i].w + 1 : Nat) : Int)) := by
 have HT := hide (there_yes h i hi)
 obtain ⟨c0, c1, c2⟩ := h.cells
 have cw := h.wat i hi
 have fz := h.frozen (i * 7)
 have hx := (h.sl L[i] (List.getElem_mem hi)).w
 have hn := h.n_le
 generalize L[i].w = x at *
 clear h
 generalize L.length = n at *
 have j4 : (i : Int) < (n : Int) := by omega
 obtain ⟨id, hid⟩ : ∃ id, id = (i : Int) + 1 := ⟨_, rfl⟩
 rw [← hid] at HT ⊢
 have j3 : id - 1 = (i : Int) := by omega
 have j5 : id ≤ 65536 := by omega
 have j6 : 1 ≤ id := by omega
 obtain ⟨y, hy⟩ : ∃ y : Int, y = (x : Int) := ⟨_, rfl⟩
 rw [show ((x + 1 : Nat) : Int) = y + 1 by omega]
 rw [← hy] at cw ⊢
 have k0 : 0 ≤ y := by omega
 have k1 : y + 1 < 18446744073709551616 := by omega
 have k2 : y % 2 = 0 := by omega
 clear hid hy he hx
 go_enter Tryz.func139, Tryz.ntmps139
 go_wp2_with fail
 refine keep HT.out ?_
 go_wp2_with fail
 go_ret2
 exact ⟨rfl, by go_num⟩
set_option maxHeartbeats 1600000 in
theorem rlock_miss (h : RA W A g c M D nodes root L) (i : Nat) (hi : i < L.length) (x : Nat) (hx : x < 18446744073709551616) (hne : ¬ (L[i].w = x ∧ x % 2 = 0)) :
  Calls Tryz.prog 139 #[.pointer (some ⟨A, 0, none⟩), .int .i64 ((i : Int) + 1), .int .u64 (x : Nat)] W fun e w' => e = .returned (.tuple #[.bool false, .int .i64 0]) ∧ w' = W := by
 have HT := hide (there_yes h i hi)
 obtain ⟨c0, c1, c2⟩ := h.cells
 have cw := h.wat i hi
 have hn := h.n_le
 generalize L[i].w = x0 at *
 clear h
 generalize L.length = n at *
 have j4 : (i : Int) < (n : Int) := by omega
 obtain ⟨id, hid⟩ : ∃ id, id = (i : Int) + 1 := ⟨_, rfl⟩
 rw [← hid] at HT ⊢
 have j3 : id - 1 = (i : Int) := by omega
 have j5 : id ≤ 65536 := by omega
 have j6 : 1 ≤ id := by omega
 obtain ⟨y, hy⟩ : ∃ y : Int, y = (x : Int) := ⟨_, rfl⟩
 obtain ⟨z, hz⟩ : ∃ z : Int, z = (x0 : Int) := ⟨_, rfl⟩
 rw [← hy]
 rw [← hz] at cw
 by_cases hq : z = y
 ·have k2 : y % 2 = 1 := by have : ¬ x % 2 = 0 := fun e => hne ⟨by omega, e⟩; omega
  have k0 : 0 ≤ y := by omega
  subst hq
  clear hid hy hz hne hx
  go_enter Tryz.func139, Tryz.ntmps139
  go_wp2_with fail
  refine keep HT.out ?_
  go_wp2_with fail
  go_ret2
  exact ⟨rfl, rfl⟩
 ·clear hid hy hz hne hx
  go_enter Tryz.func139, Tryz.ntmps139
  go_wp2_with fail
  refine keep HT.out ?_
  go_wp2_with fail
  go_ret2
  exact ⟨rfl, rfl⟩
def heE (L : List RS) (id : Int) : Int := if 1 ≤ id ∧ id ≤ (L.length : Nat) then (if (L[(id - 1).toNat]?.map RS.w).getD 0 % 2 = 0 then 102 else 0) else 101
theorem heE_at (L : List RS) (i : Nat) (hi : i < L.length) : heE L ((i : Int) + 1) = if L[i].w % 2 = 0 then 102 else 0 := by
 unfold heE
 rw [if_pos (by omega), show ((i : Int) + 1 - 1).toNat = i by omega, List.getElem?_eq_getElem hi]
 rfl
set_option maxHeartbeats 1600000 in
theorem rheld_any (h : RA W A g c M D nodes root L) (id : Int) :
  Calls Tryz.prog 140 #[.pointer (some ⟨A, 0, none⟩), .int .i64 id] W fun e w' => e = .returned (.int .i64 (heE L id)) ∧ w' = W := by
 by_cases hin : 1 ≤ id ∧ id ≤ (L.length : Nat)
 ·obtain ⟨i, hid⟩ : ∃ i : Nat, id = (i : Int) + 1 := ⟨(id - 1).toNat, by omega⟩
  have hi : i < L.length := by omega
  rw [hid, heE_at L i hi, ← hid]
  have HT := hide (there_yes h i hi)
  rw [← hid] at HT
  obtain ⟨c0, c1, c2⟩ := h.cells
  have cw := h.wat i hi
  have hn := h.n_le
  generalize L[i].w = x at *
  clear h
  generalize L.length = n at *
  have j4 : (i : Int) < (n : Int) := by omega
  have j3 : id - 1 = (i : Int) := by omega
  have j5 : id ≤ 65536 := by omega
  have j6 : 1 ≤ id := by omega
  obtain ⟨y, hy⟩ : ∃ y : Int, y = (x : Int) := ⟨_, rfl⟩
  rw [← hy] at cw
  have k0 : 0 ≤ y := by omega
  clear hid hin
  by_cases hx : x % 2 = 0
  ·rw [if_pos hx]
   have k1 : y % 2 = 0 := by omega
   clear hx hy
   go_enter Tryz.func140, Tryz.ntmps140
   go_wp2_with fail
   refine keep HT.out ?_
   go_wp2_with fail
   go_ret
   exact ⟨rfl, rfl⟩
  ·rw [if_neg hx]
   have k1 : y % 2 = 1 := by omega
   clear hx hy
   go_enter Tryz.func140, Tryz.ntmps140
   go_wp2_with fail
   refine keep HT.out ?_
   go_wp2_with fail
   go_ret
   exact ⟨rfl, rfl⟩
 ·rw [show heE L id = 101 from if_neg hin]
  have HT := hide (there_no h id hin)
  clear h hin
  go_enter Tryz.func140, Tryz.ntmps140
  go_wp2_with fail
  refine keep HT.out ?_
  go_wp2_with fail
  go_ret
  exact ⟨rfl, rfl⟩
end
end Go.Proofs.YtpljbgcofmlhbaaGreat
namespace Go.Proofs.YtpljbgcofmlhbaaGreat
open Go.RowKit
set_option maxRecDepth 100000
section
variable {W : World} {A g c : Nat} {M D : Nat → Prop} {nodes root : Int} {L : List RS}
set_option maxHeartbeats 800000 in
theorem runlock_not (h : RA W A g c M D nodes root L) (id : Int) (ch : Bool) (hne : heE L id ≠ 0) :
  Calls Tryz.prog 100 #[.pointer (some ⟨A, 0, none⟩), .int .i64 id, .bool ch] W fun e w' => e = .returned (.int .i64 (heE L id)) ∧ w' = W := by
 have HT := hide (rheld_any h id)
 clear h
 generalize heE L id = er at *
 go_enter Tryz.func100, Tryz.ntmps100
 go_wp2_with fail
 refine keep HT.out ?_
 go_wp2_with fail
 go_ret
 exact ⟨rfl, rfl⟩
set_option maxHeartbeats 1600000 in
theorem runlock_held (h : RA W A g c M D nodes root L) (i : Nat) (hi : i < L.length) (ch : Bool) (he : L[i].w % 2 = 1) :
  Calls Tryz.prog 100 #[.pointer (some ⟨A, 0, none⟩), .int .i64 ((i : Int) + 1), .bool ch] W fun e w' => e = .returned (.int .i64 0) ∧ w' = W.setCell ⟨g, i * 7, none⟩ (.int .u64 ((freeW L[i].w ch : Nat) : Int)) := by
 have HT := hide (rheld_any h ((i : Int) + 1))
 rw [heE_at L i hi, if_neg (by omega)] at HT
 obtain ⟨c0, c1, c2⟩ := h.cells
 have cw := h.wat i hi
 have fz := h.frozen (i * 7)
 have hx := (h.sl L[i] (List.getElem_mem hi)).w
 have hn := h.n_le
 generalize L[i].w = x at *
 clear h
 generalize L.length = n at *
 have j4 : (i : Int) < (n : Int) := by omega
 obtain ⟨id, hid⟩ : ∃ id, id = (i : Int) + 1 := ⟨_, rfl⟩
 rw [← hid] at HT ⊢
 have j3 : id - 1 = (i : Int) := by omega
 have j5 : id ≤ 65536 := by omega
 have j6 : 1 ≤ id := by omega
 obtain ⟨y, hy⟩ : ∃ y : Int, y = (x : Int) := ⟨_, rfl⟩
 rw [← hy] at cw
 cases ch with
 | true =>
  have HV : Hid (((freeW x true : Nat) : Int) = IntKind.u64.wrap (y + 1)) := by
   show _ = _
   rw [IntKind.wrap_u64]
   unfold freeW
   simp only [if_true]
   omega
  rw [HV.out]
  clear hid hy he hx HV
  go_enter Tryz.func100, Tryz.ntmps100
  go_wp2_with fail
  refine keep HT.out ?_
  go_wp2_with fail
  go_ret
  exact ⟨rfl, by first | rfl | (simp only [IntKind.wrap_u64])⟩
 | false =>
  have HV : Hid (((freeW x false : Nat) : Int) = y - 1) := by
   show _ = _
   unfold freeW
   rw [if_neg (by decide)]
   omega
  rw [HV.out]
  have k0 : 1 ≤ y := by omega
  have k1 : y < 18446744073709551616 := by omega
  clear hid hy he hx HV
  go_enter Tryz.func100, Tryz.ntmps100
  go_wp2_with fail
  refine keep HT.out ?_
  go_wp2_with fail
  go_ret
  exact ⟨rfl, by go_num⟩
set_option maxHeartbeats 800000 in
theorem rgrow_none (h : RA W A g c M D nodes root L) (old id : Int) (hi : ¬ (1 ≤ id ∧ id ≤ (L.length : Nat))) :
  Calls Tryz.prog 105 #[.pointer (some ⟨A, 0, none⟩), .int .i64 old, .int .i64 id] W fun e w' => e = .returned (.tuple #[.bool false, .int .i64 101]) ∧ w' = W := by
 have HT := hide (there_no h id hi)
 clear h hi
 go_enter Tryz.func105, Tryz.ntmps105
 go_wp2_with fail
 refine keep HT.out ?_
 go_wp2_with fail
 go_ret2
 exact ⟨rfl, rfl⟩
set_option maxHeartbeats 800000 in
theorem rgrow_no (h : RA W A g c M D nodes root L) (old id : Int) (hi : 1 ≤ id ∧ id ≤ (L.length : Nat)) (hr : ¬ root = old) :
  Calls Tryz.prog 105 #[.pointer (some ⟨A, 0, none⟩), .int .i64 old, .int .i64 id] W fun e w' => e = .returned (.tuple #[.bool false, .int .i64 0]) ∧ w' = W := by
 have HT := hide (there_any h id)
 rw [decide_eq_true hi] at HT
 obtain ⟨c0, c1, c2⟩ := h.cells
 clear h hi
 go_enter Tryz.func105, Tryz.ntmps105
 go_wp2_with fail
 refine keep HT.out ?_
 go_wp2_with fail
 go_ret2
 exact ⟨rfl, rfl⟩
set_option maxHeartbeats 800000 in
theorem rgrow_yes (h : RA W A g c M D nodes root L) (id : Int) (hi : 1 ≤ id ∧ id ≤ (L.length : Nat)) :
  Calls Tryz.prog 105 #[.pointer (some ⟨A, 0, none⟩), .int .i64 root, .int .i64 id] W fun e w' => e = .returned (.tuple #[.bool true, .int .i64 0]) ∧ w' = W.setCell ⟨A, 2, none⟩ (.int .i64 id) := by
 have HT := hide (there_any h id)
 rw [decide_eq_true hi] at HT
 obtain ⟨c0, c1, c2⟩ := h.cells
 have f2 := frozen_of h.a 2
 clear h hi
 go_enter Tryz.func105, Tryz.ntmps105
 go_wp2_with fail
 refine keep HT.out ?_
 go_wp2_with fail
 go_ret2
 exact ⟨rfl, rfl⟩
end
set_option maxHeartbeats 800000 in
theorem rnew_bad (nodes : Int) (w : World) (h : ¬ (1 ≤ nodes ∧ nodes ≤ 65536)) : Calls Tryz.prog 51 #[.int .i64 nodes] w fun e w' => e = .returned (.tuple #[.pointer none, .int .i64 1]) ∧ w' = w := by
 by_cases h1 : nodes < 1
 ·clear h
  go_enter Tryz.func51, Tryz.ntmps51
  go_wp2_with fail
  go_ret2
  exact ⟨rfl, rfl⟩
 ·have h2 : 65536 < nodes := by omega
  clear h
  go_enter Tryz.func51, Tryz.ntmps51
  go_wp2_with fail
  go_ret2
  exact ⟨rfl, rfl⟩
def RNewPost (w : World) (nodes : Int) (e : Ending) (w' : World) : Prop :=
 ∃ A g c M, e = .returned (.tuple #[.pointer (some ⟨A, 0, none⟩), .int .i64 0]) ∧ RA w' A g c M Noth nodes 1 [⟨0, Nd.zero⟩] ∧ (∀ k, M k → w.heap.size ≤ k) ∧ Below w.heap.size w w'
set_option maxHeartbeats 800000 in
theorem rnew_good (nodes : Int) (w : World) (h1 : 1 ≤ nodes) (h2 : nodes ≤ 65536) : Calls Tryz.prog 51 #[.int .i64 nodes] w (RNewPost w nodes) := by
 have j1 : ¬ nodes < 1 := by omega
 have j2 : ¬ 65536 < nodes := by omega
 obtain ⟨w1, hw1⟩ : ∃ w1, w1 = w.alloc (.cells #[.int .u64 0, .int .i64 0, .slice none 0 0, .int .i64 0, .slice none 0 0, .slice none 0 0, .slice none 0 0] 118) := ⟨_, rfl⟩
 obtain ⟨w3, hw3⟩ : ∃ w3, w3 = w1.alloc (.cells #[.int .i64 nodes, .slice (some ⟨w.heap.size, 0, none⟩) 1 1, .int .i64 1] 121) := ⟨_, rfl⟩
 have s1 : w1.heap.size = w.heap.size + 1 := by rw [hw1]; simp
 have s3 : w3.heap.size = w.heap.size + 2 := by rw [hw3]; simp [s1]
 have a1 : w3.heap[w.heap.size]? = some (.cells #[.int .u64 0, .int .i64 0, .slice none 0 0, .int .i64 0, .slice none 0 0, .slice none 0 0, .slice none 0 0] 118 (0, 0)) := by
  rw [hw3, Below.heap_alloc _ _ _ (by omega), hw1]; exact heap_alloc_new w _
 have a3 : w3.heap[w.heap.size + 1]? = some (.cells #[.int .i64 nodes, .slice (some ⟨w.heap.size, 0, none⟩) 1 1, .int .i64 1] 121 (0, 0)) := by
  rw [hw3, ← s1]; exact heap_alloc_new w1 _
 have B : Below w.heap.size w w3 := by
  rw [hw3, hw1]
  exact ((Below.refl _ _).alloc (Nat.le_refl _) _).alloc (by simp) _
 have HP : Hid (RNewPost w nodes (.returned (.tuple #[.pointer (some ⟨w.heap.size + 1, 0, none⟩), .int .i64 0])) w3) := by
  refine ⟨w.heap.size + 1, w.heap.size, 1, fun k => w.heap.size ≤ k ∧ k < w.heap.size + 2, rfl, ⟨a3, ⟨rfl, .inr ⟨w.heap.size, 1, _, rfl, Nat.zero_le _, a1, Nat.le_refl _, by unfold maxLen; omega, rfl, rfl⟩⟩, ⟨by omega, by omega⟩, ⟨by omega, by omega⟩, ?_, fun k _ e => e, ?_, Nat.le_refl _, h1, h2⟩, fun k hk => hk.1, B⟩
  ·intro k hk
   rcases hk with hk | hk
   ·omega
   ·exact hk.elim
  ·intro s hs
   obtain rfl := List.mem_singleton.1 hs
   exact ⟨Nd.zero_ok _, Nd.zero_in _, by simp only; decide⟩
 have HW : Hid (w3 = (w.alloc (.cells #[.int .u64 0, .int .i64 0, .slice none 0 0, .int .i64 0, .slice none 0 0, .slice none 0 0, .slice none 0 0] 118)).alloc (.cells #[.int .i64 nodes, .slice (some ⟨w.heap.size, 0, none⟩) 1 1, .int .i64 1] 121)) := by
  show _ = _
  rw [hw3, hw1]
 clear s1 s3 a1 a3 B hw1 hw3 h1 h2
 go_enter Tryz.func51, Tryz.ntmps51
 go_wp2_with fail
 go_ret2
 rw [← HW.out]
 exact HP.out
section
variable {W : World} {A g c : Nat} {M D : Nat → Prop} {nodes root : Int} {L : List RS}
def RAlPost (w : World) (A : Nat) (M D : Nat → Prop) (nodes root : Int) (L : List RS) (e : Ending) (w' : World) : Prop :=
 ∃ g' c' M', e = .returned (.tuple #[.int .i64 ((L.length : Int) + 1), .int .i64 0]) ∧ RA w' A g' c' M' D nodes root (L ++ [⟨1, Nd.zero⟩]) ∧ (∀ k, M' k → M k ∨ w.heap.size ≤ k) ∧ Upd M w w'
theorem infoR' : (Tryz.prog.info? 118).map (fun i => (i.zero, i.size, i.bytes)) = some (some (.agg #[.int .u64 0, .int .i64 0, .slice none 0 0, .int .i64 0, .slice none 0 0, .slice none 0 0, .slice none 0 0]), 7, 120) := by kernel_rfl
theorem seven_new (w : World) (a0 a1 a2 a3 a4 a5 a6 : Value) (T : TypeId) : ∀ j u, [a0, a1, a2, a3, a4, a5, a6][j]? = some u → (w.alloc (.cells #[a0, a1, a2, a3, a4, a5, a6] T)).cell? ((⟨w.heap.size, 0, none⟩ : Addr).add j) = some u := by
 intro j u hu
 rw [Addr.add_lit, Nat.zero_add, cell_of_row _ _ _ _ _ _ (heap_alloc_new w _), ← Array.getElem?_toList]
 exact hu
set_option maxHeartbeats 800000 in
theorem ralloc_full (h : RA W A g c M D nodes root L) (hn : (L.length : Int) = nodes) :
  Calls Tryz.prog 97 #[.pointer (some ⟨A, 0, none⟩)] W fun e w' => e = .returned (.tuple #[.int .i64 0, .int .i64 2]) ∧ ∃ k, w' = W.drewN k := by
 obtain ⟨c0, c1, c2⟩ := h.cells
 clear h
 generalize L.length = n at *
 subst hn
 go_enter Tryz.func97, Tryz.ntmps97
 go_wp2_with fail
 go_quiet (fail)
 go_wp2_with fail
 go_ret2
 exact ⟨rfl, _, rfl⟩
set_option maxRecDepth 100000 in
set_option maxHeartbeats 1600000 in
theorem ralloc_any (h : RA W A g c M D nodes root L) (hn : (L.length : Int) < nodes) :
  Calls Tryz.prog 97 #[.pointer (some ⟨A, 0, none⟩)] W (RAlPost W A M D nodes root L) := by
 obtain ⟨i0, hi, hz0, hz1, hz2⟩ := info_parts infoR'
 obtain ⟨c0, c1, c2⟩ := h.cells
 have hl6 := h.n_le
 have HP := hide h
 have HN := hide hn
 obtain ⟨n, hln⟩ : ∃ n, L.length = n := ⟨_, rfl⟩
 rw [hln] at hn c1 hl6
 have j1 : ¬ nodes ≤ (n : Int) := by omega
 have HLN := hide hln
 clear h hln hn
 go_enter Tryz.func97, Tryz.ntmps97
 go_wp2_with fail
 go_quiet (fail)
 obtain ⟨w1, hk⟩ : ∃ w1, w1 = W.drewN nq := ⟨_, rfl⟩
 have P1 : Hid (RA w1 A g c M D nodes root L) := by show RA _ _ _ _ _ _ _ _ _; rw [hk]; exact HP.out.drewN nq
 have U1 : Hid (Upd M W w1) := by show Upd _ _ _; rw [hk]; exact upd_drewN _ _ _
 have Z1 : Hid (w1.heap.size = W.heap.size) := by show _ = _; rw [hk]; rfl
 rw [← hk]
 clear hk c0 c1 c2 HP
 obtain ⟨c0, c1, c2⟩ := P1.out.cells
 rw [HLN.out] at c1
 have HO4 : Hid ((w1.alloc (.cells #[.int .u64 1, .int .i64 0, .slice none 0 0, .int .i64 0, .slice none 0 0, .slice none 0 0, .slice none 0 0] 118)).ownsRow 0 118 7 (.slice (some ⟨g, 0, none⟩) n c) n (L.flatMap RS.cells)) := by
  show World.ownsRow _ _ _ _ _ _ _
  rw [← HLN.out]
  exact owns_blkN P1.out.row (fun k hk => by cases hk; exact Below.heap_alloc _ _ _ (P1.out.lt g (.inl P1.out.mg)))
 have HA4 : Hid ((w1.alloc (.cells #[.int .u64 1, .int .i64 0, .slice none 0 0, .int .i64 0, .slice none 0 0, .slice none 0 0, .slice none 0 0] 118)).heap[A]? = _) := (Below.heap_alloc _ _ _ (lt_of_block P1.out.a)).trans P1.out.a
 have HPB := hide (seven_new w1 (.int .u64 1) (.int .i64 0) (.slice none 0 0) (.int .i64 0) (.slice none 0 0) (.slice none 0 0) (.slice none 0 0) 118)
 go_wp2_with (first
  | (at_builtin; refine append_mineN rfl (.tmp 18) (.tmp 20) 119 rfl 0 118 i0 (.agg #[.int .u64 0, .int .i64 0, .slice none 0 0, .int .i64 0, .slice none 0 0, .slice none 0 0, .slice none 0 0]) 7 120 Tryz.underlying119 hi hz0 hz1 hz2 rfl (by decide) (.slice (some ⟨g, 0, none⟩) n c) n (L.flatMap RS.cells) rfl HO4.out ⟨w1.heap.size, 0, none⟩ 1 1 [.int .u64 1, .int .i64 0, .slice none 0 0, .int .i64 0, .slice none 0 0, .slice none 0 0, .slice none 0 0] rfl rfl HPB.out (by intro u hu; simp at hu; rcases hu with rfl | rfl | rfl | rfl | rfl | rfl | rfl <;> rfl) (by omega) (by unfold maxLen; omega) (by omega) (Nat.zero_le _) ?_; intro g' c' w5 hown5 hg5 hor5; have HA5 := hide ((hg5.block A (lt_of_block HA4.out) (fun e => P1.out.ne (Option.some.inj e).symm)).trans HA4.out); have HOW5 := hide hown5; have HG5 := hide hg5; have HOR5 := hide hor5; clear hown5 hg5 hor5; have f5 := frozen_of HA5.out 1; have c5 : w5.cell? ⟨A, 1, none⟩ = some (.slice (some ⟨g, 0, none⟩) n c) := (by rw [cell_of_row _ _ _ _ _ _ HA5.out, ← HLN.out]; rfl))
  | fail)
 obtain ⟨w6, hw6⟩ : ∃ w6, w6 = w5.setCell ⟨A, 1, none⟩ (.slice (some ⟨g', 0, none⟩) (n + 1) c') := ⟨_, rfl⟩
 have hA6 : w6.heap[A]? = some (.cells #[.int .i64 nodes, .slice (some ⟨g', 0, none⟩) (n + 1) c', .int .i64 root] 121 (0, 0)) := by rw [hw6]; exact block_setCell HA5.out 1 _
 have U15 : Upd M w1 w5 := ((Upd.refl M w1).alloc _).trans (Upd.of_grown HG5.out (fun k hk _ => by cases hk; exact P1.out.mg))
 have U16 : Upd M w1 w6 := by rw [hw6]; exact U15.setCell _ _ (fun _ => P1.out.mA)
 have ho6 : w6.ownsRow 0 118 7 (.slice (some ⟨g', 0, none⟩) (n + 1) c') (n + 1) (L.flatMap RS.cells ++ RS.cells ⟨1, Nd.zero⟩) := by
  rw [hw6]
  refine owns_blkN HOW5.out (fun k hk => Below.heap_setCell _ _ _ _ (fun e => ?_))
  cases hk
  rcases HOW5.out.2 with ⟨hv, _⟩ | ⟨g2, c2, cur, hv, _, hh, _⟩
  ·cases hv
  ·cases hv
   have e' : g' = A := e
   rw [e', HA5.out] at hh
   simp at hh
 have hor : M g' ∨ w1.heap.size ≤ g' := by
  rcases HOR5.out with h | h
  ·cases h; exact .inl P1.out.mg
  ·right; simp at h; omega
 have HF : Hid (RAlPost W A M D nodes root L (.returned (.tuple #[.int .i64 ((n : Int) + 1), .int .i64 0])) w6) := by
  refine ⟨g', c', _, by rw [HLN.out], P1.out.push HN.out U16 (by rw [HLN.out]; exact hA6) (by rw [HLN.out]; exact ho6) hor ⟨Nd.zero_ok _, Nd.zero_in _, by simp only; decide⟩, ?_, U1.out.trans U16⟩
  intro k hk
  rcases hk with hk | hk
  ·exact .inl hk
  ·right; have := Z1.out; omega
 rw [← hw6]
 clear hw6 hA6 U15 U16 ho6 hor
 go_ret2
 exact HF.out
set_option maxRecDepth 100000 in
set_option maxHeartbeats 1600000 in
theorem rheldL_any (h : RA W A g c M D nodes root L) :
  Calls Tryz.prog 70 #[.pointer (some ⟨A, 0, none⟩)] W (HeldPost W (heldL (L.map (·.w)))) := by
 obtain ⟨i0, hi, hz0, hz1, hz2⟩ := info_parts infoI
 have hn := h.n_le
 have HP : Hid (∀ W', Below W.heap.size W W' → RA W' A g c M D nodes root L) := fun W' hb => h.below hb
 obtain ⟨ws, hws⟩ : ∃ ws, ws = L.map (·.w) := ⟨_, rfl⟩
 have HWS : Hid (∀ i (hi : i < L.length), ws.getD i 0 = L[i].w) := fun i hi => by rw [hws]; simp [hi]
 have HLW : Hid (ws.length = L.length) := by show _ = _; rw [hws]; simp
 rw [← hws]
 obtain ⟨n, hln⟩ : ∃ n, L.length = n := ⟨_, rfl⟩
 rw [hln] at hn
 have HLN := hide hln
 have HF : Hid (heldL ws = heldN ws n) := by show _ = _; unfold heldL; rw [HLW.out, hln]
 rw [HF.out]
 clear h hws hln
 go_enter Tryz.func70, Tryz.ntmps70
 go_wp2_with fail
 go_loopw [3, 4] (fun q3 q4 wr => ∃ i : Nat, i ≤ n ∧ q4 = .int .i64 (i : Int) ∧ ∃ k, Hid (wr.ownsRow W.heap.size 3 1 q3 k ((heldN ws i).map (Value.int .i64)) ∧ k = (heldN ws i).length ∧ Below W.heap.size W wr)) (fun _ q4 _ => n - (intOf q4).toNat)
 case atStart => exact ⟨0, Nat.zero_le _, rfl, 0, World.ownsRow_nil _ _ _ _, rfl, Below.refl _ _⟩
 case round =>
  obtain ⟨i, hin, rfl, k, HB⟩ := hrel
  rename World => wr
  have P := HP.out wr HB.out.2.2
  obtain ⟨c0, c1, c2⟩ := P.cells
  rw [HLN.out] at c1
  by_cases hlt : i < n
  ·have j1 : (i : Int) < (n : Int) := by omega
   have hiL : i < L.length := by rw [HLN.out]; exact hlt
   have cw := P.wat i hiL
   have hE := heldN_succ ws i
   rw [HWS.out i hiL] at hE
   generalize L[i].w = x at *
   have HE := hide hE
   have hkl := heldN_len ws i
   rw [← HB.out.2.1] at hkl
   have hk6 : k ≤ 65536 := by omega
   clear P hE hkl
   obtain ⟨hown, hkk, hB⟩ := HB.out
   have HOW := hide hown
   have HKK := hide hkk
   have HBB := hide hB
   clear HB hown hkk hB
   obtain ⟨y, hy⟩ : ∃ y : Int, y = (x : Int) := ⟨_, rfl⟩
   rw [← hy] at cw
   have y0 : 0 ≤ y := by omega
   rcases Nat.mod_two_eq_zero_or_one x with ex | ex
   ·have y1 : y % 2 = 0 := by omega
    rw [if_neg (by omega)] at HE
    clear ex hy
    go_wp2_with fail
    go_roundw
    case rel => exact ⟨i + 1, by omega, by go_num, k, by rw [HE.out]; simpa using HOW.out, by rw [HE.out]; simpa using HKK.out, HBB.out⟩
    case measure => simp [intOf]; omega
   ·have y1 : y % 2 = 1 := by omega
    rw [if_pos ex] at HE
    clear ex hy
    have j3 : (i : Int) + 1 ≤ 65536 := by omega
    go_wp2_with (first
     | (at_builtin; refine append_own_any rfl (.tmp 24) (.tmp 27) 32 rfl W.heap.size 3 i0 (.int .i64 0) 1 8 Tryz.underlying32 hi hz0 hz1 hz2 rfl (by decide) _ k ((heldN ws i).map (Value.int .i64)) rfl (HOW.out.alloc _) (some ⟨wr.heap.size, 0, none⟩) 1 1 [.int .i64 ((i : Int) + 1)] rfl rfl (by intro h; cases h) (fun ad had => by cases had; exact cell_one_new _ _ _) (by intro u hu; simp at hu; subst hu; rfl) (by unfold maxLen; omega) (by omega) (by have := HBB.out.size; simp; omega) ?_; intro v5 w5 hown5 hg5; have HO5 := hide hown5; have HG5 := hide hg5; clear hown5 hg5)
     | fail)
    go_roundw
    case rel =>
     refine ⟨i + 1, by omega, by go_num, k + 1, ?_, ?_, ?_⟩
     ·rw [HE.out, List.map_append]; exact HO5.out
     ·rw [HE.out, List.length_append, ← HKK.out]; rfl
     ·exact (HBB.out.alloc HBB.out.size _).grown HG5.out (by have := HBB.out.size; simp; omega) (fun b hb => (HOW.out.lt b hb).1)
    case measure => simp [intOf]; omega
  ·have j1 : ¬ (i : Int) < (n : Int) := by omega
   obtain rfl : i = n := by omega
   go_wp2_with fail
   go_ret
   exact ⟨_, rfl, by rw [← HB.out.2.1]; exact HB.out.1, HB.out.2.2⟩
end
end Go.Proofs.YtpljbgcofmlhbaaGreat
namespace Go.Proofs.YtpljbgcofmlhbaaGreat
open Go.RowKit
set_option maxRecDepth 100000
section
variable {W : World} {A g c : Nat} {M D : Nat → Prop} {nodes root : Int} {L : List RS}
theorem RA.ncells (h : RA W A g c M D nodes root L) (i : Nat) (hi : i < L.length) :
  W.cell? ⟨g, i * 7 + 1, none⟩ = some (.int .i64 L[i].n.lv) ∧ W.cell? ⟨g, i * 7 + 2, none⟩ = some L[i].n.hi.v ∧ W.cell? ⟨g, i * 7 + 3, none⟩ = some (.int .i64 L[i].n.ri) ∧ W.cell? ⟨g, i * 7 + 4, none⟩ = some L[i].n.ks.v ∧ W.cell? ⟨g, i * 7 + 5, none⟩ = some L[i].n.vs.v ∧ W.cell? ⟨g, i * 7 + 6, none⟩ = some L[i].n.cs.v :=
 ⟨h.at_ i hi 1 (by omega), h.at_ i hi 2 (by omega), h.at_ i hi 3 (by omega), h.at_ i hi 4 (by omega), h.at_ i hi 5 (by omega), h.at_ i hi 6 (by omega)⟩
set_option maxRecDepth 100000 in
set_option maxHeartbeats 1600000 in
theorem rhead_none (h : RA W A g c M D nodes root L) (id : Int) (hi : ¬ (1 ≤ id ∧ id ≤ (L.length : Nat))) :
  Calls Tryz.prog 115 #[.pointer (some ⟨A, 0, none⟩), .int .i64 id] W fun e w' => e = .returned (.tuple #[.agg #[.int .i64 0, .slice none 0 0, .int .i64 0], .int .i64 101]) ∧ Below W.heap.size W w' := by
 obtain ⟨w0, hw0⟩ : ∃ w0, w0 = W.alloc (.cells #[.int .i64 0, .slice none 0 0, .int .i64 0] 30) := ⟨_, rfl⟩
 have b0 : Below W.heap.size W w0 := by rw [hw0]; exact (Below.refl _ _).alloc (Nat.le_refl _) _
 have g0 : w0.heap[W.heap.size]? = some (.cells #[.int .i64 0, .slice none 0 0, .int .i64 0] 30 (0, 0)) := by rw [hw0]; exact heap_alloc_new W _
 have HS := hide (there_no (h.below b0) id hi)
 obtain ⟨c0, c1, c2⟩ := Tri.of g0
 have F0 := fun j => frozen_of g0 j
 have G0 := hide g0
 have B0 := hide b0
 have HW := hide hw0
 clear h hi g0 b0 hw0
 go_enter Tryz.func115, Tryz.ntmps115
 go_wp2_with fail
 rw [← HW.out]
 refine keep HS.out ?_
 go_wp2_with fail
 (try simp only [Exit.inBlock, Exit.then])
 have G6 := tri_block G0.out (.int .i64 0) (.slice none 0 0) (.int .i64 0)
 have U6 : Upd (fun b => b = W.heap.size) w0 (tri3 w0 W.heap.size (.int .i64 0) (.slice none 0 0) (.int .i64 0)) := tri_upd _ _ _ _ _ _ rfl
 obtain ⟨q0, q1, q2⟩ := Tri.of G6
 show bodyPost _ _ _ _ _ (tri3 w0 W.heap.size (.int .i64 0) (.slice none 0 0) (.int .i64 0))
 generalize tri3 w0 W.heap.size (.int .i64 0) (.slice none 0 0) (.int .i64 0) = w6 at *
 refine bodyPost_ret (v := .tuple #[.agg #[.int .i64 0, .slice none 0 0, .int .i64 0], .int .i64 101]) (by simp [results, Tryz.results115, go_sem, q0, q1, q2]) rfl ⟨rfl, ?_⟩
 exact B0.out.trans (U6.below (by have := B0.out.size; omega) (fun k hk e => by omega))
set_option maxRecDepth 100000 in
set_option maxHeartbeats 1600000 in
theorem rbody_none (h : RA W A g c M D nodes root L) (id : Int) (hi : ¬ (1 ≤ id ∧ id ≤ (L.length : Nat))) :
  Calls Tryz.prog 116 #[.pointer (some ⟨A, 0, none⟩), .int .i64 id] W fun e w' => e = .returned (.tuple #[.agg #[.slice none 0 0, .slice none 0 0, .slice none 0 0], .int .i64 101]) ∧ Below W.heap.size W w' := by
 obtain ⟨w0, hw0⟩ : ∃ w0, w0 = W.alloc (.cells #[.slice none 0 0, .slice none 0 0, .slice none 0 0] 34) := ⟨_, rfl⟩
 have b0 : Below W.heap.size W w0 := by rw [hw0]; exact (Below.refl _ _).alloc (Nat.le_refl _) _
 have g0 : w0.heap[W.heap.size]? = some (.cells #[.slice none 0 0, .slice none 0 0, .slice none 0 0] 34 (0, 0)) := by rw [hw0]; exact heap_alloc_new W _
 have HS := hide (there_no (h.below b0) id hi)
 obtain ⟨c0, c1, c2⟩ := Tri.of g0
 have F0 := fun j => frozen_of g0 j
 have G0 := hide g0
 have B0 := hide b0
 have HW := hide hw0
 clear h hi g0 b0 hw0
 go_enter Tryz.func116, Tryz.ntmps116
 go_wp2_with fail
 rw [← HW.out]
 refine keep HS.out ?_
 go_wp2_with fail
 (try simp only [Exit.inBlock, Exit.then])
 have G6 := tri_block G0.out (.slice none 0 0) (.slice none 0 0) (.slice none 0 0)
 have U6 : Upd (fun b => b = W.heap.size) w0 (tri3 w0 W.heap.size (.slice none 0 0) (.slice none 0 0) (.slice none 0 0)) := tri_upd _ _ _ _ _ _ rfl
 obtain ⟨q0, q1, q2⟩ := Tri.of G6
 show bodyPost _ _ _ _ _ (tri3 w0 W.heap.size (.slice none 0 0) (.slice none 0 0) (.slice none 0 0))
 generalize tri3 w0 W.heap.size (.slice none 0 0) (.slice none 0 0) (.slice none 0 0) = w6 at *
 refine bodyPost_ret (v := .tuple #[.agg #[.slice none 0 0, .slice none 0 0, .slice none 0 0], .int .i64 101]) (by simp [results, Tryz.results116, go_sem, q0, q1, q2]) rfl ⟨rfl, ?_⟩
 exact B0.out.trans (U6.below (by have := B0.out.size; omega) (fun k hk e => by omega))
set_option maxRecDepth 100000 in
set_option maxHeartbeats 1600000 in
theorem rhead_any (h : RA W A g c M D nodes root L) (i : Nat) (hi : i < L.length) :
  Calls Tryz.prog 115 #[.pointer (some ⟨A, 0, none⟩), .int .i64 ((i : Int) + 1)] W (HePost W L[i].n.lv L[i].n.ri L[i].n.hi.s.length L[i].n.hi.s) := by
 obtain ⟨w0, hw0⟩ : ∃ w0, w0 = W.alloc (.cells #[.int .i64 0, .slice none 0 0, .int .i64 0] 30) := ⟨_, rfl⟩
 have b0 : Below W.heap.size W w0 := by rw [hw0]; exact (Below.refl _ _).alloc (Nat.le_refl _) _
 have z0 : w0.heap.size = W.heap.size + 1 := by rw [hw0]; simp
 have g0 : w0.heap[W.heap.size]? = some (.cells #[.int .i64 0, .slice none 0 0, .int .i64 0] 30 (0, 0)) := by rw [hw0]; exact heap_alloc_new W _
 have h0 := h.below b0
 have HS := hide (there_yes h0 i hi)
 have ho := h0.sl L[i] (List.getElem_mem hi)
 obtain ⟨k1, k2, k3, k4, k5, k6⟩ := h0.ncells i hi
 obtain ⟨_, c1, _⟩ := h0.cells
 have HCL := hide (rclone_any L[i].n w0 ho.n)
 have hn := h0.n_le
 generalize L[i].n = nd at *
 obtain ⟨lv, ⟨ha, hc, hs⟩, ri, ⟨ka, kc, K⟩, ⟨va, vc, V⟩, ⟨ca, cc, C⟩⟩ := nd
 clear ho h0 h
 simp only [Nd.v, Tx.v, TL.v, IL.v] at k1 k2 k3 k4 k5 k6 HCL ⊢
 generalize L.length = n at *
 have j4 : (i : Int) < (n : Int) := by omega
 obtain ⟨id, hid⟩ : ∃ id, id = (i : Int) + 1 := ⟨_, rfl⟩
 rw [← hid] at HS ⊢
 have j3 : id - 1 = (i : Int) := by omega
 have j5 : id ≤ 65536 := by omega
 have j6 : 1 ≤ id := by omega
 obtain ⟨lh, hlh⟩ : ∃ lh, hs.length = lh := ⟨_, rfl⟩
 rw [hlh] at k2 HCL ⊢
 have HLH := hide hlh
 generalize K.length = lk at *
 generalize V.length = lw at *
 generalize C.length = lc at *
 have G0 := hide g0
 have B0 := hide b0
 have HW := hide hw0
 have Z0 := hide z0
 clear g0 b0 hw0 hid hlh z0
 go_enter Tryz.func115, Tryz.ntmps115
 go_wp2_with fail
 rw [← HW.out]
 refine keep HS.out ?_
 go_wp2_with fail
 refine HCL.out.mono ?_
 rintro e w2 ⟨⟨lv', ⟨na, nc, ns⟩, ri', ⟨kn, kd, K'⟩, ⟨vn, vd, V'⟩, ⟨cn, cd, C'⟩⟩, N1, N2, rfl, hp, hown, hb2, _, _, _, _, _⟩
 simp only [Nd.p, NP.mk.injEq] at hp
 obtain ⟨rfl, rfl, rfl, _, _, _⟩ := hp
 have hv2 : OwnB w2 w0.heap.size 5 (.slice na lh nc) ns := by have := hown.h; simp only [Tx.v, HLH.out] at this; exact this
 have G2 : Hid (w2.heap[W.heap.size]? = some (.cells #[.int .i64 0, .slice none 0 0, .int .i64 0] 30 (0, 0))) := (hb2.block _ (lt_of_block G0.out)).trans G0.out
 have V2 := hide hv2
 have B2 := hide hb2
 simp only [Nd.v, Tx.v, TL.v, IL.v, HLH.out]
 clear hv2 hown hb2 HCL
 generalize K'.length = lk' at *
 generalize V'.length = lw' at *
 generalize C'.length = lc' at *
 obtain ⟨w3, hw3⟩ : ∃ w3, w3 = w2.alloc (.cells #[.int .i64 lv', .slice na lh nc, .int .i64 ri', .slice kn lk' kd, .slice vn lw' vd, .slice cn lc' cd] 36) := ⟨_, rfl⟩
 have b3 : Below w2.heap.size w2 w3 := by rw [hw3]; exact (Below.refl _ _).alloc (Nat.le_refl _) _
 have G3 : Hid (w3.heap[W.heap.size]? = some (.cells #[.int .i64 0, .slice none 0 0, .int .i64 0] 30 (0, 0))) := (b3.block _ (lt_of_block G2.out)).trans G2.out
 have g3 := G3.out
 rw [hw3] at g3
 obtain ⟨y0, y1, y2⟩ := Tri.of g3
 have F3 := fun j => frozen_of g3 j
 have HW3 := hide hw3
 have B3 := hide b3
 clear hw3 b3 g3
 go_wp2_with fail
 (try simp only [Exit.inBlock, Exit.then])
 rw [← HW3.out]
 have G6 := tri_block G3.out (.int .i64 lv') (.slice na lh nc) (.int .i64 ri')
 have U6 : Upd (fun b => b = W.heap.size) w3 (tri3 w3 W.heap.size (.int .i64 lv') (.slice na lh nc) (.int .i64 ri')) := tri_upd _ _ _ _ _ _ rfl
 obtain ⟨q0, q1, q2⟩ := Tri.of G6
 show bodyPost _ _ _ _ _ (tri3 w3 W.heap.size (.int .i64 lv') (.slice na lh nc) (.int .i64 ri'))
 generalize tri3 w3 W.heap.size (.int .i64 lv') (.slice na lh nc) (.int .i64 ri') = w6 at *
 have zz := Z0.out
 have b02 := B0.out.trans (B2.out.mono B0.out.size)
 have b03 := b02.trans (B3.out.mono b02.size)
 refine bodyPost_ret (v := .tuple #[.agg #[.int .i64 lv', .slice na lh nc, .int .i64 ri'], .int .i64 0]) (by simp [results, Tryz.results115, go_sem, q0, q1, q2]) rfl ⟨na, nc, rfl, ?_, ?_⟩
 ·exact (ownB_upd' (V2.out.below B3.out) U6 (fun b h1 h2 h3 => by omega)).mono (by omega)
 ·exact b03.trans (U6.below (by have := b03.size; omega) (fun k hk e => by omega))
set_option maxRecDepth 100000 in
set_option maxHeartbeats 1600000 in
theorem rbody_any (h : RA W A g c M D nodes root L) (i : Nat) (hi : i < L.length) :
  Calls Tryz.prog 116 #[.pointer (some ⟨A, 0, none⟩), .int .i64 ((i : Int) + 1)] W (BoPost W L[i].n.ks.L.length L[i].n.vs.L.length L[i].n.cs.s.length L[i].n.ks.L L[i].n.vs.L L[i].n.cs.s) := by
 obtain ⟨w0, hw0⟩ : ∃ w0, w0 = W.alloc (.cells #[.slice none 0 0, .slice none 0 0, .slice none 0 0] 34) := ⟨_, rfl⟩
 have b0 : Below W.heap.size W w0 := by rw [hw0]; exact (Below.refl _ _).alloc (Nat.le_refl _) _
 have z0 : w0.heap.size = W.heap.size + 1 := by rw [hw0]; simp
 have g0 : w0.heap[W.heap.size]? = some (.cells #[.slice none 0 0, .slice none 0 0, .slice none 0 0] 34 (0, 0)) := by rw [hw0]; exact heap_alloc_new W _
 have h0 := h.below b0
 have HS := hide (there_yes h0 i hi)
 have ho := h0.sl L[i] (List.getElem_mem hi)
 obtain ⟨k1, k2, k3, k4, k5, k6⟩ := h0.ncells i hi
 obtain ⟨_, c1, _⟩ := h0.cells
 have HCL := hide (rclone_any L[i].n w0 ho.n)
 have hn := h0.n_le
 generalize L[i].n = nd at *
 obtain ⟨lv, ⟨ha, hc, hs⟩, ri, ⟨ka, kc, K⟩, ⟨va, vc, V⟩, ⟨ca, cc, C⟩⟩ := nd
 clear ho h0 h
 simp only [Nd.v, Tx.v, TL.v, IL.v] at k1 k2 k3 k4 k5 k6 HCL ⊢
 generalize L.length = n at *
 have j4 : (i : Int) < (n : Int) := by omega
 obtain ⟨id, hid⟩ : ∃ id, id = (i : Int) + 1 := ⟨_, rfl⟩
 rw [← hid] at HS ⊢
 have j3 : id - 1 = (i : Int) := by omega
 have j5 : id ≤ 65536 := by omega
 have j6 : 1 ≤ id := by omega
 obtain ⟨lk, hlk⟩ : ∃ lk, K.length = lk := ⟨_, rfl⟩
 obtain ⟨lw, hlw⟩ : ∃ lw, V.length = lw := ⟨_, rfl⟩
 obtain ⟨lc, hlc⟩ : ∃ lc, C.length = lc := ⟨_, rfl⟩
 rw [hlk] at k4
 rw [hlw] at k5
 rw [hlc] at k6
 rw [hlk, hlw, hlc] at HCL ⊢
 have HLK := hide hlk
 have HLW := hide hlw
 have HLC := hide hlc
 clear hlk hlw hlc
 generalize hs.length = lh at *
 have G0 := hide g0
 have B0 := hide b0
 have HW := hide hw0
 have Z0 := hide z0
 clear g0 b0 hw0 hid z0
 go_enter Tryz.func116, Tryz.ntmps116
 go_wp2_with fail
 rw [← HW.out]
 refine keep HS.out ?_
 go_wp2_with fail
 refine HCL.out.mono ?_
 rintro e w2 ⟨⟨lv', ⟨na, nc, ns⟩, ri', ⟨kn, kd, K'⟩, ⟨vn, vd, V'⟩, ⟨cn, cd, C'⟩⟩, N1, N2, rfl, hp, hown, hb2, _, _, _, _, _⟩
 simp only [Nd.p, NP.mk.injEq] at hp
 obtain ⟨rfl, rfl, rfl, hp1, hp2, rfl⟩ := hp
 have l1 : K'.length = lk := by have := congrArg List.length hp1; simp only [TL.p, List.length_map] at this; rw [this]; exact HLK.out
 have l2 : V'.length = lw := by have := congrArg List.length hp2; simp only [TL.p, List.length_map] at this; rw [this]; exact HLW.out
 have P1 : Hid (K'.map (·.s) = K.map (·.s) ∧ V'.map (·.s) = V.map (·.s) ∧ K'.length = lk ∧ V'.length = lw) := ⟨hp1, hp2, l1, l2⟩
 have hv2 := And.intro hown.k (And.intro hown.v hown.c)
 simp only [IL.v, HLC.out] at hv2
 have G2 : Hid (w2.heap[W.heap.size]? = some (.cells #[.slice none 0 0, .slice none 0 0, .slice none 0 0] 34 (0, 0))) := (hb2.block _ (lt_of_block G0.out)).trans G0.out
 have V2 := hide hv2
 have B2 := hide hb2
 simp only [Nd.v, Tx.v, TL.v, IL.v, l1, l2, HLC.out]
 clear hv2 hown hb2 HCL hp1 hp2 l1 l2
 generalize ns.length = lh' at *
 obtain ⟨w3, hw3⟩ : ∃ w3, w3 = w2.alloc (.cells #[.int .i64 lv', .slice na lh' nc, .int .i64 ri', .slice kn lk kd, .slice vn lw vd, .slice cn lc cd] 36) := ⟨_, rfl⟩
 have b3 : Below w2.heap.size w2 w3 := by rw [hw3]; exact (Below.refl _ _).alloc (Nat.le_refl _) _
 have G3 : Hid (w3.heap[W.heap.size]? = some (.cells #[.slice none 0 0, .slice none 0 0, .slice none 0 0] 34 (0, 0))) := (b3.block _ (lt_of_block G2.out)).trans G2.out
 have g3 := G3.out
 rw [hw3] at g3
 obtain ⟨y0, y1, y2⟩ := Tri.of g3
 have F3 := fun j => frozen_of g3 j
 have HW3 := hide hw3
 have B3 := hide b3
 clear hw3 b3 g3
 go_wp2_with fail
 (try simp only [Exit.inBlock, Exit.then])
 rw [← HW3.out]
 have G6 := tri_block G3.out (.slice kn lk kd) (.slice vn lw vd) (.slice cn lc cd)
 have U6 : Upd (fun b => b = W.heap.size) w3 (tri3 w3 W.heap.size (.slice kn lk kd) (.slice vn lw vd) (.slice cn lc cd)) := tri_upd _ _ _ _ _ _ rfl
 obtain ⟨q0, q1, q2⟩ := Tri.of G6
 show bodyPost _ _ _ _ _ (tri3 w3 W.heap.size (.slice kn lk kd) (.slice vn lw vd) (.slice cn lc cd))
 generalize tri3 w3 W.heap.size (.slice kn lk kd) (.slice vn lw vd) (.slice cn lc cd) = w6 at *
 have zz := Z0.out
 have b02 := B0.out.trans (B2.out.mono B0.out.size)
 have b03 := b02.trans (B3.out.mono b02.size)
 obtain ⟨p1, p2, p3, p4⟩ := P1.out
 refine bodyPost_ret (v := .tuple #[.agg #[.slice kn lk kd, .slice vn lw vd, .slice cn lc cd], .int .i64 0]) (by simp [results, Tryz.results116, go_sem, q0, q1, q2]) rfl ⟨kn, kd, K', vn, vd, V', cn, cd, rfl, p1, p2, p3, p4, ?_, ?_, ?_, ?_⟩
 ·exact ((V2.out.1.below B3.out).upd U6 (fun b h1 h2 h3 => by omega)).mono (by omega)
 ·exact ((V2.out.2.1.below B3.out).upd U6 (fun b h1 h2 h3 => by omega)).mono (by omega)
 ·exact owns_mono (ownsI_upd (owns_below V2.out.2.2 B3.out) U6 (fun b h1 h2 h3 => by omega)) (by omega)
 ·exact b03.trans (U6.below (by have := b03.size; omega) (fun k hk e => by omega))
end
end Go.Proofs.YtpljbgcofmlhbaaGreat
