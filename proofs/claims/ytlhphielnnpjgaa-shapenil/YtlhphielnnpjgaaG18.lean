/- The program's arena in memory. No function is named here. -/
import Derived.Test.YtlhphielnnpjgaaG17
import Derived.Test.YtlhphielnnpjgaaG15
import Derived.Test.YtlhphielnnpjgaaG3
namespace Go.Proofs.Ytlhphielnnpjgaa
open Go.RowKit

/-- A slot: its block, its word, its node. -/
structure Sl where
  b : Nat
  w : Nat
  n : Nd
def Sl.cells (s : Sl) : Array Value := #[.int .u64 (s.w : Nat), .int .i64 s.n.lv, s.n.hi.v, .int .i64 s.n.ri, s.n.ks.v, s.n.vs.v, s.n.cs.v]
def Sl.ptr (s : Sl) : Value := .pointer (some ⟨s.b, 0, none⟩)
/-- All that a node leads to lies in D. -/
structure Nd.In (D : Nat → Prop) (n : Nd) : Prop where
  h : ∀ x, n.hi.a = some x → 0 < n.hi.s.length → D x.block
  k : ∀ x, n.ks.a = some x → 0 < n.ks.L.length → D x.block
  ke : ∀ t ∈ n.ks.L, ∀ x, t.a = some x → 0 < t.s.length → D x.block
  v : ∀ x, n.vs.a = some x → 0 < n.vs.L.length → D x.block
  ve : ∀ t ∈ n.vs.L, ∀ x, t.a = some x → 0 < t.s.length → D x.block
  c : ∀ x, n.cs.a = some x → 0 < n.cs.s.length → D x.block
theorem Nd.In.mono {D E : Nat → Prop} {n : Nd} (h : n.In D) (hd : ∀ k, D k → E k) : n.In E :=
  ⟨fun x e l => hd _ (h.h x e l), fun x e l => hd _ (h.k x e l), fun t ht x e l => hd _ (h.ke t ht x e l), fun x e l => hd _ (h.v x e l), fun t ht x e l => hd _ (h.ve t ht x e l), fun x e l => hd _ (h.c x e l)⟩
theorem TCells.upd {W W' : World} {S : Nat → Prop} {a : Option Addr} {L : List Tx} (h : TCells W a L) (hb : Upd S W W') (hs : ∀ x, a = some x → 0 < L.length → ¬ S x.block) : TCells W' a L := by
  intro i hi
  obtain ⟨b, o, ha, hc⟩ := h i hi
  exact ⟨b, o, ha, hb.cell (p := ⟨b, o + i, none⟩) hc (fun e => hs ⟨b, o, none⟩ ha (by omega) e)⟩
theorem Tx.Ok.updL {W W' : World} {S : Nat → Prop} {t : Tx} (h : t.Ok W) (hb : Upd S W W') (hs : ∀ x, t.a = some x → 0 < t.s.length → ¬ S x.block) : t.Ok W' := ⟨h.r.upd hb hs, h.n, h.lc, h.b8, h.z⟩
theorem TL.Ok.upd {W W' : World} {S : Nat → Prop} {t : TL} (h : t.Ok W) (hb : Upd S W W') (hs : ∀ x, t.a = some x → 0 < t.L.length → ¬ S x.block) (he : ∀ y ∈ t.L, ∀ x, y.a = some x → 0 < y.s.length → ¬ S x.block) : t.Ok W' :=
  ⟨h.r.upd hb hs, fun y hy => (h.ok y hy).updL hb (he y hy), h.n, h.lc⟩
theorem IL.Ok.upd {W W' : World} {S : Nat → Prop} {t : IL} (h : t.Ok W) (hb : Upd S W W') (hs : ∀ x, t.a = some x → 0 < t.s.length → ¬ S x.block) : t.Ok W' :=
  ⟨h.r.upd hb hs, h.n, h.lc⟩
theorem Nd.Ok.upd {W W' : World} {S D : Nat → Prop} {n : Nd} (h : n.Ok W) (hi : n.In D) (hb : Upd S W W') (hs : ∀ k, D k → ¬ S k) : n.Ok W' :=
  ⟨h.h.updL hb (fun x e l => hs _ (hi.h x e l)), h.k.upd hb (fun x e l => hs _ (hi.k x e l)) (fun t ht x e l => hs _ (hi.ke t ht x e l)), h.v.upd hb (fun x e l => hs _ (hi.v x e l)) (fun t ht x e l => hs _ (hi.ve t ht x e l)), h.c.upd hb (fun x e l => hs _ (hi.c x e l)), h.kz, h.vz, h.cz⟩
/-- What is in memory lies below its end. -/
theorem Nd.Ok.in_ {W : World} {n : Nd} (h : n.Ok W) : n.In (fun k => k < W.heap.size) := by
  have hr : ∀ {k : IntKind} {a : Option Addr} {zs : List Int}, Row W k a zs → ∀ x, a = some x → 0 < zs.length → x.block < W.heap.size := fun r x e l => by
    obtain ⟨b, o, ha, hc⟩ := r 0 l
    rw [e] at ha
    cases ha
    exact World.block_lt_of_cell? W ⟨b, o + 0, none⟩ hc
  have ht : ∀ {a : Option Addr} {L : List Tx}, TCells W a L → ∀ x, a = some x → 0 < L.length → x.block < W.heap.size := fun r x e l => by
    obtain ⟨b, o, ha, hc⟩ := r 0 l
    rw [e] at ha
    cases ha
    exact World.block_lt_of_cell? W ⟨b, o + 0, none⟩ hc
  exact ⟨hr h.h.r, ht h.k.r, fun t hm => hr (h.k.ok t hm).r, ht h.v.r, fun t hm => hr (h.v.ok t hm).r, hr h.c.r⟩
theorem ownB_in {W : World} {N : Nat} {x : Tx} (h : OwnB W N 5 x.v x.s) : ∀ y, x.a = some y → N ≤ y.block ∧ y.block < W.heap.size := by
  intro y hy
  rcases h with ⟨hv, _⟩ | ⟨g, cap, cur, hv, hb, hh, _⟩
  · simp only [Tx.v, Value.slice.injEq] at hv; rw [hy] at hv; exact absurd hv.1 (by simp)
  · simp only [Tx.v, Value.slice.injEq] at hv
    rw [hy] at hv
    obtain ⟨h1, _, _⟩ := hv
    obtain rfl := Option.some.inj h1
    exact ⟨hb, lt_of_block hh⟩
theorem owns_in {W : World} {N : Nat} {e : TypeId} {a : Option Addr} {n m c : Nat} {xs : List Value} (h : W.ownsRow N e 1 (.slice a n c) m xs) : ∀ y, a = some y → N ≤ y.block ∧ y.block < W.heap.size := by
  intro y hy
  subst hy
  exact h.lt y.block (by
    rcases h.2 with ⟨hv, _⟩ | ⟨g, cap, cur, hv, _⟩
    · cases hv
    · cases hv; rfl)
theorem Nd.Own.in_ {W : World} {N : Nat} {n : Nd} (h : n.Own W N) : n.In (fun k => N ≤ k ∧ k < W.heap.size) :=
  ⟨fun x e _ => ownB_in h.h x e, fun x e _ => owns_in h.k.row x e, fun t ht x e _ => ownB_in (h.k.each t ht) x e, fun x e _ => owns_in h.v.row x e, fun t ht x e _ => ownB_in (h.v.each t ht) x e, fun x e _ => owns_in h.c x e⟩

def Nd.zero : Nd := ⟨0, ⟨none, 0, []⟩, 0, ⟨none, 0, []⟩, ⟨none, 0, []⟩, ⟨none, 0, []⟩⟩
def NP.zero : NP := ⟨0, [], 0, [], [], []⟩
theorem Nd.zero_p : Nd.zero.p = NP.zero := rfl
theorem Nd.zero_ok (W : World) : Nd.zero.Ok W := ⟨Tx.nil_ok W, TL.nil_ok W, TL.nil_ok W, IL.nil_ok W, Nat.zero_le _, Nat.zero_le _, Nat.zero_le _⟩
theorem Nd.zero_in (D : Nat → Prop) : Nd.zero.In D := ⟨(fun _ h _ => nomatch h), (fun _ h _ => nomatch h), (fun _ h => nomatch h), (fun _ h _ => nomatch h), (fun _ h => nomatch h), (fun _ h _ => nomatch h)⟩

structure Sl.Ok (W : World) (M D : Nat → Prop) (s : Sl) : Prop where
  c : W.heap[s.b]? = some (.cells s.cells 64 (0, 0))
  m : M s.b
  n : s.n.Ok W
  d : s.n.In D
  w : s.w < 18446744073709551616
/-- The arena at block A: M, what its calls may turn, D, what its nodes lead to. -/
structure PA (W : World) (A : Nat) (M D : Nat → Prop) (nodes root : Int) (L : List Sl) : Prop where
  row : ∃ g c, W.heap[A]? = some (.cells #[.slice (some ⟨g, 0, none⟩) L.length c, .int .i64 nodes, .int .i64 root] 67 (0, 0)) ∧ W.ownsRow 0 54 1 (.slice (some ⟨g, 0, none⟩) L.length c) L.length (L.map Sl.ptr) ∧ M g
  mA : M A
  lt : ∀ k, M k ∨ D k → k < W.heap.size
  dj : ∀ k, M k → ¬ D k
  sl : ∀ s ∈ L, s.Ok W M D
  nd : (L.map (·.b)).Nodup
  one : 1 ≤ L.length
  le : (L.length : Int) ≤ nodes
  nz : nodes ≤ 65536
theorem Sl.Ok.upd {W W' : World} {M D S : Nat → Prop} {s : Sl} (h : s.Ok W M D) (hb : Upd S W W') (hs : ∀ k, M k ∨ D k → ¬ S k) : s.Ok W' M D :=
  ⟨hb.heap h.c (hs _ (.inl h.m)), h.m, h.n.upd h.d hb (fun k hk => hs k (.inr hk)), h.d, h.w⟩
theorem PA.upd {W W' : World} {A : Nat} {M D S : Nat → Prop} {nodes root : Int} {L : List Sl} (h : PA W A M D nodes root L) (hb : Upd S W W') (hs : ∀ k, M k ∨ D k → ¬ S k) : PA W' A M D nodes root L := by
  obtain ⟨g, c, h1, h2, h3⟩ := h.row
  refine ⟨⟨g, c, hb.heap h1 (hs _ (.inl h.mA)), owns_upd h2 hb (fun k hk => ?_), h3⟩, h.mA, fun k hk => Nat.lt_of_lt_of_le (h.lt k hk) hb.size, h.dj, fun s hs' => (h.sl s hs').upd hb hs, h.nd, h.one, h.le, h.nz⟩
  cases hk
  exact hs _ (.inl h3)
theorem PA.drewN {W : World} {A : Nat} {M D : Nat → Prop} {nodes root : Int} {L : List Sl} (h : PA W A M D nodes root L) (m : Nat) : PA (W.drewN m) A M D nodes root L :=
  h.upd (S := Noth) ⟨rfl, rfl, rfl, Nat.le_refl _, fun _ _ _ => rfl⟩ (fun _ _ e => e)
theorem PA.below {W W' : World} {A : Nat} {M D : Nat → Prop} {nodes root : Int} {L : List Sl} (h : PA W A M D nodes root L) (hb : Below W.heap.size W W') : PA W' A M D nodes root L :=
  h.upd (S := Noth) (Upd.of_below hb _) (fun _ _ e => e)
theorem upd_drewN (S : Nat → Prop) (W : World) (m : Nat) : Upd S W (W.drewN m) := ⟨rfl, rfl, rfl, Nat.le_refl _, fun _ _ _ => rfl⟩

/-- Slots lie apart; none is the arena or its row. -/
theorem PA.slot_ne {W : World} {A : Nat} {M D : Nat → Prop} {nodes root : Int} {L : List Sl} (h : PA W A M D nodes root L) {i j : Nat} (hi : i < L.length) (hj : j < L.length) (hne : i ≠ j) : L[i].b ≠ L[j].b := by
  intro e
  have h1 := List.pairwise_iff_getElem.1 h.nd
  rcases Nat.lt_or_gt_of_ne hne with hl | hl
  · exact h1 i j (by simpa using hi) (by simpa using hj) hl (by simpa using e)
  · exact h1 j i (by simpa using hj) (by simpa using hi) hl (by simpa using e.symm)
theorem PA.slot_A {W : World} {A : Nat} {M D : Nat → Prop} {nodes root : Int} {L : List Sl} (h : PA W A M D nodes root L) {s : Sl} (hs : s ∈ L) : s.b ≠ A := by
  intro e
  obtain ⟨g, c, h1, _⟩ := h.row
  have := (h.sl s hs).c
  rw [e, h1] at this
  simp at this
theorem PA.row_ne {W : World} {A : Nat} {M D : Nat → Prop} {nodes root : Int} {L : List Sl} (h : PA W A M D nodes root L) {g c : Nat} {xs : List Value} (hr : W.ownsRow 0 54 1 (.slice (some ⟨g, 0, none⟩) L.length c) L.length xs) : g ≠ A ∧ ∀ s ∈ L, s.b ≠ g := by
  rcases hr.2 with ⟨hv, _⟩ | ⟨g', c', cur, hv, _, hh, _⟩
  · cases hv
  · cases hv
    constructor
    · intro e
      obtain ⟨g2, c2, h1, _⟩ := h.row
      rw [e, h1] at hh
      simp at hh
    · intro s hs e
      have := (h.sl s hs).c
      rw [e, hh] at this
      simp at this

/-- One slot turns. -/
theorem PA.put {W W1 : World} {A : Nat} {M D D' : Nat → Prop} {nodes root : Int} {L : List Sl} (h : PA W A M D nodes root L) {i : Nat} (hi : i < L.length) (s : Sl) (hb : s.b = L[i].b) (hu : Upd (fun k => k = L[i].b) W W1)
    (hD : ∀ k, D k → D' k) (hlt : ∀ k, D' k → k < W1.heap.size) (hdj : ∀ k, M k → ¬ D' k) (hok : s.Ok W1 M D') : PA W1 A M D' nodes root (L.set i s) := by
  have hmem : L[i] ∈ L := List.getElem_mem hi
  obtain ⟨g, c, h1, h2, h3⟩ := h.row
  obtain ⟨n1, n2⟩ := h.row_ne h2
  refine ⟨⟨g, c, ?_, ?_, h3⟩, h.mA, ?_, hdj, ?_, ?_, by rw [List.length_set]; exact h.one, by rw [List.length_set]; exact h.le, h.nz⟩
  · rw [List.length_set]
    exact hu.heap h1 (fun e => h.slot_A hmem e.symm)
  · rw [List.length_set, List.map_set, show s.ptr = (L.map Sl.ptr)[i]'(by simpa using hi) by rw [List.getElem_map]; unfold Sl.ptr; rw [hb], List.set_getElem_self]
    exact owns_upd h2 hu (fun k hk e => by cases hk; exact n2 _ hmem e.symm)
  · intro k hk
    rcases hk with hk | hk
    · exact Nat.lt_of_lt_of_le (h.lt k (.inl hk)) hu.size
    · exact hlt k hk
  · intro t ht
    obtain ⟨j, hj, rfl⟩ := List.mem_iff_getElem.1 ht
    rw [List.length_set] at hj
    by_cases hij : i = j
    · subst hij; rw [List.getElem_set_self]; exact hok
    · rw [List.getElem_set_ne hij]
      have ho := h.sl L[j] (List.getElem_mem hj)
      refine ⟨hu.heap ho.c (fun e => h.slot_ne hi hj hij e.symm), ho.m, ho.n.upd ho.d hu (fun k hk e => h.dj L[i].b (h.sl _ hmem).m (by rw [← e]; exact hk)), ho.d.mono hD, ho.w⟩
  · rw [List.map_set, hb, show L[i].b = (L.map (·.b))[i]'(by simpa using hi) by rw [List.getElem_map], List.set_getElem_self]
    exact h.nd
/-- A slot's word turns. -/
theorem PA.setW {W : World} {A : Nat} {M D : Nat → Prop} {nodes root : Int} {L : List Sl} (h : PA W A M D nodes root L) {i : Nat} (hi : i < L.length) (x : Nat) (hx : x < 18446744073709551616) :
    PA (W.setCell ⟨L[i].b, 0, none⟩ (.int .u64 (x : Nat))) A M D nodes root (L.set i ⟨L[i].b, x, L[i].n⟩) := by
  have ho := h.sl L[i] (List.getElem_mem hi)
  have hu : Upd (fun k => k = L[i].b) W (W.setCell ⟨L[i].b, 0, none⟩ (.int .u64 (x : Nat))) := (Upd.refl _ _).setCell _ _ (fun _ => rfl)
  refine h.put hi ⟨L[i].b, x, L[i].n⟩ rfl hu (fun k hk => hk) (fun k hk => Nat.lt_of_lt_of_le (h.lt k (.inr hk)) hu.size) h.dj ⟨block_setCell ho.c 0 _, ho.m, ho.n.upd ho.d hu (fun k hk e => h.dj _ ho.m (by rw [← e]; exact hk)), ho.d, hx⟩

/-- What the words and nodes are, wherever they lie. -/
def ndsOf (L : List Sl) : List (Nat × NP) := L.map fun s => (s.w, s.n.p)
theorem ndsOf_len (L : List Sl) : (ndsOf L).length = L.length := by simp [ndsOf]

end Go.Proofs.Ytlhphielnnpjgaa

namespace Go.Proofs.Ytlhphielnnpjgaa
open Go.RowKit

set_option maxHeartbeats 400000 in
theorem used_raw (A : Nat) (a : Option Addr) (n c : Nat) (w : World) (hc : w.cell? ⟨A, 0, none⟩ = some (.slice a n c)) : Calls Try.prog 41 #[.pointer (some ⟨A, 0, none⟩)] w fun e w' => e = .returned (.int .i64 (n : Nat)) ∧ w' = w := by
  go_enter Try.func41, Try.ntmps41
  go_wp2
  go_ret
  exact ⟨rfl, rfl⟩
set_option maxHeartbeats 400000 in
theorem root_raw (A : Nat) (r : Int) (w : World) (hc : w.cell? ⟨A, 2, none⟩ = some (.int .i64 r)) : Calls Try.prog 10 #[.pointer (some ⟨A, 0, none⟩)] w fun e w' => e = .returned (.int .i64 r) ∧ w' = w := by
  go_enter Try.func10, Try.ntmps10
  go_wp2
  go_ret
  exact ⟨rfl, rfl⟩
set_option maxHeartbeats 800000 in
theorem slot_good (A g n c i b : Nat) (w : World) (hc : w.cell? ⟨A, 0, none⟩ = some (.slice (some ⟨g, 0, none⟩) n c)) (hp : w.cell? ⟨g, i, none⟩ = some (.pointer (some ⟨b, 0, none⟩))) (hi : i < n) (hn : n ≤ 65536) :
    Calls Try.prog 31 #[.pointer (some ⟨A, 0, none⟩), .int .i64 ((i : Int) + 1)] w fun e w' => e = .returned (.tuple #[.pointer (some ⟨b, 0, none⟩), .int .i64 0]) ∧ w' = w := by
  have HU := hide (used_raw A _ n c w hc)
  have j4 : (i : Int) < (n : Int) := by omega
  obtain ⟨id, hid⟩ : ∃ id, id = (i : Int) + 1 := ⟨_, rfl⟩
  rw [← hid]
  have j1 : ¬ id < 1 := by omega
  have j2 : ¬ (n : Int) < id := by omega
  have j3 : id - 1 = (i : Int) := by omega
  have j5 : id ≤ 65536 := by omega
  clear hid
  go_enter Try.func31, Try.ntmps31
  go_wp2_with fail
  refine keep HU.out ?_
  go_wp2_with fail
  go_ret2
  exact ⟨rfl, rfl⟩
set_option maxHeartbeats 800000 in
theorem slot_bad (A n c : Nat) (a : Option Addr) (id : Int) (w : World) (hc : w.cell? ⟨A, 0, none⟩ = some (.slice a n c)) (hi : ¬ (1 ≤ id ∧ id ≤ n)) :
    Calls Try.prog 31 #[.pointer (some ⟨A, 0, none⟩), .int .i64 id] w fun e w' => e = .returned (.tuple #[.pointer none, .int .i64 101]) ∧ w' = w := by
  have HU := hide (used_raw A _ n c w hc)
  by_cases h : id < 1
  · clear hi
    go_enter Try.func31, Try.ntmps31
    go_wp2_with fail
    go_ret2
    exact ⟨rfl, rfl⟩
  · have j2 : (n : Int) < id := by omega
    clear hi
    go_enter Try.func31, Try.ntmps31
    go_wp2_with fail
    refine keep HU.out ?_
    go_wp2_with fail
    go_ret2
    exact ⟨rfl, rfl⟩

/-! ### over an arena -/
section
variable {W : World} {A : Nat} {M D : Nat → Prop} {nodes root : Int} {L : List Sl}
theorem PA.n_le (h : PA W A M D nodes root L) : L.length ≤ 65536 := by have := h.le; have := h.nz; omega
/-- The arena's own cells. -/
theorem PA.cells (h : PA W A M D nodes root L) : ∃ g c, W.cell? ⟨A, 0, none⟩ = some (.slice (some ⟨g, 0, none⟩) L.length c) ∧ W.cell? ⟨A, 1, none⟩ = some (.int .i64 nodes) ∧ W.cell? ⟨A, 2, none⟩ = some (.int .i64 root) ∧ ∀ i (hi : i < L.length), W.cell? ⟨g, i, none⟩ = some (.pointer (some ⟨L[i].b, 0, none⟩)) := by
  obtain ⟨g, c, h1, h2, _⟩ := h.row
  refine ⟨g, c, by rw [cell_of_row _ _ _ _ _ _ h1]; rfl, by rw [cell_of_row _ _ _ _ _ _ h1]; rfl, by rw [cell_of_row _ _ _ _ _ _ h1]; rfl, fun i hi => ?_⟩
  have hc := h2.cells (g := g) rfl i (L[i].ptr) (by rw [List.getElem?_map, List.getElem?_eq_getElem hi]; rfl)
  rw [Addr.add_lit, Nat.zero_add] at hc
  exact hc
theorem used_any (h : PA W A M D nodes root L) : Calls Try.prog 41 #[.pointer (some ⟨A, 0, none⟩)] W fun e w' => e = .returned (.int .i64 (L.length : Nat)) ∧ w' = W := by
  obtain ⟨g, c, h1, _⟩ := h.cells
  exact used_raw A _ _ c W h1
theorem root_any (h : PA W A M D nodes root L) : Calls Try.prog 10 #[.pointer (some ⟨A, 0, none⟩)] W fun e w' => e = .returned (.int .i64 root) ∧ w' = W := by
  obtain ⟨g, c, _, _, h3, _⟩ := h.cells
  exact root_raw A root W h3
theorem slot_any (h : PA W A M D nodes root L) (i : Nat) (hi : i < L.length) :
    Calls Try.prog 31 #[.pointer (some ⟨A, 0, none⟩), .int .i64 ((i : Int) + 1)] W fun e w' => e = .returned (.tuple #[.pointer (some ⟨L[i].b, 0, none⟩), .int .i64 0]) ∧ w' = W := by
  obtain ⟨g, c, h1, _, _, h4⟩ := h.cells
  exact slot_good A g _ c i _ W h1 (h4 i hi) hi h.n_le
theorem slot_none (h : PA W A M D nodes root L) (id : Int) (hi : ¬ (1 ≤ id ∧ id ≤ (L.length : Nat))) :
    Calls Try.prog 31 #[.pointer (some ⟨A, 0, none⟩), .int .i64 id] W fun e w' => e = .returned (.tuple #[.pointer none, .int .i64 101]) ∧ w' = W := by
  obtain ⟨g, c, h1, _⟩ := h.cells
  exact slot_bad A _ c _ id W h1 hi
theorem PA.wcell (h : PA W A M D nodes root L) (i : Nat) (hi : i < L.length) : W.cell? ⟨L[i].b, 0, none⟩ = some (.int .u64 (L[i].w : Nat)) ∧ W.frozen? ⟨L[i].b, 0, none⟩ = false ∧ L[i].w < 18446744073709551616 := by
  have ho := h.sl L[i] (List.getElem_mem hi)
  exact ⟨by rw [cell_of_row _ _ _ _ _ _ ho.c]; rfl, frozen_of ho.c 0, ho.w⟩
end

end Go.Proofs.Ytlhphielnnpjgaa

namespace Go.Proofs.Ytlhphielnnpjgaa
open Go.RowKit

set_option maxHeartbeats 800000 in
theorem new_bad (nodes : Int) (w : World) (h : ¬ (1 ≤ nodes ∧ nodes ≤ 65536)) : Calls Try.prog 8 #[.int .i64 nodes] w fun e w' => e = .returned (.tuple #[.pointer none, .int .i64 1]) ∧ w' = w := by
  by_cases h1 : nodes < 1
  · clear h
    go_enter Try.func8, Try.ntmps8
    go_wp2_with fail
    go_ret2
    exact ⟨rfl, rfl⟩
  · have h2 : 65536 < nodes := by omega
    clear h
    go_enter Try.func8, Try.ntmps8
    go_wp2_with fail
    go_ret2
    exact ⟨rfl, rfl⟩
/-- What New gives. -/
def NewPost (w : World) (nodes : Int) (e : Ending) (w' : World) : Prop :=
  ∃ A b M, e = .returned (.tuple #[.pointer (some ⟨A, 0, none⟩), .int .i64 0]) ∧ PA w' A M Noth nodes 1 [⟨b, 0, Nd.zero⟩] ∧ (∀ k, M k → w.heap.size ≤ k) ∧ Below w.heap.size w w'
set_option maxHeartbeats 800000 in
theorem new_good (nodes : Int) (w : World) (h1 : 1 ≤ nodes) (h2 : nodes ≤ 65536) : Calls Try.prog 8 #[.int .i64 nodes] w (NewPost w nodes) := by
  have j1 : ¬ nodes < 1 := by omega
  have j2 : ¬ 65536 < nodes := by omega
  obtain ⟨w1, hw1⟩ : ∃ w1, w1 = w.alloc (.cells #[.int .u64 0, .int .i64 0, .slice none 0 0, .int .i64 0, .slice none 0 0, .slice none 0 0, .slice none 0 0] 64) := ⟨_, rfl⟩
  obtain ⟨w2, hw2⟩ : ∃ w2, w2 = w1.alloc (.cells #[.pointer (some ⟨w.heap.size, 0, none⟩)] 54) := ⟨_, rfl⟩
  obtain ⟨w3, hw3⟩ : ∃ w3, w3 = w2.alloc (.cells #[.slice (some ⟨w.heap.size + 1, 0, none⟩) 1 1, .int .i64 nodes, .int .i64 1] 67) := ⟨_, rfl⟩
  have s1 : w1.heap.size = w.heap.size + 1 := by rw [hw1]; simp
  have s2 : w2.heap.size = w.heap.size + 1 + 1 := by rw [hw2]; simp [s1]
  have s3 : w3.heap.size = w.heap.size + 3 := by rw [hw3]; simp [s2]
  have a1 : w3.heap[w.heap.size]? = some (.cells #[.int .u64 0, .int .i64 0, .slice none 0 0, .int .i64 0, .slice none 0 0, .slice none 0 0, .slice none 0 0] 64 (0, 0)) := by
    rw [hw3, Below.heap_alloc _ _ _ (by omega), hw2, Below.heap_alloc _ _ _ (by omega), hw1]; exact heap_alloc_new w _
  have a2 : w3.heap[w.heap.size + 1]? = some (.cells #[.pointer (some ⟨w.heap.size, 0, none⟩)] 54 (0, 0)) := by
    rw [hw3, Below.heap_alloc _ _ _ (by omega), hw2, ← s1]; exact heap_alloc_new w1 _
  have a3 : w3.heap[w.heap.size + 1 + 1]? = some (.cells #[.slice (some ⟨w.heap.size + 1, 0, none⟩) 1 1, .int .i64 nodes, .int .i64 1] 67 (0, 0)) := by
    rw [hw3, ← s2]; exact heap_alloc_new w2 _
  have B : Below w.heap.size w w3 := by
    rw [hw3, hw2, hw1]
    exact (((Below.refl _ _).alloc (Nat.le_refl _) _).alloc (by simp) _).alloc (by simp; omega) _
  have HP : Hid (NewPost w nodes (.returned (.tuple #[.pointer (some ⟨w.heap.size + 1 + 1, 0, none⟩), .int .i64 0])) w3) := by
    refine ⟨w.heap.size + 1 + 1, w.heap.size, fun k => w.heap.size ≤ k ∧ k < w.heap.size + 3, rfl, ⟨⟨w.heap.size + 1, 1, a3, ⟨rfl, .inr ⟨w.heap.size + 1, 1, _, rfl, Nat.zero_le _, a2, Nat.le_refl _, by unfold maxLen; omega, rfl, rfl⟩⟩, by omega, by omega⟩, ⟨by omega, by omega⟩, ?_, fun k _ e => e, ?_, by simp, Nat.le_refl _, h1, h2⟩, fun k hk => hk.1, B⟩
    · intro k hk
      rcases hk with hk | hk
      · omega
      · exact hk.elim
    · intro s hs
      obtain rfl := List.mem_singleton.1 hs
      exact ⟨a1, ⟨Nat.le_refl _, by simp only; omega⟩, Nd.zero_ok _, Nd.zero_in _, by simp only; decide⟩
  have HW : Hid (w3 = ((w.alloc (.cells #[.int .u64 0, .int .i64 0, .slice none 0 0, .int .i64 0, .slice none 0 0, .slice none 0 0, .slice none 0 0] 64)).alloc (.cells #[.pointer (some ⟨w.heap.size, 0, none⟩)] 54)).alloc (.cells #[.slice (some ⟨w.heap.size + 1, 0, none⟩) 1 1, .int .i64 nodes, .int .i64 1] 67)) := by
    show _ = _
    rw [hw3, hw2, hw1]
  clear s1 s2 s3 a1 a2 a3 B hw1 hw2 hw3 h1 h2
  go_enter Try.func8, Try.ntmps8
  go_wp2_with fail
  go_ret2
  rw [← HW.out]
  exact HP.out

/-- One slot more. -/
theorem PA.push {W W5 : World} {A : Nat} {M D : Nat → Prop} {nodes root : Int} {L : List Sl} (h : PA W A M D nodes root L) (hn : (L.length : Int) < nodes) (hu : Upd M W W5) {g c b : Nat}
    (hA : W5.heap[A]? = some (.cells #[.slice (some ⟨g, 0, none⟩) (L.length + 1) c, .int .i64 nodes, .int .i64 root] 67 (0, 0)))
    (ho : W5.ownsRow 0 54 1 (.slice (some ⟨g, 0, none⟩) (L.length + 1) c) (L.length + 1) (L.map Sl.ptr ++ [.pointer (some ⟨b, 0, none⟩)])) (hg : M g ∨ W.heap.size ≤ g)
    (hs : ∀ s ∈ L, W5.heap[s.b]? = W.heap[s.b]?) (hb : W.heap.size ≤ b) (hbk : W5.heap[b]? = some (.cells (Sl.cells ⟨b, 1, Nd.zero⟩) 64 (0, 0))) :
    PA W5 A (fun k => M k ∨ (W.heap.size ≤ k ∧ k < W5.heap.size)) D nodes root (L ++ [⟨b, 1, Nd.zero⟩]) := by
  have hgl : g < W5.heap.size := (ho.lt g rfl).2
  have hl : (L ++ [(⟨b, 1, Nd.zero⟩ : Sl)]).length = L.length + 1 := by simp
  have hbl := lt_of_block hbk
  refine ⟨⟨g, c, by rw [hl]; exact hA, ?_, ?_⟩, .inl h.mA, ?_, ?_, ?_, ?_, by rw [hl]; omega, by rw [hl]; omega, h.nz⟩
  · rw [hl, List.map_append]; exact ho
  · rcases hg with hg | hg
    · exact .inl hg
    · exact .inr ⟨hg, hgl⟩
  · intro k hk
    rcases hk with (hk | hk) | hk
    · exact Nat.lt_of_lt_of_le (h.lt k (.inl hk)) hu.size
    · exact hk.2
    · exact Nat.lt_of_lt_of_le (h.lt k (.inr hk)) hu.size
  · intro k hk hd
    rcases hk with hk | hk
    · exact h.dj k hk hd
    · have := h.lt k (.inr hd); omega
  · intro s hs'
    rcases List.mem_append.1 hs' with hs' | hs'
    · have ho := h.sl s hs'
      exact ⟨(hs s hs').trans ho.c, .inl ho.m, ho.n.upd ho.d hu (fun k hk e => h.dj k e hk), ho.d, ho.w⟩
    · obtain rfl := List.mem_singleton.1 hs'
      exact ⟨hbk, .inr ⟨hb, hbl⟩, Nd.zero_ok _, Nd.zero_in _, by simp only; decide⟩
  · rw [List.map_append, List.nodup_append]
    refine ⟨h.nd, by simp, ?_⟩
    intro x hx y hy e
    obtain ⟨s, hs', rfl⟩ := List.mem_map.1 hx
    simp only [List.map_cons, List.map_nil, List.mem_singleton] at hy
    have := h.lt s.b (.inl (h.sl s hs').m)
    omega

/-- What Alloc gives where there is room. -/
def AlPost (w : World) (A : Nat) (M D : Nat → Prop) (nodes root : Int) (L : List Sl) (e : Ending) (w' : World) : Prop :=
  ∃ M' b, e = .returned (.tuple #[.int .i64 ((L.length : Int) + 1), .int .i64 0]) ∧ PA w' A M' D nodes root (L ++ [⟨b, 1, Nd.zero⟩]) ∧ (∀ k, M' k → M k ∨ w.heap.size ≤ k) ∧ Upd M w w'
theorem infoP' : (Try.prog.info? 54).map (fun i => (i.zero, i.size, i.bytes)) = some (some (.pointer none), 1, 8) := by kernel_rfl
end Go.Proofs.Ytlhphielnnpjgaa

namespace Go.Proofs.Ytlhphielnnpjgaa
open Go.RowKit

/-- The numbers of the held ones among the first i. -/
def heldN (ws : List Nat) (i : Nat) : List Int := ((List.range i).filter fun j => decide (ws.getD j 0 % 2 = 1)).map fun (j : Nat) => (j : Int) + 1
def heldL (ws : List Nat) : List Int := heldN ws ws.length
theorem heldN_succ (ws : List Nat) (i : Nat) : heldN ws (i + 1) = heldN ws i ++ if ws.getD i 0 % 2 = 1 then [(i : Int) + 1] else [] := by
  unfold heldN
  rw [List.range_succ, List.filter_append, List.map_append]
  congr 1
  by_cases h : ws.getD i 0 % 2 = 1
  · rw [if_pos h, List.filter_cons, if_pos (by exact decide_eq_true h)]; rfl
  · rw [if_neg h, List.filter_cons, if_neg (by simpa using h)]; rfl
theorem heldN_len (ws : List Nat) (i : Nat) : (heldN ws i).length ≤ i := by
  unfold heldN
  rw [List.length_map]
  exact Nat.le_trans (List.length_filter_le _ _) (by simp)
/-- A list of numbers of one's own. -/
def HeldPost (w : World) (xs : List Int) (e : Ending) (w' : World) : Prop :=
  ∃ v, e = .returned v ∧ w'.ownsRow w.heap.size 3 1 v xs.length (xs.map (Value.int .i64)) ∧ Below w.heap.size w w'

set_option maxRecDepth 100000 in
set_option maxHeartbeats 1600000 in
theorem held_any {w : World} {A : Nat} {M D : Nat → Prop} {nodes root : Int} {L : List Sl} (h : PA w A M D nodes root L) :
    Calls Try.prog 18 #[.pointer (some ⟨A, 0, none⟩)] w (HeldPost w (heldL (L.map (·.w)))) := by
  obtain ⟨i0, hi, hz0, hz1, hz2⟩ := info_parts infoI
  obtain ⟨g, c, c0, _, _, h4⟩ := h.cells
  have hn := h.n_le
  have HP : Hid (∀ W, Below w.heap.size w W → PA W A M D nodes root L) := fun W hb => h.below hb
  have H4 : Hid (∀ W, Below w.heap.size w W → ∀ i (hi : i < L.length), W.cell? ⟨g, i, none⟩ = some (.pointer (some ⟨L[i].b, 0, none⟩))) := fun W hb i hi => (hb.cell (p := ⟨g, i, none⟩) (World.block_lt_of_cell? w ⟨g, i, none⟩ (h4 i hi))).trans (h4 i hi)
  obtain ⟨ws, hws⟩ : ∃ ws, ws = L.map (·.w) := ⟨_, rfl⟩
  have HWS : Hid (∀ i (hi : i < L.length), ws.getD i 0 = L[i].w) := fun i hi => by rw [hws]; simp [hi]
  have HLW : Hid (ws.length = L.length) := by show _ = _; rw [hws]; simp
  rw [← hws]
  obtain ⟨n, hln⟩ : ∃ n, L.length = n := ⟨_, rfl⟩
  rw [hln] at c0 hn
  have HLN := hide hln
  have HF : Hid (heldL ws = heldN ws n) := by show _ = _; unfold heldL; rw [HLW.out, hln]
  rw [HF.out]
  clear h h4 hws hln
  go_enter Try.func18, Try.ntmps18
  go_wp2_with fail
  go_loopw [3, 11] (fun q3 q11 wr => ∃ i : Nat, i ≤ n ∧ q11 = .int .i64 (i : Int) ∧ ∃ k, Hid (wr.ownsRow w.heap.size 3 1 q3 k ((heldN ws i).map (Value.int .i64)) ∧ k = (heldN ws i).length ∧ Below w.heap.size w wr)) (fun _ q11 _ => n - (intOf q11).toNat)
  case atStart => exact ⟨0, Nat.zero_le _, rfl, 0, World.ownsRow_nil _ _ _ _, rfl, Below.refl _ _⟩
  case round =>
    obtain ⟨i, hin, rfl, k, HB⟩ := hrel
    rename World => wr
    by_cases hlt : i < n
    · have j1 : (i : Int) < (n : Int) := by omega
      have hiL : i < L.length := by rw [HLN.out]; exact hlt
      have P := HP.out wr HB.out.2.2
      have cp := H4.out wr HB.out.2.2 i hiL
      obtain ⟨w1, w2, w3⟩ := P.wcell i hiL
      have hE := heldN_succ ws i
      rw [HWS.out i hiL] at hE
      generalize L[i].b = b at *
      generalize L[i].w = x at *
      have HL := hide (lheld_any b x wr w1 w3)
      have HE := hide hE
      have hkl := heldN_len ws i
      rw [← HB.out.2.1] at hkl
      have hk6 : k ≤ 65536 := by omega
      clear P w1 w2 w3 hE hkl
      obtain ⟨hown, hkk, hB⟩ := HB.out
      have HOW := hide hown
      have HKK := hide hkk
      have HBB := hide hB
      clear HB hown hkk hB
      rcases Nat.mod_two_eq_zero_or_one x with ex | ex
      · rw [show decide (x % 2 = 1) = false by rw [ex]; rfl] at HL
        rw [if_neg (by omega)] at HE
        clear ex
        go_wp2_with fail
        refine keep HL.out ?_
        go_wp2_with fail
        go_roundw
        case rel => exact ⟨i + 1, by omega, by go_num, k, by rw [HE.out]; simpa using HOW.out, by rw [HE.out]; simpa using HKK.out, HBB.out⟩
        case measure => simp [intOf]; omega
      · rw [show decide (x % 2 = 1) = true by rw [ex]; rfl] at HL
        rw [if_pos ex] at HE
        clear ex
        have j3 : (1 : Int) + (i : Int) ≤ 65536 := by omega
        go_wp2_with fail
        refine keep HL.out ?_
        go_wp2_with (first
          | (at_builtin; refine append_own_any rfl (.tmp 20) (.tmp 23) 45 rfl w.heap.size 3 i0 (.int .i64 0) 1 8 Try.underlying45 hi hz0 hz1 hz2 rfl (by decide) _ k ((heldN ws i).map (Value.int .i64)) rfl (HOW.out.alloc _) (some ⟨wr.heap.size, 0, none⟩) 1 1 [.int .i64 (1 + (i : Int))] rfl rfl (by intro h; cases h) (fun ad had => by cases had; exact cell_one_new _ _ _) (by intro u hu; simp at hu; subst hu; rfl) (by unfold maxLen; omega) (by omega) (by have := HBB.out.size; simp; omega) ?_; intro v5 w5 hown5 hg5; have HO5 := hide hown5; have HG5 := hide hg5; clear hown5 hg5)
          | fail)
        go_roundw
        case rel =>
          refine ⟨i + 1, by omega, by go_num, k + 1, ?_, ?_, ?_⟩
          · rw [HE.out, List.map_append, show [((i : Int) + 1)].map (Value.int .i64) = [.int .i64 (1 + (i : Int))] by rw [Int.add_comm]; rfl]; exact HO5.out
          · rw [HE.out, List.length_append, ← HKK.out]; rfl
          · exact (HBB.out.alloc HBB.out.size _).grown HG5.out (by have := HBB.out.size; simp; omega) (fun b hb => (HOW.out.lt b hb).1)
        case measure => simp [intOf]; omega
    · have j1 : ¬ (i : Int) < (n : Int) := by omega
      obtain rfl : i = n := by omega
      go_wp2_with fail
      go_ret
      exact ⟨_, rfl, by rw [← HB.out.2.1]; exact HB.out.1, HB.out.2.2⟩

end Go.Proofs.Ytlhphielnnpjgaa

namespace Go.Proofs.Ytlhphielnnpjgaa
open Go.RowKit
section
variable {W : World} {A : Nat} {M D : Nat → Prop} {nodes root : Int} {L : List Sl}

/-- What open answers where it opens nothing. -/
def opE (L : List Sl) (id : Int) : Int := if 1 ≤ id ∧ id ≤ (L.length : Nat) then 102 else 101
/-- The root turns. -/
theorem PA.setR (h : PA W A M D nodes root L) (r : Int) : PA (W.setCell ⟨A, 2, none⟩ (.int .i64 r)) A M D nodes r L := by
  have hu : Upd (fun k => k = A) W (W.setCell ⟨A, 2, none⟩ (.int .i64 r)) := (Upd.refl _ _).setCell _ _ (fun _ => rfl)
  obtain ⟨g, c, h1, h2, h3⟩ := h.row
  obtain ⟨n1, _⟩ := h.row_ne h2
  refine ⟨⟨g, c, block_setCell h1 2 _, owns_upd h2 hu (fun k hk e => by cases hk; exact n1 e), h3⟩, h.mA, fun k hk => Nat.lt_of_lt_of_le (h.lt k hk) hu.size, h.dj, fun s hs => ?_, h.nd, h.one, h.le, h.nz⟩
  have ho := h.sl s hs
  exact ⟨hu.heap ho.c (h.slot_A hs), ho.m, ho.n.upd ho.d hu (fun k hk e => h.dj A h.mA (by rw [← e]; exact hk)), ho.d, ho.w⟩
end

end Go.Proofs.Ytlhphielnnpjgaa

namespace Go.Proofs.Ytlhphielnnpjgaa
open Go.RowKit

/-- The cells of a slot's node. -/
theorem sl_cells {W : World} {M D : Nat → Prop} {s : Sl} (h : s.Ok W M D) :
    (W.cell? ⟨s.b, 1, none⟩ = some (.int .i64 s.n.lv) ∧ W.cell? ⟨s.b, 2, none⟩ = some s.n.hi.v ∧ W.cell? ⟨s.b, 3, none⟩ = some (.int .i64 s.n.ri)) ∧ W.cell? ⟨s.b, 4, none⟩ = some s.n.ks.v ∧ W.cell? ⟨s.b, 5, none⟩ = some s.n.vs.v ∧ W.cell? ⟨s.b, 6, none⟩ = some s.n.cs.v := by
  refine ⟨⟨?_, ?_, ?_⟩, ?_, ?_, ?_⟩ <;> (rw [cell_of_row _ _ _ _ _ _ h.c]; rfl)

/-- What Head gives. -/
def HePost (w : World) (lv ri : Int) (l : Nat) (hs : List Int) (e : Ending) (w' : World) : Prop :=
  ∃ a c, e = .returned (.tuple #[.agg #[.int .i64 lv, .slice a l c, .int .i64 ri], .int .i64 0]) ∧ OwnB w' w.heap.size 5 (.slice a l c) hs ∧ Below w.heap.size w w'
def BoPost (w : World) (lk lw lc : Nat) (K V : List Tx) (C : List Int) (e : Ending) (w' : World) : Prop :=
  ∃ kn kd K' vn vd V' cn cd, e = .returned (.tuple #[.agg #[.slice kn lk kd, .slice vn lw vd, .slice cn lc cd], .int .i64 0]) ∧ K'.map (·.s) = K.map (·.s) ∧ V'.map (·.s) = V.map (·.s) ∧ K'.length = lk ∧ V'.length = lw ∧
    (⟨kn, kd, K'⟩ : TL).Own w' w.heap.size ∧ (⟨vn, vd, V'⟩ : TL).Own w' w.heap.size ∧ w'.ownsRow w.heap.size 3 1 (.slice cn lc cd) lc (C.map (Value.int .i64)) ∧ Below w.heap.size w w'
section
variable {W : World} {A : Nat} {M D : Nat → Prop} {nodes root : Int} {L : List Sl}

set_option maxRecDepth 100000 in
set_option maxHeartbeats 1600000 in
theorem head_none (h : PA W A M D nodes root L) (id : Int) (hi : ¬ (1 ≤ id ∧ id ≤ (L.length : Nat))) :
    Calls Try.prog 20 #[.pointer (some ⟨A, 0, none⟩), .int .i64 id] W fun e w' => e = .returned (.tuple #[.agg #[.int .i64 0, .slice none 0 0, .int .i64 0], .int .i64 101]) ∧ Below W.heap.size W w' := by
  obtain ⟨w0, hw0⟩ : ∃ w0, w0 = W.alloc (.cells #[.int .i64 0, .slice none 0 0, .int .i64 0] 43) := ⟨_, rfl⟩
  have b0 : Below W.heap.size W w0 := by rw [hw0]; exact (Below.refl _ _).alloc (Nat.le_refl _) _
  have g0 : w0.heap[W.heap.size]? = some (.cells #[.int .i64 0, .slice none 0 0, .int .i64 0] 43 (0, 0)) := by rw [hw0]; exact heap_alloc_new W _
  have HS := hide (slot_none (h.below b0) id hi)
  obtain ⟨c0, c1, c2⟩ := Tri.of g0
  have F0 := fun j => frozen_of g0 j
  have G0 := hide g0
  have B0 := hide b0
  have HW := hide hw0
  clear h hi g0 b0 hw0
  go_enter Try.func20, Try.ntmps20
  go_wp2_with fail
  rw [← HW.out]
  refine keep HS.out ?_
  go_wp2_with fail
  (try simp only [Exit.inBlock, Exit.then])
  have G6 := tri_block G0.out (.int .i64 0) (.slice none 0 0) (.int .i64 0)
  have U6 : Upd (fun b => b = W.heap.size) w0 (tri3 w0 W.heap.size (.int .i64 0) (.slice none 0 0) (.int .i64 0)) := tri_upd _ _ _ _ _ _ rfl
  obtain ⟨q0, q1, q2⟩ := Tri.of G6
  show bodyPost _ _ _ _ _ (tri3 w0 W.heap.size (.int .i64 0) (.slice none 0 0) (.int .i64 0))
  generalize tri3 w0 W.heap.size (.int .i64 0) (.slice none 0 0) (.int .i64 0) = w6 at *
  refine bodyPost_ret (v := .tuple #[.agg #[.int .i64 0, .slice none 0 0, .int .i64 0], .int .i64 101]) (by simp [results, Try.results20, go_sem, q0, q1, q2]) rfl ⟨rfl, ?_⟩
  exact B0.out.trans (U6.below (by have := B0.out.size; omega) (fun k hk e => by omega))
set_option maxRecDepth 100000 in
set_option maxHeartbeats 1600000 in
theorem body_none (h : PA W A M D nodes root L) (id : Int) (hi : ¬ (1 ≤ id ∧ id ≤ (L.length : Nat))) :
    Calls Try.prog 21 #[.pointer (some ⟨A, 0, none⟩), .int .i64 id] W fun e w' => e = .returned (.tuple #[.agg #[.slice none 0 0, .slice none 0 0, .slice none 0 0], .int .i64 101]) ∧ Below W.heap.size W w' := by
  obtain ⟨w0, hw0⟩ : ∃ w0, w0 = W.alloc (.cells #[.slice none 0 0, .slice none 0 0, .slice none 0 0] 47) := ⟨_, rfl⟩
  have b0 : Below W.heap.size W w0 := by rw [hw0]; exact (Below.refl _ _).alloc (Nat.le_refl _) _
  have g0 : w0.heap[W.heap.size]? = some (.cells #[.slice none 0 0, .slice none 0 0, .slice none 0 0] 47 (0, 0)) := by rw [hw0]; exact heap_alloc_new W _
  have HS := hide (slot_none (h.below b0) id hi)
  obtain ⟨c0, c1, c2⟩ := Tri.of g0
  have F0 := fun j => frozen_of g0 j
  have G0 := hide g0
  have B0 := hide b0
  have HW := hide hw0
  clear h hi g0 b0 hw0
  go_enter Try.func21, Try.ntmps21
  go_wp2_with fail
  rw [← HW.out]
  refine keep HS.out ?_
  go_wp2_with fail
  (try simp only [Exit.inBlock, Exit.then])
  have G6 := tri_block G0.out (.slice none 0 0) (.slice none 0 0) (.slice none 0 0)
  have U6 : Upd (fun b => b = W.heap.size) w0 (tri3 w0 W.heap.size (.slice none 0 0) (.slice none 0 0) (.slice none 0 0)) := tri_upd _ _ _ _ _ _ rfl
  obtain ⟨q0, q1, q2⟩ := Tri.of G6
  show bodyPost _ _ _ _ _ (tri3 w0 W.heap.size (.slice none 0 0) (.slice none 0 0) (.slice none 0 0))
  generalize tri3 w0 W.heap.size (.slice none 0 0) (.slice none 0 0) (.slice none 0 0) = w6 at *
  refine bodyPost_ret (v := .tuple #[.agg #[.slice none 0 0, .slice none 0 0, .slice none 0 0], .int .i64 101]) (by simp [results, Try.results21, go_sem, q0, q1, q2]) rfl ⟨rfl, ?_⟩
  exact B0.out.trans (U6.below (by have := B0.out.size; omega) (fun k hk e => by omega))

set_option maxRecDepth 100000 in
set_option maxHeartbeats 1600000 in
theorem ahead_any (h : PA W A M D nodes root L) (i : Nat) (hi : i < L.length) :
    Calls Try.prog 20 #[.pointer (some ⟨A, 0, none⟩), .int .i64 ((i : Int) + 1)] W (HePost W L[i].n.lv L[i].n.ri L[i].n.hi.s.length L[i].n.hi.s) := by
  obtain ⟨w0, hw0⟩ : ∃ w0, w0 = W.alloc (.cells #[.int .i64 0, .slice none 0 0, .int .i64 0] 43) := ⟨_, rfl⟩
  have b0 : Below W.heap.size W w0 := by rw [hw0]; exact (Below.refl _ _).alloc (Nat.le_refl _) _
  have g0 : w0.heap[W.heap.size]? = some (.cells #[.int .i64 0, .slice none 0 0, .int .i64 0] 43 (0, 0)) := by rw [hw0]; exact heap_alloc_new W _
  have h0 := h.below b0
  have HS := hide (slot_any h0 i hi)
  have ho := h0.sl L[i] (List.getElem_mem hi)
  obtain ⟨k1, k2, k3⟩ := (sl_cells ho).1
  have HCH := hide (copyHead_any L[i].n.lv L[i].n.ri L[i].n.hi w0 ho.n.h)
  generalize L[i].b = b at *
  generalize L[i].n.lv = lv at *
  generalize L[i].n.ri = ri at *
  generalize L[i].n.hi = t at *
  clear ho h0 h hi
  obtain ⟨ha, hc, hs⟩ := t
  simp only [Tx.v] at *
  obtain ⟨lh, hlh⟩ : ∃ lh, hs.length = lh := ⟨_, rfl⟩
  rw [hlh] at k2 HCH ⊢
  clear hlh
  generalize (i : Int) + 1 = id at *
  have G0 := hide g0
  have B0 := hide b0
  have HW := hide hw0
  clear g0 b0 hw0
  go_enter Try.func20, Try.ntmps20
  go_wp2_with fail
  rw [← HW.out]
  refine keep HS.out ?_
  go_wp2_with fail
  refine HCH.out.mono ?_
  rintro e w2 ⟨na, nc, rfl, hv2, hb2⟩
  have G2 : Hid (w2.heap[W.heap.size]? = some (.cells #[.int .i64 0, .slice none 0 0, .int .i64 0] 43 (0, 0))) := (hb2.block _ (lt_of_block G0.out)).trans G0.out
  obtain ⟨c0, c1, c2⟩ := Tri.of G2.out
  have F0 := fun j => frozen_of G2.out j
  have V2 := hide hv2
  have B2 := hide hb2
  clear hv2 hb2 HCH
  go_wp2_with fail
  (try simp only [Exit.inBlock, Exit.then])
  have G6 := tri_block G2.out (.int .i64 lv) (.slice na lh nc) (.int .i64 ri)
  have U6 : Upd (fun b => b = W.heap.size) w2 (tri3 w2 W.heap.size (.int .i64 lv) (.slice na lh nc) (.int .i64 ri)) := tri_upd _ _ _ _ _ _ rfl
  obtain ⟨q0, q1, q2⟩ := Tri.of G6
  have z0 : w0.heap.size = W.heap.size + 1 := by rw [HW.out]; simp
  show bodyPost _ _ _ _ _ (tri3 w2 W.heap.size (.int .i64 lv) (.slice na lh nc) (.int .i64 ri))
  generalize tri3 w2 W.heap.size (.int .i64 lv) (.slice na lh nc) (.int .i64 ri) = w6 at *
  refine bodyPost_ret (v := .tuple #[.agg #[.int .i64 lv, .slice na lh nc, .int .i64 ri], .int .i64 0]) (by simp [results, Try.results20, go_sem, q0, q1, q2]) rfl ⟨na, nc, rfl, ?_, ?_⟩
  · exact (ownB_upd' V2.out U6 (fun b h1 h2 h3 => by omega)).mono (by omega)
  · have b02 := B0.out.trans (B2.out.mono B0.out.size)
    exact b02.trans (U6.below (by have := b02.size; omega) (fun k hk e => by omega))
set_option maxRecDepth 100000 in
set_option maxHeartbeats 1600000 in
theorem abody_any (h : PA W A M D nodes root L) (i : Nat) (hi : i < L.length) :
    Calls Try.prog 21 #[.pointer (some ⟨A, 0, none⟩), .int .i64 ((i : Int) + 1)] W (BoPost W L[i].n.ks.L.length L[i].n.vs.L.length L[i].n.cs.s.length L[i].n.ks.L L[i].n.vs.L L[i].n.cs.s) := by
  obtain ⟨w0, hw0⟩ : ∃ w0, w0 = W.alloc (.cells #[.slice none 0 0, .slice none 0 0, .slice none 0 0] 47) := ⟨_, rfl⟩
  have b0 : Below W.heap.size W w0 := by rw [hw0]; exact (Below.refl _ _).alloc (Nat.le_refl _) _
  have g0 : w0.heap[W.heap.size]? = some (.cells #[.slice none 0 0, .slice none 0 0, .slice none 0 0] 47 (0, 0)) := by rw [hw0]; exact heap_alloc_new W _
  have h0 := h.below b0
  have HS := hide (slot_any h0 i hi)
  have ho := h0.sl L[i] (List.getElem_mem hi)
  obtain ⟨k1, k2, k3⟩ := (sl_cells ho).2
  have HCH := hide (copyBody_any L[i].n.ks L[i].n.vs L[i].n.cs w0 ho.n.k ho.n.v ho.n.c ho.n.kz ho.n.vz ho.n.cz)
  generalize L[i].b = b at *
  generalize L[i].n.ks = kt at *
  generalize L[i].n.vs = vt at *
  generalize L[i].n.cs = ct at *
  clear ho h0 h hi
  obtain ⟨ka, kc, K⟩ := kt
  obtain ⟨va, vc, V⟩ := vt
  obtain ⟨ca, cc, C⟩ := ct
  simp only [TL.v, IL.v] at *
  obtain ⟨lk, hlk⟩ : ∃ lk, K.length = lk := ⟨_, rfl⟩
  obtain ⟨lw, hlw⟩ : ∃ lw, V.length = lw := ⟨_, rfl⟩
  obtain ⟨lc, hlc⟩ : ∃ lc, C.length = lc := ⟨_, rfl⟩
  rw [hlk] at k1
  rw [hlw] at k2
  rw [hlc] at k3
  rw [hlk, hlw, hlc] at HCH ⊢
  clear hlk hlw hlc
  generalize (i : Int) + 1 = id at *
  have G0 := hide g0
  have B0 := hide b0
  have HW := hide hw0
  clear g0 b0 hw0
  go_enter Try.func21, Try.ntmps21
  go_wp2_with fail
  rw [← HW.out]
  refine keep HS.out ?_
  go_wp2_with fail
  refine HCH.out.mono ?_
  rintro e w2 ⟨kn, kd, K', vn, vd, V', cn, cd, rfl, p1, p2, l1, l2, o1, o2, o3, hb2⟩
  have G2 : Hid (w2.heap[W.heap.size]? = some (.cells #[.slice none 0 0, .slice none 0 0, .slice none 0 0] 47 (0, 0))) := (hb2.block _ (lt_of_block G0.out)).trans G0.out
  obtain ⟨c0, c1, c2⟩ := Tri.of G2.out
  have F0 := fun j => frozen_of G2.out j
  have V2 := hide (And.intro p1 (And.intro p2 (And.intro l1 (And.intro l2 (And.intro o1 (And.intro o2 o3))))))
  have B2 := hide hb2
  clear p1 p2 l1 l2 o1 o2 o3 hb2 HCH
  go_wp2_with fail
  (try simp only [Exit.inBlock, Exit.then])
  have G6 := tri_block G2.out (.slice kn lk kd) (.slice vn lw vd) (.slice cn lc cd)
  have U6 : Upd (fun b => b = W.heap.size) w2 (tri3 w2 W.heap.size (.slice kn lk kd) (.slice vn lw vd) (.slice cn lc cd)) := tri_upd _ _ _ _ _ _ rfl
  obtain ⟨q0, q1, q2⟩ := Tri.of G6
  have z0 : w0.heap.size = W.heap.size + 1 := by rw [HW.out]; simp
  show bodyPost _ _ _ _ _ (tri3 w2 W.heap.size (.slice kn lk kd) (.slice vn lw vd) (.slice cn lc cd))
  generalize tri3 w2 W.heap.size (.slice kn lk kd) (.slice vn lw vd) (.slice cn lc cd) = w6 at *
  obtain ⟨p1, p2, l1, l2, o1, o2, o3⟩ := V2.out
  refine bodyPost_ret (v := .tuple #[.agg #[.slice kn lk kd, .slice vn lw vd, .slice cn lc cd], .int .i64 0]) (by simp [results, Try.results21, go_sem, q0, q1, q2]) rfl ⟨kn, kd, K', vn, vd, V', cn, cd, rfl, p1, p2, l1, l2, ?_, ?_, ?_, ?_⟩
  · exact (o1.upd U6 (fun b h1 h2 h3 => by omega)).mono (by omega)
  · exact (o2.upd U6 (fun b h1 h2 h3 => by omega)).mono (by omega)
  · exact owns_mono (ownsI_upd o3 U6 (fun b h1 h2 h3 => by omega)) (by omega)
  · have b02 := B0.out.trans (B2.out.mono B0.out.size)
    exact b02.trans (U6.below (by have := b02.size; omega) (fun k hk e => by omega))
end

end Go.Proofs.Ytlhphielnnpjgaa

namespace Go.Proofs.Ytlhphielnnpjgaa
open Go.RowKit

/-- A slot turns its head, or its body: post of the setters. -/
def SetPost (w : World) (A : Nat) (M D : Nat → Prop) (nodes root : Int) (L : List Sl) (i b x : Nat) (p : NP) (e : Ending) (w' : World) : Prop :=
  ∃ D' n, e = .returned (.int .i64 0) ∧ PA w' A M D' nodes root (L.set i ⟨b, x, n⟩) ∧ n.p = p ∧ (∀ k, D' k → D k ∨ w.heap.size ≤ k) ∧ Upd M w w'
def NP.setH (p : NP) (lv : Int) (hi : List Int) (ri : Int) : NP := ⟨lv, hi, ri, p.ks, p.vs, p.cs⟩
def NP.setB (p : NP) (ks vs : List (List Int)) (cs : List Int) : NP := ⟨p.lv, p.hi, p.ri, ks, vs, cs⟩
section
variable {W : World} {A : Nat} {M D : Nat → Prop} {nodes root : Int} {L : List Sl}

/-- The three cells of a head, or of a body, in a slot's block. -/
def slH (W : World) (b : Nat) (x0 x1 x2 : Value) : World := ((W.setCell ⟨b, 1, none⟩ x0).setCell ⟨b, 2, none⟩ x1).setCell ⟨b, 3, none⟩ x2
def slB (W : World) (b : Nat) (x0 x1 x2 : Value) : World := ((W.setCell ⟨b, 4, none⟩ x0).setCell ⟨b, 5, none⟩ x1).setCell ⟨b, 6, none⟩ x2
theorem slH_block {W : World} {b : Nat} {T : TypeId} {a0 a1 a2 a3 a4 a5 a6 : Value} (h : W.heap[b]? = some (.cells #[a0, a1, a2, a3, a4, a5, a6] T (0, 0))) (x0 x1 x2 : Value) : (slH W b x0 x1 x2).heap[b]? = some (.cells #[a0, x0, x1, x2, a4, a5, a6] T (0, 0)) := by
  have := block_setCell (block_setCell (block_setCell h 1 x0) 2 x1) 3 x2
  exact this
theorem slB_block {W : World} {b : Nat} {T : TypeId} {a0 a1 a2 a3 a4 a5 a6 : Value} (h : W.heap[b]? = some (.cells #[a0, a1, a2, a3, a4, a5, a6] T (0, 0))) (x0 x1 x2 : Value) : (slB W b x0 x1 x2).heap[b]? = some (.cells #[a0, a1, a2, a3, x0, x1, x2] T (0, 0)) := by
  have := block_setCell (block_setCell (block_setCell h 4 x0) 5 x1) 6 x2
  exact this
theorem slH_upd (S : Nat → Prop) (W : World) (b : Nat) (x0 x1 x2 : Value) (h : S b) : Upd S W (slH W b x0 x1 x2) :=
  (((Upd.refl S W).setCell _ _ (fun _ => h)).setCell _ _ (fun _ => h)).setCell _ _ (fun _ => h)
theorem slB_upd (S : Nat → Prop) (W : World) (b : Nat) (x0 x1 x2 : Value) (h : S b) : Upd S W (slB W b x0 x1 x2) :=
  (((Upd.refl S W).setCell _ _ (fun _ => h)).setCell _ _ (fun _ => h)).setCell _ _ (fun _ => h)

end

end Go.Proofs.Ytlhphielnnpjgaa

namespace Go.Proofs.Ytlhphielnnpjgaa
open Go.RowKit

/-! ### rows of seven cells -/
theorem flat_len {α : Type} (f : α → List Value) (hf : ∀ a, (f a).length = 7) (L : List α) : (L.flatMap f).length = L.length * 7 := by
  induction L with
  | nil => rfl
  | cons a L ih => rw [List.flatMap_cons, List.length_append, hf, ih, List.length_cons]; omega
theorem flat_get {α : Type} (f : α → List Value) (hf : ∀ a, (f a).length = 7) (L : List α) (i j : Nat) (hi : i < L.length) (hj : j < 7) : (L.flatMap f)[i * 7 + j]? = (f L[i])[j]? := by
  induction L generalizing i with
  | nil => simp at hi
  | cons a L ih =>
    rw [List.flatMap_cons]
    cases i with
    | zero => rw [List.getElem?_append_left (by rw [hf]; omega)]; simp
    | succ i =>
      rw [List.getElem?_append_right (by rw [hf]; omega), hf, show (i + 1) * 7 + j - 7 = i * 7 + j by omega, ih i (by simpa using hi)]
      rfl
theorem flat_set {α : Type} (f : α → List Value) (hf : ∀ a, (f a).length = 7) (L : List α) (i j : Nat) (hi : i < L.length) (hj : j < 7) (u : Value) (s : α) (hs : f s = (f L[i]).set j u) : (L.flatMap f).set (i * 7 + j) u = (L.set i s).flatMap f := by
  induction L generalizing i with
  | nil => simp at hi
  | cons a L ih =>
    rw [List.flatMap_cons]
    cases i with
    | zero =>
      rw [List.set_append_left _ _ (by rw [hf]; omega), List.set_cons_zero, List.flatMap_cons, hs]
      simp
    | succ i =>
      rw [List.set_append_right _ _ (by rw [hf]; omega), hf, show (i + 1) * 7 + j - 7 = i * 7 + j by omega, ih i (by simpa using hi) (by simpa using hs), List.set_cons_succ, List.flatMap_cons]

/-- A slot: its word, its node. -/
structure RS where
  w : Nat
  n : Nd
def RS.cells (s : RS) : List Value := [.int .u64 (s.w : Nat), .int .i64 s.n.lv, s.n.hi.v, .int .i64 s.n.ri, s.n.ks.v, s.n.vs.v, s.n.cs.v]
theorem RS.cells_len (s : RS) : s.cells.length = 7 := rfl
structure RS.Ok (W : World) (D : Nat → Prop) (s : RS) : Prop where
  n : s.n.Ok W
  d : s.n.In D
  w : s.w < 18446744073709551616
theorem owns_blkN {w w' : World} {base : Nat} {e : TypeId} {size : Nat} {v : Value} {n : Nat} {xs : List Value} (h : w.ownsRow base e size v n xs) (hb : ∀ k, v.ownBlock = some k → w'.heap[k]? = w.heap[k]?) : w'.ownsRow base e size v n xs := by
  refine ⟨h.1, ?_⟩
  rcases h.2 with h | ⟨g, cap, cur, hv, hg, hh, r⟩
  · exact .inl h
  · exact .inr ⟨g, cap, cur, hv, hg, by rw [hb g (by rw [hv]; rfl)]; exact hh, r⟩
section
variable {W W' : World} {A g c : Nat} {M D : Nat → Prop} {nodes root : Int} {L : List RS}
theorem RS.Ok.upd {S : Nat → Prop} {s : RS} (h : s.Ok W D) (hb : Upd S W W') (hs : ∀ k, D k → ¬ S k) : s.Ok W' D := ⟨h.n.upd h.d hb hs, h.d, h.w⟩
end
def ndsR (L : List RS) : List (Nat × NP) := L.map fun s => (s.w, s.n.p)
theorem ndsR_len (L : List RS) : (ndsR L).length = L.length := by simp [ndsR]

end Go.Proofs.Ytlhphielnnpjgaa

namespace Go.Proofs.Ytlhphielnnpjgaa
open Go.RowKit
section
variable {W : World} {A g c : Nat} {M D : Nat → Prop} {nodes root : Int} {L : List RS}

theorem tmod2 (x : Nat) : Int.tmod (x : Int) 2 = ((x % 2 : Nat) : Int) := by
  rw [Int.tmod_eq_emod_of_nonneg (by omega)]; omega
/-- The document's held. -/
def heE (L : List RS) (id : Int) : Int := if 1 ≤ id ∧ id ≤ (L.length : Nat) then (if (L[(id - 1).toNat]?.map RS.w).getD 0 % 2 = 0 then 102 else 0) else 101
theorem heE_at (L : List RS) (i : Nat) (hi : i < L.length) : heE L ((i : Int) + 1) = if L[i].w % 2 = 0 then 102 else 0 := by
  unfold heE
  rw [if_pos (by omega), show ((i : Int) + 1 - 1).toNat = i by omega, List.getElem?_eq_getElem hi]
  rfl
end

end Go.Proofs.Ytlhphielnnpjgaa

namespace Go.Proofs.Ytlhphielnnpjgaa
open Go.RowKit
section
variable {W : World} {A g c : Nat} {M D : Nat → Prop} {nodes root : Int} {L : List RS}

end

section
variable {W : World} {A g c : Nat} {M D : Nat → Prop} {nodes root : Int} {L : List RS}
theorem seven_new (w : World) (a0 a1 a2 a3 a4 a5 a6 : Value) (T : TypeId) : ∀ j u, [a0, a1, a2, a3, a4, a5, a6][j]? = some u → (w.alloc (.cells #[a0, a1, a2, a3, a4, a5, a6] T)).cell? ((⟨w.heap.size, 0, none⟩ : Addr).add j) = some u := by
  intro j u hu
  rw [Addr.add_lit, Nat.zero_add, cell_of_row _ _ _ _ _ _ (heap_alloc_new w _), ← Array.getElem?_toList]
  exact hu
end

end Go.Proofs.Ytlhphielnnpjgaa

namespace Go.Proofs.Ytlhphielnnpjgaa
open Go.RowKit
section
variable {W : World} {A g c : Nat} {M D : Nat → Prop} {nodes root : Int} {L : List RS}
end

end Go.Proofs.Ytlhphielnnpjgaa

namespace Go.Proofs.Ytlhphielnnpjgaa
open Go.RowKit
section
variable {W : World} {A g c : Nat} {M D : Nat → Prop} {nodes root : Int} {L : List RS}
/-- Three cells of a row's block. -/
def set3 (W : World) (b o : Nat) (x0 x1 x2 : Value) : World := ((W.setCell ⟨b, o, none⟩ x0).setCell ⟨b, o + 1, none⟩ x1).setCell ⟨b, o + 2, none⟩ x2
theorem set3_upd (S : Nat → Prop) (W : World) (b o : Nat) (x0 x1 x2 : Value) (h : S b) : Upd S W (set3 W b o x0 x1 x2) :=
  (((Upd.refl S W).setCell _ _ (fun _ => h)).setCell _ _ (fun _ => h)).setCell _ _ (fun _ => h)

end

end Go.Proofs.Ytlhphielnnpjgaa

namespace Go.Proofs.Ytlhphielnnpjgaa
open Go.RowKit

/-- An arena, wherever it lies. -/
structure AS where
  nodes : Int
  root : Int
  sl : List (Nat × NP)
def AS.inn (s : AS) (id : Int) : Prop := 1 ≤ id ∧ id ≤ (s.sl.length : Nat)
instance (s : AS) (id : Int) : Decidable (s.inn id) := by unfold AS.inn; exact inferInstance
def AS.w (s : AS) (id : Int) : Nat := (s.sl.getD (id - 1).toNat (0, NP.zero)).1
def AS.n (s : AS) (id : Int) : NP := (s.sl.getD (id - 1).toNat (0, NP.zero)).2
def AS.setw (s : AS) (id : Int) (x : Nat) : AS := ⟨s.nodes, s.root, s.sl.set (id - 1).toNat (x, s.n id)⟩
def AS.setn (s : AS) (id : Int) (p : NP) : AS := ⟨s.nodes, s.root, s.sl.set (id - 1).toNat (s.w id, p)⟩
def AS.wordE (s : AS) (id : Int) : Int := if s.inn id then 0 else 101
def AS.wordW (s : AS) (id : Int) : Nat := if s.inn id then s.w id else 0
def AS.lockB (s : AS) (id : Int) (x : Nat) : Bool := decide (s.inn id ∧ s.w id = x ∧ x % 2 = 0)
def AS.lockS (s : AS) (id : Int) (x : Nat) : AS := if s.inn id ∧ s.w id = x ∧ x % 2 = 0 then s.setw id (x + 1) else s
def AS.unlE (s : AS) (id : Int) : Int := if s.inn id then (if s.w id % 2 = 0 then 102 else 0) else 101
def AS.unlS (s : AS) (id : Int) (ch : Bool) : AS := if s.unlE id = 0 then s.setw id (freeW (s.w id) ch) else s
def AS.hedS (s : AS) (id : Int) (lv : Int) (hi : List Int) (ri : Int) : AS := if s.unlE id = 0 then s.setn id ((s.n id).setH lv hi ri) else s
def AS.bodS (s : AS) (id : Int) (ks vs : List (List Int)) (cs : List Int) : AS := if s.unlE id = 0 then s.setn id ((s.n id).setB ks vs cs) else s
def AS.groB (s : AS) (old id : Int) : Bool := decide (s.inn id ∧ s.root = old)
def AS.groS (s : AS) (old id : Int) : AS := if s.inn id ∧ s.root = old then ⟨s.nodes, id, s.sl⟩ else s
def AS.allI (s : AS) : Int := if (s.sl.length : Int) < s.nodes then (s.sl.length : Int) + 1 else 0
def AS.allE (s : AS) : Int := if (s.sl.length : Int) < s.nodes then 0 else 2
def AS.allS (s : AS) : AS := if (s.sl.length : Int) < s.nodes then ⟨s.nodes, s.root, s.sl ++ [(1, NP.zero)]⟩ else s
theorem AS.idx {s : AS} {id : Int} (h : s.inn id) : ∃ i : Nat, i < s.sl.length ∧ id = (i : Int) + 1 ∧ (id - 1).toNat = i :=
  ⟨(id - 1).toNat, by unfold AS.inn at h; omega, by unfold AS.inn at h; omega, rfl⟩

/-- The program's arena at A, within F. -/
def PX (W : World) (A : Nat) (F : Nat → Prop) (s : AS) : Prop := ∃ M D L, PA W A M D s.nodes s.root L ∧ ndsOf L = s.sl ∧ (∀ k, M k ∨ D k → F k) ∧ (∀ k, F k → k < W.heap.size)
/-- A step of an arena. -/
structure Stp (F F' : Nat → Prop) (W W' : World) : Prop where
  f : ∀ k, F' k → F k ∨ W.heap.size ≤ k
  u : Upd F W W'
theorem Stp.refl (F : Nat → Prop) (W : World) : Stp F F W W := ⟨fun _ h => .inl h, Upd.refl _ _⟩
theorem PX.upd {W W' : World} {A : Nat} {F S : Nat → Prop} {s : AS} (h : PX W A F s) (hb : Upd S W W') (hs : ∀ k, F k → ¬ S k) : PX W' A F s := by
  obtain ⟨M, D, L, h1, h2, h3, h4⟩ := h
  exact ⟨M, D, L, h1.upd hb (fun k hk => hs k (h3 k hk)), h2, h3, fun k hk => Nat.lt_of_lt_of_le (h4 k hk) hb.size⟩
theorem PX.lt {W : World} {A : Nat} {F : Nat → Prop} {s : AS} (h : PX W A F s) : ∀ k, F k → k < W.heap.size := by obtain ⟨M, D, L, _, _, _, h4⟩ := h; exact h4
/-- What a call of an arena leaves. -/
def PNext (W : World) (A : Nat) (F : Nat → Prop) (s' : AS) (W' : World) : Prop := ∃ F', PX W' A F' s' ∧ Stp F F' W W'
theorem PX.still {W W' : World} {A : Nat} {F : Nat → Prop} {s : AS} (h : PX W A F s) (hb : Below W.heap.size W W') : PNext W A F s W' :=
  ⟨F, h.upd (S := Noth) (Upd.of_below hb _) (fun _ _ e => e), fun _ h => .inl h, Upd.of_below hb _⟩
/-- A step told by PA. -/
theorem pnext_of {W W' : World} {A : Nat} {F M D M' D' : Nat → Prop} {s' : AS} {L' : List Sl} (hF : ∀ k, M k ∨ D k → F k) (hlt : ∀ k, F k → k < W.heap.size) (h : PA W' A M' D' s'.nodes s'.root L') (he : ndsOf L' = s'.sl) (hm : ∀ k, M' k → M k ∨ W.heap.size ≤ k) (hd : ∀ k, D' k → D k ∨ W.heap.size ≤ k) (hu : Upd M W W') : PNext W A F s' W' := by
  refine ⟨fun k => F k ∨ (W.heap.size ≤ k ∧ k < W'.heap.size), ⟨M', D', L', h, he, ?_, ?_⟩, ⟨?_, hu.mono (fun k _ hk => hF k (.inl hk))⟩⟩
  · intro k hk
    have hl := h.lt k hk
    rcases hk with hk | hk
    · rcases hm k hk with h1 | h1
      · exact .inl (hF k (.inl h1))
      · exact .inr ⟨h1, hl⟩
    · rcases hd k hk with h1 | h1
      · exact .inl (hF k (.inr h1))
      · exact .inr ⟨h1, hl⟩
  · intro k hk
    rcases hk with hk | hk
    · exact Nat.lt_of_lt_of_le (hlt k hk) hu.size
    · exact hk.2
  · intro k hk
    rcases hk with hk | hk
    · exact .inl hk
    · exact .inr hk.1
theorem ndsOf_at {L : List Sl} {s : AS} (h : ndsOf L = s.sl) {i : Nat} (hi : i < L.length) {id : Int} (hid : id = (i : Int) + 1) : s.w id = L[i].w ∧ s.n id = L[i].n.p := by
  have : s.sl.getD (id - 1).toNat (0, NP.zero) = (L[i].w, L[i].n.p) := by
    rw [← h, show (id - 1).toNat = i by omega]
    simp [ndsOf, hi]
  unfold AS.w AS.n
  rw [this]
  exact ⟨rfl, rfl⟩
theorem ndsR_at {L : List RS} {s : AS} (h : ndsR L = s.sl) {i : Nat} (hi : i < L.length) {id : Int} (hid : id = (i : Int) + 1) : s.w id = L[i].w ∧ s.n id = L[i].n.p := by
  have : s.sl.getD (id - 1).toNat (0, NP.zero) = (L[i].w, L[i].n.p) := by
    rw [← h, show (id - 1).toNat = i by omega]
    simp [ndsR, hi]
  unfold AS.w AS.n
  rw [this]
  exact ⟨rfl, rfl⟩
theorem ndsOf_set {L : List Sl} {s : AS} (h : ndsOf L = s.sl) {i : Nat} {id : Int} (hid : id = (i : Int) + 1) (t : Sl) : ndsOf (L.set i t) = s.sl.set (id - 1).toNat (t.w, t.n.p) := by
  rw [← h, show (id - 1).toNat = i by omega]
  simp [ndsOf, List.map_set]
theorem ndsR_set {L : List RS} {s : AS} (h : ndsR L = s.sl) {i : Nat} {id : Int} (hid : id = (i : Int) + 1) (t : RS) : ndsR (L.set i t) = s.sl.set (id - 1).toNat (t.w, t.n.p) := by
  rw [← h, show (id - 1).toNat = i by omega]
  simp [ndsR, List.map_set]
theorem ndsOf_lenS {L : List Sl} {s : AS} (h : ndsOf L = s.sl) : L.length = s.sl.length := by rw [← h, ndsOf_len]
theorem ndsR_lenS {L : List RS} {s : AS} (h : ndsR L = s.sl) : L.length = s.sl.length := by rw [← h, ndsR_len]

section
variable {W : World} {A : Nat} {F : Nat → Prop} {s : AS}
/-! ### Used, Root, Left -/
theorem px_used (h : PX W A F s) : Calls Try.prog 41 #[.pointer (some ⟨A, 0, none⟩)] W fun e w' => e = .returned (.int .i64 (s.sl.length : Nat)) ∧ w' = W := by
  obtain ⟨M, D, L, h1, h2, _⟩ := h
  rw [← ndsOf_lenS h2]
  exact used_any h1
theorem px_root (h : PX W A F s) : Calls Try.prog 10 #[.pointer (some ⟨A, 0, none⟩)] W fun e w' => e = .returned (.int .i64 s.root) ∧ w' = W := by
  obtain ⟨M, D, L, h1, _⟩ := h
  exact root_any h1
theorem px_len (h : PX W A F s) : s.sl.length ≤ 65536 ∧ (s.sl.length : Int) ≤ s.nodes ∧ s.nodes ≤ 65536 ∧ 1 ≤ s.sl.length := by
  obtain ⟨M, D, L, h1, h2, _⟩ := h
  rw [← ndsOf_lenS h2]
  exact ⟨h1.n_le, h1.le, h1.nz, h1.one⟩
theorem px_wlt (h : PX W A F s) (id : Int) (hin : s.inn id) : s.w id < 18446744073709551616 := by
  obtain ⟨M, D, L, h1, h2, _⟩ := h
  obtain ⟨i, hi, hid, _⟩ := AS.idx hin
  have hi' : i < L.length := by rw [ndsOf_lenS h2]; exact hi
  rw [(ndsOf_at h2 hi' hid).1]
  exact (h1.sl L[i] (List.getElem_mem hi')).w
theorem freeW_lt (x : Nat) (ch : Bool) (hx : x < 18446744073709551616) : freeW x ch < 18446744073709551616 := by
  unfold freeW
  cases ch
  · simp; omega
  · simp only [if_true]; omega
theorem heE_eq {L : List RS} (h : ndsR L = s.sl) (id : Int) : heE L id = s.unlE id := by
  unfold heE AS.unlE
  by_cases hin : s.inn id
  · obtain ⟨i, hi, hid, e⟩ := AS.idx hin
    have hi' : i < L.length := by rw [ndsR_lenS h]; exact hi
    rw [if_pos hin, if_pos (by rw [ndsR_lenS h]; exact hin), (ndsR_at h hi' hid).1, e, List.getElem?_eq_getElem hi']
    rfl
  · rw [if_neg hin, if_neg (by rw [ndsR_lenS h]; exact hin)]
def AS.held (s : AS) : List Int := heldL (s.sl.map (·.1))
theorem px_held (h : PX W A F s) : Calls Try.prog 18 #[.pointer (some ⟨A, 0, none⟩)] W (HeldPost W s.held) := by
  obtain ⟨M, D, L, h1, h2, _⟩ := h
  have := held_any h1
  rwa [show heldL (L.map (·.w)) = s.held by unfold AS.held; rw [← h2]; simp [ndsOf, Function.comp_def]] at this
end

end Go.Proofs.Ytlhphielnnpjgaa

namespace Go.Proofs.Ytlhphielnnpjgaa
open Go.RowKit

/-- The node that is read. -/
def AS.rd (s : AS) (id : Int) : NP := if s.inn id then s.n id else NP.zero
def HdP2 (W : World) (p : NP) (er : Int) (e : Ending) (w' : World) : Prop :=
  ∃ t : Tx, e = .returned (.tuple #[.agg #[.int .i64 p.lv, t.v, .int .i64 p.ri], .int .i64 er]) ∧ t.s = p.hi ∧ OwnB w' W.heap.size 5 t.v t.s ∧ B8 t.s ∧ t.s.length ≤ 140737488351232 ∧ Below W.heap.size W w'
def BdP2 (W : World) (p : NP) (er : Int) (e : Ending) (w' : World) : Prop :=
  ∃ (k v : TL) (c : IL), e = .returned (.tuple #[.agg #[k.v, v.v, c.v], .int .i64 er]) ∧ k.p = p.ks ∧ v.p = p.vs ∧ c.s = p.cs ∧ k.Own w' W.heap.size ∧ v.Own w' W.heap.size ∧ w'.ownsRow W.heap.size 3 1 c.v c.s.length (c.s.map (Value.int .i64)) ∧
    (k.L.length * 24 ≤ 140737488352000 ∧ v.L.length * 24 ≤ 140737488352000 ∧ c.s.length * 8 ≤ 140737488352000) ∧ Below W.heap.size W w'
theorem tl_own_nil (W : World) (N : Nat) : (⟨none, 0, []⟩ : TL).Own W N := ⟨World.ownsRow_nil _ _ _ _, fun x hx => (by cases hx), fun x hx => (by cases hx)⟩
theorem hdP2_of {W w' : World} {e : Ending} {n : Nd} (hn : n.Ok W) (h : HePost W n.lv n.ri n.hi.s.length n.hi.s e w') : HdP2 W n.p 0 e w' := by
  obtain ⟨a, c, rfl, h1, h2⟩ := h
  exact ⟨⟨a, c, n.hi.s⟩, rfl, rfl, h1, hn.h.b8, hn.h.z, h2⟩
theorem bdP2_of {W w' : World} {e : Ending} {n : Nd} (hn : n.Ok W) (h : BoPost W n.ks.L.length n.vs.L.length n.cs.s.length n.ks.L n.vs.L n.cs.s e w') : BdP2 W n.p 0 e w' := by
  obtain ⟨kn, kd, K', vn, vd, V', cn, cd, rfl, p1, p2, l1, l2, o1, o2, o3, hb⟩ := h
  refine ⟨⟨kn, kd, K'⟩, ⟨vn, vd, V'⟩, ⟨cn, cd, n.cs.s⟩, ?_, p1, p2, rfl, o1, o2, o3, ⟨by simp only [l1]; exact hn.kz, by simp only [l2]; exact hn.vz, hn.cz⟩, hb⟩
  simp only [TL.v, IL.v, l1, l2]
section
variable {W : World} {A : Nat} {F : Nat → Prop} {s : AS}
theorem px_head (h : PX W A F s) (id : Int) : Calls Try.prog 20 #[.pointer (some ⟨A, 0, none⟩), .int .i64 id] W (HdP2 W (s.rd id) (s.wordE id)) := by
  obtain ⟨M, D, L, h1, h2, _⟩ := h
  unfold AS.rd
  by_cases hin : s.inn id
  · obtain ⟨i, hi, hid, _⟩ := AS.idx hin
    have hi' : i < L.length := by rw [ndsOf_lenS h2]; exact hi
    obtain ⟨hw, hn⟩ := ndsOf_at h2 hi' hid
    rw [show s.wordE id = 0 from if_pos hin, if_pos hin, hn]
    have := ahead_any h1 i hi'
    rw [← hid] at this
    exact this.mono fun e w' h => hdP2_of (h1.sl L[i] (List.getElem_mem hi')).n h
  · rw [show s.wordE id = 101 from if_neg hin, if_neg hin]
    refine (head_none h1 id (by rw [ndsOf_lenS h2]; exact hin)).mono ?_
    rintro e w' ⟨rfl, hb⟩
    exact ⟨⟨none, 0, []⟩, rfl, rfl, OwnB.nil _ _ _, B8.nil, Nat.zero_le _, hb⟩
theorem px_body (h : PX W A F s) (id : Int) : Calls Try.prog 21 #[.pointer (some ⟨A, 0, none⟩), .int .i64 id] W (BdP2 W (s.rd id) (s.wordE id)) := by
  obtain ⟨M, D, L, h1, h2, _⟩ := h
  unfold AS.rd
  by_cases hin : s.inn id
  · obtain ⟨i, hi, hid, _⟩ := AS.idx hin
    have hi' : i < L.length := by rw [ndsOf_lenS h2]; exact hi
    obtain ⟨hw, hn⟩ := ndsOf_at h2 hi' hid
    rw [show s.wordE id = 0 from if_pos hin, if_pos hin, hn]
    have := abody_any h1 i hi'
    rw [← hid] at this
    exact this.mono fun e w' h => bdP2_of (h1.sl L[i] (List.getElem_mem hi')).n h
  · rw [show s.wordE id = 101 from if_neg hin, if_neg hin]
    refine (body_none h1 id (by rw [ndsOf_lenS h2]; exact hin)).mono ?_
    rintro e w' ⟨rfl, hb⟩
    exact ⟨⟨none, 0, []⟩, ⟨none, 0, []⟩, ⟨none, 0, []⟩, rfl, rfl, rfl, rfl, tl_own_nil _ _, tl_own_nil _ _, World.ownsRow_nil _ _ _ _, ⟨Nat.zero_le _, Nat.zero_le _, Nat.zero_le _⟩, hb⟩
theorem opE_eq {L : List Sl} (h : ndsOf L = s.sl) (id : Int) (hne : s.unlE id ≠ 0) : opE L id = s.unlE id ∧ ∀ i (hi : i < L.length), id = (i : Int) + 1 → L[i].w % 2 = 0 := by
  unfold opE
  by_cases hin : s.inn id
  · have hw : s.w id % 2 = 0 := Decidable.byContradiction fun hc => hne (by unfold AS.unlE; rw [if_pos hin, if_neg hc])
    refine ⟨?_, fun i hi hid => by rw [← (ndsOf_at h hi hid).1]; exact hw⟩
    unfold AS.unlE
    rw [if_pos hin, if_pos hw, if_pos (by rw [ndsOf_lenS h]; exact hin)]
  · refine ⟨?_, fun i hi hid => absurd (show s.inn id by unfold AS.inn; rw [← ndsOf_lenS h]; omega) hin⟩
    unfold AS.unlE
    rw [if_neg hin, if_neg (by rw [ndsOf_lenS h]; exact hin)]
theorem unl_in {id : Int} (hE : s.unlE id = 0) : s.inn id ∧ s.w id % 2 = 1 := by
  have hin : s.inn id := Decidable.byContradiction fun hc => by unfold AS.unlE at hE; rw [if_neg hc] at hE; cases hE
  have hl : ¬ s.w id % 2 = 0 := fun hc => by unfold AS.unlE at hE; rw [if_pos hin, if_pos hc] at hE; cases hE
  exact ⟨hin, by omega⟩
end
/-! ### New -/
def AS.new (nodes : Int) : AS := ⟨nodes, 1, [(0, NP.zero)]⟩
def NewP (w : World) (nodes : Int) (e : Ending) (w' : World) : Prop := ∃ A F, e = .returned (.tuple #[.pointer (some ⟨A, 0, none⟩), .int .i64 0]) ∧ PX w' A F (AS.new nodes) ∧ (∀ k, F k → w.heap.size ≤ k) ∧ Below w.heap.size w w'
theorem px_new (nodes : Int) (w : World) (h1 : 1 ≤ nodes) (h2 : nodes ≤ 65536) : Calls Try.prog 8 #[.int .i64 nodes] w (NewP w nodes) := by
  refine (new_good nodes w h1 h2).mono ?_
  rintro e w' ⟨A, b, M, rfl, hP, hM, hB⟩
  refine ⟨A, M, rfl, ⟨M, Noth, _, hP, rfl, fun k hk => ?_, fun k hk => hP.lt k (.inl hk)⟩, hM, hB⟩
  rcases hk with hk | hk
  · exact hk
  · exact hk.elim
end Go.Proofs.Ytlhphielnnpjgaa
