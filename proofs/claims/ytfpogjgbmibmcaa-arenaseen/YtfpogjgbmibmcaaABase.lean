/- The program's arena in memory. No function is named here. -/
import Derived.Test.YtfpogjgbmibmcaaNRClone2
import Derived.Test.YtfpogjgbmibmcaaALatch
namespace Go.Proofs.Ytfpogjgbmibmcaa
open Go.RowKit

/-- A slot: its block, its word, its node. -/
structure Sl where
  b : Nat
  w : Nat
  n : Nd
def Sl.cells (s : Sl) : Array Value := #[.int .u64 (s.w : Nat), .int .i64 s.n.lv, s.n.hi.v, .int .i64 s.n.ri, s.n.ks.v, s.n.vs.v, s.n.cs.v]
def Sl.ptr (s : Sl) : Value := .pointer (some ⟨s.b, 0, none⟩)
/-- All that a node leads to lies in D. -/
structure Nd.In (D : Nat → Prop) (n : Nd) : Prop where
  h : ∀ x, n.hi.a = some x → 0 < n.hi.s.length → D x.block
  k : ∀ x, n.ks.a = some x → 0 < n.ks.L.length → D x.block
  ke : ∀ t ∈ n.ks.L, ∀ x, t.a = some x → 0 < t.s.length → D x.block
  v : ∀ x, n.vs.a = some x → 0 < n.vs.L.length → D x.block
  ve : ∀ t ∈ n.vs.L, ∀ x, t.a = some x → 0 < t.s.length → D x.block
  c : ∀ x, n.cs.a = some x → 0 < n.cs.s.length → D x.block
theorem Nd.In.mono {D E : Nat → Prop} {n : Nd} (h : n.In D) (hd : ∀ k, D k → E k) : n.In E :=
  ⟨fun x e l => hd _ (h.h x e l), fun x e l => hd _ (h.k x e l), fun t ht x e l => hd _ (h.ke t ht x e l), fun x e l => hd _ (h.v x e l), fun t ht x e l => hd _ (h.ve t ht x e l), fun x e l => hd _ (h.c x e l)⟩
theorem TCells.upd {W W' : World} {S : Nat → Prop} {a : Option Addr} {L : List Tx} (h : TCells W a L) (hb : Upd S W W') (hs : ∀ x, a = some x → 0 < L.length → ¬ S x.block) : TCells W' a L := by
  intro i hi
  obtain ⟨b, o, ha, hc⟩ := h i hi
  exact ⟨b, o, ha, hb.cell (p := ⟨b, o + i, none⟩) hc (fun e => hs ⟨b, o, none⟩ ha (by omega) e)⟩
theorem Tx.Ok.updL {W W' : World} {S : Nat → Prop} {t : Tx} (h : t.Ok W) (hb : Upd S W W') (hs : ∀ x, t.a = some x → 0 < t.s.length → ¬ S x.block) : t.Ok W' := ⟨h.r.upd hb hs, h.n, h.lc, h.b8, h.z⟩
theorem TL.Ok.upd {W W' : World} {S : Nat → Prop} {t : TL} (h : t.Ok W) (hb : Upd S W W') (hs : ∀ x, t.a = some x → 0 < t.L.length → ¬ S x.block) (he : ∀ y ∈ t.L, ∀ x, y.a = some x → 0 < y.s.length → ¬ S x.block) : t.Ok W' :=
  ⟨h.r.upd hb hs, fun y hy => (h.ok y hy).updL hb (he y hy), h.n, h.lc⟩
theorem IL.Ok.upd {W W' : World} {S : Nat → Prop} {t : IL} (h : t.Ok W) (hb : Upd S W W') (hs : ∀ x, t.a = some x → 0 < t.s.length → ¬ S x.block) : t.Ok W' :=
  ⟨h.r.upd hb hs, h.n, h.lc⟩
theorem Nd.Ok.upd {W W' : World} {S D : Nat → Prop} {n : Nd} (h : n.Ok W) (hi : n.In D) (hb : Upd S W W') (hs : ∀ k, D k → ¬ S k) : n.Ok W' :=
  ⟨h.h.updL hb (fun x e l => hs _ (hi.h x e l)), h.k.upd hb (fun x e l => hs _ (hi.k x e l)) (fun t ht x e l => hs _ (hi.ke t ht x e l)), h.v.upd hb (fun x e l => hs _ (hi.v x e l)) (fun t ht x e l => hs _ (hi.ve t ht x e l)), h.c.upd hb (fun x e l => hs _ (hi.c x e l)), h.kz, h.vz, h.cz⟩
/-- What is in memory lies below its end. -/
theorem Nd.Ok.in_ {W : World} {n : Nd} (h : n.Ok W) : n.In (fun k => k < W.heap.size) := by
  have hr : ∀ {k : IntKind} {a : Option Addr} {zs : List Int}, Row W k a zs → ∀ x, a = some x → 0 < zs.length → x.block < W.heap.size := fun r x e l => by
    obtain ⟨b, o, ha, hc⟩ := r 0 l
    rw [e] at ha
    cases ha
    exact World.block_lt_of_cell? W ⟨b, o + 0, none⟩ hc
  have ht : ∀ {a : Option Addr} {L : List Tx}, TCells W a L → ∀ x, a = some x → 0 < L.length → x.block < W.heap.size := fun r x e l => by
    obtain ⟨b, o, ha, hc⟩ := r 0 l
    rw [e] at ha
    cases ha
    exact World.block_lt_of_cell? W ⟨b, o + 0, none⟩ hc
  exact ⟨hr h.h.r, ht h.k.r, fun t hm => hr (h.k.ok t hm).r, ht h.v.r, fun t hm => hr (h.v.ok t hm).r, hr h.c.r⟩
theorem ownB_in {W : World} {N : Nat} {x : Tx} (h : OwnB W N 5 x.v x.s) : ∀ y, x.a = some y → N ≤ y.block ∧ y.block < W.heap.size := by
  intro y hy
  rcases h with ⟨hv, _⟩ | ⟨g, cap, cur, hv, hb, hh, _⟩
  · simp only [Tx.v, Value.slice.injEq] at hv; rw [hy] at hv; exact absurd hv.1 (by simp)
  · simp only [Tx.v, Value.slice.injEq] at hv
    rw [hy] at hv
    obtain ⟨h1, _, _⟩ := hv
    obtain rfl := Option.some.inj h1
    exact ⟨hb, lt_of_block hh⟩
theorem owns_in {W : World} {N : Nat} {e : TypeId} {a : Option Addr} {n m c : Nat} {xs : List Value} (h : W.ownsRow N e 1 (.slice a n c) m xs) : ∀ y, a = some y → N ≤ y.block ∧ y.block < W.heap.size := by
  intro y hy
  subst hy
  exact h.lt y.block (by
    rcases h.2 with ⟨hv, _⟩ | ⟨g, cap, cur, hv, _⟩
    · cases hv
    · cases hv; rfl)
theorem Nd.Own.in_ {W : World} {N : Nat} {n : Nd} (h : n.Own W N) : n.In (fun k => N ≤ k ∧ k < W.heap.size) :=
  ⟨fun x e _ => ownB_in h.h x e, fun x e _ => owns_in h.k.row x e, fun t ht x e _ => ownB_in (h.k.each t ht) x e, fun x e _ => owns_in h.v.row x e, fun t ht x e _ => ownB_in (h.v.each t ht) x e, fun x e _ => owns_in h.c x e⟩

def Nd.zero : Nd := ⟨0, ⟨none, 0, []⟩, 0, ⟨none, 0, []⟩, ⟨none, 0, []⟩, ⟨none, 0, []⟩⟩
def NP.zero : NP := ⟨0, [], 0, [], [], []⟩
theorem Nd.zero_p : Nd.zero.p = NP.zero := rfl
theorem Nd.zero_ok (W : World) : Nd.zero.Ok W := ⟨Tx.nil_ok W, TL.nil_ok W, TL.nil_ok W, IL.nil_ok W, Nat.zero_le _, Nat.zero_le _, Nat.zero_le _⟩
theorem Nd.zero_in (D : Nat → Prop) : Nd.zero.In D := ⟨(fun _ h _ => nomatch h), (fun _ h _ => nomatch h), (fun _ h => nomatch h), (fun _ h _ => nomatch h), (fun _ h => nomatch h), (fun _ h _ => nomatch h)⟩

structure Sl.Ok (W : World) (M D : Nat → Prop) (s : Sl) : Prop where
  c : W.heap[s.b]? = some (.cells s.cells 94 (0, 0))
  m : M s.b
  n : s.n.Ok W
  d : s.n.In D
  w : s.w < 18446744073709551616
/-- The arena at block A: M, what its calls may turn, D, what its nodes lead to. -/
structure PA (W : World) (A : Nat) (M D : Nat → Prop) (nodes root : Int) (L : List Sl) : Prop where
  row : ∃ g c, W.heap[A]? = some (.cells #[.slice (some ⟨g, 0, none⟩) L.length c, .int .i64 nodes, .int .i64 root] 97 (0, 0)) ∧ W.ownsRow 0 85 1 (.slice (some ⟨g, 0, none⟩) L.length c) L.length (L.map Sl.ptr) ∧ M g
  mA : M A
  lt : ∀ k, M k ∨ D k → k < W.heap.size
  dj : ∀ k, M k → ¬ D k
  sl : ∀ s ∈ L, s.Ok W M D
  nd : (L.map (·.b)).Nodup
  one : 1 ≤ L.length
  le : (L.length : Int) ≤ nodes
  nz : nodes ≤ 65536
theorem Sl.Ok.upd {W W' : World} {M D S : Nat → Prop} {s : Sl} (h : s.Ok W M D) (hb : Upd S W W') (hs : ∀ k, M k ∨ D k → ¬ S k) : s.Ok W' M D :=
  ⟨hb.heap h.c (hs _ (.inl h.m)), h.m, h.n.upd h.d hb (fun k hk => hs k (.inr hk)), h.d, h.w⟩
theorem PA.upd {W W' : World} {A : Nat} {M D S : Nat → Prop} {nodes root : Int} {L : List Sl} (h : PA W A M D nodes root L) (hb : Upd S W W') (hs : ∀ k, M k ∨ D k → ¬ S k) : PA W' A M D nodes root L := by
  obtain ⟨g, c, h1, h2, h3⟩ := h.row
  refine ⟨⟨g, c, hb.heap h1 (hs _ (.inl h.mA)), owns_upd h2 hb (fun k hk => ?_), h3⟩, h.mA, fun k hk => Nat.lt_of_lt_of_le (h.lt k hk) hb.size, h.dj, fun s hs' => (h.sl s hs').upd hb hs, h.nd, h.one, h.le, h.nz⟩
  cases hk
  exact hs _ (.inl h3)
theorem PA.drewN {W : World} {A : Nat} {M D : Nat → Prop} {nodes root : Int} {L : List Sl} (h : PA W A M D nodes root L) (m : Nat) : PA (W.drewN m) A M D nodes root L :=
  h.upd (S := Noth) ⟨rfl, rfl, rfl, Nat.le_refl _, fun _ _ _ => rfl⟩ (fun _ _ e => e)
theorem PA.below {W W' : World} {A : Nat} {M D : Nat → Prop} {nodes root : Int} {L : List Sl} (h : PA W A M D nodes root L) (hb : Below W.heap.size W W') : PA W' A M D nodes root L :=
  h.upd (S := Noth) (Upd.of_below hb _) (fun _ _ e => e)
theorem upd_drewN (S : Nat → Prop) (W : World) (m : Nat) : Upd S W (W.drewN m) := ⟨rfl, rfl, rfl, Nat.le_refl _, fun _ _ _ => rfl⟩

/-- Slots lie apart; none is the arena or its row. -/
theorem PA.slot_ne {W : World} {A : Nat} {M D : Nat → Prop} {nodes root : Int} {L : List Sl} (h : PA W A M D nodes root L) {i j : Nat} (hi : i < L.length) (hj : j < L.length) (hne : i ≠ j) : L[i].b ≠ L[j].b := by
  intro e
  have h1 := List.pairwise_iff_getElem.1 h.nd
  rcases Nat.lt_or_gt_of_ne hne with hl | hl
  · exact h1 i j (by simpa using hi) (by simpa using hj) hl (by simpa using e)
  · exact h1 j i (by simpa using hj) (by simpa using hi) hl (by simpa using e.symm)
theorem PA.slot_A {W : World} {A : Nat} {M D : Nat → Prop} {nodes root : Int} {L : List Sl} (h : PA W A M D nodes root L) {s : Sl} (hs : s ∈ L) : s.b ≠ A := by
  intro e
  obtain ⟨g, c, h1, _⟩ := h.row
  have := (h.sl s hs).c
  rw [e, h1] at this
  simp at this
theorem PA.row_ne {W : World} {A : Nat} {M D : Nat → Prop} {nodes root : Int} {L : List Sl} (h : PA W A M D nodes root L) {g c : Nat} {xs : List Value} (hr : W.ownsRow 0 85 1 (.slice (some ⟨g, 0, none⟩) L.length c) L.length xs) : g ≠ A ∧ ∀ s ∈ L, s.b ≠ g := by
  rcases hr.2 with ⟨hv, _⟩ | ⟨g', c', cur, hv, _, hh, _⟩
  · cases hv
  · cases hv
    constructor
    · intro e
      obtain ⟨g2, c2, h1, _⟩ := h.row
      rw [e, h1] at hh
      simp at hh
    · intro s hs e
      have := (h.sl s hs).c
      rw [e, hh] at this
      simp at this

/-- One slot turns. -/
theorem PA.put {W W1 : World} {A : Nat} {M D D' : Nat → Prop} {nodes root : Int} {L : List Sl} (h : PA W A M D nodes root L) {i : Nat} (hi : i < L.length) (s : Sl) (hb : s.b = L[i].b) (hu : Upd (fun k => k = L[i].b) W W1)
    (hD : ∀ k, D k → D' k) (hlt : ∀ k, D' k → k < W1.heap.size) (hdj : ∀ k, M k → ¬ D' k) (hok : s.Ok W1 M D') : PA W1 A M D' nodes root (L.set i s) := by
  have hmem : L[i] ∈ L := List.getElem_mem hi
  obtain ⟨g, c, h1, h2, h3⟩ := h.row
  obtain ⟨n1, n2⟩ := h.row_ne h2
  refine ⟨⟨g, c, ?_, ?_, h3⟩, h.mA, ?_, hdj, ?_, ?_, by rw [List.length_set]; exact h.one, by rw [List.length_set]; exact h.le, h.nz⟩
  · rw [List.length_set]
    exact hu.heap h1 (fun e => h.slot_A hmem e.symm)
  · rw [List.length_set, List.map_set, show s.ptr = (L.map Sl.ptr)[i]'(by simpa using hi) by rw [List.getElem_map]; unfold Sl.ptr; rw [hb], List.set_getElem_self]
    exact owns_upd h2 hu (fun k hk e => by cases hk; exact n2 _ hmem e.symm)
  · intro k hk
    rcases hk with hk | hk
    · exact Nat.lt_of_lt_of_le (h.lt k (.inl hk)) hu.size
    · exact hlt k hk
  · intro t ht
    obtain ⟨j, hj, rfl⟩ := List.mem_iff_getElem.1 ht
    rw [List.length_set] at hj
    by_cases hij : i = j
    · subst hij; rw [List.getElem_set_self]; exact hok
    · rw [List.getElem_set_ne hij]
      have ho := h.sl L[j] (List.getElem_mem hj)
      refine ⟨hu.heap ho.c (fun e => h.slot_ne hi hj hij e.symm), ho.m, ho.n.upd ho.d hu (fun k hk e => h.dj L[i].b (h.sl _ hmem).m (by rw [← e]; exact hk)), ho.d.mono hD, ho.w⟩
  · rw [List.map_set, hb, show L[i].b = (L.map (·.b))[i]'(by simpa using hi) by rw [List.getElem_map], List.set_getElem_self]
    exact h.nd
/-- A slot's word turns. -/
theorem PA.setW {W : World} {A : Nat} {M D : Nat → Prop} {nodes root : Int} {L : List Sl} (h : PA W A M D nodes root L) {i : Nat} (hi : i < L.length) (x : Nat) (hx : x < 18446744073709551616) :
    PA (W.setCell ⟨L[i].b, 0, none⟩ (.int .u64 (x : Nat))) A M D nodes root (L.set i ⟨L[i].b, x, L[i].n⟩) := by
  have ho := h.sl L[i] (List.getElem_mem hi)
  have hu : Upd (fun k => k = L[i].b) W (W.setCell ⟨L[i].b, 0, none⟩ (.int .u64 (x : Nat))) := (Upd.refl _ _).setCell _ _ (fun _ => rfl)
  refine h.put hi ⟨L[i].b, x, L[i].n⟩ rfl hu (fun k hk => hk) (fun k hk => Nat.lt_of_lt_of_le (h.lt k (.inr hk)) hu.size) h.dj ⟨block_setCell ho.c 0 _, ho.m, ho.n.upd ho.d hu (fun k hk e => h.dj _ ho.m (by rw [← e]; exact hk)), ho.d, hx⟩

/-- What the words and nodes are, wherever they lie. -/
def ndsOf (L : List Sl) : List (Nat × NP) := L.map fun s => (s.w, s.n.p)
theorem ndsOf_len (L : List Sl) : (ndsOf L).length = L.length := by simp [ndsOf]

end Go.Proofs.Ytfpogjgbmibmcaa
