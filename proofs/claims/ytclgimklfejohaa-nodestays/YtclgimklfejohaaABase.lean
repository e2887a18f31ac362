/- The program's arena in memory. No function is named here. -/
import Derived.Test.YtclgimklfejohaaNRClone2
import Derived.Test.YtclgimklfejohaaALatch
namespace Go.Proofs.Ytclgimklfejohaa
open Go.RowKit

/-- A slot: its block, its word, its node. -/
structure Sl where
  b : Nat
  w : Nat
  n : Nd
def Sl.cells (s : Sl) : Array Value := #[.int .u64 (s.w : Nat), .int .i64 s.n.lv, s.n.hi.v, .int .i64 s.n.ri, s.n.ks.v, s.n.vs.v, s.n.cs.v]
def Sl.ptr (s : Sl) : Value := .pointer (some ⟨s.b, 0, none⟩)
/-- All that a node leads to lies in D. -/
structure Nd.In (D : Nat → Prop) (n : Nd) : Prop where
  h : ∀ x, n.hi.a = some x → 0 < n.hi.s.length → D x.block
  k : ∀ x, n.ks.a = some x → 0 < n.ks.L.length → D x.block
  ke : ∀ t ∈ n.ks.L, ∀ x, t.a = some x → 0 < t.s.length → D x.block
  v : ∀ x, n.vs.a = some x → 0 < n.vs.L.length → D x.block
  ve : ∀ t ∈ n.vs.L, ∀ x, t.a = some x → 0 < t.s.length → D x.block
  c : ∀ x, n.cs.a = some x → 0 < n.cs.s.length → D x.block
theorem Nd.In.mono {D E : Nat → Prop} {n : Nd} (h : n.In D) (hd : ∀ k, D k → E k) : n.In E :=
  ⟨fun x e l => hd _ (h.h x e l), fun x e l => hd _ (h.k x e l), fun t ht x e l => hd _ (h.ke t ht x e l), fun x e l => hd _ (h.v x e l), fun t ht x e l => hd _ (h.ve t ht x e l), fun x e l => hd _ (h.c x e l)⟩
theorem TCells.upd {W W' : World} {S : Nat → Prop} {a : Option Addr} {L : List Tx} (h : TCells W a L) (hb : Upd S W W') (hs : ∀ x, a = some x → 0 < L.length → ¬ S x.block) : TCells W' a L := by
  intro i hi
  obtain ⟨b, o, ha, hc⟩ := h i hi
  exact ⟨b, o, ha, hb.cell (p := ⟨b, o + i, none⟩) hc (fun e => hs ⟨b, o, none⟩ ha (by omega) e)⟩
theorem Tx.Ok.updL {W W' : World} {S : Nat → Prop} {t : Tx} (h : t.Ok W) (hb : Upd S W W') (hs : ∀ x, t.a = some x → 0 < t.s.length → ¬ S x.block) : t.Ok W' := ⟨h.r.upd hb hs, h.n, h.lc, h.b8, h.z⟩
theorem TL.Ok.upd {W W' : World} {S : Nat → Prop} {t : TL} (h : t.Ok W) (hb : Upd S W W') (hs : ∀ x, t.a = some x → 0 < t.L.length → ¬ S x.block) (he : ∀ y ∈ t.L, ∀ x, y.a = some x → 0 < y.s.length → ¬ S x.block) : t.Ok W' :=
  ⟨h.r.upd hb hs, fun y hy => (h.ok y hy).updL hb (he y hy), h.n, h.lc⟩
theorem IL.Ok.upd {W W' : World} {S : Nat → Prop} {t : IL} (h : t.Ok W) (hb : Upd S W W') (hs : ∀ x, t.a = some x → 0 < t.s.length → ¬ S x.block) : t.Ok W' :=
  ⟨h.r.upd hb hs, h.n, h.lc⟩
theorem Nd.Ok.upd {W W' : World} {S D : Nat → Prop} {n : Nd} (h : n.Ok W) (hi : n.In D) (hb : Upd S W W') (hs : ∀ k, D k → ¬ S k) : n.Ok W' :=
  ⟨h.h.updL hb (fun x e l => hs _ (hi.h x e l)), h.k.upd hb (fun x e l => hs _ (hi.k x e l)) (fun t ht x e l => hs _ (hi.ke t ht x e l)), h.v.upd hb (fun x e l => hs _ (hi.v x e l)) (fun t ht x e l => hs _ (hi.ve t ht x e l)), h.c.upd hb (fun x e l => hs _ (hi.c x e l)), h.kz, h.vz, h.cz⟩
/-- What is in memory lies below its end. -/
theorem Nd.Ok.in_ {W : World} {n : Nd} (h : n.Ok W) : n.In (fun k => k < W.heap.size) := by
  have hr : ∀ {k : IntKind} {a : Option Addr} {zs : List Int}, Row W k a zs → ∀ x, a = some x → 0 < zs.length → x.block < W.heap.size := fun r x e l => by
    obtain ⟨b, o, ha, hc⟩ := r 0 l
    rw [e] at ha
    cases ha
    exact World.block_lt_of_cell? W ⟨b, o + 0, none⟩ hc
  have ht : ∀ {a : Option Addr} {L : List Tx}, TCells W a L → ∀ x, a = some x → 0 < L.length → x.block < W.heap.size := fun r x e l => by
    obtain ⟨b, o, ha, hc⟩ := r 0 l
    rw [e] at ha
    cases ha
    exact World.block_lt_of_cell? W ⟨b, o + 0, none⟩ hc
  exact ⟨hr h.h.r, ht h.k.r, fun t hm => hr (h.k.ok t hm).r, ht h.v.r, fun t hm => hr (h.v.ok t hm).r, hr h.c.r⟩
theorem ownB_in {W : World} {N : Nat} {x : Tx} (h : OwnB W N 5 x.v x.s) : ∀ y, x.a = some y → N ≤ y.block ∧ y.block < W.heap.size := by
  intro y hy
  rcases h with ⟨hv, _⟩ | ⟨g, cap, cur, hv, hb, hh, _⟩
  · simp only [Tx.v, Value.slice.injEq] at hv; rw [hy] at hv; exact absurd hv.1 (by simp)
  · simp only [Tx.v, Value.slice.injEq] at hv
    rw [hy] at hv
    obtain ⟨h1, _, _⟩ := hv
    obtain rfl := Option.some.inj h1
    exact ⟨hb, lt_of_block hh⟩
theorem owns_in {W : World} {N : Nat} {e : TypeId} {a : Option Addr} {n m c : Nat} {xs : List Value} (h : W.ownsRow N e 1 (.slice a n c) m xs) : ∀ y, a = some y → N ≤ y.block ∧ y.block < W.heap.size := by
  intro y hy
  subst hy
  exact h.lt y.block (by
    rcases h.2 with ⟨hv, _⟩ | ⟨g, cap, cur, hv, _⟩
    · cases hv
    · cases hv; rfl)
theorem Nd.Own.in_ {W : World} {N : Nat} {n : Nd} (h : n.Own W N) : n.In (fun k => N ≤ k ∧ k < W.heap.size) :=
  ⟨fun x e _ => ownB_in h.h x e, fun x e _ => owns_in h.k.row x e, fun t ht x e _ => ownB_in (h.k.each t ht) x e, fun x e _ => owns_in h.v.row x e, fun t ht x e _ => ownB_in (h.v.each t ht) x e, fun x e _ => owns_in h.c x e⟩

def Nd.zero : Nd := ⟨0, ⟨none, 0, []⟩, 0, ⟨none, 0, []⟩, ⟨none, 0, []⟩, ⟨none, 0, []⟩⟩
def NP.zero : NP := ⟨0, [], 0, [], [], []⟩
theorem Nd.zero_p : Nd.zero.p = NP.zero := rfl
theorem Nd.zero_ok (W : World) : Nd.zero.Ok W := ⟨Tx.nil_ok W, TL.nil_ok W, TL.nil_ok W, IL.nil_ok W, Nat.zero_le _, Nat.zero_le _, Nat.zero_le _⟩
theorem Nd.zero_in (D : Nat → Prop) : Nd.zero.In D := ⟨(fun _ h _ => nomatch h), (fun _ h _ => nomatch h), (fun _ h => nomatch h), (fun _ h _ => nomatch h), (fun _ h => nomatch h), (fun _ h _ => nomatch h)⟩

theorem upd_drewN (S : Nat → Prop) (W : World) (m : Nat) : Upd S W (W.drewN m) := ⟨rfl, rfl, rfl, Nat.le_refl _, fun _ _ _ => rfl⟩

/-- What the words and nodes are, wherever they lie. -/
def ndsOf (L : List Sl) : List (Nat × NP) := L.map fun s => (s.w, s.n.p)
theorem ndsOf_len (L : List Sl) : (ndsOf L).length = L.length := by simp [ndsOf]

end Go.Proofs.Ytclgimklfejohaa
