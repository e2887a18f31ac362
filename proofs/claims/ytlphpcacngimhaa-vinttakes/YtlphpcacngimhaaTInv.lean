/- VintTakes: what the two pairs of takers are, between two rounds. -/
import Derived.Test.YtlphpcacngimhaaRTake
import Derived.Deep.RegionWith
import Derived.Deep.DeepCutAuto
namespace Go.Proofs.Ytlphpcacngimhaa
open Go.RowKit

/-- All that the two pairs of takers are, between two rounds: p, q: the program's; z, s, v: the document's. -/
structure TI (w wr : World) (B : Nat) (p0 : List Int) (q0 : Nat) (p1 : List Int) (q1 : Nat) (z0 : List Int) (s0 : Nat) (z1 : List Int) (s1 : Nat) (v0 v1 : Value) : Prop where
  t0 : VT wr B p0 q0
  t1 : VT wr (B + 1) p1 q1
  x : RY wr (B + 2) #[.pointer (some ⟨B, 0, none⟩), .pointer (some ⟨B + 1, 0, none⟩)] 46
  y : RY wr (B + 3) #[v0, .int .i64 (s0 : Int), v1, .int .i64 (s1 : Int)] 51
  r0 : wr.ownsRow (B + 3 + 1) 5 1 v0 z0.length (z0.map (Value.int .u8))
  r1 : wr.ownsRow (B + 3 + 1) 5 1 v1 z1.length (z1.map (Value.int .u8))
  ap : ∀ g, v0.ownBlock = some g → v1.ownBlock ≠ some g
  g0 : Good z0 s0
  g1 : Good z1 s1
  bel : Below w.heap.size w wr
  le : w.heap.size ≤ B

section
variable {w wr : World} {B : Nat} {p0 : List Int} {q0 : Nat} {p1 : List Int} {q1 : Nat} {z0 : List Int} {s0 : Nat} {z1 : List Int} {s1 : Nat} {v0 v1 : Value}

theorem owns_block {w w' : World} {base : Nat} {e : TypeId} {v : Value} {n : Nat} {xs : List Value} (h : w.ownsRow base e 1 v n xs) (hb : ∀ k, v.ownBlock = some k → w'.heap[k]? = w.heap[k]?) : w'.ownsRow base e 1 v n xs := by
  refine ⟨h.1, ?_⟩
  rcases h.2 with h | ⟨g, cap, cur, hv, hg, hh, r⟩
  · exact .inl h
  · exact .inr ⟨g, cap, cur, hv, hg, by rw [hb g (by rw [hv]; rfl)]; exact hh, r⟩
theorem RY.block {w w' : World} {b : Nat} {cs : Array Value} {T : TypeId} (h : RY w b cs T) (hb : w'.heap[b]? = w.heap[b]?) : RY w' b cs T := by unfold RY at *; rw [hb]; exact h
theorem RY.lt {w : World} {b : Nat} {cs : Array Value} {T : TypeId} (h : RY w b cs T) : b < w.heap.size := lt_of_block h

theorem TI.drew (h : TI w wr B p0 q0 p1 q1 z0 s0 z1 s1 v0 v1) : TI w wr.drew B p0 q0 p1 q1 z0 s0 z1 s1 v0 v1 :=
  ⟨h.t0, h.t1, h.x, h.y, h.r0, h.r1, h.ap, h.g0, h.g1, h.bel.drew, h.le⟩
theorem TI.drewN (h : TI w wr B p0 q0 p1 q1 z0 s0 z1 s1 v0 v1) (n : Nat) : TI w (wr.drewN n) B p0 q0 p1 q1 z0 s0 z1 s1 v0 v1 :=
  ⟨h.t0, h.t1, h.x, h.y, h.r0, h.r1, h.ap, h.g0, h.g1, h.bel.trans ⟨rfl, rfl, rfl, Nat.le_refl _, fun _ _ => rfl⟩, h.le⟩

theorem TI.v0step {w2 : World} {p' : List Int} {q' : Nat} (h : TI w wr B p0 q0 p1 q1 z0 s0 z1 s1 v0 v1) (hg : wr.grownBy w2 (some B)) (hV : VT w2 B p' q') : TI w w2 B p' q' p1 q1 z0 s0 z1 s1 v0 v1 := by
  have hy := h.y.lt
  have k : ∀ k, k < wr.heap.size → k ≠ B → w2.heap[k]? = wr.heap[k]? := fun k hk hne => hg.block k hk (fun e => hne (by cases e; rfl))
  refine ⟨hV, h.t1.block (k _ (by omega) (by omega)), h.x.block (k _ (by omega) (by omega)), h.y.block (k _ (by omega) (by omega)), owns_block h.r0 (fun g hg => ?_), owns_block h.r1 (fun g hg => ?_), h.ap, h.g0, h.g1, h.bel.grown hg h.bel.size (fun k e => by cases e; exact h.le), h.le⟩
  · have := h.r0.lt g hg; exact k _ (by omega) (by omega)
  · have := h.r1.lt g hg; exact k _ (by omega) (by omega)
theorem TI.v1step {w2 : World} {p' : List Int} {q' : Nat} (h : TI w wr B p0 q0 p1 q1 z0 s0 z1 s1 v0 v1) (hg : wr.grownBy w2 (some (B + 1))) (hV : VT w2 (B + 1) p' q') : TI w w2 B p0 q0 p' q' z0 s0 z1 s1 v0 v1 := by
  have hy := h.y.lt
  have hl := h.le
  have k : ∀ k, k < wr.heap.size → k ≠ B + 1 → w2.heap[k]? = wr.heap[k]? := fun k hk hne => hg.block k hk (fun e => hne (by cases e; rfl))
  refine ⟨h.t0.block (k _ (by omega) (by omega)), hV, h.x.block (k _ (by omega) (by omega)), h.y.block (k _ (by omega) (by omega)), owns_block h.r0 (fun g hg => ?_), owns_block h.r1 (fun g hg => ?_), h.ap, h.g0, h.g1, h.bel.grown hg h.bel.size (fun k e => by cases e; omega), h.le⟩
  · have := h.r0.lt g hg; exact k _ (by omega) (by omega)
  · have := h.r1.lt g hg; exact k _ (by omega) (by omega)

theorem TI.r0step {w2 : World} {c : Int} {v' : Value} (hc0 : 0 ≤ c) (hc1 : c ≤ 255) (h : TI w wr B p0 q0 p1 q1 z0 s0 z1 s1 v0 v1) (hy : RY w2 (B + 3) ((#[v0, .int .i64 (s0 : Int), v1, .int .i64 (s1 : Int)].setIfInBounds 0 v').setIfInBounds (0 + 1) (.int .i64 (stepSt z0 s0 c : Int))) 51)
    (hr : w2.ownsRow (B + 3 + 1) 5 1 v' (stepZs z0 s0 c).length ((stepZs z0 s0 c).map (Value.int .u8))) (ho : v'.ownBlock = v0.ownBlock ∨ ∃ g, v'.ownBlock = some g ∧ wr.heap.size ≤ g) (hg : Grown2 wr w2 (some (B + 3)) v0.ownBlock) :
    TI w w2 B p0 q0 p1 q1 (stepZs z0 s0 c) (stepSt z0 s0 c) z1 s1 v' v1 := by
  have hyl := h.y.lt
  have hl := h.le
  have hr0 := h.r0.lt
  have k : ∀ k, k < wr.heap.size → k ≠ B + 3 → some k ≠ v0.ownBlock → w2.heap[k]? = wr.heap[k]? := fun k hk hne hn => hg.block k hk (fun e => hne (by cases e; rfl)) hn
  have k' : ∀ k, k < B + 3 → w2.heap[k]? = wr.heap[k]? := fun j hj => k j (by omega) (by omega) (fun e => by have := hr0 j e.symm; omega)
  refine ⟨h.t0.block (k' _ (by omega)), h.t1.block (k' _ (by omega)), h.x.block (k' _ (by omega)), hy, hr, owns_block h.r1 (fun g hg => ?_), fun g e => ?_, h.g0.step c hc0 hc1, h.g1, h.bel.trans (hg.below (by omega) (fun k e => by have := hr0 k e; omega) h.bel.size), h.le⟩
  · have := h.r1.lt g hg
    exact k g (by omega) (by omega) (fun e => h.ap g e.symm hg)
  · rcases ho with ho | ⟨g', ho, hge⟩
    · exact h.ap g (by rw [← ho]; exact e)
    · rw [ho] at e
      cases e
      intro e'
      have := h.r1.lt _ e'
      omega
theorem TI.r1step {w2 : World} {c : Int} {v' : Value} (hc0 : 0 ≤ c) (hc1 : c ≤ 255) (h : TI w wr B p0 q0 p1 q1 z0 s0 z1 s1 v0 v1) (hy : RY w2 (B + 3) ((#[v0, .int .i64 (s0 : Int), v1, .int .i64 (s1 : Int)].setIfInBounds 2 v').setIfInBounds (2 + 1) (.int .i64 (stepSt z1 s1 c : Int))) 51)
    (hr : w2.ownsRow (B + 3 + 1) 5 1 v' (stepZs z1 s1 c).length ((stepZs z1 s1 c).map (Value.int .u8))) (ho : v'.ownBlock = v1.ownBlock ∨ ∃ g, v'.ownBlock = some g ∧ wr.heap.size ≤ g) (hg : Grown2 wr w2 (some (B + 3)) v1.ownBlock) :
    TI w w2 B p0 q0 p1 q1 z0 s0 (stepZs z1 s1 c) (stepSt z1 s1 c) v0 v' := by
  have hyl := h.y.lt
  have hl := h.le
  have hr1 := h.r1.lt
  have k : ∀ k, k < wr.heap.size → k ≠ B + 3 → some k ≠ v1.ownBlock → w2.heap[k]? = wr.heap[k]? := fun k hk hne hn => hg.block k hk (fun e => hne (by cases e; rfl)) hn
  have k' : ∀ k, k < B + 3 → w2.heap[k]? = wr.heap[k]? := fun j hj => k j (by omega) (by omega) (fun e => by have := hr1 j e.symm; omega)
  refine ⟨h.t0.block (k' _ (by omega)), h.t1.block (k' _ (by omega)), h.x.block (k' _ (by omega)), hy, owns_block h.r0 (fun g hg => ?_), hr, fun g e => ?_, h.g0, h.g1.step c hc0 hc1, h.bel.trans (hg.below (by omega) (fun k e => by have := hr1 k e; omega) h.bel.size), h.le⟩
  · have := h.r0.lt g hg
    exact k g (by omega) (by omega) (fun e => h.ap g hg e.symm)
  · rcases ho with ho | ⟨g', ho, hge⟩
    · rw [ho]; exact h.ap g e
    · rw [ho]
      intro e'
      cases e'
      have := h.r0.lt _ e
      omega
end

theorem ti_start (w w1 w2 w3 : World) (hT2 : IsT w2 w1.heap.size 0 0 false false) (hs2 : w2.heap.size = w1.heap.size + 1) (hT3 : IsT w3 w2.heap.size 0 0 false false) (hs3 : w3.heap.size = w2.heap.size + 1)
    (hbe1 : Below w.heap.size w w1) (hbe2 : Below w1.heap.size w1 w2) (hbe3 : Below w2.heap.size w2 w3) :
    TI w ((w3.alloc (.cells #[.pointer (some ⟨w1.heap.size, 0, none⟩), .pointer (some ⟨w1.heap.size + 1, 0, none⟩)] 46)).alloc (.cells #[.slice none 0 0, .int .i64 0, .slice none 0 0, .int .i64 0] 51)) w1.heap.size [] 0 [] 0 [] 0 [] 0 (.slice none 0 0) (.slice none 0 0) := by
  have hz1 := hbe1.size
  have hb3 : Below w3.heap.size w3 ((w3.alloc (.cells #[.pointer (some ⟨w1.heap.size, 0, none⟩), .pointer (some ⟨w1.heap.size + 1, 0, none⟩)] 46)).alloc (.cells #[.slice none 0 0, .int .i64 0, .slice none 0 0, .int .i64 0] 51)) := ((Below.refl _ _).alloc (Nat.le_refl _) _).alloc (by simp) _
  refine ⟨⟨0, (hT2.below hbe3 (by omega)).below hb3 (by omega), fun _ => rfl⟩, ⟨0, ?_, fun _ => rfl⟩, ?_, ?_, World.ownsRow_nil _ _ _ _, World.ownsRow_nil _ _ _ _, (fun g h => by cases h), Good.start, Good.start, ((hbe1.trans (hbe2.mono hz1)).trans (hbe3.mono (by omega))).trans (hb3.mono (by omega)), hz1⟩
  · have h := hT3.below hb3 (by omega)
    rwa [hs2] at h
  · show (World.alloc _ _).heap[w1.heap.size + 2]? = _
    rw [Below.heap_alloc _ _ _ (by simp; omega)]
    have := heap_alloc_new w3 (.cells #[.pointer (some ⟨w1.heap.size, 0, none⟩), .pointer (some ⟨w1.heap.size + 1, 0, none⟩)] 46)
    rwa [show w3.heap.size = w1.heap.size + 2 by omega] at this
  · have := heap_alloc_new (w3.alloc (.cells #[.pointer (some ⟨w1.heap.size, 0, none⟩), .pointer (some ⟨w1.heap.size + 1, 0, none⟩)] 46)) (.cells #[.slice none 0 0, .int .i64 0, .slice none 0 0, .int .i64 0] 51)
    rwa [show (w3.alloc (.cells #[.pointer (some ⟨w1.heap.size, 0, none⟩), .pointer (some ⟨w1.heap.size + 1, 0, none⟩)] 46)).heap.size = w1.heap.size + 3 by simp; omega] at this

end Go.Proofs.Ytlphpcacngimhaa
