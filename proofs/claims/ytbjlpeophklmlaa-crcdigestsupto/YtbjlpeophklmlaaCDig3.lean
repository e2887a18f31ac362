/- CrcDigests: what holds between two steps of a script. -/
import Derived.Test.YtbjlpeophklmlaaCDig2
import Derived.Test.YtbjlpeophklmlaaCSeals
namespace Go.Proofs.Ytbjlpeophklmlaa
open Go.RowKit

def updL {α : Type} (f : Nat → α) (k : Nat) (x : α) (i : Nat) : α := if i = k then x else f i
theorem updL_same {α : Type} (f : Nat → α) (k : Nat) (x : α) : updL f k x k = x := by unfold updL; rw [if_pos rfl]
theorem updL_ne {α : Type} (f : Nat → α) {k i : Nat} (x : α) (h : i ≠ k) : updL f k x i = f i := by unfold updL; rw [if_neg h]
/-- Two texts in a block. -/
def Two (W : World) (g : Nat) (V : Nat → Value) : Prop := ∃ cs : Array Value, W.heap[g]? = some (.cells cs 45 (0, 0)) ∧ cs.size = 2 ∧ ∀ i, i < 2 → cs[i]? = some (V i)
theorem Two.cell {W : World} {g : Nat} {V : Nat → Value} (h : Two W g V) {i : Nat} (hi : i < 2) : W.cell? ⟨g, i, none⟩ = some (V i) := by
  obtain ⟨cs, h1, _, h3⟩ := h
  rw [cell_of_row _ _ _ _ _ _ h1]; exact h3 i hi
theorem Two.fr {W : World} {g : Nat} {V : Nat → Value} (h : Two W g V) (i : Nat) : W.frozen? ⟨g, i, none⟩ = false := by
  obtain ⟨cs, h1, _⟩ := h
  simp [World.frozen?, h1]
theorem Two.lt {W : World} {g : Nat} {V : Nat → Value} (h : Two W g V) : g < W.heap.size := by
  obtain ⟨cs, h1, _⟩ := h
  exact lt_of_block h1
theorem Two.blk {W W' : World} {g : Nat} {V : Nat → Value} (h : Two W g V) (hb : W'.heap[g]? = W.heap[g]?) : Two W' g V := by
  obtain ⟨cs, h1, r⟩ := h
  exact ⟨cs, hb.trans h1, r⟩
theorem Two.set {W : World} {g : Nat} {V : Nat → Value} (h : Two W g V) (k : Nat) (v : Value) : Two (W.setCell ⟨g, k, none⟩ v) g (updL V k v) := by
  obtain ⟨cs, h1, h2, h3⟩ := h
  refine ⟨_, block_setCell h1 k _, by rw [Array.size_setIfInBounds]; exact h2, fun i hi => ?_⟩
  by_cases e : i = k
  · subst e
    rw [Array.getElem?_setIfInBounds_self_of_lt (by omega), updL_same]
  · rw [Array.getElem?_setIfInBounds_ne (fun h => e h.symm), updL_ne _ _ e]
    exact h3 i hi

/-- Two digests that have read S, two texts Y. -/
structure DG (w W : World) (B gX gY : Nat) (D : Nat → Nat) (V : Nat → Value) (S Y : Nat → List Int) : Prop where
  x : ∀ i, i < 2 → W.cell? ⟨gX, i, none⟩ = some (.pointer (some ⟨D i, 0, none⟩))
  y : Two W gY V
  d : ∀ i, i < 2 → IsD W (D i) (sumOf (S i)) (S i).length
  own : ∀ i, i < 2 → W.ownsRow B 5 1 (V i) (Y i).length ((Y i).map (Value.int .u8))
  bel : Below w.heap.size w W
  lo : w.heap.size ≤ gX ∧ w.heap.size ≤ gY ∧ w.heap.size ≤ D 0 ∧ w.heap.size ≤ D 1
  hi : gX < B ∧ gY < B ∧ D 0 < B ∧ D 1 < B ∧ B ≤ W.heap.size
  ne : gX ≠ gY ∧ D 0 ≠ gX ∧ D 0 ≠ gY ∧ D 1 ≠ gX ∧ D 1 ≠ gY ∧ D 0 ≠ D 1
  sep : ∀ i j, i < 2 → j < 2 → i ≠ j → ∀ k, (V i).ownBlock = some k → (V j).ownBlock ≠ some k
theorem two_cases {P : Nat → Prop} (h0 : P 0) (h1 : P 1) : ∀ i, i < 2 → P i := fun i hi => by
  match i, hi with
  | 0, _ => exact h0
  | 1, _ => exact h1
theorem DG.dHi {w W : World} {B gX gY : Nat} {D : Nat → Nat} {V : Nat → Value} {S Y : Nat → List Int} (h : DG w W B gX gY D V S Y) : ∀ i, i < 2 → D i < B ∧ w.heap.size ≤ D i ∧ D i ≠ gX ∧ D i ≠ gY :=
  two_cases ⟨h.hi.2.2.1, h.lo.2.2.1, h.ne.2.1, h.ne.2.2.1⟩ ⟨h.hi.2.2.2.1, h.lo.2.2.2, h.ne.2.2.2.1, h.ne.2.2.2.2.1⟩
theorem DG.dNe {w W : World} {B gX gY : Nat} {D : Nat → Nat} {V : Nat → Value} {S Y : Nat → List Int} (h : DG w W B gX gY D V S Y) : ∀ i j, i < 2 → j < 2 → i ≠ j → D i ≠ D j := fun i j hi hj hne => by
  have h5 := h.ne.2.2.2.2.2
  match i, j, hi, hj, hne with
  | 0, 0, _, _, h => exact absurd rfl h
  | 0, 1, _, _, _ => exact h5
  | 1, 0, _, _, _ => exact fun e => h5 e.symm
  | 1, 1, _, _, h => exact absurd rfl h
/-- The world goes on; all that was there stays. -/
theorem DG.below {w W W' : World} {B gX gY : Nat} {D : Nat → Nat} {V : Nat → Value} {S Y : Nat → List Int} (h : DG w W B gX gY D V S Y) (hb : Below W.heap.size W W') : DG w W' B gX gY D V S Y := by
  have hB := h.hi.2.2.2.2
  refine ⟨fun i hi => (hb.cell (p := ⟨gX, i, none⟩) (Nat.lt_of_lt_of_le h.hi.1 hB)).trans (h.x i hi), h.y.blk (hb.block gY (Nat.lt_of_lt_of_le h.hi.2.1 hB)), fun i hi => (h.d i hi).below hb (h.d i hi).lt, fun i hi => ?_, h.bel.trans (hb.mono h.bel.size), h.lo, ⟨h.hi.1, h.hi.2.1, h.hi.2.2.1, h.hi.2.2.2.1, Nat.le_trans hB hb.size⟩, h.ne, h.sep⟩
  exact owns_blk (h.own i hi) (fun k hk => hb.block k ((h.own i hi).lt k hk).2)
/-- A block behind B that is no text's may turn. -/
theorem DG.kept {w W W' : World} {B gX gY : Nat} {D : Nat → Nat} {V : Nat → Value} {S Y : Nat → List Int} {row : Option Nat} (h : DG w W B gX gY D V S Y) (hg : W.grownBy W' row) (hr : ∀ k, row = some k → B ≤ k ∧ ∀ i, i < 2 → (V i).ownBlock ≠ some k) : DG w W' B gX gY D V S Y := by
  have hB := h.hi.2.2.2.2
  have hno : ∀ k, k < B → some k ≠ row := fun k hk e => by have := (hr k e.symm).1; omega
  refine ⟨fun i hi => hg.cell (h.x i hi) (hno _ h.hi.1), h.y.blk (hg.block gY (Nat.lt_of_lt_of_le h.hi.2.1 hB) (hno _ h.hi.2.1)), fun i hi => (h.d i hi).block (hg.block _ (h.d i hi).lt (hno _ (h.dHi i hi).1)), fun i hi => ?_, h.bel.grown hg h.bel.size (fun k hk => ?_), h.lo, ⟨h.hi.1, h.hi.2.1, h.hi.2.2.1, h.hi.2.2.2.1, Nat.le_trans hB hg.size⟩, h.ne, h.sep⟩
  · exact owns_blk (h.own i hi) (fun k hk => hg.block k ((h.own i hi).lt k hk).2 (fun e => (hr k e.symm).2 i hi hk))
  · have := (hr k hk).1
    have := h.lo.1
    have := h.hi.1
    omega
/-- One digest turns. -/
theorem DG.wrote {w W W' : World} {B gX gY : Nat} {D : Nat → Nat} {V : Nat → Value} {S Y : Nat → List Int} (h : DG w W B gX gY D V S Y) {j : Nat} (hj : j < 2) (T : List Int) (hg : W.grownBy W' (some (D j))) (hD : IsD W' (D j) (sumOf T) T.length) : DG w W' B gX gY D V (updL S j T) Y := by
  have hB := h.hi.2.2.2.2
  have hd := h.dHi j hj
  refine ⟨fun i hi => hg.cell (h.x i hi) (fun e => hd.2.2.1 (Option.some.inj e).symm), h.y.blk (hg.block gY (Nat.lt_of_lt_of_le h.hi.2.1 hB) (fun e => hd.2.2.2 (Option.some.inj e).symm)), fun i hi => ?_, fun i hi => ?_, h.bel.grown hg h.bel.size (fun k hk => by cases hk; exact hd.2.1), h.lo, ⟨h.hi.1, h.hi.2.1, h.hi.2.2.1, h.hi.2.2.2.1, Nat.le_trans hB hg.size⟩, h.ne, h.sep⟩
  · by_cases e : i = j
    · subst e
      rw [updL_same]; exact hD
    · rw [updL_ne _ _ e]
      exact (h.d i hi).block (hg.block _ (h.d i hi).lt (fun e2 => h.dNe i j hi hj e (Option.some.inj e2)))
  · exact owns_blk (h.own i hi) (fun k hk => hg.block k ((h.own i hi).lt k hk).2 (fun e => by
      have := ((h.own i hi).lt k hk).1
      have := Option.some.inj e
      omega))
/-- One text turns: its row has grown, and lies where it lay or in a new block. -/
theorem DG.told {w W W' : World} {B gX gY : Nat} {D : Nat → Nat} {V : Nat → Value} {S Y : Nat → List Int} (h : DG w W B gX gY D V S Y) {j : Nat} (hj : j < 2) (v : Value) (T : List Int) (hg : W.grownBy W' (V j).ownBlock) (hv : W'.ownsRow B 5 1 v T.length (T.map (Value.int .u8))) (hnew : ∀ k, v.ownBlock = some k → (V j).ownBlock = some k ∨ W.heap.size ≤ k) : DG w (W'.setCell ⟨gY, j, none⟩ v) B gX gY D (updL V j v) S (updL Y j T) := by
  have hB := h.hi.2.2.2.2
  have hno : ∀ k, k < B → some k ≠ (V j).ownBlock := fun k hk e => by have := ((h.own j hj).lt k e.symm).1; omega
  have hY : Two W' gY V := h.y.blk (hg.block gY (Nat.lt_of_lt_of_le h.hi.2.1 hB) (hno _ h.hi.2.1))
  refine ⟨fun i hi => ?_, hY.set j v, fun i hi => ?_, fun i hi => ?_, ?_, h.lo, ⟨h.hi.1, h.hi.2.1, h.hi.2.2.1, h.hi.2.2.2.1, by simp; exact Nat.le_trans hB hg.size⟩, h.ne, fun a b ha hb hab k hk => ?_⟩
  · have hc := hg.cell (h.x i hi) (hno _ h.hi.1)
    exact (World.cell?_of_block (a := ⟨gX, i, none⟩) (Below.heap_setCell _ _ _ _ h.ne.1)).trans hc
  · exact (h.d i hi).block ((Below.heap_setCell _ _ _ _ (h.dHi i hi).2.2.2).trans (hg.block _ (h.d i hi).lt (hno _ (h.dHi i hi).1)))
  · by_cases e : i = j
    · subst e
      rw [updL_same, updL_same]
      exact owns_blk hv (fun k hk => Below.heap_setCell _ _ _ _ (show k ≠ gY by have := (hv.lt k hk).1; have := h.hi.2.1; omega))
    · rw [updL_ne _ _ e, updL_ne _ _ e]
      refine owns_blk (h.own i hi) (fun k hk => ?_)
      have hk2 := (h.own i hi).lt k hk
      exact (Below.heap_setCell _ _ _ _ (show k ≠ gY by have := h.hi.2.1; omega)).trans (hg.block k hk2.2 (fun e2 => h.sep i j hi hj e k hk e2.symm))
  · refine (h.bel.grown hg h.bel.size (fun k hk => ?_)).setCell (p := ⟨gY, j, none⟩) h.lo.2.1 v
    have := ((h.own j hj).lt k hk).1
    have := h.lo.1
    have := h.hi.1
    omega
  · have far : ∀ i, i < 2 → i ≠ j → ∀ k, v.ownBlock = some k → (V i).ownBlock ≠ some k := fun i hi hij k hk hk2 => by
      rcases hnew k hk with h1 | h1
      · exact h.sep i j hi hj hij k hk2 h1
      · have := ((h.own i hi).lt k hk2).2
        omega
    by_cases e1 : a = j
    · subst e1
      rw [updL_same] at hk
      rw [updL_ne _ _ (fun e => hab e.symm)]
      exact far b hb (fun e => hab e.symm) k hk
    · rw [updL_ne _ _ e1] at hk
      by_cases e2 : b = j
      · subst e2
        rw [updL_same]
        exact fun e3 => far a ha e1 k e3 hk
      · rw [updL_ne _ _ e2]
        exact h.sep a b ha hb hab k hk

end Go.Proofs.Ytbjlpeophklmlaa
