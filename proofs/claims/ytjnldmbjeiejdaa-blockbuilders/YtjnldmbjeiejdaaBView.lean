/- BlockBuilders: two builders of the program, two of the document, beside one another. -/
import Derived.Test.YtjnldmbjeiejdaaBRAdd
import Derived.Test.YtjnldmbjeiejdaaBLook
import Derived.Test.YtjnldmbjeiejdaaBCopy
namespace Go.Proofs.Ytjnldmbjeiejdaa
open Go.RowKit

/-- The state, seen from builder k: xs: the pointers at gx; cs: the document's lists at gy. -/
structure BV (w W : World) (gx gy k : Nat) (xs cs : Array Value) (g : Nat) (M : Nat → Prop) (l : List KV) (v : Value) (E : List Ent) (g' : Nat) (M' : Nat → Prop) (l' : List KV) (v' : Value) (E' : List Ent) : Prop where
  k1 : k ≤ 1
  x : W.heap[gx]? = some (.cells xs 54 (0, 0))
  xk : xs[k]? = some (.pointer (some ⟨g, 0, none⟩))
  xk' : xs[1 - k]? = some (.pointer (some ⟨g', 0, none⟩))
  b : BdAt W w.heap.size M g l
  b' : BdAt W w.heap.size M' g' l'
  r : RbR W w.heap.size gy k cs v E
  r' : RbR W w.heap.size gy (1 - k) cs v' E'
  dM : ∀ i, M i → ¬ M' i
  dx : ¬ M gx ∧ ¬ M' gx ∧ gx ≠ gy ∧ v.ownBlock ≠ some gx ∧ v'.ownBlock ≠ some gx
  dy : ¬ M gy ∧ ¬ M' gy
  dv : ∀ i, v.ownBlock = some i → ¬ M i ∧ ¬ M' i ∧ v'.ownBlock ≠ some i
  dv' : ∀ i, v'.ownBlock = some i → ¬ M i ∧ ¬ M' i
  xN : w.heap.size ≤ gx
  bel : Below w.heap.size w W
section
variable {w W W' : World} {gx gy k : Nat} {xs cs : Array Value} {g : Nat} {M : Nat → Prop} {l : List KV} {v : Value} {E : List Ent} {g' : Nat} {M' : Nat → Prop} {l' : List KV} {v' : Value} {E' : List Ent}
/-- Seen from the other one. -/
theorem BV.swap (h : BV w W gx gy k xs cs g M l v E g' M' l' v' E') : BV w W gx gy (1 - k) xs cs g' M' l' v' E' g M l v E := by
  have hk := h.k1
  have e : 1 - (1 - k) = k := by omega
  exact ⟨by omega, h.x, h.xk', by rw [e]; exact h.xk, h.b', h.b, h.r', by rw [e]; exact h.r, fun i h1 h2 => h.dM i h2 h1, ⟨h.dx.2.1, h.dx.1, h.dx.2.2.1, h.dx.2.2.2.2, h.dx.2.2.2.1⟩, ⟨h.dy.2, h.dy.1⟩, fun i hi => ⟨(h.dv' i hi).2, (h.dv' i hi).1, fun e => (h.dv i e).2.2 hi⟩, fun i hi => ⟨(h.dv i hi).2.1, (h.dv i hi).1⟩, h.xN, h.bel⟩
/-- Blocks that are none of theirs. -/
def BV.Off (_ : BV w W gx gy k xs cs g M l v E g' M' l' v' E') (i : Nat) : Prop := w.heap.size ≤ i ∧ ¬ M i ∧ ¬ M' i ∧ i ≠ gx ∧ i ≠ gy ∧ v.ownBlock ≠ some i ∧ v'.ownBlock ≠ some i
theorem BV.young (h : BV w W gx gy k xs cs g M l v E g' M' l' v' E') (i : Nat) (hi : W.heap.size ≤ i) : h.Off i := by
  have hx := lt_of_block h.x
  have hy := lt_of_block h.r.blk
  have hz := h.bel.size
  exact ⟨by omega, fun e => by have := (h.b.lt i e).2; omega, fun e => by have := (h.b'.lt i e).2; omega, by omega, by omega, fun e => by have := (h.r.o.lt i e).2; omega, fun e => by have := (h.r'.o.lt i e).2; omega⟩
theorem BV.upd {S : Nat → Prop} (h : BV w W gx gy k xs cs g M l v E g' M' l' v' E') (hu : Upd S W W') (hs : ∀ i, S i → h.Off i) : BV w W' gx gy k xs cs g M l v E g' M' l' v' E' :=
  ⟨h.k1, hu.heap h.x (fun e => (hs _ e).2.2.2.1 rfl), h.xk, h.xk', h.b.upd hu (fun i hi e => (hs i e).2.1 hi), h.b'.upd hu (fun i hi e => (hs i e).2.2.1 hi),
    h.r.upd hu (fun e => (hs _ e).2.2.2.2.1 rfl) (fun b hb e => (hs b e).2.2.2.2.2.1 hb) (fun b hb e => by have := (hs b e).1; omega),
    h.r'.upd hu (fun e => (hs _ e).2.2.2.2.1 rfl) (fun b hb e => (hs b e).2.2.2.2.2.2 hb) (fun b hb e => by have := (hs b e).1; omega),
    h.dM, h.dx, h.dy, h.dv, h.dv', h.xN, h.bel.trans (hu.below h.bel.size (fun i hi e => by have := (hs i e).1; omega))⟩
theorem BV.below (h : BV w W gx gy k xs cs g M l v E g' M' l' v' E') (hb : Below W.heap.size W W') : BV w W' gx gy k xs cs g M l v E g' M' l' v' E' := h.upd (Upd.of_below hb Noth) (fun _ e => e.elim)
/-- The program's builder has turned. -/
theorem BV.prog {M1 : Nat → Prop} {l1 : List KV} (h : BV w W gx gy k xs cs g M l v E g' M' l' v' E') (hb : BdAt W' w.heap.size M1 g l1) (hu : Upd M W W') (hM : ∀ i, M1 i → M i ∨ W.heap.size ≤ i) : BV w W' gx gy k xs cs g M1 l1 v E g' M' l' v' E' := by
  have hn : ∀ i, w.heap.size ≤ i ∨ ¬ M i := fun i => by
    by_cases e : M i
    · exact .inl (h.b.lt i e).1
    · exact .inr e
  have hlow : ∀ i, i < w.heap.size → ¬ M i := fun i hi e => by have := (h.b.lt i e).1; omega
  have hx := lt_of_block h.x
  have hy := lt_of_block h.r.blk
  refine ⟨h.k1, hu.heap h.x h.dx.1, h.xk, h.xk', hb, h.b'.upd hu (fun i hi e => h.dM i e hi), h.r.upd hu h.dy.1 (fun b hb => (h.dv b hb).1) hlow, h.r'.upd hu h.dy.1 (fun b hb => (h.dv' b hb).1) hlow, fun i h1 h2 => ?_, ⟨fun e => ?_, h.dx.2⟩, ⟨fun e => ?_, h.dy.2⟩, fun i hi => ⟨fun e => ?_, (h.dv i hi).2⟩, fun i hi => ⟨fun e => ?_, (h.dv' i hi).2⟩, h.xN, h.bel.trans (hu.below h.bel.size hlow)⟩
  · rcases hM i h1 with h3 | h3
    · exact h.dM i h3 h2
    · have := (h.b'.lt i h2).2; omega
  · rcases hM _ e with h3 | h3
    · exact h.dx.1 h3
    · omega
  · rcases hM _ e with h3 | h3
    · exact h.dy.1 h3
    · omega
  · rcases hM _ e with h3 | h3
    · exact (h.dv i hi).1 h3
    · have := (h.r.o.lt i hi).2; omega
  · rcases hM _ e with h3 | h3
    · exact (h.dv' i hi).1 h3
    · have := (h.r'.o.lt i hi).2; omega
/-- The document's builder has turned. -/
theorem BV.doc {cs1 : Array Value} {v1 : Value} {E1 : List Ent} (h : BV w W gx gy k xs cs g M l v E g' M' l' v' E') (hr : RbR W' w.heap.size gy k cs1 v1 E1) (hu : Upd (fun i => i = gy ∨ v.ownBlock = some i) W W') (hv : ∀ b, v1.ownBlock = some b → v.ownBlock = some b ∨ W.heap.size ≤ b) (hcs : ∀ j, j ≠ k → cs1[j]? = cs[j]?) : BV w W' gx gy k xs cs1 g M l v1 E1 g' M' l' v' E' := by
  have hk := h.k1
  have hx := lt_of_block h.x
  have hlow : ∀ i, i < w.heap.size → ¬ (i = gy ∨ v.ownBlock = some i) := fun i hi e => by
    rcases e with e | e
    · have := h.r.gN; omega
    · have := (h.r.o.lt i e).1; omega
  have hM : ∀ i, M i → ¬ (i = gy ∨ v.ownBlock = some i) := fun i hi e => by
    rcases e with e | e
    · rw [e] at hi; exact h.dy.1 hi
    · exact (h.dv i e).1 hi
  have hM' : ∀ i, M' i → ¬ (i = gy ∨ v.ownBlock = some i) := fun i hi e => by
    rcases e with e | e
    · rw [e] at hi; exact h.dy.2 hi
    · exact (h.dv i e).2.1 hi
  have hv' : ∀ b, v'.ownBlock = some b → ¬ (b = gy ∨ v.ownBlock = some b) := fun b hb e => by
    rcases e with e | e
    · exact h.r'.dy b hb e
    · exact (h.dv b e).2.2 hb
  refine ⟨h.k1, hu.heap h.x (fun e => e.elim h.dx.2.2.1 h.dx.2.2.2.1), h.xk, h.xk', h.b.upd hu hM, h.b'.upd hu hM', hr, ⟨hr.blk, by rw [hcs _ (by omega)]; exact h.r'.at', own_upd2 h.r'.o hu hv', fun i hi => (h.r'.ok i hi).upd hu (fun x hx h0 => hlow _ (h.r'.sep i hi x (.inl ⟨hx, h0⟩))) (fun x hx h0 => hlow _ (h.r'.sep i hi x (.inr ⟨hx, h0⟩))), h.r'.sep, h.r'.g, h.r'.dy, h.r'.gN⟩, h.dM, ⟨h.dx.1, h.dx.2.1, h.dx.2.2.1, fun e => ?_, h.dx.2.2.2.2⟩, h.dy, fun i hi => ?_, h.dv', h.xN, h.bel.trans (hu.below h.bel.size hlow)⟩
  · rcases hv _ e with h3 | h3
    · exact h.dx.2.2.2.1 h3
    · omega
  · rcases hv i hi with h3 | h3
    · exact h.dv i h3
    · have q := h.young i h3
      exact ⟨q.2.1, q.2.2.1, q.2.2.2.2.2.2⟩
/-- The document's list is laid down. -/
theorem BV.clear (h : BV w W gx gy k xs cs g M l v E g' M' l' v' E') : BV w (W.setCell ⟨gy, k, none⟩ (.slice none 0 0)) gx gy k xs (cs.setIfInBounds k (.slice none 0 0)) g M l (.slice none 0 0) [] g' M' l' v' E' := by
  have hks : k < cs.size := by
    have h1 := h.r.at'
    rcases Nat.lt_or_ge k cs.size with h2 | h2
    · exact h2
    · rw [Array.getElem?_eq_none h2] at h1; cases h1
  refine h.doc ⟨block_setCell h.r.blk k _, by simp [hks], World.ownsRow_nil _ _ _ _, fun i h => absurd h (Nat.not_lt_zero i), fun i h => absurd h (Nat.not_lt_zero i), Good.nil, (fun b h => by cases h), h.r.gN⟩ ((set_upd W gy k _).mono (fun i _ e => .inl e)) (fun b hb => by cases hb) (fun j hj => ?_)
  rw [Array.getElem?_setIfInBounds]
  simp [Ne.symm hj]
end

/-- In the beginning. -/
theorem bv_new (w w1 : World) (hb : Below w.heap.size w w1) :
    BV w ((((w1.alloc (.cells #[.int .i64 0, .slice none 0 0, .slice none 0 0, .slice none 0 0] 87)).alloc (.cells #[.int .i64 0, .slice none 0 0, .slice none 0 0, .slice none 0 0] 87)).alloc (.cells #[.pointer (some ⟨w1.heap.size, 0, none⟩), .pointer (some ⟨w1.heap.size + 1, 0, none⟩)] 54)).alloc (.cells #[.slice none 0 0, .slice none 0 0] 59))
      (w1.heap.size + 2) (w1.heap.size + 3) 0 #[.pointer (some ⟨w1.heap.size, 0, none⟩), .pointer (some ⟨w1.heap.size + 1, 0, none⟩)] #[.slice none 0 0, .slice none 0 0] w1.heap.size (fun i => i = w1.heap.size) [] (.slice none 0 0) [] (w1.heap.size + 1) (fun i => i = w1.heap.size + 1) [] (.slice none 0 0) [] := by
  have hz := hb.size
  obtain ⟨w2, hw2⟩ : ∃ w2, w2 = w1.alloc (.cells #[.int .i64 0, .slice none 0 0, .slice none 0 0, .slice none 0 0] 87) := ⟨_, rfl⟩
  have z2 : w2.heap.size = w1.heap.size + 1 := by rw [hw2]; simp
  obtain ⟨w3, hw3⟩ : ∃ w3, w3 = w2.alloc (.cells #[.int .i64 0, .slice none 0 0, .slice none 0 0, .slice none 0 0] 87) := ⟨_, rfl⟩
  have z3 : w3.heap.size = w1.heap.size + 2 := by rw [hw3]; simp; omega
  obtain ⟨w4, hw4⟩ : ∃ w4, w4 = w3.alloc (.cells #[.pointer (some ⟨w1.heap.size, 0, none⟩), .pointer (some ⟨w1.heap.size + 1, 0, none⟩)] 54) := ⟨_, rfl⟩
  have z4 : w4.heap.size = w1.heap.size + 3 := by rw [hw4]; simp; omega
  rw [← hw2, ← hw3, ← hw4]
  have b0 : BdAt w2 w.heap.size (fun i => i = w1.heap.size) w1.heap.size [] := by rw [hw2]; exact ⟨Good.nil, _, _, _, BdR.fresh w1 _ hz, fun i => (bdM_nil _ i).symm⟩
  have b1 : BdAt w3 w.heap.size (fun i => i = w1.heap.size + 1) (w1.heap.size + 1) [] := by
    have := BdR.fresh w2 w.heap.size (by omega)
    rw [z2, ← hw3] at this
    exact ⟨Good.nil, _, _, _, this, fun i => (bdM_nil _ i).symm⟩
  have u12 : Upd Noth w1 w2 := by rw [hw2]; exact (Upd.refl _ _).alloc _
  have u34 : Upd Noth w3 w4 := by rw [hw4]; exact (Upd.refl _ _).alloc _
  have u23 : Upd Noth w2 w3 := by rw [hw3]; exact (Upd.refl _ _).alloc _
  have u45 : Upd Noth w4 (w4.alloc (.cells #[.slice none 0 0, .slice none 0 0] 59)) := (Upd.refl _ _).alloc _
  have hx : w4.heap[w1.heap.size + 2]? = some (.cells #[.pointer (some ⟨w1.heap.size, 0, none⟩), .pointer (some ⟨w1.heap.size + 1, 0, none⟩)] 54 (0, 0)) := by rw [hw4, ← z3]; exact heap_alloc_new w3 _
  have hy : (w4.alloc (.cells #[.slice none 0 0, .slice none 0 0] 59)).heap[w1.heap.size + 3]? = some (.cells #[.slice none 0 0, .slice none 0 0] 59 (0, 0)) := by rw [← z4]; exact heap_alloc_new w4 _
  have hr : ∀ k, k ≤ 1 → RbR (w4.alloc (.cells #[.slice none 0 0, .slice none 0 0] 59)) w.heap.size (w1.heap.size + 3) k #[.slice none 0 0, .slice none 0 0] (.slice none 0 0) [] := fun k hk => by
    refine ⟨hy, ?_, World.ownsRow_nil _ _ _ _, fun i h => absurd h (Nat.not_lt_zero i), fun i h => absurd h (Nat.not_lt_zero i), Good.nil, (fun b h => by cases h), by omega⟩
    have : k = 0 ∨ k = 1 := by omega
    rcases this with rfl | rfl <;> rfl
  exact ⟨by omega, u45.heap hx (fun e => e), rfl, rfl, (((b0.upd u23 (fun _ _ e => e)).upd u34 (fun _ _ e => e)).upd u45 (fun _ _ e => e)), ((b1.upd u34 (fun _ _ e => e)).upd u45 (fun _ _ e => e)), hr 0 (by omega), hr 1 (by omega), (fun i h1 h2 => by omega), ⟨by omega, by omega, by omega, (fun e => by cases e), (fun e => by cases e)⟩, ⟨by omega, by omega⟩, (fun i h => by cases h), (fun i h => by cases h), by omega, hb.trans ((((u12.trans u23).trans u34).trans u45).toBelow.mono hz)⟩

end Go.Proofs.Ytjnldmbjeiejdaa
