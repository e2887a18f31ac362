/- What a step may turn: blocks of a set, and new ones. No program is named here. -/
import Derived.Test.YteindoemdonagaaG7
import Derived.RangeFuncWrites
import Derived.RangeFuncLeaves
import Derived.RangeFuncCalls
namespace Go.Proofs.Yteindoemdonagaa
open Go.RowKit

/-- Blocks outside S that lay lie as they lay. -/
structure Upd (S : Nat → Prop) (A B : World) : Prop where
  os : B.os = A.os
  tape : B.tape = A.tape
  output : B.output = A.output
  size : A.heap.size ≤ B.heap.size
  block : ∀ k, k < A.heap.size → ¬ S k → B.heap[k]? = A.heap[k]?
def Noth : Nat → Prop := fun _ => False
theorem Upd.refl (S : Nat → Prop) (A : World) : Upd S A A := ⟨rfl, rfl, rfl, Nat.le_refl _, fun _ _ _ => rfl⟩
theorem Upd.trans {S : Nat → Prop} {A B C : World} (h : Upd S A B) (k : Upd S B C) : Upd S A C :=
  ⟨k.os.trans h.os, k.tape.trans h.tape, k.output.trans h.output, Nat.le_trans h.size k.size, fun i hi hs => (k.block i (Nat.lt_of_lt_of_le hi h.size) hs).trans (h.block i hi hs)⟩
/-- Two steps: what the second turns is in S, or was new. -/
theorem Upd.then {S T : Nat → Prop} {A B C : World} (h : Upd S A B) (k : Upd T B C) (ht : ∀ i, i < A.heap.size → T i → S i) : Upd S A C :=
  ⟨k.os.trans h.os, k.tape.trans h.tape, k.output.trans h.output, Nat.le_trans h.size k.size, fun i hi hs => (k.block i (Nat.lt_of_lt_of_le hi h.size) (fun e => hs (ht i hi e))).trans (h.block i hi hs)⟩
theorem Upd.mono {S T : Nat → Prop} {A B : World} (h : Upd S A B) (ht : ∀ i, i < A.heap.size → S i → T i) : Upd T A B :=
  ⟨h.os, h.tape, h.output, h.size, fun i hi hs => h.block i hi (fun e => hs (ht i hi e))⟩
theorem Upd.of_below {A B : World} (h : Below A.heap.size A B) (S : Nat → Prop) : Upd S A B := ⟨h.os, h.tape, h.output, h.size, fun k hk _ => h.block k hk⟩
theorem Upd.of_grown {A B : World} {row : Option Nat} {S : Nat → Prop} (h : A.grownBy B row) (hr : ∀ k, row = some k → k < A.heap.size → S k) : Upd S A B :=
  ⟨h.os, h.tape, h.output, h.size, fun k hk hs => h.block k hk (fun e => hs (hr k e.symm hk))⟩
theorem Upd.alloc {S : Nat → Prop} {A B : World} (h : Upd S A B) (o : Obj) : Upd S A (B.alloc o) :=
  h.then (T := Noth) ⟨rfl, rfl, rfl, by simp, fun k hk _ => Below.heap_alloc _ _ _ hk⟩ (fun _ _ e => e.elim)
theorem Upd.drew {S : Nat → Prop} {A B : World} (h : Upd S A B) : Upd S A B.drew := ⟨h.os, h.tape, h.output, h.size, h.block⟩
theorem Upd.setCell {S : Nat → Prop} {A B : World} (h : Upd S A B) (p : Addr) (v : Value) (hp : p.block < A.heap.size → S p.block) : Upd S A (B.setCell p v) :=
  h.then (T := fun k => k = p.block) ⟨rfl, rfl, rfl, by simp [World.setCell], fun k _ hk => Below.heap_setCell _ _ _ _ hk⟩ (fun i hi e => by subst e; exact hp hi)
theorem Upd.putObj {S : Nat → Prop} {A B : World} (h : Upd S A B) (l : Nat) (o : Obj) (hp : l < A.heap.size → S l) : Upd S A (B.putObj l o) :=
  h.then (T := fun k => k = l) ⟨rfl, rfl, rfl, by simp, fun k _ hk => World.putObj_heap_other hk⟩ (fun i hi e => by subst e; exact hp hi)
theorem Upd.below {S : Nat → Prop} {A B : World} {n : Nat} (h : Upd S A B) (hn : n ≤ A.heap.size) (hs : ∀ k, k < n → ¬ S k) : Below n A B :=
  ⟨h.os, h.tape, h.output, h.size, fun k hk => h.block k (Nat.lt_of_lt_of_le hk hn) (hs k hk)⟩
theorem Upd.cell {S : Nat → Prop} {A B : World} {p : Addr} {v : Value} (h : Upd S A B) (hc : A.cell? p = some v) (hs : ¬ S p.block) : B.cell? p = some v :=
  (World.cell?_of_block (h.block p.block (World.block_lt_of_cell? A p hc) hs)).trans hc
theorem Upd.heap {S : Nat → Prop} {A B : World} {g : Nat} {o : Obj} (h : Upd S A B) (hc : A.heap[g]? = some o) (hs : ¬ S g) : B.heap[g]? = some o := (h.block g (lt_of_block hc) hs).trans hc
theorem Upd.noth {S : Nat → Prop} {A B : World} (h : Upd Noth A B) : Upd S A B := h.mono (fun _ _ e => e.elim)
theorem Upd.toGrown {A B : World} (h : Upd Noth A B) (row : Option Nat) : A.grownBy B row := ⟨h.os, h.tape, h.output, h.size, fun k hk _ => h.block k hk (fun e => e)⟩
theorem Upd.toBelow {A B : World} (h : Upd Noth A B) : Below A.heap.size A B := h.below (Nat.le_refl _) (fun _ _ e => e)
theorem Row.upd {S : Nat → Prop} {w w' : World} {k : IntKind} {a : Option Addr} {zs : List Int} (h : Row w k a zs) (hb : Upd S w w') (hs : ∀ x, a = some x → 0 < zs.length → ¬ S x.block) : Row w' k a zs := by
  intro i hi
  obtain ⟨b, off, ha, hc⟩ := h i hi
  exact ⟨b, off, ha, hb.cell hc (fun e => hs ⟨b, off, none⟩ ha (by omega) e)⟩
theorem OwnB.upd {S : Nat → Prop} {w w' : World} {base : Nat} {e : TypeId} {v : Value} {zs : List Int} (h : OwnB w base e v zs) (hb : Upd S w w') (hs : ∀ k, v.ownBlock = some k → ¬ S k) : OwnB w' base e v zs :=
  h.blk fun k hk => hb.block k (h.owns.lt k hk).2 (hs k hk)
theorem owns_upd {S : Nat → Prop} {w w' : World} {base : Nat} {e : TypeId} {v : Value} {n : Nat} {xs : List Value} (h : w.ownsRow base e 1 v n xs) (hb : Upd S w w') (hs : ∀ k, v.ownBlock = some k → ¬ S k) : w'.ownsRow base e 1 v n xs :=
  owns_blk h fun k hk => hb.block k (h.lt k hk).2 (hs k hk)

/-! ### A range over a function that turns memory between its rounds -/

/-- The iterator turns M's blocks, and new ones; the rounds leave Pr's alone; D: what the iterator tells at each call, over the world in which the round before ended; S: what it tells at its end. -/
def SeqW {α : Type} (F : Fence) (n : Nat) (P : Program) (g : Nat) (lb : Array Value) (encs : α → Array Value) (M Pr : Nat → Prop) (D : List α → α → World → World → Prop) (S : List α → World → Prop) (w : World) : Prop :=
  ∀ (l : Nat) (J Jx : List α → World → Prop) (W : World), Upd Noth w W →
    (∀ pre x W0 W1, J pre W0 → Upd M W0 W1 → D pre x W0 W1 → YieldAt F (n - 1) P l (encs x) W1 fun e W' =>
      (e = .returned (.bool true) ∧ J (pre ++ [x]) W' ∧ Upd (fun k => ¬ Pr k) W1 W') ∨ (e = .returned (.bool false) ∧ Jx (pre ++ [x]) W')) →
    J [] W →
    CallsIn F n P g (#[.func (.yield l) #[] #[]] ++ lb) W fun e W' => (∃ v, e = .returned v) ∧ ((∃ xs W0, J xs W0 ∧ Upd M W0 W' ∧ S xs W') ∨ (∃ pre, Jx pre W'))

/-- How a round's body is left. -/
def wPost {α : Type} (q : Nat) (Pr : Nat → Prop) (I : List α → World → Prop) (Ix : Code → List α → World → Prop) (xs : List α) (W : World) : Exit → Act → World → Prop
  | .normal, _, W' => Upd (fun k => ¬ Pr k ∧ k ≠ q ∧ k ≠ q + 1) W W' ∧ I xs W'
  | .ret, _, W' => Upd (fun k => k ≠ q ∧ k ≠ q + 1) W W' ∧ Ix .ret xs W'
  | .exit id, _, W' => Upd (fun k => k ≠ q ∧ k ≠ q + 1) W W' ∧ Ix (.exit id) xs W'
  | .goto t, _, W' => Upd (fun k => k ≠ q ∧ k ≠ q + 1) W W' ∧ Ix (.goto t) xs W'
  | .panic _, _, _ => False
  | .outgrown, _, _ => False

theorem wpIn_range_w {F : Fence} {n : Nat} {P : Program} {α : Type} {g : Operand} {ps : Array Tmp} {assign body : Code} {Q : Exit → Act → World → Prop} {a : Act} {w : World}
    (hro : F.round = none) (h1 : 1 ≤ n) {gf : Nat} {lb : Array Value} (hg : a.eval g = .func (.func gf) #[] lb) (hFg : F.fn gf) (eg : ∀ args w, (callFunc gf args).run P w = .ok (.enter gf args) w)
    {encs : α → Array Value} {M Pr : Nat → Prop} {D : List α → α → World → World → Prop} {S : List α → World → Prop} (hseq : SeqW F (n - 1) P gf lb encs M Pr D S w)
    (hM : ∀ k, M k → k < w.heap.size) (hPr : ∀ k, Pr k → k < w.heap.size) (hps : ∀ x, (encs x).size = ps.size)
    (hD : ∀ pre x W0 W1 W2, D pre x W0 W1 → Upd (fun k => k = w.heap.size + 1) W1 W2 → w.heap.size + 1 < W0.heap.size → D pre x W0 W2)
    (I : List α → World → Prop) (Ix : Code → List α → World → Prop)
    (hI : ∀ s A B, I s A → Upd (fun k => k = w.heap.size + 1) A B → I s B) (hIx : ∀ c s A B, Ix c s A → Upd (fun k => k = w.heap.size + 1) A B → Ix c s B)
    (h0 : I [] w) (a₁ : α → Act)
    (hassign : ∀ (l : Nat) (x : α) (W : World) (K : Act → World → Prop), K (a₁ x) W →
      assign.wpIn (F.inRound l) (n - 1 - 1) P (Exit.then K (fun _ _ _ => False)) { tmps := (ps.zip (encs x)).foldl (fun t (p, v) => t.setIfInBounds p v) a.tmps, defers := [] } W)
    (hbody : ∀ (l : Nat) (pre : List α) (x : α) (W0 W : World), I pre W0 → Upd (fun k => M k ∨ k = w.heap.size + 1) W0 W → D pre x W0 W → w.heap.size + 1 < W0.heap.size →
      body.wpIn (F.inRound l) (n - 1 - 1) P (wPost w.heap.size Pr I Ix (pre ++ [x]) W) (a₁ x) W)
    (hdone : ∀ (B : Nat) (xs : List α) (W0 W1 W : World), B = w.heap.size → I xs W0 → Upd M W0 W1 → S xs W1 → Upd (fun k => k = w.heap.size + 1) W1 W → w.heap.size + 1 < W0.heap.size → W.heap[B]? = some (.deferred (some [])) → Q .normal { a with defers := { target := .collected B, args := #[] } :: a.defers } W)
    (hstop : ∀ (B : Nat) (c : Code) (pre : List α) (W : World), B = w.heap.size → Ix c pre W → W.heap[B]? = some (.deferred (some [])) → c.wpIn F n P Q { a with defers := { target := .collected B, args := #[] } :: a.defers } W) :
    (Code.rangeFunc g ps assign body).wpIn F n P Q a w := by
  refine wpIn_rangeFunc ?_
  intro fn hfn
  rw [hro]
  generalize hq : w.heap.size = q at *
  let mk : LoopState → Option Code → Loop := fun st pe => { state := st, pending := pe, fn, tmps := a.tmps, params := ps, assign, body, defers := q }
  let Wa : World := (w.alloc (.deferred (some []))).alloc (.loop (mk .ready none))
  have hL1 : Wa.heap[q + 1]? = some (.loop (mk .ready none)) := by
    have := World.alloc_heap_new (w.alloc (.deferred (some []))) (.loop (mk .ready none)); rwa [World.size_alloc, hq] at this
  have hK1 : Wa.heap[q]? = some (.deferred (some [])) := by
    rw [← hq]; exact (Below.heap_alloc _ _ _ (by simp)).trans (World.alloc_heap_new w _)
  have hU1 : Upd Noth w Wa := ((Upd.refl _ _).alloc _).alloc _
  have nM : ∀ k, k < q + 2 → q ≤ k → ¬ M k := fun k _ hk h => by have := hM k h; omega
  have nP : ∀ k, q ≤ k → ¬ Pr k := fun k hk h => by have := hPr k h; omega
  refine ⟨q + 1, [{ target := .collected q, args := #[] }], Wa, { target := .fn (.func gf) lb, args := #[.func (.yield (q + 1)) #[] #[]] }, Wa, gf, #[.func (.yield (q + 1)) #[] #[]] ++ lb, Wa, ?_, ?_, ?_, ?_, fun _ => h1, ?_⟩
  · have := run_enterLoop_outer (P := P) (w := w) fn a.tmps ps assign body
    rw [hq] at this
    exact this
  · simp only [resolve, hg]
    simp [go_sem]
  · intro f' hf'; simp [Target.leads] at hf'; subst hf'; exact hFg
  · simp [invoke, go_sem, eg]
  · refine (hseq (q + 1) (fun pre W => I pre W ∧ W.heap[q + 1]? = some (.loop (mk .ready none)) ∧ W.heap[q]? = some (.deferred (some [])))
      (fun pre W => ∃ c, Ix c pre W ∧ W.heap[q + 1]? = some (.loop (mk .done (some c))) ∧ W.heap[q]? = some (.deferred (some [])))
      Wa hU1 ?_ ⟨hI _ _ _ h0 hU1.noth, hL1, hK1⟩).mono ?_
    · rintro pre x W0 W1 ⟨hi, hl0, hk0⟩ hm hd
      have hlt0 : q + 1 < W0.heap.size := lt_of_block hl0
      have hl := hm.heap hl0 (nM _ (by omega) (by omega))
      have hk := hm.heap hk0 (nM _ (by omega) (by omega))
      have hlt : q + 1 < W1.heap.size := lt_of_block hl
      have hy := run_yield (P := P) (args := encs x) hl (hps x)
      refine ⟨fn, _, assign, body, hy, roundIn_of_wpIn hfn (hassign _ x W1 _ ⟨_, run_beginRound hl rfl, ?_⟩)⟩
      have hl2 : (W1.putObj (q + 1) (.loop { mk .ready none with state := .busy })).heap[q + 1]? = some (.loop { mk .ready none with state := .busy }) := World.putObj_heap_same hlt
      have hk2 : (W1.putObj (q + 1) (.loop { mk .ready none with state := .busy })).heap[q]? = some (.deferred (some [])) := (World.putObj_heap_other (by omega)).trans hk
      have hu2 : Upd (fun k => k = q + 1) W1 (W1.putObj (q + 1) (.loop { mk .ready none with state := .busy })) := (Upd.refl _ _).putObj _ _ (fun _ => rfl)
      refine wpIn_mono (hbody _ pre x W0 _ hi ((hm.mono (fun _ _ e => .inl e)).trans (hu2.mono (fun _ _ e => .inr e))) (hD _ _ _ _ _ hd hu2 hlt0) hlt0) ?_
      have fin : ∀ (jump : Option Code) (W3 : World), Upd (fun k => k ≠ q ∧ k ≠ q + 1) (W1.putObj (q + 1) (.loop { mk .ready none with state := .busy })) W3 →
          (Instr.endRound (q + 1) jump).run P W3 = .ok (.bool jump.isNone) (W3.putObj (q + 1) (.loop (mk (if jump.isNone then .ready else .done) jump))) ∧
          (W3.putObj (q + 1) (.loop (mk (if jump.isNone then .ready else .done) jump))).heap[q + 1]? = some (.loop (mk (if jump.isNone then .ready else .done) jump)) ∧
          (W3.putObj (q + 1) (.loop (mk (if jump.isNone then .ready else .done) jump))).heap[q]? = some (.deferred (some [])) := fun jump W3 hk3 => by
        have hl3 := hk3.heap hl2 (fun e => e.2 rfl)
        have hd3 := hk3.heap hk2 (fun e => e.1 rfl)
        exact ⟨run_endRound (P := P) jump hl3, World.putObj_heap_same (lt_of_block hl3), (World.putObj_heap_other (by omega)).trans hd3⟩
      rintro e a3 W3 hp
      cases e with
      | normal =>
        obtain ⟨hk3, hi3⟩ := hp
        obtain ⟨hr, hl4, hk4⟩ := fin none W3 (hk3.mono (fun _ _ e => e.2))
        refine ⟨_, _, hr, .inl ⟨rfl, ⟨hI _ _ _ hi3 ((Upd.refl _ _).putObj _ _ (fun _ => rfl)), hl4, hk4⟩, ?_⟩⟩
        exact ((hu2.mono (fun k _ e => by subst e; exact nP _ (by omega))).trans (hk3.mono (fun _ _ e => e.1))).putObj _ _ (fun _ => nP _ (by omega))
      | ret =>
        obtain ⟨hk3, hi3⟩ := hp
        obtain ⟨hr, hl4, hk4⟩ := fin (some .ret) W3 hk3
        exact ⟨_, _, hr, .inr ⟨rfl, .ret, hIx _ _ _ _ hi3 ((Upd.refl _ _).putObj _ _ (fun _ => rfl)), hl4, hk4⟩⟩
      | exit id =>
        obtain ⟨hk3, hi3⟩ := hp
        obtain ⟨hr, hl4, hk4⟩ := fin (some (.exit id)) W3 hk3
        exact ⟨_, _, hr, .inr ⟨rfl, .exit id, hIx _ _ _ _ hi3 ((Upd.refl _ _).putObj _ _ (fun _ => rfl)), hl4, hk4⟩⟩
      | goto t =>
        obtain ⟨hk3, hi3⟩ := hp
        obtain ⟨hr, hl4, hk4⟩ := fin (some (.goto t)) W3 hk3
        exact ⟨_, _, hr, .inr ⟨rfl, .goto t, hIx _ _ _ _ hi3 ((Upd.refl _ _).putObj _ _ (fun _ => rfl)), hl4, hk4⟩⟩
      | panic ch => exact hp.elim
      | outgrown => exact hp.elim
    · rintro e W2 ⟨⟨v, rfl⟩, (⟨xs, W0, ⟨hi, hl0, hk0⟩, hm, hS⟩ | ⟨pre, c, hi, hl, hk⟩)⟩
      · have hl := hm.heap hl0 (nM _ (by omega) (by omega))
        have hk := hm.heap hk0 (nM _ (by omega) (by omega))
        exact ⟨none, _, run_endLoop (P := P) hl (by simp [mk]), hdone q xs W0 W2 _ rfl hi hm hS ((Upd.refl _ _).putObj _ _ (fun _ => rfl)) (lt_of_block hl0) ((World.putObj_heap_other (by omega)).trans hk)⟩
      · exact ⟨some c, _, run_endLoop (P := P) hl (by simp [mk]), hstop q c pre _ rfl (hIx _ _ _ _ hi ((Upd.refl _ _).putObj _ _ (fun _ => rfl))) ((World.putObj_heap_other (by omega)).trans hk)⟩

end Go.Proofs.Yteindoemdonagaa

namespace Go.Proofs.Yteindoemdonagaa
open Go.RowKit

/-- A row of bytes of one's own, o bytes into its block. -/
def OwnO (w : World) (base : Nat) (e : TypeId) (o : Nat) (v : Value) (zs : List Int) : Prop :=
  (v = .slice none 0 0 ∧ zs = []) ∨
  ∃ g cap cur, v = .slice (some ⟨g, o, none⟩) zs.length cap ∧ base ≤ g ∧ w.heap[g]? = some (.cells cur e (0, 0)) ∧ zs.length ≤ cap ∧ cap ≤ maxLen ∧ cur.size = o + cap ∧ (cur.toList.drop o).take zs.length = zs.map (Value.int .u8) ∧ ∀ u ∈ cur.toList, IsByte u
theorem OwnO.toB {w : World} {base : Nat} {e : TypeId} {v : Value} {zs : List Int} (h : OwnO w base e 0 v zs) : OwnB w base e v zs := by
  rcases h with h | ⟨g, cap, cur, h1, h2, h3, h4, h5, h6, h7, h8⟩
  · exact .inl h
  · exact .inr ⟨g, cap, cur, h1, h2, h3, h4, h5, by omega, by simpa using h7, h8⟩
theorem OwnB.toO {w : World} {base : Nat} {e : TypeId} {v : Value} {zs : List Int} (h : OwnB w base e v zs) : OwnO w base e 0 v zs := by
  rcases h with h | ⟨g, cap, cur, h1, h2, h3, h4, h5, h6, h7, h8⟩
  · exact .inl h
  · exact .inr ⟨g, cap, cur, h1, h2, h3, h4, h5, by omega, by simpa using h7, h8⟩
def Value.blk : Value → Option Nat
  | .slice (some a) _ _ => some a.block
  | _ => none
theorem OwnO.blk {w w' : World} {base : Nat} {e : TypeId} {o : Nat} {v : Value} {zs : List Int} (h : OwnO w base e o v zs) (hb : ∀ k, Value.blk v = some k → w'.heap[k]? = w.heap[k]?) : OwnO w' base e o v zs := by
  rcases h with h | ⟨g, cap, cur, h1, h2, h3, r⟩
  · exact .inl h
  · exact .inr ⟨g, cap, cur, h1, h2, by rw [hb g (by rw [h1]; rfl)]; exact h3, r⟩
theorem OwnO.lt {w : World} {base : Nat} {e : TypeId} {o : Nat} {v : Value} {zs : List Int} (h : OwnO w base e o v zs) : ∀ k, Value.blk v = some k → base ≤ k ∧ k < w.heap.size := by
  intro k hk
  rcases h with ⟨h1, _⟩ | ⟨g, cap, cur, h1, h2, h3, r⟩
  · rw [h1] at hk; cases hk
  · rw [h1] at hk; cases hk; exact ⟨h2, lt_of_block h3⟩
theorem OwnO.upd {S : Nat → Prop} {w w' : World} {base : Nat} {e : TypeId} {o : Nat} {v : Value} {zs : List Int} (h : OwnO w base e o v zs) (hb : Upd S w w') (hs : ∀ k, Value.blk v = some k → ¬ S k) : OwnO w' base e o v zs :=
  h.blk fun k hk => hb.block k (h.lt k hk).2 (hs k hk)
theorem OwnO.slice {w : World} {base : Nat} {e : TypeId} {o : Nat} {v : Value} {zs : List Int} (h : OwnO w base e o v zs) {n : Nat} (hn : zs.length = n) : ∃ a cap, v = .slice a n cap ∧ Row w .u8 a zs ∧ (a = none → n = 0 ∧ cap = 0) ∧ n ≤ cap ∧ (∀ x, a = some x → x.off = o ∧ x.spot = none) := by
  subst hn
  rcases h with ⟨h1, h2⟩ | ⟨g, cap, cur, h1, h2, h3, h4, h5, h6, h7, h8⟩
  · subst h2
    exact ⟨none, 0, h1, row_nil _ _ _, fun _ => ⟨rfl, rfl⟩, Nat.le_refl _, fun x hx => by cases hx⟩
  · refine ⟨some ⟨g, o, none⟩, cap, h1, fun i hi => ⟨g, o, rfl, ?_⟩, (fun h => by cases h), h4, (fun x hx => by cases hx; exact ⟨rfl, rfl⟩)⟩
    rw [cell_of_row _ _ _ _ _ _ h3, ← Array.getElem?_toList]
    have h9 : ((cur.toList.drop o).take zs.length)[i]? = (zs.map (Value.int .u8))[i]? := by rw [h7]
    rw [List.getElem?_take, if_pos hi, List.getElem?_drop] at h9
    rw [h9]
    simp [List.getD_eq_getElem?_getD, hi]
/-- The first n bytes are left out. -/
theorem OwnO.drop {w : World} {base : Nat} {e : TypeId} {o : Nat} {a : Addr} {len cap : Nat} {zs : List Int} (h : OwnO w base e o (.slice (some a) len cap) zs) (n : Nat) (hn : n ≤ zs.length) : OwnO w base e (o + n) (.slice (some ⟨a.block, a.off + n, none⟩) (len - n) (cap - n)) (zs.drop n) := by
  rcases h with ⟨h1, h2⟩ | ⟨g, cap', cur, h1, h2, h3, h4, h5, h6, h7, h8⟩
  · cases h1
  · cases h1
    refine .inr ⟨g, cap - n, cur, by rw [List.length_drop], h2, h3, by rw [List.length_drop]; omega, by omega, by omega, ?_, h8⟩
    rw [List.length_drop, List.map_drop, ← h7, List.drop_take, List.drop_drop]

theorem run_append_room_o {P : Program} (w : World) (t ty e : TypeId) (i : TypeInfo) (ht : P.underlying t = some (.slice e)) (hi : P.info? e = some i) (hs : i.size = 1)
    (g o sLen sCap : Nat) (cur : Array Value) (hg : w.heap[g]? = some (.cells cur e (0, 0)))
    (a : Addr) (m c : Nat) (news : List Value) (hl : news.length = m * i.size) (hnews : ∀ j u, news[j]? = some u → w.cell? (a.add j) = some u) (h1 : ∀ u ∈ news, u.oneCell' = true)
    (hroom : sLen + m ≤ sCap) (hfit : o + sLen + news.length ≤ cur.size) :
    (Builtin.append_ #[t, t] ty #[.slice (some ⟨g, o, none⟩) sLen sCap, .slice (some a) m c]).run P w =
      .ok (.slice (some ⟨g, o, none⟩) (sLen + m) sCap) (w.setRow g (cur.toList.take (o + sLen) ++ news ++ cur.toList.drop (o + sLen + news.length)).toArray) := by
  have hf := run_firstCells_some (P := P) w i.size m a m c news hl hnews
  have hst := run_storeCells_at P g (o + sLen) e news 0 cur w hg (by simpa using hfit) h1
  simp only [Nat.add_zero] at hst
  rw [hs] at hf
  simp [Builtin.append_, run_underlying ht, sizeOf, typeInfo, hi, hs, Builtin.lenOf, hroom, hf, Addr.add_lit, hst]

theorem append_o {P : Program} {w : World} {ops : Array Oper} {rest : List Oper} {o : Oper} {a : Act} {Q : Exit → Act → World → Prop} (hgd : o.guard = none) (s x : Operand) (t : TypeId)
    (ho : o.op = .call { callee := .builtin .append, args := #[s, x], argTypes := #[t, t] })
    (base : Nat) (e : TypeId) (i : TypeInfo) (ht : P.underlying t = some (.slice e)) (hi : P.info? e = some i) (hz : i.zero = some (.int .u8 0)) (hsize : i.size = 1) (hby : i.bytes = 1)
    (off : Nat) (v : Value) (zs : List Int) (hs : a.eval s = v) (hown : OwnO w base e off v zs)
    (ao : Option Addr) (m c : Nat) (ys : List Int) (hx : a.eval x = .slice ao m c) (hl : ys.length = m) (hnone : ao = none → m = 0 ∧ c = 0) (hrow : Row w .u8 ao ys)
    (hbytes : zs.length + m ≤ 140737488355328) (hbase : base ≤ w.heap.size)
    (h : ∀ v' w' off', (off = 0 → off' = 0) → OwnO w' base e off' v' (zs ++ ys) → w.grownBy w' (Value.blk v) → (∀ k, Value.blk v' = some k → Value.blk v = some k ∨ w.heap.size ≤ k) → wpList P ops Q rest (a.put o.dst v') w') : wpList P ops Q (o :: rest) a w := by
  cases ao with
  | none =>
    obtain ⟨rfl, rfl⟩ := hnone rfl
    obtain rfl : ys = [] := List.eq_nil_of_length_eq_zero hl
    refine Lib.wpList_append_run w hgd s x t t ho v (.slice none 0 0) hs hx v w ?_ (h v w off (fun h => h) (by simpa using hown) (grownBy_refl _ _) (fun k hk => .inl hk))
    rcases hown with ⟨rfl, _⟩ | ⟨g, cap, cur, rfl, _, _, hnc, _⟩
    · simp [Builtin.append_, run_underlying ht, sizeOf, typeInfo, hi, Builtin.lenOf, Builtin.firstCells]
    · simp [Builtin.append_, run_underlying ht, sizeOf, typeInfo, hi, Builtin.lenOf, Builtin.firstCells, hnc, storeCells]
  | some ad =>
    have hnews : ∀ j u, (ys.map (Value.int .u8))[j]? = some u → w.cell? (ad.add j) = some u := hrow.cells ad rfl
    have hln : (ys.map (Value.int .u8)).length = m * i.size := by rw [List.length_map, hsize, Nat.mul_one]; exact hl
    have h63 : zs.length + m ≤ maxLen := by unfold maxLen; omega
    have grown : ∀ old, old < zs.length + m → OwnO (w.drew.alloc (.cells ((zs.map (Value.int .u8)).toArray ++ (ys.map (Value.int .u8)).toArray ++ Builtin.zeroCells (Value.int .u8 0).cells (grownCap w (zs.length + m) old e - (zs.length + m))) e)) base e 0 (.slice (some ⟨w.heap.size, 0, none⟩) (zs.length + m) (grownCap w (zs.length + m) old e)) (zs ++ ys) := by
      intro old ho2
      have hge := grownCap_ge w (zs.length + m) old e
      have hcm : grownCap w (zs.length + m) old e ≤ maxLen := grownCap_le_maxLen w (zs.length + m) old e h63
      have hlen : (zs ++ ys).length = zs.length + m := by rw [List.length_append, hl]
      refine .inr ⟨w.heap.size, _, _, by rw [hlen], hbase, heap_alloc_new w.drew _, by rw [hlen]; exact hge, hcm, ?_, ?_, ?_⟩
      · simp only [Array.size_append, List.size_toArray, size_zeroCells, List.length_map, Value.cells, hl]
        simp
        omega
      · simp only [Array.toList_append, List.drop_zero]
        rw [hlen, ← List.map_append, List.take_append_of_le_length (by simp [hl]), List.take_of_length_le (by simp [hl])]
      · intro u hu
        simp only [Array.toList_append, List.mem_append] at hu
        rcases hu with (hu | hu) | hu
        · exact bytes_map zs u hu
        · exact bytes_map ys u hu
        · exact zero_bytes _ u hu
    rcases hown with ⟨hv, hz0⟩ | ⟨g, cap, cur, hv, hbg, hg, hnc, hcm, hcs, htake, hbs⟩
    · subst hz0
      by_cases hm : m = 0
      · subst hm
        obtain rfl : ys = [] := List.eq_nil_of_length_eq_zero hl
        refine Lib.wpList_append_run w hgd s x t t ho v (.slice (some ad) 0 c) hs hx (.slice none 0 0) w ?_ (h _ _ 0 (fun _ => rfl) (.inl ⟨rfl, rfl⟩) (grownBy_refl _ _) (fun k hk => by cases hk))
        rw [hv]
        simp [Builtin.append_, run_underlying ht, sizeOf, typeInfo, hi, Builtin.lenOf, Builtin.firstCells, loadCells, loadCellsFrom]
      · have hr := run_append_nil (P := P) w t o.type e i (.int .u8 0) ht hi hz ad m c _ hln hnews (by omega) (by omega) (by rw [hby]; omega)
        have hgr := grown 0 (by simp; omega)
        simp only [List.length_nil, Nat.zero_add, List.map_nil, List.nil_append, Array.empty_append] at hgr h
        exact Lib.wpList_append_run w hgd s x t t ho v (.slice (some ad) m c) hs hx _ _ (by rw [hv]; exact hr) (h _ _ 0 (fun _ => rfl) hgr ⟨rfl, rfl, rfl, by simp, fun k hk _ => Below.heap_alloc w.drew _ k hk⟩ (fun k hk => by cases hk; exact .inr (Nat.le_refl _)))
    · by_cases hroom : zs.length + m ≤ cap
      · have hfit : off + zs.length + (ys.map (Value.int .u8)).length ≤ cur.size := by rw [List.length_map, hl, hcs]; omega
        have hr := run_append_room_o (P := P) w t o.type e i ht hi hsize g off zs.length cap cur hg ad m c _ hln hnews (fun u hu => by obtain ⟨x, rfl⟩ := bytes_map ys u hu; rfl) hroom hfit
        refine Lib.wpList_append_run w hgd s x t t ho v (.slice (some ad) m c) hs hx _ _ (by rw [hv]; exact hr) (h _ _ off (fun h => h) ?_ ?_ (fun k hk => by rw [hv]; exact .inl hk))
        · have hlen : (zs ++ ys).length = zs.length + m := by rw [List.length_append, hl]
          refine .inr ⟨g, cap, _, by rw [hlen], hbg, setRow_heap w g cur _ e _ hg, by rw [hlen]; exact hroom, hcm, ?_, ?_, ?_⟩
          · simp only [List.size_toArray, List.length_append, List.length_take, List.length_drop, Array.length_toList, List.length_map]
            omega
          · simp only []
            have hcl : cur.toList.length = off + cap := by rw [Array.length_toList]; exact hcs
            have h1 : (cur.toList.take (off + zs.length)).drop off = zs.map (Value.int .u8) := by
              rw [List.drop_take, Nat.add_sub_cancel_left, htake]
            rw [hlen, List.append_assoc, List.drop_append_of_le_length (by rw [List.length_take]; omega), h1, ← List.append_assoc, ← List.map_append, List.take_append_of_le_length (by simp [hl]), List.take_of_length_le (by simp [hl])]
          · intro u hu
            simp only [List.mem_append] at hu
            rcases hu with (hu | hu) | hu
            · exact hbs u (List.mem_of_mem_take hu)
            · exact bytes_map ys u hu
            · exact hbs u (List.mem_of_mem_drop hu)
        · exact ⟨rfl, rfl, rfl, by simp, fun k _ hk => setRow_other w g k _ (fun e => hk (by simp [hv, Value.blk, e]))⟩
      · have holds : ∀ j u, (zs.map (Value.int .u8))[j]? = some u → w.cell? ((⟨g, off, none⟩ : Addr).add j) = some u := by
          intro j u hu
          rw [Addr.add_lit, cell_of_row _ _ _ _ _ _ hg, ← Array.getElem?_toList]
          rw [← htake] at hu
          have hj : j < zs.length := by
            have := (List.getElem?_eq_some_iff.1 hu).1
            rw [List.length_take] at this
            omega
          rw [List.getElem?_take, if_pos hj, List.getElem?_drop] at hu
          exact hu
        have hr := run_append_grow (P := P) w t o.type e i (.int .u8 0) ht hi hz ⟨g, off, none⟩ zs.length cap _ (by rw [List.length_map, hsize, Nat.mul_one]) holds ad m c _ hln hnews (by omega) (by unfold maxLen at h63; omega) (growslice_fits (by omega) (by rw [hby]; omega))
        exact Lib.wpList_append_run w hgd s x t t ho v (.slice (some ad) m c) hs hx _ _ (by rw [hv]; exact hr) (h _ _ 0 (fun _ => rfl) (grown cap (by omega)) ⟨rfl, rfl, rfl, by simp, fun k hk _ => Below.heap_alloc w.drew _ k hk⟩ (fun k hk => by cases hk; exact .inr (Nat.le_refl _)))

end Go.Proofs.Yteindoemdonagaa

namespace Go.Proofs.Yteindoemdonagaa
open Go.RowKit

/-- A row of bytes of one's own, o bytes into its block. -/
def OwnW (w : World) (base : Nat) (e : TypeId) (o : Nat) (v : Value) (zs : List Int) : Prop :=
  (v = .slice none 0 0 ∧ zs = []) ∨
  ∃ g cap cur, v = .slice (some ⟨g, o, none⟩) zs.length cap ∧ base ≤ g ∧ w.heap[g]? = some (.cells cur e (0, 0)) ∧ zs.length ≤ cap ∧ cap ≤ maxLen ∧ o + cap ≤ cur.size ∧ (cur.toList.drop o).take zs.length = zs.map (Value.int .u8) ∧ ∀ u ∈ cur.toList, IsByte u
theorem OwnW.blk {w w' : World} {base : Nat} {e : TypeId} {o : Nat} {v : Value} {zs : List Int} (h : OwnW w base e o v zs) (hb : ∀ k, Value.blk v = some k → w'.heap[k]? = w.heap[k]?) : OwnW w' base e o v zs := by
  rcases h with h | ⟨g, cap, cur, h1, h2, h3, r⟩
  · exact .inl h
  · exact .inr ⟨g, cap, cur, h1, h2, by rw [hb g (by rw [h1]; rfl)]; exact h3, r⟩
theorem OwnW.lt {w : World} {base : Nat} {e : TypeId} {o : Nat} {v : Value} {zs : List Int} (h : OwnW w base e o v zs) : ∀ k, Value.blk v = some k → base ≤ k ∧ k < w.heap.size := by
  intro k hk
  rcases h with ⟨h1, _⟩ | ⟨g, cap, cur, h1, h2, h3, r⟩
  · rw [h1] at hk; cases hk
  · rw [h1] at hk; cases hk; exact ⟨h2, lt_of_block h3⟩
theorem OwnW.upd {S : Nat → Prop} {w w' : World} {base : Nat} {e : TypeId} {o : Nat} {v : Value} {zs : List Int} (h : OwnW w base e o v zs) (hb : Upd S w w') (hs : ∀ k, Value.blk v = some k → ¬ S k) : OwnW w' base e o v zs :=
  h.blk fun k hk => hb.block k (h.lt k hk).2 (hs k hk)
theorem OwnW.slice {w : World} {base : Nat} {e : TypeId} {o : Nat} {v : Value} {zs : List Int} (h : OwnW w base e o v zs) {n : Nat} (hn : zs.length = n) : ∃ a cap, v = .slice a n cap ∧ Row w .u8 a zs ∧ (a = none → n = 0 ∧ cap = 0) ∧ n ≤ cap ∧ (∀ x, a = some x → x.off = o ∧ x.spot = none) := by
  subst hn
  rcases h with ⟨h1, h2⟩ | ⟨g, cap, cur, h1, h2, h3, h4, h5, h6, h7, h8⟩
  · subst h2
    exact ⟨none, 0, h1, row_nil _ _ _, fun _ => ⟨rfl, rfl⟩, Nat.le_refl _, fun x hx => by cases hx⟩
  · refine ⟨some ⟨g, o, none⟩, cap, h1, fun i hi => ⟨g, o, rfl, ?_⟩, (fun h => by cases h), h4, (fun x hx => by cases hx; exact ⟨rfl, rfl⟩)⟩
    rw [cell_of_row _ _ _ _ _ _ h3, ← Array.getElem?_toList]
    have h9 : ((cur.toList.drop o).take zs.length)[i]? = (zs.map (Value.int .u8))[i]? := by rw [h7]
    rw [List.getElem?_take, if_pos hi, List.getElem?_drop] at h9
    rw [h9]
    simp [List.getD_eq_getElem?_getD, hi]
theorem OwnW.nil (w : World) (base : Nat) (e : TypeId) (o : Nat) : OwnW w base e o (.slice none 0 0) [] := .inl ⟨rfl, rfl⟩
theorem OwnW.mono {w : World} {base base' : Nat} {e : TypeId} {o : Nat} {v : Value} {zs : List Int} (h : OwnW w base' e o v zs) (hb : base ≤ base') : OwnW w base e o v zs := by
  rcases h with h | ⟨g, cap, cur, h1, h2, r⟩
  · exact .inl h
  · exact .inr ⟨g, cap, cur, h1, Nat.le_trans hb h2, r⟩
/-- All are left out. -/
theorem OwnW.all {w : World} {base : Nat} {e : TypeId} {o : Nat} {a : Addr} {len cap : Nat} {zs : List Int} (h : OwnW w base e o (.slice (some a) len cap) zs) : OwnW w base e o (.slice (some a) 0 0) [] := by
  rcases h with ⟨h1, h2⟩ | ⟨g, cap', cur, h1, h2, h3, h4, h5, h6, h7, h8⟩
  · cases h1
  · cases h1
    exact .inr ⟨g, 0, cur, rfl, h2, h3, Nat.zero_le _, Nat.zero_le _, by omega, by simp, h8⟩
/-- The first n bytes are left out. -/
theorem OwnW.drop {w : World} {base : Nat} {e : TypeId} {o : Nat} {a : Addr} {len cap : Nat} {zs : List Int} (h : OwnW w base e o (.slice (some a) len cap) zs) (n : Nat) (hn : n ≤ zs.length) : OwnW w base e (o + n) (.slice (some ⟨a.block, a.off + n, none⟩) (len - n) (cap - n)) (zs.drop n) := by
  rcases h with ⟨h1, h2⟩ | ⟨g, cap', cur, h1, h2, h3, h4, h5, h6, h7, h8⟩
  · cases h1
  · cases h1
    refine .inr ⟨g, cap - n, cur, by rw [List.length_drop], h2, h3, by rw [List.length_drop]; omega, by omega, by omega, ?_, h8⟩
    rw [List.length_drop, List.map_drop, ← h7, List.drop_take, List.drop_drop]

theorem append_w {P : Program} {w : World} {ops : Array Oper} {rest : List Oper} {o : Oper} {a : Act} {Q : Exit → Act → World → Prop} (hgd : o.guard = none) (s x : Operand) (t : TypeId)
    (ho : o.op = .call { callee := .builtin .append, args := #[s, x], argTypes := #[t, t] })
    (base : Nat) (e : TypeId) (i : TypeInfo) (ht : P.underlying t = some (.slice e)) (hi : P.info? e = some i) (hz : i.zero = some (.int .u8 0)) (hsize : i.size = 1) (hby : i.bytes = 1)
    (off : Nat) (v : Value) (zs : List Int) (hs : a.eval s = v) (hown : OwnW w base e off v zs)
    (ao : Option Addr) (m c : Nat) (ys : List Int) (hx : a.eval x = .slice ao m c) (hl : ys.length = m) (hnone : ao = none → m = 0 ∧ c = 0) (hrow : Row w .u8 ao ys)
    (hbytes : zs.length + m ≤ 140737488355328) (hbase : base ≤ w.heap.size)
    (h : ∀ v' w' off', (off = 0 → off' = 0) → OwnW w' base e off' v' (zs ++ ys) → w.grownBy w' (Value.blk v) → (∀ k, Value.blk v' = some k → Value.blk v = some k ∨ w.heap.size ≤ k) → wpList P ops Q rest (a.put o.dst v') w') : wpList P ops Q (o :: rest) a w := by
  cases ao with
  | none =>
    obtain ⟨rfl, rfl⟩ := hnone rfl
    obtain rfl : ys = [] := List.eq_nil_of_length_eq_zero hl
    refine Lib.wpList_append_run w hgd s x t t ho v (.slice none 0 0) hs hx v w ?_ (h v w off (fun h => h) (by simpa using hown) (grownBy_refl _ _) (fun k hk => .inl hk))
    rcases hown with ⟨rfl, _⟩ | ⟨g, cap, cur, rfl, _, _, hnc, _⟩
    · simp [Builtin.append_, run_underlying ht, sizeOf, typeInfo, hi, Builtin.lenOf, Builtin.firstCells]
    · simp [Builtin.append_, run_underlying ht, sizeOf, typeInfo, hi, Builtin.lenOf, Builtin.firstCells, hnc, storeCells]
  | some ad =>
    have hnews : ∀ j u, (ys.map (Value.int .u8))[j]? = some u → w.cell? (ad.add j) = some u := hrow.cells ad rfl
    have hln : (ys.map (Value.int .u8)).length = m * i.size := by rw [List.length_map, hsize, Nat.mul_one]; exact hl
    have h63 : zs.length + m ≤ maxLen := by unfold maxLen; omega
    have grown : ∀ old, old < zs.length + m → OwnW (w.drew.alloc (.cells ((zs.map (Value.int .u8)).toArray ++ (ys.map (Value.int .u8)).toArray ++ Builtin.zeroCells (Value.int .u8 0).cells (grownCap w (zs.length + m) old e - (zs.length + m))) e)) base e 0 (.slice (some ⟨w.heap.size, 0, none⟩) (zs.length + m) (grownCap w (zs.length + m) old e)) (zs ++ ys) := by
      intro old ho2
      have hge := grownCap_ge w (zs.length + m) old e
      have hcm : grownCap w (zs.length + m) old e ≤ maxLen := grownCap_le_maxLen w (zs.length + m) old e h63
      have hlen : (zs ++ ys).length = zs.length + m := by rw [List.length_append, hl]
      refine .inr ⟨w.heap.size, _, _, by rw [hlen], hbase, heap_alloc_new w.drew _, by rw [hlen]; exact hge, hcm, ?_, ?_, ?_⟩
      · simp only [Array.size_append, List.size_toArray, size_zeroCells, List.length_map, Value.cells, hl]
        simp
        omega
      · simp only [Array.toList_append, List.drop_zero]
        rw [hlen, ← List.map_append, List.take_append_of_le_length (by simp [hl]), List.take_of_length_le (by simp [hl])]
      · intro u hu
        simp only [Array.toList_append, List.mem_append] at hu
        rcases hu with (hu | hu) | hu
        · exact bytes_map zs u hu
        · exact bytes_map ys u hu
        · exact zero_bytes _ u hu
    rcases hown with ⟨hv, hz0⟩ | ⟨g, cap, cur, hv, hbg, hg, hnc, hcm, hcs, htake, hbs⟩
    · subst hz0
      by_cases hm : m = 0
      · subst hm
        obtain rfl : ys = [] := List.eq_nil_of_length_eq_zero hl
        refine Lib.wpList_append_run w hgd s x t t ho v (.slice (some ad) 0 c) hs hx (.slice none 0 0) w ?_ (h _ _ 0 (fun _ => rfl) (.inl ⟨rfl, rfl⟩) (grownBy_refl _ _) (fun k hk => by cases hk))
        rw [hv]
        simp [Builtin.append_, run_underlying ht, sizeOf, typeInfo, hi, Builtin.lenOf, Builtin.firstCells, loadCells, loadCellsFrom]
      · have hr := run_append_nil (P := P) w t o.type e i (.int .u8 0) ht hi hz ad m c _ hln hnews (by omega) (by omega) (by rw [hby]; omega)
        have hgr := grown 0 (by simp; omega)
        simp only [List.length_nil, Nat.zero_add, List.map_nil, List.nil_append, Array.empty_append] at hgr h
        exact Lib.wpList_append_run w hgd s x t t ho v (.slice (some ad) m c) hs hx _ _ (by rw [hv]; exact hr) (h _ _ 0 (fun _ => rfl) hgr ⟨rfl, rfl, rfl, by simp, fun k hk _ => Below.heap_alloc w.drew _ k hk⟩ (fun k hk => by cases hk; exact .inr (Nat.le_refl _)))
    · by_cases hroom : zs.length + m ≤ cap
      · have hfit : off + zs.length + (ys.map (Value.int .u8)).length ≤ cur.size := by rw [List.length_map, hl]; omega
        have hr := run_append_room_o (P := P) w t o.type e i ht hi hsize g off zs.length cap cur hg ad m c _ hln hnews (fun u hu => by obtain ⟨x, rfl⟩ := bytes_map ys u hu; rfl) hroom hfit
        refine Lib.wpList_append_run w hgd s x t t ho v (.slice (some ad) m c) hs hx _ _ (by rw [hv]; exact hr) (h _ _ off (fun h => h) ?_ ?_ (fun k hk => by rw [hv]; exact .inl hk))
        · have hlen : (zs ++ ys).length = zs.length + m := by rw [List.length_append, hl]
          refine .inr ⟨g, cap, _, by rw [hlen], hbg, setRow_heap w g cur _ e _ hg, by rw [hlen]; exact hroom, hcm, ?_, ?_, ?_⟩
          · simp only [List.size_toArray, List.length_append, List.length_take, List.length_drop, Array.length_toList, List.length_map]
            omega
          · simp only []
            have hcl : off + cap ≤ cur.toList.length := by rw [Array.length_toList]; exact hcs
            have h1 : (cur.toList.take (off + zs.length)).drop off = zs.map (Value.int .u8) := by
              rw [List.drop_take, Nat.add_sub_cancel_left, htake]
            rw [hlen, List.append_assoc, List.drop_append_of_le_length (by rw [List.length_take]; omega), h1, ← List.append_assoc, ← List.map_append, List.take_append_of_le_length (by simp [hl]), List.take_of_length_le (by simp [hl])]
          · intro u hu
            simp only [List.mem_append] at hu
            rcases hu with (hu | hu) | hu
            · exact hbs u (List.mem_of_mem_take hu)
            · exact bytes_map ys u hu
            · exact hbs u (List.mem_of_mem_drop hu)
        · exact ⟨rfl, rfl, rfl, by simp, fun k _ hk => setRow_other w g k _ (fun e => hk (by simp [hv, Value.blk, e]))⟩
      · have holds : ∀ j u, (zs.map (Value.int .u8))[j]? = some u → w.cell? ((⟨g, off, none⟩ : Addr).add j) = some u := by
          intro j u hu
          rw [Addr.add_lit, cell_of_row _ _ _ _ _ _ hg, ← Array.getElem?_toList]
          rw [← htake] at hu
          have hj : j < zs.length := by
            have := (List.getElem?_eq_some_iff.1 hu).1
            rw [List.length_take] at this
            omega
          rw [List.getElem?_take, if_pos hj, List.getElem?_drop] at hu
          exact hu
        have hr := run_append_grow (P := P) w t o.type e i (.int .u8 0) ht hi hz ⟨g, off, none⟩ zs.length cap _ (by rw [List.length_map, hsize, Nat.mul_one]) holds ad m c _ hln hnews (by omega) (by unfold maxLen at h63; omega) (growslice_fits (by omega) (by rw [hby]; omega))
        exact Lib.wpList_append_run w hgd s x t t ho v (.slice (some ad) m c) hs hx _ _ (by rw [hv]; exact hr) (h _ _ 0 (fun _ => rfl) (grown cap (by omega)) ⟨rfl, rfl, rfl, by simp, fun k hk _ => Below.heap_alloc w.drew _ k hk⟩ (fun k hk => by cases hk; exact .inr (Nat.le_refl _)))

end Go.Proofs.Yteindoemdonagaa
