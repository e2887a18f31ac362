/- What a step may turn: blocks of a set, and new ones. No program is named here. -/
import Derived.Test.YtepjblmjjegpgaaGreatW7
import Derived.RangeFuncWrites
import Derived.RangeFuncLeaves
import Derived.RangeFuncCalls
namespace Go.Proofs.YtepjblmjjegpgaaGreat
open Go.RowKit
set_option maxRecDepth 100000

/-- Blocks outside S that lay lie as they lay. -/
structure Upd (S : Nat → Prop) (A B : World) : Prop where
  os : B.os = A.os
  tape : B.tape = A.tape
  output : B.output = A.output
  size : A.heap.size ≤ B.heap.size
  block : ∀ k, k < A.heap.size → ¬ S k → B.heap[k]? = A.heap[k]?
def Noth : Nat → Prop := fun _ => False
theorem Upd.refl (S : Nat → Prop) (A : World) : Upd S A A := ⟨rfl, rfl, rfl, Nat.le_refl _, fun _ _ _ => rfl⟩
theorem Upd.trans {S : Nat → Prop} {A B C : World} (h : Upd S A B) (k : Upd S B C) : Upd S A C :=
  ⟨k.os.trans h.os, k.tape.trans h.tape, k.output.trans h.output, Nat.le_trans h.size k.size, fun i hi hs => (k.block i (Nat.lt_of_lt_of_le hi h.size) hs).trans (h.block i hi hs)⟩
/-- Two steps: what the second turns is in S, or was new. -/
theorem Upd.then {S T : Nat → Prop} {A B C : World} (h : Upd S A B) (k : Upd T B C) (ht : ∀ i, i < A.heap.size → T i → S i) : Upd S A C :=
  ⟨k.os.trans h.os, k.tape.trans h.tape, k.output.trans h.output, Nat.le_trans h.size k.size, fun i hi hs => (k.block i (Nat.lt_of_lt_of_le hi h.size) (fun e => hs (ht i hi e))).trans (h.block i hi hs)⟩
theorem Upd.mono {S T : Nat → Prop} {A B : World} (h : Upd S A B) (ht : ∀ i, i < A.heap.size → S i → T i) : Upd T A B :=
  ⟨h.os, h.tape, h.output, h.size, fun i hi hs => h.block i hi (fun e => hs (ht i hi e))⟩
theorem Upd.of_below {A B : World} (h : Below A.heap.size A B) (S : Nat → Prop) : Upd S A B := ⟨h.os, h.tape, h.output, h.size, fun k hk _ => h.block k hk⟩
theorem Upd.of_grown {A B : World} {row : Option Nat} {S : Nat → Prop} (h : A.grownBy B row) (hr : ∀ k, row = some k → k < A.heap.size → S k) : Upd S A B :=
  ⟨h.os, h.tape, h.output, h.size, fun k hk hs => h.block k hk (fun e => hs (hr k e.symm hk))⟩
theorem Upd.alloc {S : Nat → Prop} {A B : World} (h : Upd S A B) (o : Obj) : Upd S A (B.alloc o) :=
  h.then (T := Noth) ⟨rfl, rfl, rfl, by simp, fun k hk _ => Below.heap_alloc _ _ _ hk⟩ (fun _ _ e => e.elim)
theorem Upd.drew {S : Nat → Prop} {A B : World} (h : Upd S A B) : Upd S A B.drew := ⟨h.os, h.tape, h.output, h.size, h.block⟩
theorem Upd.setCell {S : Nat → Prop} {A B : World} (h : Upd S A B) (p : Addr) (v : Value) (hp : p.block < A.heap.size → S p.block) : Upd S A (B.setCell p v) :=
  h.then (T := fun k => k = p.block) ⟨rfl, rfl, rfl, by simp [World.setCell], fun k _ hk => Below.heap_setCell _ _ _ _ hk⟩ (fun i hi e => by subst e; exact hp hi)
theorem Upd.putObj {S : Nat → Prop} {A B : World} (h : Upd S A B) (l : Nat) (o : Obj) (hp : l < A.heap.size → S l) : Upd S A (B.putObj l o) :=
  h.then (T := fun k => k = l) ⟨rfl, rfl, rfl, by simp, fun k _ hk => World.putObj_heap_other hk⟩ (fun i hi e => by subst e; exact hp hi)
theorem Upd.below {S : Nat → Prop} {A B : World} {n : Nat} (h : Upd S A B) (hn : n ≤ A.heap.size) (hs : ∀ k, k < n → ¬ S k) : Below n A B :=
  ⟨h.os, h.tape, h.output, h.size, fun k hk => h.block k (Nat.lt_of_lt_of_le hk hn) (hs k hk)⟩
theorem Upd.cell {S : Nat → Prop} {A B : World} {p : Addr} {v : Value} (h : Upd S A B) (hc : A.cell? p = some v) (hs : ¬ S p.block) : B.cell? p = some v :=
  (World.cell?_of_block (h.block p.block (World.block_lt_of_cell? A p hc) hs)).trans hc
theorem Upd.heap {S : Nat → Prop} {A B : World} {g : Nat} {o : Obj} (h : Upd S A B) (hc : A.heap[g]? = some o) (hs : ¬ S g) : B.heap[g]? = some o := (h.block g (lt_of_block hc) hs).trans hc
theorem Upd.noth {S : Nat → Prop} {A B : World} (h : Upd Noth A B) : Upd S A B := h.mono (fun _ _ e => e.elim)
theorem Upd.toGrown {A B : World} (h : Upd Noth A B) (row : Option Nat) : A.grownBy B row := ⟨h.os, h.tape, h.output, h.size, fun k hk _ => h.block k hk (fun e => e)⟩
theorem Upd.toBelow {A B : World} (h : Upd Noth A B) : Below A.heap.size A B := h.below (Nat.le_refl _) (fun _ _ e => e)
theorem Row.upd {S : Nat → Prop} {w w' : World} {k : IntKind} {a : Option Addr} {zs : List Int} (h : Row w k a zs) (hb : Upd S w w') (hs : ∀ x, a = some x → 0 < zs.length → ¬ S x.block) : Row w' k a zs := by
  intro i hi
  obtain ⟨b, off, ha, hc⟩ := h i hi
  exact ⟨b, off, ha, hb.cell hc (fun e => hs ⟨b, off, none⟩ ha (by omega) e)⟩
theorem OwnB.upd {S : Nat → Prop} {w w' : World} {base : Nat} {e : TypeId} {v : Value} {zs : List Int} (h : OwnB w base e v zs) (hb : Upd S w w') (hs : ∀ k, v.ownBlock = some k → ¬ S k) : OwnB w' base e v zs :=
  h.blk fun k hk => hb.block k (h.owns.lt k hk).2 (hs k hk)
theorem owns_upd {S : Nat → Prop} {w w' : World} {base : Nat} {e : TypeId} {v : Value} {n : Nat} {xs : List Value} (h : w.ownsRow base e 1 v n xs) (hb : Upd S w w') (hs : ∀ k, v.ownBlock = some k → ¬ S k) : w'.ownsRow base e 1 v n xs :=
  owns_blk h fun k hk => hb.block k (h.lt k hk).2 (hs k hk)

/-! ### A range over a function that turns memory between its rounds -/

/-- The iterator turns M's blocks, and new ones; the rounds leave Pr's alone; D: what the iterator tells at each call, over the world in which the round before ended; S: what it tells at its end. -/
def SeqW {α : Type} (F : Fence) (n : Nat) (P : Program) (g : Nat) (lb : Array Value) (encs : α → Array Value) (M Pr : Nat → Prop) (D : List α → α → World → World → Prop) (S : List α → World → Prop) (w : World) : Prop :=
  ∀ (l : Nat) (J Jx : List α → World → Prop) (W : World), Upd Noth w W →
    (∀ pre x W0 W1, J pre W0 → Upd M W0 W1 → D pre x W0 W1 → YieldAt F (n - 1) P l (encs x) W1 fun e W' =>
      (e = .returned (.bool true) ∧ J (pre ++ [x]) W' ∧ Upd (fun k => ¬ Pr k) W1 W') ∨ (e = .returned (.bool false) ∧ Jx (pre ++ [x]) W')) →
    J [] W →
    CallsIn F n P g (#[.func (.yield l) #[] #[]] ++ lb) W fun e W' => (∃ v, e = .returned v) ∧ ((∃ xs W0, J xs W0 ∧ Upd M W0 W' ∧ S xs W') ∨ (∃ pre, Jx pre W'))

/-- How a round's body is left. -/
def wPost {α : Type} (q : Nat) (Pr : Nat → Prop) (I : List α → World → Prop) (Ix : Code → List α → World → Prop) (xs : List α) (W : World) : Exit → Act → World → Prop
  | .normal, _, W' => Upd (fun k => ¬ Pr k ∧ k ≠ q ∧ k ≠ q + 1) W W' ∧ I xs W'
  | .ret, _, W' => Upd (fun k => k ≠ q ∧ k ≠ q + 1) W W' ∧ Ix .ret xs W'
  | .exit id, _, W' => Upd (fun k => k ≠ q ∧ k ≠ q + 1) W W' ∧ Ix (.exit id) xs W'
  | .goto t, _, W' => Upd (fun k => k ≠ q ∧ k ≠ q + 1) W W' ∧ Ix (.goto t) xs W'
  | .panic _, _, _ => False
  | .outgrown, _, _ => False

theorem wpIn_range_w {F : Fence} {n : Nat} {P : Program} {α : Type} {g : Operand} {ps : Array Tmp} {assign body : Code} {Q : Exit → Act → World → Prop} {a : Act} {w : World}
    (hro : F.round = none) (h1 : 1 ≤ n) {gf : Nat} {lb : Array Value} (hg : a.eval g = .func (.func gf) #[] lb) (hFg : F.fn gf) (eg : ∀ args w, (callFunc gf args).run P w = .ok (.enter gf args) w)
    {encs : α → Array Value} {M Pr : Nat → Prop} {D : List α → α → World → World → Prop} {S : List α → World → Prop} (hseq : SeqW F (n - 1) P gf lb encs M Pr D S w)
    (hM : ∀ k, M k → k < w.heap.size) (hPr : ∀ k, Pr k → k < w.heap.size) (hps : ∀ x, (encs x).size = ps.size)
    (hD : ∀ pre x W0 W1 W2, D pre x W0 W1 → Upd (fun k => k = w.heap.size + 1) W1 W2 → w.heap.size + 1 < W0.heap.size → D pre x W0 W2)
    (I : List α → World → Prop) (Ix : Code → List α → World → Prop)
    (hI : ∀ s A B, I s A → Upd (fun k => k = w.heap.size + 1) A B → I s B) (hIx : ∀ c s A B, Ix c s A → Upd (fun k => k = w.heap.size + 1) A B → Ix c s B)
    (h0 : I [] w) (a₁ : α → Act)
    (hassign : ∀ (l : Nat) (x : α) (W : World) (K : Act → World → Prop), K (a₁ x) W →
      assign.wpIn (F.inRound l) (n - 1 - 1) P (Exit.then K (fun _ _ _ => False)) { tmps := (ps.zip (encs x)).foldl (fun t (p, v) => t.setIfInBounds p v) a.tmps, defers := [] } W)
    (hbody : ∀ (l : Nat) (pre : List α) (x : α) (W0 W : World), I pre W0 → Upd (fun k => M k ∨ k = w.heap.size + 1) W0 W → D pre x W0 W → w.heap.size + 1 < W0.heap.size →
      body.wpIn (F.inRound l) (n - 1 - 1) P (wPost w.heap.size Pr I Ix (pre ++ [x]) W) (a₁ x) W)
    (hdone : ∀ (B : Nat) (xs : List α) (W0 W1 W : World), B = w.heap.size → I xs W0 → Upd M W0 W1 → S xs W1 → Upd (fun k => k = w.heap.size + 1) W1 W → w.heap.size + 1 < W0.heap.size → W.heap[B]? = some (.deferred (some [])) → Q .normal { a with defers := { target := .collected B, args := #[] } :: a.defers } W)
    (hstop : ∀ (B : Nat) (c : Code) (pre : List α) (W : World), B = w.heap.size → Ix c pre W → W.heap[B]? = some (.deferred (some [])) → c.wpIn F n P Q { a with defers := { target := .collected B, args := #[] } :: a.defers } W) :
    (Code.rangeFunc g ps assign body).wpIn F n P Q a w := by
  refine wpIn_rangeFunc ?_
  intro fn hfn
  rw [hro]
  generalize hq : w.heap.size = q at *
  let mk : LoopState → Option Code → Loop := fun st pe => { state := st, pending := pe, fn, tmps := a.tmps, params := ps, assign, body, defers := q }
  let Wa : World := (w.alloc (.deferred (some []))).alloc (.loop (mk .ready none))
  have hL1 : Wa.heap[q + 1]? = some (.loop (mk .ready none)) := by
    have := World.alloc_heap_new (w.alloc (.deferred (some []))) (.loop (mk .ready none)); rwa [World.size_alloc, hq] at this
  have hK1 : Wa.heap[q]? = some (.deferred (some [])) := by
    rw [← hq]; exact (Below.heap_alloc _ _ _ (by simp)).trans (World.alloc_heap_new w _)
  have hU1 : Upd Noth w Wa := ((Upd.refl _ _).alloc _).alloc _
  have nM : ∀ k, k < q + 2 → q ≤ k → ¬ M k := fun k _ hk h => by have := hM k h; omega
  have nP : ∀ k, q ≤ k → ¬ Pr k := fun k hk h => by have := hPr k h; omega
  refine ⟨q + 1, [{ target := .collected q, args := #[] }], Wa, { target := .fn (.func gf) lb, args := #[.func (.yield (q + 1)) #[] #[]] }, Wa, gf, #[.func (.yield (q + 1)) #[] #[]] ++ lb, Wa, ?_, ?_, ?_, ?_, fun _ => h1, ?_⟩
  · have := run_enterLoop_outer (P := P) (w := w) fn a.tmps ps assign body
    rw [hq] at this
    exact this
  · simp only [resolve, hg]
    simp [go_sem]
  · intro f' hf'; simp [Target.leads] at hf'; subst hf'; exact hFg
  · simp [invoke, go_sem, eg]
  · refine (hseq (q + 1) (fun pre W => I pre W ∧ W.heap[q + 1]? = some (.loop (mk .ready none)) ∧ W.heap[q]? = some (.deferred (some [])))
      (fun pre W => ∃ c, Ix c pre W ∧ W.heap[q + 1]? = some (.loop (mk .done (some c))) ∧ W.heap[q]? = some (.deferred (some [])))
      Wa hU1 ?_ ⟨hI _ _ _ h0 hU1.noth, hL1, hK1⟩).mono ?_
    · rintro pre x W0 W1 ⟨hi, hl0, hk0⟩ hm hd
      have hlt0 : q + 1 < W0.heap.size := lt_of_block hl0
      have hl := hm.heap hl0 (nM _ (by omega) (by omega))
      have hk := hm.heap hk0 (nM _ (by omega) (by omega))
      have hlt : q + 1 < W1.heap.size := lt_of_block hl
      have hy := run_yield (P := P) (args := encs x) hl (hps x)
      refine ⟨fn, _, assign, body, hy, roundIn_of_wpIn hfn (hassign _ x W1 _ ⟨_, run_beginRound hl rfl, ?_⟩)⟩
      have hl2 : (W1.putObj (q + 1) (.loop { mk .ready none with state := .busy })).heap[q + 1]? = some (.loop { mk .ready none with state := .busy }) := World.putObj_heap_same hlt
      have hk2 : (W1.putObj (q + 1) (.loop { mk .ready none with state := .busy })).heap[q]? = some (.deferred (some [])) := (World.putObj_heap_other (by omega)).trans hk
      have hu2 : Upd (fun k => k = q + 1) W1 (W1.putObj (q + 1) (.loop { mk .ready none with state := .busy })) := (Upd.refl _ _).putObj _ _ (fun _ => rfl)
      refine wpIn_mono (hbody _ pre x W0 _ hi ((hm.mono (fun _ _ e => .inl e)).trans (hu2.mono (fun _ _ e => .inr e))) (hD _ _ _ _ _ hd hu2 hlt0) hlt0) ?_
      have fin : ∀ (jump : Option Code) (W3 : World), Upd (fun k => k ≠ q ∧ k ≠ q + 1) (W1.putObj (q + 1) (.loop { mk .ready none with state := .busy })) W3 →
          (Instr.endRound (q + 1) jump).run P W3 = .ok (.bool jump.isNone) (W3.putObj (q + 1) (.loop (mk (if jump.isNone then .ready else .done) jump))) ∧
          (W3.putObj (q + 1) (.loop (mk (if jump.isNone then .ready else .done) jump))).heap[q + 1]? = some (.loop (mk (if jump.isNone then .ready else .done) jump)) ∧
          (W3.putObj (q + 1) (.loop (mk (if jump.isNone then .ready else .done) jump))).heap[q]? = some (.deferred (some [])) := fun jump W3 hk3 => by
        have hl3 := hk3.heap hl2 (fun e => e.2 rfl)
        have hd3 := hk3.heap hk2 (fun e => e.1 rfl)
        exact ⟨run_endRound (P := P) jump hl3, World.putObj_heap_same (lt_of_block hl3), (World.putObj_heap_other (by omega)).trans hd3⟩
      rintro e a3 W3 hp
      cases e with
      | normal =>
        obtain ⟨hk3, hi3⟩ := hp
        obtain ⟨hr, hl4, hk4⟩ := fin none W3 (hk3.mono (fun _ _ e => e.2))
        refine ⟨_, _, hr, .inl ⟨rfl, ⟨hI _ _ _ hi3 ((Upd.refl _ _).putObj _ _ (fun _ => rfl)), hl4, hk4⟩, ?_⟩⟩
        exact ((hu2.mono (fun k _ e => by subst e; exact nP _ (by omega))).trans (hk3.mono (fun _ _ e => e.1))).putObj _ _ (fun _ => nP _ (by omega))
      | ret =>
        obtain ⟨hk3, hi3⟩ := hp
        obtain ⟨hr, hl4, hk4⟩ := fin (some .ret) W3 hk3
        exact ⟨_, _, hr, .inr ⟨rfl, .ret, hIx _ _ _ _ hi3 ((Upd.refl _ _).putObj _ _ (fun _ => rfl)), hl4, hk4⟩⟩
      | exit id =>
        obtain ⟨hk3, hi3⟩ := hp
        obtain ⟨hr, hl4, hk4⟩ := fin (some (.exit id)) W3 hk3
        exact ⟨_, _, hr, .inr ⟨rfl, .exit id, hIx _ _ _ _ hi3 ((Upd.refl _ _).putObj _ _ (fun _ => rfl)), hl4, hk4⟩⟩
      | goto t =>
        obtain ⟨hk3, hi3⟩ := hp
        obtain ⟨hr, hl4, hk4⟩ := fin (some (.goto t)) W3 hk3
        exact ⟨_, _, hr, .inr ⟨rfl, .goto t, hIx _ _ _ _ hi3 ((Upd.refl _ _).putObj _ _ (fun _ => rfl)), hl4, hk4⟩⟩
      | panic ch => exact hp.elim
      | outgrown => exact hp.elim
    · rintro e W2 ⟨⟨v, rfl⟩, (⟨xs, W0, ⟨hi, hl0, hk0⟩, hm, hS⟩ | ⟨pre, c, hi, hl, hk⟩)⟩
      · have hl := hm.heap hl0 (nM _ (by omega) (by omega))
        have hk := hm.heap hk0 (nM _ (by omega) (by omega))
        exact ⟨none, _, run_endLoop (P := P) hl (by simp [mk]), hdone q xs W0 W2 _ rfl hi hm hS ((Upd.refl _ _).putObj _ _ (fun _ => rfl)) (lt_of_block hl0) ((World.putObj_heap_other (by omega)).trans hk)⟩
      · exact ⟨some c, _, run_endLoop (P := P) hl (by simp [mk]), hstop q c pre _ rfl (hIx _ _ _ _ hi ((Upd.refl _ _).putObj _ _ (fun _ => rfl))) ((World.putObj_heap_other (by omega)).trans hk)⟩

end Go.Proofs.YtepjblmjjegpgaaGreat
