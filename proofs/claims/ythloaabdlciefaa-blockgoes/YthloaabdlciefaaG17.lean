/- A range over a function that keeps memory of its own: the rounds change only what is theirs. -/
import Derived.Test.YthloaabdlciefaaG15
import Derived.RangeFuncNested
namespace Go.Proofs.Ythloaabdlciefaa
open Go.RowKit

/-- The iterator turns only memory that is younger than its call; a round changes R's blocks, which may hang on what was yielded, and the range's own; D: what the iterator tells at each call; S: what it tells at its end. -/
def SeqR {α : Type} (F : Fence) (n : Nat) (P : Program) (g : Nat) (lb : Array Value) (encs : α → Array Value) (R : α → Nat → Prop) (D : Nat → List α → α → World → Prop) (S : List α → World → Prop) (w : World) : Prop :=
  ∀ (l : Nat) (J Jx : List α → World → Prop) (W : World), Upd Noth w W → w.heap.size ≤ l → l < W.heap.size →
    (∀ pre x W0 W1, J pre W0 → Upd (fun k => W.heap.size ≤ k) W0 W1 → D W.heap.size pre x W1 → YieldAt F (n - 1) P l (encs x) W1 fun e W' =>
      (e = .returned (.bool true) ∧ J (pre ++ [x]) W' ∧ Upd (fun k => R x k ∨ k = l) W1 W') ∨ (e = .returned (.bool false) ∧ Jx (pre ++ [x]) W')) →
    J [] W →
    CallsIn F n P g (#[.func (.yield l) #[] #[]] ++ lb) W fun e W' => (∃ v, e = .returned v) ∧ ((∃ xs W0, J xs W0 ∧ Upd (fun k => W.heap.size ≤ k) W0 W' ∧ S xs W') ∨ (∃ pre, Jx pre W'))

/-- How a round's body is left. -/
def rPost {α : Type} (q : Nat) (R : Nat → Prop) (I : List α → World → Prop) (Ix : Code → List α → World → Prop) (xs : List α) (W : World) : Exit → Act → World → Prop
  | .normal, _, W' => Upd (fun k => R k ∧ k ≠ q ∧ k ≠ q + 1) W W' ∧ I xs W'
  | .ret, _, W' => Upd (fun k => k ≠ q ∧ k ≠ q + 1) W W' ∧ Ix .ret xs W'
  | .exit id, _, W' => Upd (fun k => k ≠ q ∧ k ≠ q + 1) W W' ∧ Ix (.exit id) xs W'
  | .goto t, _, W' => Upd (fun k => k ≠ q ∧ k ≠ q + 1) W W' ∧ Ix (.goto t) xs W'
  | .panic _, _, _ => False
  | .outgrown, _, _ => False

theorem wpIn_range_r {F : Fence} {n : Nat} {P : Program} {α : Type} {g : Operand} {ps : Array Tmp} {assign body : Code} {Q : Exit → Act → World → Prop} {a : Act} {w : World}
    (hro : F.round = none) (h1 : 1 ≤ n) {gf : Nat} {lb : Array Value} (hg : a.eval g = .func (.func gf) #[] lb) (hFg : F.fn gf) (eg : ∀ args w, (callFunc gf args).run P w = .ok (.enter gf args) w)
    {encs : α → Array Value} {R : α → Nat → Prop} {D : Nat → List α → α → World → Prop} {S : List α → World → Prop} (hseq : SeqR F (n - 1) P gf lb encs R D S w)
    (hps : ∀ x, (encs x).size = ps.size)
    (hD : ∀ pre x W1 W2, D (w.heap.size + 2) pre x W1 → Upd (fun k => k = w.heap.size + 1) W1 W2 → D (w.heap.size + 2) pre x W2)
    (I : List α → World → Prop) (Ix : Code → List α → World → Prop)
    (hI : ∀ s A B, I s A → Upd (fun k => k = w.heap.size + 1) A B → I s B) (hIx : ∀ c s A B, Ix c s A → Upd (fun k => k = w.heap.size + 1) A B → Ix c s B)
    (h0 : I [] w) (a₁ : α → Act)
    (hassign : ∀ (l : Nat) (x : α) (W : World) (K : Act → World → Prop), K (a₁ x) W →
      assign.wpIn (F.inRound l) (n - 1 - 1) P (Exit.then K (fun _ _ _ => False)) { tmps := (ps.zip (encs x)).foldl (fun t (p, v) => t.setIfInBounds p v) a.tmps, defers := [] } W)
    (hbody : ∀ (l : Nat) (pre : List α) (x : α) (W0 W : World), l = w.heap.size + 1 → (∃ r, W.heap[l]? = some (.loop r)) → I pre W0 → Upd (fun k => w.heap.size + 1 ≤ k) W0 W → D (w.heap.size + 2) pre x W → w.heap.size + 1 < W0.heap.size →
      body.wpIn (F.inRound l) (n - 1 - 1) P (rPost w.heap.size (R x) I Ix (pre ++ [x]) W) (a₁ x) W)
    (hdone : ∀ (B : Nat) (xs : List α) (W0 W1 W : World), B = w.heap.size → I xs W0 → Upd (fun k => w.heap.size + 2 ≤ k) W0 W1 → S xs W1 → Upd (fun k => k = w.heap.size + 1) W1 W → w.heap.size + 1 < W0.heap.size → W.heap[B]? = some (.deferred (some [])) → Q .normal { a with defers := { target := .collected B, args := #[] } :: a.defers } W)
    (hstop : ∀ (B : Nat) (c : Code) (pre : List α) (W : World), B = w.heap.size → Ix c pre W → W.heap[B]? = some (.deferred (some [])) → c.wpIn F n P Q { a with defers := { target := .collected B, args := #[] } :: a.defers } W) :
    (Code.rangeFunc g ps assign body).wpIn F n P Q a w := by
  refine wpIn_rangeFunc ?_
  intro fn hfn
  rw [hro]
  generalize hq : w.heap.size = q at *
  let mk : LoopState → Option Code → Loop := fun st pe => { state := st, pending := pe, fn, tmps := a.tmps, params := ps, assign, body, defers := q }
  let Wa : World := (w.alloc (.deferred (some []))).alloc (.loop (mk .ready none))
  have hL1 : Wa.heap[q + 1]? = some (.loop (mk .ready none)) := by
    have := World.alloc_heap_new (w.alloc (.deferred (some []))) (.loop (mk .ready none)); rwa [World.size_alloc, hq] at this
  have hK1 : Wa.heap[q]? = some (.deferred (some [])) := by
    rw [← hq]; exact (Below.heap_alloc _ _ _ (by simp)).trans (World.alloc_heap_new w _)
  have hU1 : Upd Noth w Wa := ((Upd.refl _ _).alloc _).alloc _
  have hWs : Wa.heap.size = q + 2 := by show ((w.alloc _).alloc _).heap.size = _; rw [World.size_alloc, World.size_alloc, hq]
  refine ⟨q + 1, [{ target := .collected q, args := #[] }], Wa, { target := .fn (.func gf) lb, args := #[.func (.yield (q + 1)) #[] #[]] }, Wa, gf, #[.func (.yield (q + 1)) #[] #[]] ++ lb, Wa, ?_, ?_, ?_, ?_, fun _ => h1, ?_⟩
  · have := run_enterLoop_outer (P := P) (w := w) fn a.tmps ps assign body
    rw [hq] at this
    exact this
  · simp only [resolve, hg]
    simp [go_sem]
  · intro f' hf'; simp [Target.leads] at hf'; subst hf'; exact hFg
  · simp [invoke, go_sem, eg]
  · refine (hseq (q + 1) (fun pre W => I pre W ∧ W.heap[q + 1]? = some (.loop (mk .ready none)) ∧ W.heap[q]? = some (.deferred (some [])))
      (fun pre W => ∃ c, Ix c pre W ∧ W.heap[q + 1]? = some (.loop (mk .done (some c))) ∧ W.heap[q]? = some (.deferred (some [])))
      Wa hU1 (by omega) (lt_of_block hL1) ?_ ⟨hI _ _ _ h0 hU1.noth, hL1, hK1⟩).mono ?_
    · rintro pre x W0 W1 ⟨hi, hl0, hk0⟩ hm hd
      rw [hWs] at hm hd
      have hlt0 : q + 1 < W0.heap.size := lt_of_block hl0
      have hl := hm.heap hl0 (fun e => by omega)
      have hk := hm.heap hk0 (fun e => by omega)
      have hlt : q + 1 < W1.heap.size := lt_of_block hl
      have hy := run_yield (P := P) (args := encs x) hl (hps x)
      refine ⟨fn, _, assign, body, hy, roundIn_of_wpIn hfn (hassign _ x W1 _ ⟨_, run_beginRound hl rfl, ?_⟩)⟩
      have hl2 : (W1.putObj (q + 1) (.loop { mk .ready none with state := .busy })).heap[q + 1]? = some (.loop { mk .ready none with state := .busy }) := World.putObj_heap_same hlt
      have hk2 : (W1.putObj (q + 1) (.loop { mk .ready none with state := .busy })).heap[q]? = some (.deferred (some [])) := (World.putObj_heap_other (by omega)).trans hk
      have hu2 : Upd (fun k => k = q + 1) W1 (W1.putObj (q + 1) (.loop { mk .ready none with state := .busy })) := (Upd.refl _ _).putObj _ _ (fun _ => rfl)
      refine wpIn_mono (hbody _ pre x W0 _ rfl ⟨_, hl2⟩ hi ((hm.mono (fun _ _ e => by omega)).trans (hu2.mono (fun _ _ e => by omega))) (hD _ _ _ _ hd hu2) hlt0) ?_
      have fin : ∀ (jump : Option Code) (W3 : World), Upd (fun k => k ≠ q ∧ k ≠ q + 1) (W1.putObj (q + 1) (.loop { mk .ready none with state := .busy })) W3 →
          (Instr.endRound (q + 1) jump).run P W3 = .ok (.bool jump.isNone) (W3.putObj (q + 1) (.loop (mk (if jump.isNone then .ready else .done) jump))) ∧
          (W3.putObj (q + 1) (.loop (mk (if jump.isNone then .ready else .done) jump))).heap[q + 1]? = some (.loop (mk (if jump.isNone then .ready else .done) jump)) ∧
          (W3.putObj (q + 1) (.loop (mk (if jump.isNone then .ready else .done) jump))).heap[q]? = some (.deferred (some [])) := fun jump W3 hk3 => by
        have hl3 := hk3.heap hl2 (fun e => e.2 rfl)
        have hd3 := hk3.heap hk2 (fun e => e.1 rfl)
        exact ⟨run_endRound (P := P) jump hl3, World.putObj_heap_same (lt_of_block hl3), (World.putObj_heap_other (by omega)).trans hd3⟩
      rintro e a3 W3 hp
      cases e with
      | normal =>
        obtain ⟨hk3, hi3⟩ := hp
        obtain ⟨hr, hl4, hk4⟩ := fin none W3 (hk3.mono (fun _ _ e => e.2))
        refine ⟨_, _, hr, .inl ⟨rfl, ⟨hI _ _ _ hi3 ((Upd.refl _ _).putObj _ _ (fun _ => rfl)), hl4, hk4⟩, ?_⟩⟩
        exact ((hu2.mono (fun k _ e => .inr e)).trans (hk3.mono (fun _ _ e => .inl e.1))).putObj _ _ (fun _ => .inr rfl)
      | ret =>
        obtain ⟨hk3, hi3⟩ := hp
        obtain ⟨hr, hl4, hk4⟩ := fin (some .ret) W3 hk3
        exact ⟨_, _, hr, .inr ⟨rfl, .ret, hIx _ _ _ _ hi3 ((Upd.refl _ _).putObj _ _ (fun _ => rfl)), hl4, hk4⟩⟩
      | exit id =>
        obtain ⟨hk3, hi3⟩ := hp
        obtain ⟨hr, hl4, hk4⟩ := fin (some (.exit id)) W3 hk3
        exact ⟨_, _, hr, .inr ⟨rfl, .exit id, hIx _ _ _ _ hi3 ((Upd.refl _ _).putObj _ _ (fun _ => rfl)), hl4, hk4⟩⟩
      | goto t =>
        obtain ⟨hk3, hi3⟩ := hp
        obtain ⟨hr, hl4, hk4⟩ := fin (some (.goto t)) W3 hk3
        exact ⟨_, _, hr, .inr ⟨rfl, .goto t, hIx _ _ _ _ hi3 ((Upd.refl _ _).putObj _ _ (fun _ => rfl)), hl4, hk4⟩⟩
      | panic ch => exact hp.elim
      | outgrown => exact hp.elim
    · rintro e W2 ⟨⟨v, rfl⟩, (⟨xs, W0, ⟨hi, hl0, hk0⟩, hm, hS⟩ | ⟨pre, c, hi, hl, hk⟩)⟩
      · rw [hWs] at hm
        have hl := hm.heap hl0 (fun e => by omega)
        have hk := hm.heap hk0 (fun e => by omega)
        exact ⟨none, _, run_endLoop (P := P) hl (by simp [mk]), hdone q xs W0 W2 _ rfl hi hm hS ((Upd.refl _ _).putObj _ _ (fun _ => rfl)) (lt_of_block hl0) ((World.putObj_heap_other (by omega)).trans hk)⟩
      · exact ⟨some c, _, run_endLoop (P := P) hl (by simp [mk]), hstop q c pre _ rfl (hIx _ _ _ _ hi ((Upd.refl _ _).putObj _ _ (fun _ => rfl))) ((World.putObj_heap_other (by omega)).trans hk)⟩


/-- How a round's body is left, within a round. -/
def nPost {α : Type} (q : Nat) (R : Nat → Prop) (I : List α → World → Prop) (Ix : Code → List α → World → Prop) (xs : List α) (W : World) : Exit → Act → World → Prop
  | .normal, _, W' => Upd (fun k => R k ∧ k ≠ q) W W' ∧ I xs W'
  | .ret, _, W' => Upd (fun k => k ≠ q) W W' ∧ Ix .ret xs W'
  | .exit id, _, W' => Upd (fun k => k ≠ q) W W' ∧ Ix (.exit id) xs W'
  | .goto t, _, W' => Upd (fun k => k ≠ q) W W' ∧ Ix (.goto t) xs W'
  | .panic _, _, _ => False
  | .outgrown, _, _ => False

theorem SeqR.inRound {α : Type} {F : Fence} {n : Nat} {P : Program} {g : Nat} {lb : Array Value} {encs : α → Array Value} {R : α → Nat → Prop} {D : Nat → List α → α → World → Prop} {S : List α → World → Prop} {w : World} (l : Nat)
    (h : SeqR F n P g lb encs R D S w) : SeqR (F.inRound l) n P g lb encs R D S w := h

/-- Within a round of another loop. -/
theorem wpIn_range_rn {F : Fence} {n : Nat} {P : Program} {α : Type} {g : Operand} {ps : Array Tmp} {assign body : Code} {Q : Exit → Act → World → Prop} {a : Act} {w : World}
    {l₀ : Nat} {r₀ : Loop} (hro : F.round = some l₀) (hl₀ : w.heap[l₀]? = some (.loop r₀)) (h1 : 1 ≤ n) {gf : Nat} {lb : Array Value} (hg : a.eval g = .func (.func gf) #[] lb) (hFg : F.fn gf) (eg : ∀ args w, (callFunc gf args).run P w = .ok (.enter gf args) w)
    {encs : α → Array Value} {R : α → Nat → Prop} {D : Nat → List α → α → World → Prop} {S : List α → World → Prop} (hseq : SeqR F (n - 1) P gf lb encs R D S w)
    (hps : ∀ x, (encs x).size = ps.size)
    (hD : ∀ pre x W1 W2, D (w.heap.size + 1) pre x W1 → Upd (fun k => k = w.heap.size) W1 W2 → D (w.heap.size + 1) pre x W2)
    (I : List α → World → Prop) (Ix : Code → List α → World → Prop)
    (hI : ∀ s A B, I s A → Upd (fun k => k = w.heap.size) A B → I s B) (hIx : ∀ c s A B, Ix c s A → Upd (fun k => k = w.heap.size) A B → Ix c s B)
    (h0 : I [] w) (a₁ : α → Act)
    (hassign : ∀ (l : Nat) (x : α) (W : World) (K : Act → World → Prop), K (a₁ x) W →
      assign.wpIn (F.inRound l) (n - 1 - 1) P (Exit.then K (fun _ _ _ => False)) { tmps := (ps.zip (encs x)).foldl (fun t (p, v) => t.setIfInBounds p v) a.tmps, defers := [] } W)
    (hbody : ∀ (l : Nat) (pre : List α) (x : α) (W0 W : World), l = w.heap.size → (∃ r, W.heap[l]? = some (.loop r)) → I pre W0 → Upd (fun k => w.heap.size ≤ k) W0 W → D (w.heap.size + 1) pre x W → w.heap.size < W0.heap.size →
      body.wpIn (F.inRound l) (n - 1 - 1) P (nPost w.heap.size (R x) I Ix (pre ++ [x]) W) (a₁ x) W)
    (hdone : ∀ (xs : List α) (W0 W1 W : World), I xs W0 → Upd (fun k => w.heap.size + 1 ≤ k) W0 W1 → S xs W1 → Upd (fun k => k = w.heap.size) W1 W → w.heap.size < W0.heap.size → Q .normal a W)
    (hstop : ∀ (c : Code) (pre : List α) (W : World), Ix c pre W → c.wpIn F n P Q a W) :
    (Code.rangeFunc g ps assign body).wpIn F n P Q a w := by
  refine wpIn_rangeFunc ?_
  intro fn hfn
  rw [hro]
  generalize hq : w.heap.size = q at *
  let mk : LoopState → Option Code → Loop := fun st pe => { state := st, pending := pe, fn, tmps := a.tmps, params := ps, assign, body, defers := r₀.defers }
  let Wa : World := w.alloc (.loop (mk .ready none))
  have hL1 : Wa.heap[q]? = some (.loop (mk .ready none)) := by rw [← hq]; exact World.alloc_heap_new w _
  have hU1 : Upd Noth w Wa := (Upd.refl _ _).alloc _
  have hWs : Wa.heap.size = q + 1 := by show (w.alloc _).heap.size = _; rw [World.size_alloc, hq]
  refine ⟨q, [], Wa, { target := .fn (.func gf) lb, args := #[.func (.yield q) #[] #[]] }, Wa, gf, #[.func (.yield q) #[] #[]] ++ lb, Wa, ?_, ?_, ?_, ?_, fun _ => h1, ?_⟩
  · have := run_enterLoop_inner (P := P) (w := w) hl₀ fn a.tmps ps assign body
    rw [hq] at this
    exact this
  · simp only [resolve, hg]
    simp [go_sem]
  · intro f' hf'; simp [Target.leads] at hf'; subst hf'; exact hFg
  · simp [invoke, go_sem, eg]
  · refine (hseq q (fun pre W => I pre W ∧ W.heap[q]? = some (.loop (mk .ready none)))
      (fun pre W => ∃ c, Ix c pre W ∧ W.heap[q]? = some (.loop (mk .done (some c))))
      Wa hU1 (by omega) (lt_of_block hL1) ?_ ⟨hI _ _ _ h0 hU1.noth, hL1⟩).mono ?_
    · rintro pre x W0 W1 ⟨hi, hl0⟩ hm hd
      rw [hWs] at hm hd
      have hlt0 : q < W0.heap.size := lt_of_block hl0
      have hl := hm.heap hl0 (fun e => by omega)
      have hlt : q < W1.heap.size := lt_of_block hl
      have hy := run_yield (P := P) (args := encs x) hl (hps x)
      refine ⟨fn, _, assign, body, hy, roundIn_of_wpIn hfn (hassign _ x W1 _ ⟨_, run_beginRound hl rfl, ?_⟩)⟩
      have hl2 : (W1.putObj q (.loop { mk .ready none with state := .busy })).heap[q]? = some (.loop { mk .ready none with state := .busy }) := World.putObj_heap_same hlt
      have hu2 : Upd (fun k => k = q) W1 (W1.putObj q (.loop { mk .ready none with state := .busy })) := (Upd.refl _ _).putObj _ _ (fun _ => rfl)
      refine wpIn_mono (hbody _ pre x W0 _ rfl ⟨_, hl2⟩ hi ((hm.mono (fun _ _ e => by omega)).trans (hu2.mono (fun _ _ e => by omega))) (hD _ _ _ _ hd hu2) hlt0) ?_
      have fin : ∀ (jump : Option Code) (W3 : World), Upd (fun k => k ≠ q) (W1.putObj q (.loop { mk .ready none with state := .busy })) W3 →
          (Instr.endRound q jump).run P W3 = .ok (.bool jump.isNone) (W3.putObj q (.loop (mk (if jump.isNone then .ready else .done) jump))) ∧
          (W3.putObj q (.loop (mk (if jump.isNone then .ready else .done) jump))).heap[q]? = some (.loop (mk (if jump.isNone then .ready else .done) jump)) := fun jump W3 hk3 => by
        have hl3 := hk3.heap hl2 (fun e => e rfl)
        exact ⟨run_endRound (P := P) jump hl3, World.putObj_heap_same (lt_of_block hl3)⟩
      rintro e a3 W3 hp
      cases e with
      | normal =>
        obtain ⟨hk3, hi3⟩ := hp
        obtain ⟨hr, hl4⟩ := fin none W3 (hk3.mono (fun _ _ e => e.2))
        refine ⟨_, _, hr, .inl ⟨rfl, ⟨hI _ _ _ hi3 ((Upd.refl _ _).putObj _ _ (fun _ => rfl)), hl4⟩, ?_⟩⟩
        exact ((hu2.mono (fun k _ e => .inr e)).trans (hk3.mono (fun _ _ e => .inl e.1))).putObj _ _ (fun _ => .inr rfl)
      | ret =>
        obtain ⟨hk3, hi3⟩ := hp
        obtain ⟨hr, hl4⟩ := fin (some .ret) W3 hk3
        exact ⟨_, _, hr, .inr ⟨rfl, .ret, hIx _ _ _ _ hi3 ((Upd.refl _ _).putObj _ _ (fun _ => rfl)), hl4⟩⟩
      | exit id =>
        obtain ⟨hk3, hi3⟩ := hp
        obtain ⟨hr, hl4⟩ := fin (some (.exit id)) W3 hk3
        exact ⟨_, _, hr, .inr ⟨rfl, .exit id, hIx _ _ _ _ hi3 ((Upd.refl _ _).putObj _ _ (fun _ => rfl)), hl4⟩⟩
      | goto t =>
        obtain ⟨hk3, hi3⟩ := hp
        obtain ⟨hr, hl4⟩ := fin (some (.goto t)) W3 hk3
        exact ⟨_, _, hr, .inr ⟨rfl, .goto t, hIx _ _ _ _ hi3 ((Upd.refl _ _).putObj _ _ (fun _ => rfl)), hl4⟩⟩
      | panic ch => exact hp.elim
      | outgrown => exact hp.elim
    · rintro e W2 ⟨⟨v, rfl⟩, (⟨xs, W0, ⟨hi, hl0⟩, hm, hS⟩ | ⟨pre, c, hi, hl⟩)⟩
      · rw [hWs] at hm
        have hl := hm.heap hl0 (fun e => by omega)
        exact ⟨none, _, run_endLoop (P := P) hl (by simp [mk]), hdone xs W0 W2 _ hi hm hS ((Upd.refl _ _).putObj _ _ (fun _ => rfl)) (lt_of_block hl0)⟩
      · exact ⟨some c, _, run_endLoop (P := P) hl (by simp [mk]), hstop c pre _ (hIx _ _ _ _ hi ((Upd.refl _ _).putObj _ _ (fun _ => rfl)))⟩

end Go.Proofs.Ythloaabdlciefaa
