/- The document's arena in memory. No function is named here. -/
import Derived.Test.YtfpogjgbmibmcaaABase
namespace Go.Proofs.Ytfpogjgbmibmcaa
open Go.RowKit

/-! ### rows of seven cells -/
theorem flat_len {α : Type} (f : α → List Value) (hf : ∀ a, (f a).length = 7) (L : List α) : (L.flatMap f).length = L.length * 7 := by
  induction L with
  | nil => rfl
  | cons a L ih => rw [List.flatMap_cons, List.length_append, hf, ih, List.length_cons]; omega
theorem flat_get {α : Type} (f : α → List Value) (hf : ∀ a, (f a).length = 7) (L : List α) (i j : Nat) (hi : i < L.length) (hj : j < 7) : (L.flatMap f)[i * 7 + j]? = (f L[i])[j]? := by
  induction L generalizing i with
  | nil => simp at hi
  | cons a L ih =>
    rw [List.flatMap_cons]
    cases i with
    | zero => rw [List.getElem?_append_left (by rw [hf]; omega)]; simp
    | succ i =>
      rw [List.getElem?_append_right (by rw [hf]; omega), hf, show (i + 1) * 7 + j - 7 = i * 7 + j by omega, ih i (by simpa using hi)]
      rfl
theorem flat_set {α : Type} (f : α → List Value) (hf : ∀ a, (f a).length = 7) (L : List α) (i j : Nat) (hi : i < L.length) (hj : j < 7) (u : Value) (s : α) (hs : f s = (f L[i]).set j u) : (L.flatMap f).set (i * 7 + j) u = (L.set i s).flatMap f := by
  induction L generalizing i with
  | nil => simp at hi
  | cons a L ih =>
    rw [List.flatMap_cons]
    cases i with
    | zero =>
      rw [List.set_append_left _ _ (by rw [hf]; omega), List.set_cons_zero, List.flatMap_cons, hs]
      simp
    | succ i =>
      rw [List.set_append_right _ _ (by rw [hf]; omega), hf, show (i + 1) * 7 + j - 7 = i * 7 + j by omega, ih i (by simpa using hi) (by simpa using hs), List.set_cons_succ, List.flatMap_cons]

/-- A slot: its word, its node. -/
structure RS where
  w : Nat
  n : Nd
def RS.cells (s : RS) : List Value := [.int .u64 (s.w : Nat), .int .i64 s.n.lv, s.n.hi.v, .int .i64 s.n.ri, s.n.ks.v, s.n.vs.v, s.n.cs.v]
theorem RS.cells_len (s : RS) : s.cells.length = 7 := rfl
structure RS.Ok (W : World) (D : Nat → Prop) (s : RS) : Prop where
  n : s.n.Ok W
  d : s.n.In D
  w : s.w < 18446744073709551616
/-- The document's arena at block A, its slots at block g. -/
structure RA (W : World) (A g c : Nat) (M D : Nat → Prop) (nodes root : Int) (L : List RS) : Prop where
  a : W.heap[A]? = some (.cells #[.int .i64 nodes, .slice (some ⟨g, 0, none⟩) L.length c, .int .i64 root] 73 (0, 0))
  row : W.ownsRow 0 70 7 (.slice (some ⟨g, 0, none⟩) L.length c) L.length (L.flatMap RS.cells)
  mg : M g
  mA : M A
  lt : ∀ k, M k ∨ D k → k < W.heap.size
  dj : ∀ k, M k → ¬ D k
  sl : ∀ s ∈ L, s.Ok W D
  one : 1 ≤ L.length
  le : (L.length : Int) ≤ nodes
  nz : nodes ≤ 65536
theorem owns_blkN {w w' : World} {base : Nat} {e : TypeId} {size : Nat} {v : Value} {n : Nat} {xs : List Value} (h : w.ownsRow base e size v n xs) (hb : ∀ k, v.ownBlock = some k → w'.heap[k]? = w.heap[k]?) : w'.ownsRow base e size v n xs := by
  refine ⟨h.1, ?_⟩
  rcases h.2 with h | ⟨g, cap, cur, hv, hg, hh, r⟩
  · exact .inl h
  · exact .inr ⟨g, cap, cur, hv, hg, by rw [hb g (by rw [hv]; rfl)]; exact hh, r⟩
section
variable {W W' : World} {A g c : Nat} {M D : Nat → Prop} {nodes root : Int} {L : List RS}
theorem RA.blk (h : RA W A g c M D nodes root L) : ∃ cur, W.heap[g]? = some (.cells cur 70 (0, 0)) ∧ L.length ≤ c ∧ c ≤ maxLen ∧ cur.size = c * 7 ∧ cur.toList.take (L.length * 7) = L.flatMap RS.cells := by
  rcases h.row.2 with ⟨hv, _⟩ | ⟨g', c', cur, hv, hb, hh, h1, h2, h3, h4⟩
  · cases hv
  · cases hv; exact ⟨cur, hh, h1, h2, h3, h4⟩
theorem RA.ne (h : RA W A g c M D nodes root L) : g ≠ A := by
  intro e
  obtain ⟨cur, hh, _⟩ := h.blk
  rw [e, h.a] at hh
  simp at hh
theorem RS.Ok.upd {S : Nat → Prop} {s : RS} (h : s.Ok W D) (hb : Upd S W W') (hs : ∀ k, D k → ¬ S k) : s.Ok W' D := ⟨h.n.upd h.d hb hs, h.d, h.w⟩
theorem RA.upd {S : Nat → Prop} (h : RA W A g c M D nodes root L) (hb : Upd S W W') (hs : ∀ k, M k ∨ D k → ¬ S k) : RA W' A g c M D nodes root L := by
  refine ⟨hb.heap h.a (hs _ (.inl h.mA)), owns_blkN h.row (fun k hk => ?_), h.mg, h.mA, fun k hk => Nat.lt_of_lt_of_le (h.lt k hk) hb.size, h.dj, fun s hs' => (h.sl s hs').upd hb (fun k hk => hs k (.inr hk)), h.one, h.le, h.nz⟩
  cases hk
  exact hb.block _ (h.lt _ (.inl h.mg)) (hs _ (.inl h.mg))
theorem RA.below (h : RA W A g c M D nodes root L) (hb : Below W.heap.size W W') : RA W' A g c M D nodes root L :=
  h.upd (S := Noth) (Upd.of_below hb _) (fun _ _ e => e)
theorem RA.drewN (h : RA W A g c M D nodes root L) (m : Nat) : RA (W.drewN m) A g c M D nodes root L :=
  h.upd (S := Noth) ⟨rfl, rfl, rfl, Nat.le_refl _, fun _ _ _ => rfl⟩ (fun _ _ e => e)
theorem RA.n_le (h : RA W A g c M D nodes root L) : L.length ≤ 65536 := by have := h.le; have := h.nz; omega
theorem RA.cells (h : RA W A g c M D nodes root L) : W.cell? ⟨A, 0, none⟩ = some (.int .i64 nodes) ∧ W.cell? ⟨A, 1, none⟩ = some (.slice (some ⟨g, 0, none⟩) L.length c) ∧ W.cell? ⟨A, 2, none⟩ = some (.int .i64 root) :=
  ⟨by rw [cell_of_row _ _ _ _ _ _ h.a]; rfl, by rw [cell_of_row _ _ _ _ _ _ h.a]; rfl, by rw [cell_of_row _ _ _ _ _ _ h.a]; rfl⟩
/-- The cells of a slot. -/
theorem RA.at_ (h : RA W A g c M D nodes root L) (i : Nat) (hi : i < L.length) (j : Nat) (hj : j < 7) : W.cell? ⟨g, i * 7 + j, none⟩ = L[i].cells[j]? := by
  obtain ⟨cur, hh, _, _, h3, h4⟩ := h.blk
  rw [cell_of_row _ _ _ _ _ _ hh, ← Array.getElem?_toList, ← flat_get RS.cells RS.cells_len L i j hi hj, ← h4, List.getElem?_take, if_pos (by omega)]
theorem RA.wat (h : RA W A g c M D nodes root L) (i : Nat) (hi : i < L.length) : W.cell? ⟨g, i * 7, none⟩ = some (.int .u64 (L[i].w : Nat)) := h.at_ i hi 0 (by omega)
theorem RA.frozen (h : RA W A g c M D nodes root L) (j : Nat) : W.frozen? ⟨g, j, none⟩ = false := by
  obtain ⟨cur, hh, _⟩ := h.blk
  exact frozen_of hh j
/-- Cells of the row turn. -/
theorem row7_set {W : World} {g c n : Nat} {L : List RS} (h : W.ownsRow 0 70 7 (.slice (some ⟨g, 0, none⟩) n c) n (L.flatMap RS.cells)) (i : Nat) (hi : i < L.length) (j : Nat) (hj : j < 7) (u : Value) (s : RS) (hs : s.cells = (L[i].cells).set j u) :
    (W.setCell ⟨g, i * 7 + j, none⟩ u).ownsRow 0 70 7 (.slice (some ⟨g, 0, none⟩) n c) n ((L.set i s).flatMap RS.cells) := by
  refine ⟨?_, ?_⟩
  · have := h.1
    rw [flat_len RS.cells RS.cells_len] at this ⊢
    rw [List.length_set]; exact this
  · rcases h.2 with ⟨hv, _⟩ | ⟨g', c', cur, hv, hb, hh, h1, h2, h3, h4⟩
    · cases hv
    · cases hv
      refine .inr ⟨g, c, cur.setIfInBounds (i * 7 + j) u, rfl, hb, block_setCell hh _ _, h1, h2, by rw [Array.size_setIfInBounds]; exact h3, ?_⟩
      rw [← flat_set RS.cells RS.cells_len L i j hi hj u s hs, ← h4, Array.toList_setIfInBounds, List.take_set]
/-- One slot turns. -/
theorem RA.put {W1 : World} {D' : Nat → Prop} (h : RA W A g c M D nodes root L) {i : Nat} (s : RS) (hu : Upd (fun k => k = g) W W1)
    (hr : W1.ownsRow 0 70 7 (.slice (some ⟨g, 0, none⟩) L.length c) L.length ((L.set i s).flatMap RS.cells))
    (hD : ∀ k, D k → D' k) (hlt : ∀ k, D' k → k < W1.heap.size) (hdj : ∀ k, M k → ¬ D' k) (hok : s.Ok W1 D') : RA W1 A g c M D' nodes root (L.set i s) := by
  refine ⟨by rw [List.length_set]; exact hu.heap h.a (fun e => h.ne e.symm), by rw [List.length_set]; exact hr, h.mg, h.mA, ?_, hdj, ?_, by rw [List.length_set]; exact h.one, by rw [List.length_set]; exact h.le, h.nz⟩
  · intro k hk
    rcases hk with hk | hk
    · exact Nat.lt_of_lt_of_le (h.lt k (.inl hk)) hu.size
    · exact hlt k hk
  · intro t ht
    obtain ⟨j, hj, rfl⟩ := List.mem_iff_getElem.1 ht
    rw [List.length_set] at hj
    by_cases hij : i = j
    · subst hij; rw [List.getElem_set_self]; exact hok
    · rw [List.getElem_set_ne hij]
      have ho := h.sl L[j] (List.getElem_mem hj)
      exact ⟨ho.n.upd ho.d hu (fun k hk e => h.dj g h.mg (by rw [← e]; exact hk)), ho.d.mono hD, ho.w⟩
theorem RA.setW (h : RA W A g c M D nodes root L) (i : Nat) (hi : i < L.length) (x : Nat) (hx : x < 18446744073709551616) :
    RA (W.setCell ⟨g, i * 7, none⟩ (.int .u64 (x : Nat))) A g c M D nodes root (L.set i ⟨x, L[i].n⟩) := by
  have hu : Upd (fun k => k = g) W (W.setCell ⟨g, i * 7, none⟩ (.int .u64 (x : Nat))) := (Upd.refl _ _).setCell _ _ (fun _ => rfl)
  have ho := h.sl L[i] (List.getElem_mem hi)
  have hr := row7_set h.row i hi 0 (by omega) (.int .u64 (x : Nat)) ⟨x, L[i].n⟩ rfl
  exact h.put ⟨x, L[i].n⟩ hu hr (fun k hk => hk) (fun k hk => Nat.lt_of_lt_of_le (h.lt k (.inr hk)) hu.size) h.dj ⟨ho.n.upd ho.d hu (fun k hk e => h.dj g h.mg (by rw [← e]; exact hk)), ho.d, hx⟩
theorem RA.setR (h : RA W A g c M D nodes root L) (r : Int) : RA (W.setCell ⟨A, 2, none⟩ (.int .i64 r)) A g c M D nodes r L := by
  have hu : Upd (fun k => k = A) W (W.setCell ⟨A, 2, none⟩ (.int .i64 r)) := (Upd.refl _ _).setCell _ _ (fun _ => rfl)
  refine ⟨block_setCell h.a 2 _, owns_blkN h.row (fun k hk => ?_), h.mg, h.mA, fun k hk => Nat.lt_of_lt_of_le (h.lt k hk) hu.size, h.dj, fun s hs => (h.sl s hs).upd hu (fun k hk e => h.dj A h.mA (by rw [← e]; exact hk)), h.one, h.le, h.nz⟩
  cases hk
  exact hu.block _ (h.lt _ (.inl h.mg)) h.ne
/-- One slot more. -/
theorem RA.push {W5 : World} {g' c' : Nat} {s : RS} (h : RA W A g c M D nodes root L) (hn : (L.length : Int) < nodes) (hu : Upd M W W5)
    (hA : W5.heap[A]? = some (.cells #[.int .i64 nodes, .slice (some ⟨g', 0, none⟩) (L.length + 1) c', .int .i64 root] 73 (0, 0)))
    (ho : W5.ownsRow 0 70 7 (.slice (some ⟨g', 0, none⟩) (L.length + 1) c') (L.length + 1) (L.flatMap RS.cells ++ s.cells)) (hg : M g' ∨ W.heap.size ≤ g') (hok : s.Ok W5 D) :
    RA W5 A g' c' (fun k => M k ∨ (W.heap.size ≤ k ∧ k < W5.heap.size)) D nodes root (L ++ [s]) := by
  have hgl : g' < W5.heap.size := (ho.lt g' rfl).2
  have hl : (L ++ [s]).length = L.length + 1 := by simp
  refine ⟨by rw [hl]; exact hA, ?_, ?_, .inl h.mA, ?_, ?_, ?_, by rw [hl]; omega, by rw [hl]; omega, h.nz⟩
  · rw [hl, List.flatMap_append, List.flatMap_singleton]; exact ho
  · rcases hg with hg | hg
    · exact .inl hg
    · exact .inr ⟨hg, hgl⟩
  · intro k hk
    rcases hk with (hk | hk) | hk
    · exact Nat.lt_of_lt_of_le (h.lt k (.inl hk)) hu.size
    · exact hk.2
    · exact Nat.lt_of_lt_of_le (h.lt k (.inr hk)) hu.size
  · intro k hk hd
    rcases hk with hk | hk
    · exact h.dj k hk hd
    · have := h.lt k (.inr hd); omega
  · intro t ht
    rcases List.mem_append.1 ht with ht | ht
    · exact (h.sl t ht).upd hu (fun k hk e => h.dj k e hk)
    · obtain rfl := List.mem_singleton.1 ht
      exact hok
end
def ndsR (L : List RS) : List (Nat × NP) := L.map fun s => (s.w, s.n.p)
theorem ndsR_len (L : List RS) : (ndsR L).length = L.length := by simp [ndsR]

end Go.Proofs.Ytfpogjgbmibmcaa
