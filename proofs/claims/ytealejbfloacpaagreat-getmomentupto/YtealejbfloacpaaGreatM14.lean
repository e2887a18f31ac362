/- Texts of one's own. -/
import Derived.Test.YtealejbfloacpaaGreatM13
import Derived.Test.YtealejbfloacpaaGreatM12
namespace Go.Proofs.YtealejbfloacpaaGreat
open Go.RowKit
set_option maxRecDepth 100000
theorem flat_len {α : Type} (f : α → List Value) (hf : ∀ a, (f a).length = 7) (L : List α) : (L.flatMap f).length = L.length * 7 := by
 induction L with
 | nil => rfl
 | cons a L ih => rw [List.flatMap_cons, List.length_append, hf, ih, List.length_cons]; omega
theorem flat_get {α : Type} (f : α → List Value) (hf : ∀ a, (f a).length = 7) (L : List α) (i j : Nat) (hi : i < L.length) (hj : j < 7) : (L.flatMap f)[i * 7 + j]? = (f L[i])[j]? := by
 induction L generalizing i with
 | nil => simp at hi
 | cons a L ih =>
  rw [List.flatMap_cons]
  cases i with
  | zero => rw [List.getElem?_append_left (by rw [hf]; omega)]; simp
  | succ i =>
   rw [List.getElem?_append_right (by rw [hf]; omega), hf, show (i + 1) * 7 + j - 7 = i * 7 + j by omega, ih i (by simpa using hi)]
   rfl
theorem flat_set {α : Type} (f : α → List Value) (hf : ∀ a, (f a).length = 7) (L : List α) (i j : Nat) (hi : i < L.length) (hj : j < 7) (u : Value) (s : α) (hs : f s = (f L[i]).set j u) : (L.flatMap f).set (i * 7 + j) u = (L.set i s).flatMap f := by
 induction L generalizing i with
 | nil => simp at hi
 | cons a L ih =>
  rw [List.flatMap_cons]
  cases i with
  | zero =>
   rw [List.set_append_left _ _ (by rw [hf]; omega), List.set_cons_zero, List.flatMap_cons, hs]
   simp
  | succ i =>
   rw [List.set_append_right _ _ (by rw [hf]; omega), hf, show (i + 1) * 7 + j - 7 = i * 7 + j by omega, ih i (by simpa using hi) (by simpa using hs), List.set_cons_succ, List.flatMap_cons]
structure RS where
 w : Nat
 n : Nd
def RS.cells (s : RS) : List Value := [.int .u64 (s.w : Nat), .int .i64 s.n.lv, s.n.hi.v, .int .i64 s.n.ri, s.n.ks.v, s.n.vs.v, s.n.cs.v]
theorem RS.cells_len (s : RS) : s.cells.length = 7 := rfl
structure RS.Ok (W : World) (D : Nat → Prop) (s : RS) : Prop where
 n : s.n.Ok W
 d : s.n.In D
 w : s.w < 18446744073709551616
structure RA (W : World) (A g c : Nat) (M D : Nat → Prop) (nodes root : Int) (L : List RS) : Prop where
 a : W.heap[A]? = some (.cells #[.int .i64 nodes, .slice (some ⟨g, 0, none⟩) L.length c, .int .i64 root] 127 (0, 0))
 row : W.ownsRow 0 124 7 (.slice (some ⟨g, 0, none⟩) L.length c) L.length (L.flatMap RS.cells)
 mg : M g
 mA : M A
 lt : ∀ k, M k ∨ D k → k < W.heap.size
 dj : ∀ k, M k → ¬ D k
 sl : ∀ s ∈ L, s.Ok W D
 one : 1 ≤ L.length
 le : (L.length : Int) ≤ nodes
 nz : nodes ≤ 65536
theorem owns_blkN {w w' : World} {base : Nat} {e : TypeId} {size : Nat} {v : Value} {n : Nat} {xs : List Value} (h : w.ownsRow base e size v n xs) (hb : ∀ k, v.ownBlock = some k → w'.heap[k]? = w.heap[k]?) : w'.ownsRow base e size v n xs := by
 refine ⟨h.1, ?_⟩
 rcases h.2 with h | ⟨g, cap, cur, hv, hg, hh, r⟩
 ·exact .inl h
 ·exact .inr ⟨g, cap, cur, hv, hg, by rw [hb g (by rw [hv]; rfl)]; exact hh, r⟩
section
variable {W W' : World} {A g c : Nat} {M D : Nat → Prop} {nodes root : Int} {L : List RS}
theorem RA.blk (h : RA W A g c M D nodes root L) : ∃ cur, W.heap[g]? = some (.cells cur 124 (0, 0)) ∧ L.length ≤ c ∧ c ≤ maxLen ∧ cur.size = c * 7 ∧ cur.toList.take (L.length * 7) = L.flatMap RS.cells := by
 rcases h.row.2 with ⟨hv, _⟩ | ⟨g', c', cur, hv, hb, hh, h1, h2, h3, h4⟩
 ·cases hv
 ·cases hv; exact ⟨cur, hh, h1, h2, h3, h4⟩
theorem RA.ne (h : RA W A g c M D nodes root L) : g ≠ A := by
 intro e
 obtain ⟨cur, hh, _⟩ := h.blk
 rw [e, h.a] at hh
 simp at hh
theorem RS.Ok.upd {S : Nat → Prop} {s : RS} (h : s.Ok W D) (hb : Upd S W W') (hs : ∀ k, D k → ¬ S k) : s.Ok W' D := ⟨h.n.upd h.d hb hs, h.d, h.w⟩
theorem RA.upd {S : Nat → Prop} (h : RA W A g c M D nodes root L) (hb : Upd S W W') (hs : ∀ k, M k ∨ D k → ¬ S k) : RA W' A g c M D nodes root L := by
 refine ⟨hb.heap h.a (hs _ (.inl h.mA)), owns_blkN h.row (fun k hk => ?_), h.mg, h.mA, fun k hk => Nat.lt_of_lt_of_le (h.lt k hk) hb.size, h.dj, fun s hs' => (h.sl s hs').upd hb (fun k hk => hs k (.inr hk)), h.one, h.le, h.nz⟩
 cases hk
 exact hb.block _ (h.lt _ (.inl h.mg)) (hs _ (.inl h.mg))
theorem RA.below (h : RA W A g c M D nodes root L) (hb : Below W.heap.size W W') : RA W' A g c M D nodes root L :=
 h.upd (S := Noth) (Upd.of_below hb _) (fun _ _ e => e)
theorem RA.drewN (h : RA W A g c M D nodes root L) (m : Nat) : RA (W.drewN m) A g c M D nodes root L :=
 h.upd (S := Noth) ⟨rfl, rfl, rfl, Nat.le_refl _, fun _ _ _ => rfl⟩ (fun _ _ e => e)
theorem RA.n_le (h : RA W A g c M D nodes root L) : L.length ≤ 65536 := by have := h.le; have := h.nz; omega
theorem RA.cells (h : RA W A g c M D nodes root L) : W.cell? ⟨A, 0, none⟩ = some (.int .i64 nodes) ∧ W.cell? ⟨A, 1, none⟩ = some (.slice (some ⟨g, 0, none⟩) L.length c) ∧ W.cell? ⟨A, 2, none⟩ = some (.int .i64 root) :=
 ⟨by rw [cell_of_row _ _ _ _ _ _ h.a]; rfl, by rw [cell_of_row _ _ _ _ _ _ h.a]; rfl, by rw [cell_of_row _ _ _ _ _ _ h.a]; rfl⟩
theorem RA.at_ (h : RA W A g c M D nodes root L) (i : Nat) (hi : i < L.length) (j : Nat) (hj : j < 7) : W.cell? ⟨g, i * 7 + j, none⟩ = L[i].cells[j]? := by
 obtain ⟨cur, hh, _, _, h3, h4⟩ := h.blk
 rw [cell_of_row _ _ _ _ _ _ hh, ← Array.getElem?_toList, ← flat_get RS.cells RS.cells_len L i j hi hj, ← h4, List.getElem?_take, if_pos (by omega)]
theorem RA.wat (h : RA W A g c M D nodes root L) (i : Nat) (hi : i < L.length) : W.cell? ⟨g, i * 7, none⟩ = some (.int .u64 (L[i].w : Nat)) := h.at_ i hi 0 (by omega)
theorem RA.frozen (h : RA W A g c M D nodes root L) (j : Nat) : W.frozen? ⟨g, j, none⟩ = false := by
 obtain ⟨cur, hh, _⟩ := h.blk
 exact frozen_of hh j
theorem row7_set {W : World} {g c n : Nat} {L : List RS} (h : W.ownsRow 0 124 7 (.slice (some ⟨g, 0, none⟩) n c) n (L.flatMap RS.cells)) (i : Nat) (hi : i < L.length) (j : Nat) (hj : j < 7) (u : Value) (s : RS) (hs : s.cells = (L[i].cells).set j u) :
  (W.setCell ⟨g, i * 7 + j, none⟩ u).ownsRow 0 124 7 (.slice (some ⟨g, 0, none⟩) n c) n ((L.set i s).flatMap RS.cells) := by
 refine ⟨?_, ?_⟩
 ·have := h.1
  rw [flat_len RS.cells RS.cells_len] at this ⊢
  rw [List.length_set]; exact this
 ·rcases h.2 with ⟨hv, _⟩ | ⟨g', c', cur, hv, hb, hh, h1, h2, h3, h4⟩
  ·cases hv
  ·cases hv
   refine .inr ⟨g, c, cur.setIfInBounds (i * 7 + j) u, rfl, hb, block_setCell hh _ _, h1, h2, by rw [Array.size_setIfInBounds]; exact h3, ?_⟩
   rw [← flat_set RS.cells RS.cells_len L i j hi hj u s hs, ← h4, Array.toList_setIfInBounds, List.take_set]
theorem RA.put {W1 : World} {D' : Nat → Prop} (h : RA W A g c M D nodes root L) {i : Nat} (s : RS) (hu : Upd (fun k => k = g) W W1)
  (hr : W1.ownsRow 0 124 7 (.slice (some ⟨g, 0, none⟩) L.length c) L.length ((L.set i s).flatMap RS.cells))
  (hD : ∀ k, D k → D' k) (hlt : ∀ k, D' k → k < W1.heap.size) (hdj : ∀ k, M k → ¬ D' k) (hok : s.Ok W1 D') : RA W1 A g c M D' nodes root (L.set i s) := by
 refine ⟨by rw [List.length_set]; exact hu.heap h.a (fun e => h.ne e.symm), by rw [List.length_set]; exact hr, h.mg, h.mA, ?_, hdj, ?_, by rw [List.length_set]; exact h.one, by rw [List.length_set]; exact h.le, h.nz⟩
 ·intro k hk
  rcases hk with hk | hk
  ·exact Nat.lt_of_lt_of_le (h.lt k (.inl hk)) hu.size
  ·exact hlt k hk
 ·intro t ht
  obtain ⟨j, hj, rfl⟩ := List.mem_iff_getElem.1 ht
  rw [List.length_set] at hj
  by_cases hij : i = j
  ·subst hij; rw [List.getElem_set_self]; exact hok
  ·rw [List.getElem_set_ne hij]
   have ho := h.sl L[j] (List.getElem_mem hj)
   exact ⟨ho.n.upd ho.d hu (fun k hk e => h.dj g h.mg (by rw [← e]; exact hk)), ho.d.mono hD, ho.w⟩
theorem RA.setW (h : RA W A g c M D nodes root L) (i : Nat) (hi : i < L.length) (x : Nat) (hx : x < 18446744073709551616) :
  RA (W.setCell ⟨g, i * 7, none⟩ (.int .u64 (x : Nat))) A g c M D nodes root (L.set i ⟨x, L[i].n⟩) := by
 have hu : Upd (fun k => k = g) W (W.setCell ⟨g, i * 7, none⟩ (.int .u64 (x : Nat))) := (Upd.refl _ _).setCell _ _ (fun _ => rfl)
 have ho := h.sl L[i] (List.getElem_mem hi)
 have hr := row7_set h.row i hi 0 (by omega) (.int .u64 (x : Nat)) ⟨x, L[i].n⟩ rfl
 exact h.put ⟨x, L[i].n⟩ hu hr (fun k hk => hk) (fun k hk => Nat.lt_of_lt_of_le (h.lt k (.inr hk)) hu.size) h.dj ⟨ho.n.upd ho.d hu (fun k hk e => h.dj g h.mg (by rw [← e]; exact hk)), ho.d, hx⟩
theorem RA.setR (h : RA W A g c M D nodes root L) (r : Int) : RA (W.setCell ⟨A, 2, none⟩ (.int .i64 r)) A g c M D nodes r L := by
 have hu : Upd (fun k => k = A) W (W.setCell ⟨A, 2, none⟩ (.int .i64 r)) := (Upd.refl _ _).setCell _ _ (fun _ => rfl)
 refine ⟨block_setCell h.a 2 _, owns_blkN h.row (fun k hk => ?_), h.mg, h.mA, fun k hk => Nat.lt_of_lt_of_le (h.lt k hk) hu.size, h.dj, fun s hs => (h.sl s hs).upd hu (fun k hk e => h.dj A h.mA (by rw [← e]; exact hk)), h.one, h.le, h.nz⟩
 cases hk
 exact hu.block _ (h.lt _ (.inl h.mg)) h.ne
theorem RA.push {W5 : World} {g' c' : Nat} {s : RS} (h : RA W A g c M D nodes root L) (hn : (L.length : Int) < nodes) (hu : Upd M W W5)
  (hA : W5.heap[A]? = some (.cells #[.int .i64 nodes, .slice (some ⟨g', 0, none⟩) (L.length + 1) c', .int .i64 root] 127 (0, 0)))
  (ho : W5.ownsRow 0 124 7 (.slice (some ⟨g', 0, none⟩) (L.length + 1) c') (L.length + 1) (L.flatMap RS.cells ++ s.cells)) (hg : M g' ∨ W.heap.size ≤ g') (hok : s.Ok W5 D) :
  RA W5 A g' c' (fun k => M k ∨ (W.heap.size ≤ k ∧ k < W5.heap.size)) D nodes root (L ++ [s]) := by
 have hgl : g' < W5.heap.size := (ho.lt g' rfl).2
 have hl : (L ++ [s]).length = L.length + 1 := by simp
 refine ⟨by rw [hl]; exact hA, ?_, ?_, .inl h.mA, ?_, ?_, ?_, by rw [hl]; omega, by rw [hl]; omega, h.nz⟩
 ·rw [hl, List.flatMap_append, List.flatMap_singleton]; exact ho
 ·rcases hg with hg | hg
  ·exact .inl hg
  ·exact .inr ⟨hg, hgl⟩
 ·intro k hk
  rcases hk with (hk | hk) | hk
  ·exact Nat.lt_of_lt_of_le (h.lt k (.inl hk)) hu.size
  ·exact hk.2
  ·exact Nat.lt_of_lt_of_le (h.lt k (.inr hk)) hu.size
 ·intro k hk hd
  rcases hk with hk | hk
  ·exact h.dj k hk hd
  ·have := h.lt k (.inr hd); omega
 ·intro t ht
  rcases List.mem_append.1 ht with ht | ht
  ·exact (h.sl t ht).upd hu (fun k hk e => h.dj k e hk)
  ·obtain rfl := List.mem_singleton.1 ht
   exact hok
end
def ndsR (L : List RS) : List (Nat × NP) := L.map fun s => (s.w, s.n.p)
theorem ndsR_len (L : List RS) : (ndsR L).length = L.length := by simp [ndsR]
end Go.Proofs.YtealejbfloacpaaGreat
namespace Go.Proofs.YtealejbfloacpaaGreat
open Go.RowKit
set_option maxRecDepth 100000
section
variable {W : World} {A g c : Nat} {M D : Nat → Prop} {nodes root : Int} {L : List RS}
set_option maxHeartbeats 400000 in
theorem rused_any (h : RA W A g c M D nodes root L) : Calls Tryz.prog 17 #[.pointer (some ⟨A, 0, none⟩)] W fun e w' => e = .returned (.int .i64 (L.length : Nat)) ∧ w' = W := by
 obtain ⟨c0, c1, c2⟩ := h.cells
 clear h
 generalize L.length = n at *
 go_enter Tryz.func17, Tryz.ntmps17
 go_wp2
 go_ret
 exact ⟨rfl, rfl⟩
set_option maxHeartbeats 400000 in
theorem rroot_any (h : RA W A g c M D nodes root L) : Calls Tryz.prog 62 #[.pointer (some ⟨A, 0, none⟩)] W fun e w' => e = .returned (.int .i64 root) ∧ w' = W := by
 obtain ⟨c0, c1, c2⟩ := h.cells
 clear h
 go_enter Tryz.func62, Tryz.ntmps62
 go_wp2
 go_ret
 exact ⟨rfl, rfl⟩
set_option maxHeartbeats 800000 in
theorem rleft_any (h : RA W A g c M D nodes root L) : Calls Tryz.prog 61 #[.pointer (some ⟨A, 0, none⟩)] W fun e w' => e = .returned (.int .i64 (nodes - (L.length : Nat))) ∧ ∃ k, w' = W.drewN k := by
 obtain ⟨c0, c1, c2⟩ := h.cells
 have h1 := h.le
 have h2 := h.nz
 clear h
 generalize L.length = n at *
 have j0 : -65536 ≤ nodes - (n : Int) := by omega
 have j1 : nodes - (n : Int) ≤ 65536 := by omega
 go_enter Tryz.func61, Tryz.ntmps61
 go_wp2_with fail
 go_quiet (fail)
 go_wp2
 go_ret
 exact ⟨rfl, _, rfl⟩
set_option maxHeartbeats 800000 in
theorem there_any (h : RA W A g c M D nodes root L) (id : Int) : Calls Tryz.prog 69 #[.pointer (some ⟨A, 0, none⟩), .int .i64 id] W fun e w' => e = .returned (.bool (decide (1 ≤ id ∧ id ≤ (L.length : Nat)))) ∧ w' = W := by
 obtain ⟨c0, c1, c2⟩ := h.cells
 clear h
 generalize L.length = n at *
 by_cases h1 : 1 ≤ id
 ·by_cases h2 : id ≤ (n : Int)
  ·rw [decide_eq_true ⟨h1, h2⟩]
   go_enter Tryz.func69, Tryz.ntmps69
   go_wp2
   go_ret
   exact ⟨rfl, rfl⟩
  ·rw [decide_eq_false (fun h => h2 h.2)]
   have h3 : (n : Int) < id := by omega
   go_enter Tryz.func69, Tryz.ntmps69
   go_wp2
   go_ret
   exact ⟨rfl, rfl⟩
 ·rw [decide_eq_false (fun h => h1 h.1)]
  have h3 : id < 1 := by omega
  go_enter Tryz.func69, Tryz.ntmps69
  go_wp2
  go_ret
  exact ⟨rfl, rfl⟩
theorem there_yes (h : RA W A g c M D nodes root L) (i : Nat) (hi : i < L.length) : Calls Tryz.prog 69 #[.pointer (some ⟨A, 0, none⟩), .int .i64 ((i : Int) + 1)] W fun e w' => e = .returned (.bool true) ∧ w' = W := by
 have := there_any h ((i : Int) + 1)
 rwa [decide_eq_true (by omega)] at this
theorem there_no (h : RA W A g c M D nodes root L) (id : Int) (hi : ¬ (1 ≤ id ∧ id ≤ (L.length : Nat))) : Calls Tryz.prog 69 #[.pointer (some ⟨A, 0, none⟩), .int .i64 id] W fun e w' => e = .returned (.bool false) ∧ w' = W := by
 have := there_any h id
 rwa [decide_eq_false hi] at this
set_option maxHeartbeats 800000 in
theorem rword_any (h : RA W A g c M D nodes root L) (i : Nat) (hi : i < L.length) :
  Calls Tryz.prog 100 #[.pointer (some ⟨A, 0, none⟩), .int .i64 ((i : Int) + 1)] W fun e w' => e = .returned (.tuple #[.int .u64 (L[i].w : Nat), .int .i64 0]) ∧ w' = W := by
 have HT := hide (there_yes h i hi)
 obtain ⟨c0, c1, c2⟩ := h.cells
 have cw := h.wat i hi
 have hn := h.n_le
 generalize L[i].w = x at *
 clear h
 generalize L.length = n at *
 have j4 : (i : Int) < (n : Int) := by omega
 obtain ⟨id, hid⟩ : ∃ id, id = (i : Int) + 1 := ⟨_, rfl⟩
 rw [← hid] at HT ⊢
 have j3 : id - 1 = (i : Int) := by omega
 have j5 : id ≤ 65536 := by omega
 have j6 : 1 ≤ id := by omega
 clear hid
 go_enter Tryz.func100, Tryz.ntmps100
 go_wp2_with fail
 refine keep HT.out ?_
 go_wp2_with fail
 go_ret2
 exact ⟨rfl, rfl⟩
set_option maxHeartbeats 800000 in
theorem rword_none (h : RA W A g c M D nodes root L) (id : Int) (hi : ¬ (1 ≤ id ∧ id ≤ (L.length : Nat))) :
  Calls Tryz.prog 100 #[.pointer (some ⟨A, 0, none⟩), .int .i64 id] W fun e w' => e = .returned (.tuple #[.int .u64 0, .int .i64 101]) ∧ w' = W := by
 have HT := hide (there_no h id hi)
 clear h hi
 go_enter Tryz.func100, Tryz.ntmps100
 go_wp2_with fail
 refine keep HT.out ?_
 go_wp2_with fail
 go_ret2
 exact ⟨rfl, rfl⟩
set_option maxHeartbeats 800000 in
theorem rlock_none (h : RA W A g c M D nodes root L) (id x : Int) (hi : ¬ (1 ≤ id ∧ id ≤ (L.length : Nat))) :
  Calls Tryz.prog 144 #[.pointer (some ⟨A, 0, none⟩), .int .i64 id, .int .u64 x] W fun e w' => e = .returned (.tuple #[.bool false, .int .i64 101]) ∧ w' = W := by
 have HT := hide (there_no h id hi)
 clear h hi
 go_enter Tryz.func144, Tryz.ntmps144
 go_wp2_with fail
 refine keep HT.out ?_
 go_wp2_with fail
 go_ret2
 exact ⟨rfl, rfl⟩
set_option maxHeartbeats 1600000 in
theorem rlock_hit (h : RA W A g c M D nodes root L) (i : Nat) (hi : i < L.length) (he : L[i].w % 2 = 0) :
  Calls Tryz.prog 144 #[.pointer (some ⟨A, 0, none⟩), .int .i64 ((i : Int) + 1), .int .u64 (L[i].w : Nat)] W fun e w' => e = .returned (.tuple #[.bool true, .int .i64 0]) ∧ w' = W.setCell ⟨g, i * 7, none⟩ (.int .u64 ((L[i].w + 1 : Nat) : Int)) := by
 have HT := hide (there_yes h i hi)
 obtain ⟨c0, c1, c2⟩ := h.cells
 have cw := h.wat i hi
 have fz := h.frozen (i * 7)
 have hx := (h.sl L[i] (List.getElem_mem hi)).w
 have hn := h.n_le
 generalize L[i].w = x at *
 clear h
 generalize L.length = n at *
 have j4 : (i : Int) < (n : Int) := by omega
 obtain ⟨id, hid⟩ : ∃ id, id = (i : Int) + 1 := ⟨_, rfl⟩
 rw [← hid] at HT ⊢
 have j3 : id - 1 = (i : Int) := by omega
 have j5 : id ≤ 65536 := by omega
 have j6 : 1 ≤ id := by omega
 obtain ⟨y, hy⟩ : ∃ y : Int, y = (x : Int) := ⟨_, rfl⟩
 rw [show ((x + 1 : Nat) : Int) = y + 1 by omega]
 rw [← hy] at cw ⊢
 have k0 : 0 ≤ y := by omega
 have k1 : y + 1 < 18446744073709551616 := by omega
 have k2 : y % 2 = 0 := by omega
 clear hid hy he hx
 go_enter Tryz.func144, Tryz.ntmps144
 go_wp2_with fail
 refine keep HT.out ?_
 go_wp2_with fail
 go_ret2
 exact ⟨rfl, by go_num⟩
set_option maxHeartbeats 1600000 in
theorem rlock_miss (h : RA W A g c M D nodes root L) (i : Nat) (hi : i < L.length) (x : Nat) (hx : x < 18446744073709551616) (hne : ¬ (L[i].w = x ∧ x % 2 = 0)) :
  Calls Tryz.prog 144 #[.pointer (some ⟨A, 0, none⟩), .int .i64 ((i : Int) + 1), .int .u64 (x : Nat)] W fun e w' => e = .returned (.tuple #[.bool false, .int .i64 0]) ∧ w' = W := by
 have HT := hide (there_yes h i hi)
 obtain ⟨c0, c1, c2⟩ := h.cells
 have cw := h.wat i hi
 have hn := h.n_le
 generalize L[i].w = x0 at *
 clear h
 generalize L.length = n at *
 have j4 : (i : Int) < (n : Int) := by omega
 obtain ⟨id, hid⟩ : ∃ id, id = (i : Int) + 1 := ⟨_, rfl⟩
 rw [← hid] at HT ⊢
 have j3 : id - 1 = (i : Int) := by omega
 have j5 : id ≤ 65536 := by omega
 have j6 : 1 ≤ id := by omega
 obtain ⟨y, hy⟩ : ∃ y : Int, y = (x : Int) := ⟨_, rfl⟩
 obtain ⟨z, hz⟩ : ∃ z : Int, z = (x0 : Int) := ⟨_, rfl⟩
 rw [← hy]
 rw [← hz] at cw
 by_cases hq : z = y
 ·have k2 : y % 2 = 1 := by have : ¬ x % 2 = 0 := fun e => hne ⟨by omega, e⟩; omega
  have k0 : 0 ≤ y := by omega
  subst hq
  clear hid hy hz hne hx
  go_enter Tryz.func144, Tryz.ntmps144
  go_wp2_with fail
  refine keep HT.out ?_
  go_wp2_with fail
  go_ret2
  exact ⟨rfl, rfl⟩
 ·clear hid hy hz hne hx
  go_enter Tryz.func144, Tryz.ntmps144
  go_wp2_with fail
  refine keep HT.out ?_
  go_wp2_with fail
  go_ret2
  exact ⟨rfl, rfl⟩
def heE (L : List RS) (id : Int) : Int := if 1 ≤ id ∧ id ≤ (L.length : Nat) then (if (L[(id - 1).toNat]?.map RS.w).getD 0 % 2 = 0 then 102 else 0) else 101
theorem heE_at (L : List RS) (i : Nat) (hi : i < L.length) : heE L ((i : Int) + 1) = if L[i].w % 2 = 0 then 102 else 0 := by
 unfold heE
 rw [if_pos (by omega), show ((i : Int) + 1 - 1).toNat = i by omega, List.getElem?_eq_getElem hi]
 rfl
set_option maxHeartbeats 1600000 in
theorem rheld_any (h : RA W A g c M D nodes root L) (id : Int) :
  Calls Tryz.prog 145 #[.pointer (some ⟨A, 0, none⟩), .int .i64 id] W fun e w' => e = .returned (.int .i64 (heE L id)) ∧ w' = W := by
 by_cases hin : 1 ≤ id ∧ id ≤ (L.length : Nat)
 ·obtain ⟨i, hid⟩ : ∃ i : Nat, id = (i : Int) + 1 := ⟨(id - 1).toNat, by omega⟩
  have hi : i < L.length := by omega
  rw [hid, heE_at L i hi, ← hid]
  have HT := hide (there_yes h i hi)
  rw [← hid] at HT
  obtain ⟨c0, c1, c2⟩ := h.cells
  have cw := h.wat i hi
  have hn := h.n_le
  generalize L[i].w = x at *
  clear h
  generalize L.length = n at *
  have j4 : (i : Int) < (n : Int) := by omega
  have j3 : id - 1 = (i : Int) := by omega
  have j5 : id ≤ 65536 := by omega
  have j6 : 1 ≤ id := by omega
  obtain ⟨y, hy⟩ : ∃ y : Int, y = (x : Int) := ⟨_, rfl⟩
  rw [← hy] at cw
  have k0 : 0 ≤ y := by omega
  clear hid hin
  by_cases hx : x % 2 = 0
  ·rw [if_pos hx]
   have k1 : y % 2 = 0 := by omega
   clear hx hy
   go_enter Tryz.func145, Tryz.ntmps145
   go_wp2_with fail
   refine keep HT.out ?_
   go_wp2_with fail
   go_ret
   exact ⟨rfl, rfl⟩
  ·rw [if_neg hx]
   have k1 : y % 2 = 1 := by omega
   clear hx hy
   go_enter Tryz.func145, Tryz.ntmps145
   go_wp2_with fail
   refine keep HT.out ?_
   go_wp2_with fail
   go_ret
   exact ⟨rfl, rfl⟩
 ·rw [show heE L id = 101 from if_neg hin]
  have HT := hide (there_no h id hin)
  clear h hin
  go_enter Tryz.func145, Tryz.ntmps145
  go_wp2_with fail
  refine keep HT.out ?_
  go_wp2_with fail
  go_ret
  exact ⟨rfl, rfl⟩
end
end Go.Proofs.YtealejbfloacpaaGreat
namespace Go.Proofs.YtealejbfloacpaaGreat
open Go.RowKit
set_option maxRecDepth 100000
section
variable {W : World} {A g c : Nat} {M D : Nat → Prop} {nodes root : Int} {L : List RS}
set_option maxHeartbeats 800000 in
theorem runlock_not (h : RA W A g c M D nodes root L) (id : Int) (ch : Bool) (hne : heE L id ≠ 0) :
  Calls Tryz.prog 102 #[.pointer (some ⟨A, 0, none⟩), .int .i64 id, .bool ch] W fun e w' => e = .returned (.int .i64 (heE L id)) ∧ w' = W := by
 have HT := hide (rheld_any h id)
 clear h
 generalize heE L id = er at *
 go_enter Tryz.func102, Tryz.ntmps102
 go_wp2_with fail
 refine keep HT.out ?_
 go_wp2_with fail
 go_ret
 exact ⟨rfl, rfl⟩
set_option maxHeartbeats 1600000 in
theorem runlock_held (h : RA W A g c M D nodes root L) (i : Nat) (hi : i < L.length) (ch : Bool) (he : L[i].w % 2 = 1) :
  Calls Tryz.prog 102 #[.pointer (some ⟨A, 0, none⟩), .int .i64 ((i : Int) + 1), .bool ch] W fun e w' => e = .returned (.int .i64 0) ∧ w' = W.setCell ⟨g, i * 7, none⟩ (.int .u64 ((freeW L[i].w ch : Nat) : Int)) := by
 have HT := hide (rheld_any h ((i : Int) + 1))
 rw [heE_at L i hi, if_neg (by omega)] at HT
 obtain ⟨c0, c1, c2⟩ := h.cells
 have cw := h.wat i hi
 have fz := h.frozen (i * 7)
 have hx := (h.sl L[i] (List.getElem_mem hi)).w
 have hn := h.n_le
 generalize L[i].w = x at *
 clear h
 generalize L.length = n at *
 have j4 : (i : Int) < (n : Int) := by omega
 obtain ⟨id, hid⟩ : ∃ id, id = (i : Int) + 1 := ⟨_, rfl⟩
 rw [← hid] at HT ⊢
 have j3 : id - 1 = (i : Int) := by omega
 have j5 : id ≤ 65536 := by omega
 have j6 : 1 ≤ id := by omega
 obtain ⟨y, hy⟩ : ∃ y : Int, y = (x : Int) := ⟨_, rfl⟩
 rw [← hy] at cw
 cases ch with
 | true =>
  have HV : Hid (((freeW x true : Nat) : Int) = IntKind.u64.wrap (y + 1)) := by
   show _ = _
   rw [IntKind.wrap_u64]
   unfold freeW
   simp only [if_true]
   omega
  rw [HV.out]
  clear hid hy he hx HV
  go_enter Tryz.func102, Tryz.ntmps102
  go_wp2_with fail
  refine keep HT.out ?_
  go_wp2_with fail
  go_ret
  exact ⟨rfl, by first | rfl | (simp only [IntKind.wrap_u64])⟩
 | false =>
  have HV : Hid (((freeW x false : Nat) : Int) = y - 1) := by
   show _ = _
   unfold freeW
   rw [if_neg (by decide)]
   omega
  rw [HV.out]
  have k0 : 1 ≤ y := by omega
  have k1 : y < 18446744073709551616 := by omega
  clear hid hy he hx HV
  go_enter Tryz.func102, Tryz.ntmps102
  go_wp2_with fail
  refine keep HT.out ?_
  go_wp2_with fail
  go_ret
  exact ⟨rfl, by go_num⟩
set_option maxHeartbeats 800000 in
theorem rgrow_none (h : RA W A g c M D nodes root L) (old id : Int) (hi : ¬ (1 ≤ id ∧ id ≤ (L.length : Nat))) :
  Calls Tryz.prog 107 #[.pointer (some ⟨A, 0, none⟩), .int .i64 old, .int .i64 id] W fun e w' => e = .returned (.tuple #[.bool false, .int .i64 101]) ∧ w' = W := by
 have HT := hide (there_no h id hi)
 clear h hi
 go_enter Tryz.func107, Tryz.ntmps107
 go_wp2_with fail
 refine keep HT.out ?_
 go_wp2_with fail
 go_ret2
 exact ⟨rfl, rfl⟩
set_option maxHeartbeats 800000 in
theorem rgrow_no (h : RA W A g c M D nodes root L) (old id : Int) (hi : 1 ≤ id ∧ id ≤ (L.length : Nat)) (hr : ¬ root = old) :
  Calls Tryz.prog 107 #[.pointer (some ⟨A, 0, none⟩), .int .i64 old, .int .i64 id] W fun e w' => e = .returned (.tuple #[.bool false, .int .i64 0]) ∧ w' = W := by
 have HT := hide (there_any h id)
 rw [decide_eq_true hi] at HT
 obtain ⟨c0, c1, c2⟩ := h.cells
 clear h hi
 go_enter Tryz.func107, Tryz.ntmps107
 go_wp2_with fail
 refine keep HT.out ?_
 go_wp2_with fail
 go_ret2
 exact ⟨rfl, rfl⟩
set_option maxHeartbeats 800000 in
theorem rgrow_yes (h : RA W A g c M D nodes root L) (id : Int) (hi : 1 ≤ id ∧ id ≤ (L.length : Nat)) :
  Calls Tryz.prog 107 #[.pointer (some ⟨A, 0, none⟩), .int .i64 root, .int .i64 id] W fun e w' => e = .returned (.tuple #[.bool true, .int .i64 0]) ∧ w' = W.setCell ⟨A, 2, none⟩ (.int .i64 id) := by
 have HT := hide (there_any h id)
 rw [decide_eq_true hi] at HT
 obtain ⟨c0, c1, c2⟩ := h.cells
 have f2 := frozen_of h.a 2
 clear h hi
 go_enter Tryz.func107, Tryz.ntmps107
 go_wp2_with fail
 refine keep HT.out ?_
 go_wp2_with fail
 go_ret2
 exact ⟨rfl, rfl⟩
end
def RNewPost (w : World) (nodes : Int) (e : Ending) (w' : World) : Prop :=
 ∃ A g c M, e = .returned (.tuple #[.pointer (some ⟨A, 0, none⟩), .int .i64 0]) ∧ RA w' A g c M Noth nodes 1 [⟨0, Nd.zero⟩] ∧ (∀ k, M k → w.heap.size ≤ k) ∧ Below w.heap.size w w'
set_option maxHeartbeats 800000 in
theorem rnew_good (nodes : Int) (w : World) (h1 : 1 ≤ nodes) (h2 : nodes ≤ 65536) : Calls Tryz.prog 55 #[.int .i64 nodes] w (RNewPost w nodes) := by
 have j1 : ¬ nodes < 1 := by omega
 have j2 : ¬ 65536 < nodes := by omega
 obtain ⟨w1, hw1⟩ : ∃ w1, w1 = w.alloc (.cells #[.int .u64 0, .int .i64 0, .slice none 0 0, .int .i64 0, .slice none 0 0, .slice none 0 0, .slice none 0 0] 124) := ⟨_, rfl⟩
 obtain ⟨w3, hw3⟩ : ∃ w3, w3 = w1.alloc (.cells #[.int .i64 nodes, .slice (some ⟨w.heap.size, 0, none⟩) 1 1, .int .i64 1] 127) := ⟨_, rfl⟩
 have s1 : w1.heap.size = w.heap.size + 1 := by rw [hw1]; simp
 have s3 : w3.heap.size = w.heap.size + 2 := by rw [hw3]; simp [s1]
 have a1 : w3.heap[w.heap.size]? = some (.cells #[.int .u64 0, .int .i64 0, .slice none 0 0, .int .i64 0, .slice none 0 0, .slice none 0 0, .slice none 0 0] 124 (0, 0)) := by
  rw [hw3, Below.heap_alloc _ _ _ (by omega), hw1]; exact heap_alloc_new w _
 have a3 : w3.heap[w.heap.size + 1]? = some (.cells #[.int .i64 nodes, .slice (some ⟨w.heap.size, 0, none⟩) 1 1, .int .i64 1] 127 (0, 0)) := by
  rw [hw3, ← s1]; exact heap_alloc_new w1 _
 have B : Below w.heap.size w w3 := by
  rw [hw3, hw1]
  exact ((Below.refl _ _).alloc (Nat.le_refl _) _).alloc (by simp) _
 have HP : Hid (RNewPost w nodes (.returned (.tuple #[.pointer (some ⟨w.heap.size + 1, 0, none⟩), .int .i64 0])) w3) := by
  refine ⟨w.heap.size + 1, w.heap.size, 1, fun k => w.heap.size ≤ k ∧ k < w.heap.size + 2, rfl, ⟨a3, ⟨rfl, .inr ⟨w.heap.size, 1, _, rfl, Nat.zero_le _, a1, Nat.le_refl _, by unfold maxLen; omega, rfl, rfl⟩⟩, ⟨by omega, by omega⟩, ⟨by omega, by omega⟩, ?_, fun k _ e => e, ?_, Nat.le_refl _, h1, h2⟩, fun k hk => hk.1, B⟩
  ·intro k hk
   rcases hk with hk | hk
   ·omega
   ·exact hk.elim
  ·intro s hs
   obtain rfl := List.mem_singleton.1 hs
   exact ⟨Nd.zero_ok _, Nd.zero_in _, by simp only; decide⟩
 have HW : Hid (w3 = (w.alloc (.cells #[.int .u64 0, .int .i64 0, .slice none 0 0, .int .i64 0, .slice none 0 0, .slice none 0 0, .slice none 0 0] 124)).alloc (.cells #[.int .i64 nodes, .slice (some ⟨w.heap.size, 0, none⟩) 1 1, .int .i64 1] 127)) := by
  show _ = _
  rw [hw3, hw1]
 clear s1 s3 a1 a3 B hw1 hw3 h1 h2
 go_enter Tryz.func55, Tryz.ntmps55
 go_wp2_with fail
 go_ret2
 rw [← HW.out]
 exact HP.out
section
variable {W : World} {A g c : Nat} {M D : Nat → Prop} {nodes root : Int} {L : List RS}
def RAlPost (w : World) (A : Nat) (M D : Nat → Prop) (nodes root : Int) (L : List RS) (e : Ending) (w' : World) : Prop :=
 ∃ g' c' M', e = .returned (.tuple #[.int .i64 ((L.length : Int) + 1), .int .i64 0]) ∧ RA w' A g' c' M' D nodes root (L ++ [⟨1, Nd.zero⟩]) ∧ (∀ k, M' k → M k ∨ w.heap.size ≤ k) ∧ Upd M w w'
theorem infoR' : (Tryz.prog.info? 124).map (fun i => (i.zero, i.size, i.bytes)) = some (some (.agg #[.int .u64 0, .int .i64 0, .slice none 0 0, .int .i64 0, .slice none 0 0, .slice none 0 0, .slice none 0 0]), 7, 120) := by kernel_rfl
theorem seven_new (w : World) (a0 a1 a2 a3 a4 a5 a6 : Value) (T : TypeId) : ∀ j u, [a0, a1, a2, a3, a4, a5, a6][j]? = some u → (w.alloc (.cells #[a0, a1, a2, a3, a4, a5, a6] T)).cell? ((⟨w.heap.size, 0, none⟩ : Addr).add j) = some u := by
 intro j u hu
 rw [Addr.add_lit, Nat.zero_add, cell_of_row _ _ _ _ _ _ (heap_alloc_new w _), ← Array.getElem?_toList]
 exact hu
set_option maxHeartbeats 800000 in
theorem ralloc_full (h : RA W A g c M D nodes root L) (hn : (L.length : Int) = nodes) :
  Calls Tryz.prog 99 #[.pointer (some ⟨A, 0, none⟩)] W fun e w' => e = .returned (.tuple #[.int .i64 0, .int .i64 2]) ∧ ∃ k, w' = W.drewN k := by
 obtain ⟨c0, c1, c2⟩ := h.cells
 clear h
 generalize L.length = n at *
 subst hn
 go_enter Tryz.func99, Tryz.ntmps99
 go_wp2_with fail
 go_quiet (fail)
 go_wp2_with fail
 go_ret2
 exact ⟨rfl, _, rfl⟩
set_option maxRecDepth 100000 in
set_option maxHeartbeats 1600000 in
theorem ralloc_any (h : RA W A g c M D nodes root L) (hn : (L.length : Int) < nodes) :
  Calls Tryz.prog 99 #[.pointer (some ⟨A, 0, none⟩)] W (RAlPost W A M D nodes root L) := by
 obtain ⟨i0, hi, hz0, hz1, hz2⟩ := info_parts infoR'
 obtain ⟨c0, c1, c2⟩ := h.cells
 have hl6 := h.n_le
 have HP := hide h
 have HN := hide hn
 obtain ⟨n, hln⟩ : ∃ n, L.length = n := ⟨_, rfl⟩
 rw [hln] at hn c1 hl6
 have j1 : ¬ nodes ≤ (n : Int) := by omega
 have HLN := hide hln
 clear h hln hn
 go_enter Tryz.func99, Tryz.ntmps99
 go_wp2_with fail
 go_quiet (fail)
 obtain ⟨w1, hk⟩ : ∃ w1, w1 = W.drewN nq := ⟨_, rfl⟩
 have P1 : Hid (RA w1 A g c M D nodes root L) := by show RA _ _ _ _ _ _ _ _ _; rw [hk]; exact HP.out.drewN nq
 have U1 : Hid (Upd M W w1) := by show Upd _ _ _; rw [hk]; exact upd_drewN _ _ _
 have Z1 : Hid (w1.heap.size = W.heap.size) := by show _ = _; rw [hk]; rfl
 rw [← hk]
 clear hk c0 c1 c2 HP
 obtain ⟨c0, c1, c2⟩ := P1.out.cells
 rw [HLN.out] at c1
 have HO4 : Hid ((w1.alloc (.cells #[.int .u64 1, .int .i64 0, .slice none 0 0, .int .i64 0, .slice none 0 0, .slice none 0 0, .slice none 0 0] 124)).ownsRow 0 124 7 (.slice (some ⟨g, 0, none⟩) n c) n (L.flatMap RS.cells)) := by
  show World.ownsRow _ _ _ _ _ _ _
  rw [← HLN.out]
  exact owns_blkN P1.out.row (fun k hk => by cases hk; exact Below.heap_alloc _ _ _ (P1.out.lt g (.inl P1.out.mg)))
 have HA4 : Hid ((w1.alloc (.cells #[.int .u64 1, .int .i64 0, .slice none 0 0, .int .i64 0, .slice none 0 0, .slice none 0 0, .slice none 0 0] 124)).heap[A]? = _) := (Below.heap_alloc _ _ _ (lt_of_block P1.out.a)).trans P1.out.a
 have HPB := hide (seven_new w1 (.int .u64 1) (.int .i64 0) (.slice none 0 0) (.int .i64 0) (.slice none 0 0) (.slice none 0 0) (.slice none 0 0) 124)
 go_wp2_with (first
  | (at_builtin; refine append_mineN rfl (.tmp 18) (.tmp 20) 125 rfl 0 124 i0 (.agg #[.int .u64 0, .int .i64 0, .slice none 0 0, .int .i64 0, .slice none 0 0, .slice none 0 0, .slice none 0 0]) 7 120 Tryz.underlying125 hi hz0 hz1 hz2 rfl (by decide) (.slice (some ⟨g, 0, none⟩) n c) n (L.flatMap RS.cells) rfl HO4.out ⟨w1.heap.size, 0, none⟩ 1 1 [.int .u64 1, .int .i64 0, .slice none 0 0, .int .i64 0, .slice none 0 0, .slice none 0 0, .slice none 0 0] rfl rfl HPB.out (by intro u hu; simp at hu; rcases hu with rfl | rfl | rfl | rfl | rfl | rfl | rfl <;> rfl) (by omega) (by unfold maxLen; omega) (by omega) (Nat.zero_le _) ?_; intro g' c' w5 hown5 hg5 hor5; have HA5 := hide ((hg5.block A (lt_of_block HA4.out) (fun e => P1.out.ne (Option.some.inj e).symm)).trans HA4.out); have HOW5 := hide hown5; have HG5 := hide hg5; have HOR5 := hide hor5; clear hown5 hg5 hor5; have f5 := frozen_of HA5.out 1; have c5 : w5.cell? ⟨A, 1, none⟩ = some (.slice (some ⟨g, 0, none⟩) n c) := (by rw [cell_of_row _ _ _ _ _ _ HA5.out, ← HLN.out]; rfl))
  | fail)
 obtain ⟨w6, hw6⟩ : ∃ w6, w6 = w5.setCell ⟨A, 1, none⟩ (.slice (some ⟨g', 0, none⟩) (n + 1) c') := ⟨_, rfl⟩
 have hA6 : w6.heap[A]? = some (.cells #[.int .i64 nodes, .slice (some ⟨g', 0, none⟩) (n + 1) c', .int .i64 root] 127 (0, 0)) := by rw [hw6]; exact block_setCell HA5.out 1 _
 have U15 : Upd M w1 w5 := ((Upd.refl M w1).alloc _).trans (Upd.of_grown HG5.out (fun k hk _ => by cases hk; exact P1.out.mg))
 have U16 : Upd M w1 w6 := by rw [hw6]; exact U15.setCell _ _ (fun _ => P1.out.mA)
 have ho6 : w6.ownsRow 0 124 7 (.slice (some ⟨g', 0, none⟩) (n + 1) c') (n + 1) (L.flatMap RS.cells ++ RS.cells ⟨1, Nd.zero⟩) := by
  rw [hw6]
  refine owns_blkN HOW5.out (fun k hk => Below.heap_setCell _ _ _ _ (fun e => ?_))
  cases hk
  rcases HOW5.out.2 with ⟨hv, _⟩ | ⟨g2, c2, cur, hv, _, hh, _⟩
  ·cases hv
  ·cases hv
   have e' : g' = A := e
   rw [e', HA5.out] at hh
   simp at hh
 have hor : M g' ∨ w1.heap.size ≤ g' := by
  rcases HOR5.out with h | h
  ·cases h; exact .inl P1.out.mg
  ·right; simp at h; omega
 have HF : Hid (RAlPost W A M D nodes root L (.returned (.tuple #[.int .i64 ((n : Int) + 1), .int .i64 0])) w6) := by
  refine ⟨g', c', _, by rw [HLN.out], P1.out.push HN.out U16 (by rw [HLN.out]; exact hA6) (by rw [HLN.out]; exact ho6) hor ⟨Nd.zero_ok _, Nd.zero_in _, by simp only; decide⟩, ?_, U1.out.trans U16⟩
  intro k hk
  rcases hk with hk | hk
  ·exact .inl hk
  ·right; have := Z1.out; omega
 rw [← hw6]
 clear hw6 hA6 U15 U16 ho6 hor
 go_ret2
 exact HF.out
set_option maxRecDepth 100000 in
set_option maxHeartbeats 1600000 in
theorem rheldL_any (h : RA W A g c M D nodes root L) :
  Calls Tryz.prog 72 #[.pointer (some ⟨A, 0, none⟩)] W (HeldPost W (heldL (L.map (·.w)))) := by
 obtain ⟨i0, hi, hz0, hz1, hz2⟩ := info_parts infoI
 have hn := h.n_le
 have HP : Hid (∀ W', Below W.heap.size W W' → RA W' A g c M D nodes root L) := fun W' hb => h.below hb
 obtain ⟨ws, hws⟩ : ∃ ws, ws = L.map (·.w) := ⟨_, rfl⟩
 have HWS : Hid (∀ i (hi : i < L.length), ws.getD i 0 = L[i].w) := fun i hi => by rw [hws]; simp [hi]
 have HLW : Hid (ws.length = L.length) := by show _ = _; rw [hws]; simp
 rw [← hws]
 obtain ⟨n, hln⟩ : ∃ n, L.length = n := ⟨_, rfl⟩
 rw [hln] at hn
 have HLN := hide hln
 have HF : Hid (heldL ws = heldN ws n) := by show _ = _; unfold heldL; rw [HLW.out, hln]
 rw [HF.out]
 clear h hws hln
 go_enter Tryz.func72, Tryz.ntmps72
 go_wp2_with fail
 go_loopw [3, 4] (fun q3 q4 wr => ∃ i : Nat, i ≤ n ∧ q4 = .int .i64 (i : Int) ∧ ∃ k, Hid (wr.ownsRow W.heap.size 3 1 q3 k ((heldN ws i).map (Value.int .i64)) ∧ k = (heldN ws i).length ∧ Below W.heap.size W wr)) (fun _ q4 _ => n - (intOf q4).toNat)
 case atStart => exact ⟨0, Nat.zero_le _, rfl, 0, World.ownsRow_nil _ _ _ _, rfl, Below.refl _ _⟩
 case round =>
  obtain ⟨i, hin, rfl, k, HB⟩ := hrel
  rename World => wr
  have P := HP.out wr HB.out.2.2
  obtain ⟨c0, c1, c2⟩ := P.cells
  rw [HLN.out] at c1
  by_cases hlt : i < n
  ·have j1 : (i : Int) < (n : Int) := by omega
   have hiL : i < L.length := by rw [HLN.out]; exact hlt
   have cw := P.wat i hiL
   have hE := heldN_succ ws i
   rw [HWS.out i hiL] at hE
   generalize L[i].w = x at *
   have HE := hide hE
   have hkl := heldN_len ws i
   rw [← HB.out.2.1] at hkl
   have hk6 : k ≤ 65536 := by omega
   clear P hE hkl
   obtain ⟨hown, hkk, hB⟩ := HB.out
   have HOW := hide hown
   have HKK := hide hkk
   have HBB := hide hB
   clear HB hown hkk hB
   obtain ⟨y, hy⟩ : ∃ y : Int, y = (x : Int) := ⟨_, rfl⟩
   rw [← hy] at cw
   have y0 : 0 ≤ y := by omega
   rcases Nat.mod_two_eq_zero_or_one x with ex | ex
   ·have y1 : y % 2 = 0 := by omega
    rw [if_neg (by omega)] at HE
    clear ex hy
    go_wp2_with fail
    go_roundw
    case rel => exact ⟨i + 1, by omega, by go_num, k, by rw [HE.out]; simpa using HOW.out, by rw [HE.out]; simpa using HKK.out, HBB.out⟩
    case measure => simp [intOf]; omega
   ·have y1 : y % 2 = 1 := by omega
    rw [if_pos ex] at HE
    clear ex hy
    have j3 : (i : Int) + 1 ≤ 65536 := by omega
    go_wp2_with (first
     | (at_builtin; refine append_own_any rfl (.tmp 24) (.tmp 27) 31 rfl W.heap.size 3 i0 (.int .i64 0) 1 8 Tryz.underlying31 hi hz0 hz1 hz2 rfl (by decide) _ k ((heldN ws i).map (Value.int .i64)) rfl (HOW.out.alloc _) (some ⟨wr.heap.size, 0, none⟩) 1 1 [.int .i64 ((i : Int) + 1)] rfl rfl (by intro h; cases h) (fun ad had => by cases had; exact cell_one_new _ _ _) (by intro u hu; simp at hu; subst hu; rfl) (by unfold maxLen; omega) (by omega) (by have := HBB.out.size; simp; omega) ?_; intro v5 w5 hown5 hg5; have HO5 := hide hown5; have HG5 := hide hg5; clear hown5 hg5)
     | fail)
    go_roundw
    case rel =>
     refine ⟨i + 1, by omega, by go_num, k + 1, ?_, ?_, ?_⟩
     ·rw [HE.out, List.map_append]; exact HO5.out
     ·rw [HE.out, List.length_append, ← HKK.out]; rfl
     ·exact (HBB.out.alloc HBB.out.size _).grown HG5.out (by have := HBB.out.size; simp; omega) (fun b hb => (HOW.out.lt b hb).1)
    case measure => simp [intOf]; omega
  ·have j1 : ¬ (i : Int) < (n : Int) := by omega
   obtain rfl : i = n := by omega
   go_wp2_with fail
   go_ret
   exact ⟨_, rfl, by rw [← HB.out.2.1]; exact HB.out.1, HB.out.2.2⟩
end
end Go.Proofs.YtealejbfloacpaaGreat
namespace Go.Proofs.YtealejbfloacpaaGreat
open Go.RowKit
set_option maxRecDepth 100000
section
variable {W : World} {A g c : Nat} {M D : Nat → Prop} {nodes root : Int} {L : List RS}
theorem RA.ncells (h : RA W A g c M D nodes root L) (i : Nat) (hi : i < L.length) :
  W.cell? ⟨g, i * 7 + 1, none⟩ = some (.int .i64 L[i].n.lv) ∧ W.cell? ⟨g, i * 7 + 2, none⟩ = some L[i].n.hi.v ∧ W.cell? ⟨g, i * 7 + 3, none⟩ = some (.int .i64 L[i].n.ri) ∧ W.cell? ⟨g, i * 7 + 4, none⟩ = some L[i].n.ks.v ∧ W.cell? ⟨g, i * 7 + 5, none⟩ = some L[i].n.vs.v ∧ W.cell? ⟨g, i * 7 + 6, none⟩ = some L[i].n.cs.v :=
 ⟨h.at_ i hi 1 (by omega), h.at_ i hi 2 (by omega), h.at_ i hi 3 (by omega), h.at_ i hi 4 (by omega), h.at_ i hi 5 (by omega), h.at_ i hi 6 (by omega)⟩
set_option maxRecDepth 100000 in
set_option maxHeartbeats 1600000 in
theorem rhead_none (h : RA W A g c M D nodes root L) (id : Int) (hi : ¬ (1 ≤ id ∧ id ≤ (L.length : Nat))) :
  Calls Tryz.prog 123 #[.pointer (some ⟨A, 0, none⟩), .int .i64 id] W fun e w' => e = .returned (.tuple #[.agg #[.int .i64 0, .slice none 0 0, .int .i64 0], .int .i64 101]) ∧ Below W.heap.size W w' := by
 obtain ⟨w0, hw0⟩ : ∃ w0, w0 = W.alloc (.cells #[.int .i64 0, .slice none 0 0, .int .i64 0] 29) := ⟨_, rfl⟩
 have b0 : Below W.heap.size W w0 := by rw [hw0]; exact (Below.refl _ _).alloc (Nat.le_refl _) _
 have g0 : w0.heap[W.heap.size]? = some (.cells #[.int .i64 0, .slice none 0 0, .int .i64 0] 29 (0, 0)) := by rw [hw0]; exact heap_alloc_new W _
 have HS := hide (there_no (h.below b0) id hi)
 obtain ⟨c0, c1, c2⟩ := Tri.of g0
 have F0 := fun j => frozen_of g0 j
 have G0 := hide g0
 have B0 := hide b0
 have HW := hide hw0
 clear h hi g0 b0 hw0
 go_enter Tryz.func123, Tryz.ntmps123
 go_wp2_with fail
 rw [← HW.out]
 refine keep HS.out ?_
 go_wp2_with fail
 (try simp only [Exit.inBlock, Exit.then])
 have G6 := tri_block G0.out (.int .i64 0) (.slice none 0 0) (.int .i64 0)
 have U6 : Upd (fun b => b = W.heap.size) w0 (tri3 w0 W.heap.size (.int .i64 0) (.slice none 0 0) (.int .i64 0)) := tri_upd _ _ _ _ _ _ rfl
 obtain ⟨q0, q1, q2⟩ := Tri.of G6
 show bodyPost _ _ _ _ _ (tri3 w0 W.heap.size (.int .i64 0) (.slice none 0 0) (.int .i64 0))
 generalize tri3 w0 W.heap.size (.int .i64 0) (.slice none 0 0) (.int .i64 0) = w6 at *
 refine bodyPost_ret (v := .tuple #[.agg #[.int .i64 0, .slice none 0 0, .int .i64 0], .int .i64 101]) (by simp [results, Tryz.results123, go_sem, q0, q1, q2]) rfl ⟨rfl, ?_⟩
 exact B0.out.trans (U6.below (by have := B0.out.size; omega) (fun k hk e => by omega))
set_option maxRecDepth 100000 in
set_option maxHeartbeats 1600000 in
theorem rbody_none (h : RA W A g c M D nodes root L) (id : Int) (hi : ¬ (1 ≤ id ∧ id ≤ (L.length : Nat))) :
  Calls Tryz.prog 125 #[.pointer (some ⟨A, 0, none⟩), .int .i64 id] W fun e w' => e = .returned (.tuple #[.agg #[.slice none 0 0, .slice none 0 0, .slice none 0 0], .int .i64 101]) ∧ Below W.heap.size W w' := by
 obtain ⟨w0, hw0⟩ : ∃ w0, w0 = W.alloc (.cells #[.slice none 0 0, .slice none 0 0, .slice none 0 0] 33) := ⟨_, rfl⟩
 have b0 : Below W.heap.size W w0 := by rw [hw0]; exact (Below.refl _ _).alloc (Nat.le_refl _) _
 have g0 : w0.heap[W.heap.size]? = some (.cells #[.slice none 0 0, .slice none 0 0, .slice none 0 0] 33 (0, 0)) := by rw [hw0]; exact heap_alloc_new W _
 have HS := hide (there_no (h.below b0) id hi)
 obtain ⟨c0, c1, c2⟩ := Tri.of g0
 have F0 := fun j => frozen_of g0 j
 have G0 := hide g0
 have B0 := hide b0
 have HW := hide hw0
 clear h hi g0 b0 hw0
 go_enter Tryz.func125, Tryz.ntmps125
 go_wp2_with fail
 rw [← HW.out]
 refine keep HS.out ?_
 go_wp2_with fail
 (try simp only [Exit.inBlock, Exit.then])
 have G6 := tri_block G0.out (.slice none 0 0) (.slice none 0 0) (.slice none 0 0)
 have U6 : Upd (fun b => b = W.heap.size) w0 (tri3 w0 W.heap.size (.slice none 0 0) (.slice none 0 0) (.slice none 0 0)) := tri_upd _ _ _ _ _ _ rfl
 obtain ⟨q0, q1, q2⟩ := Tri.of G6
 show bodyPost _ _ _ _ _ (tri3 w0 W.heap.size (.slice none 0 0) (.slice none 0 0) (.slice none 0 0))
 generalize tri3 w0 W.heap.size (.slice none 0 0) (.slice none 0 0) (.slice none 0 0) = w6 at *
 refine bodyPost_ret (v := .tuple #[.agg #[.slice none 0 0, .slice none 0 0, .slice none 0 0], .int .i64 101]) (by simp [results, Tryz.results125, go_sem, q0, q1, q2]) rfl ⟨rfl, ?_⟩
 exact B0.out.trans (U6.below (by have := B0.out.size; omega) (fun k hk e => by omega))
set_option maxRecDepth 100000 in
set_option maxHeartbeats 1600000 in
theorem rhead_any (h : RA W A g c M D nodes root L) (i : Nat) (hi : i < L.length) :
  Calls Tryz.prog 123 #[.pointer (some ⟨A, 0, none⟩), .int .i64 ((i : Int) + 1)] W (HePost W L[i].n.lv L[i].n.ri L[i].n.hi.s.length L[i].n.hi.s) := by
 obtain ⟨w0, hw0⟩ : ∃ w0, w0 = W.alloc (.cells #[.int .i64 0, .slice none 0 0, .int .i64 0] 29) := ⟨_, rfl⟩
 have b0 : Below W.heap.size W w0 := by rw [hw0]; exact (Below.refl _ _).alloc (Nat.le_refl _) _
 have z0 : w0.heap.size = W.heap.size + 1 := by rw [hw0]; simp
 have g0 : w0.heap[W.heap.size]? = some (.cells #[.int .i64 0, .slice none 0 0, .int .i64 0] 29 (0, 0)) := by rw [hw0]; exact heap_alloc_new W _
 have h0 := h.below b0
 have HS := hide (there_yes h0 i hi)
 have ho := h0.sl L[i] (List.getElem_mem hi)
 obtain ⟨k1, k2, k3, k4, k5, k6⟩ := h0.ncells i hi
 obtain ⟨_, c1, _⟩ := h0.cells
 have HCL := hide (rclone_any L[i].n w0 ho.n)
 have hn := h0.n_le
 generalize L[i].n = nd at *
 obtain ⟨lv, ⟨ha, hc, hs⟩, ri, ⟨ka, kc, K⟩, ⟨va, vc, V⟩, ⟨ca, cc, C⟩⟩ := nd
 clear ho h0 h
 simp only [Nd.v, Tx.v, TL.v, IL.v] at k1 k2 k3 k4 k5 k6 HCL ⊢
 generalize L.length = n at *
 have j4 : (i : Int) < (n : Int) := by omega
 obtain ⟨id, hid⟩ : ∃ id, id = (i : Int) + 1 := ⟨_, rfl⟩
 rw [← hid] at HS ⊢
 have j3 : id - 1 = (i : Int) := by omega
 have j5 : id ≤ 65536 := by omega
 have j6 : 1 ≤ id := by omega
 obtain ⟨lh, hlh⟩ : ∃ lh, hs.length = lh := ⟨_, rfl⟩
 rw [hlh] at k2 HCL ⊢
 have HLH := hide hlh
 generalize K.length = lk at *
 generalize V.length = lw at *
 generalize C.length = lc at *
 have G0 := hide g0
 have B0 := hide b0
 have HW := hide hw0
 have Z0 := hide z0
 clear g0 b0 hw0 hid hlh z0
 go_enter Tryz.func123, Tryz.ntmps123
 go_wp2_with fail
 rw [← HW.out]
 refine keep HS.out ?_
 go_wp2_with fail
 refine HCL.out.mono ?_
 rintro e w2 ⟨⟨lv', ⟨na, nc, ns⟩, ri', ⟨kn, kd, K'⟩, ⟨vn, vd, V'⟩, ⟨cn, cd, C'⟩⟩, N1, N2, rfl, hp, hown, hb2, _, _, _, _, _⟩
 simp only [Nd.p, NP.mk.injEq] at hp
 obtain ⟨rfl, rfl, rfl, _, _, _⟩ := hp
 have hv2 : OwnB w2 w0.heap.size 5 (.slice na lh nc) ns := by have := hown.h; simp only [Tx.v, HLH.out] at this; exact this
 have G2 : Hid (w2.heap[W.heap.size]? = some (.cells #[.int .i64 0, .slice none 0 0, .int .i64 0] 29 (0, 0))) := (hb2.block _ (lt_of_block G0.out)).trans G0.out
 have V2 := hide hv2
 have B2 := hide hb2
 simp only [Nd.v, Tx.v, TL.v, IL.v, HLH.out]
 clear hv2 hown hb2 HCL
 generalize K'.length = lk' at *
 generalize V'.length = lw' at *
 generalize C'.length = lc' at *
 obtain ⟨w3, hw3⟩ : ∃ w3, w3 = w2.alloc (.cells #[.int .i64 lv', .slice na lh nc, .int .i64 ri', .slice kn lk' kd, .slice vn lw' vd, .slice cn lc' cd] 35) := ⟨_, rfl⟩
 have b3 : Below w2.heap.size w2 w3 := by rw [hw3]; exact (Below.refl _ _).alloc (Nat.le_refl _) _
 have G3 : Hid (w3.heap[W.heap.size]? = some (.cells #[.int .i64 0, .slice none 0 0, .int .i64 0] 29 (0, 0))) := (b3.block _ (lt_of_block G2.out)).trans G2.out
 have g3 := G3.out
 rw [hw3] at g3
 obtain ⟨y0, y1, y2⟩ := Tri.of g3
 have F3 := fun j => frozen_of g3 j
 have HW3 := hide hw3
 have B3 := hide b3
 clear hw3 b3 g3
 go_wp2_with fail
 (try simp only [Exit.inBlock, Exit.then])
 rw [← HW3.out]
 have G6 := tri_block G3.out (.int .i64 lv') (.slice na lh nc) (.int .i64 ri')
 have U6 : Upd (fun b => b = W.heap.size) w3 (tri3 w3 W.heap.size (.int .i64 lv') (.slice na lh nc) (.int .i64 ri')) := tri_upd _ _ _ _ _ _ rfl
 obtain ⟨q0, q1, q2⟩ := Tri.of G6
 show bodyPost _ _ _ _ _ (tri3 w3 W.heap.size (.int .i64 lv') (.slice na lh nc) (.int .i64 ri'))
 generalize tri3 w3 W.heap.size (.int .i64 lv') (.slice na lh nc) (.int .i64 ri') = w6 at *
 have zz := Z0.out
 have b02 := B0.out.trans (B2.out.mono B0.out.size)
 have b03 := b02.trans (B3.out.mono b02.size)
 refine bodyPost_ret (v := .tuple #[.agg #[.int .i64 lv', .slice na lh nc, .int .i64 ri'], .int .i64 0]) (by simp [results, Tryz.results123, go_sem, q0, q1, q2]) rfl ⟨na, nc, rfl, ?_, ?_⟩
 ·exact (ownB_upd' (V2.out.below B3.out) U6 (fun b h1 h2 h3 => by omega)).mono (by omega)
 ·exact b03.trans (U6.below (by have := b03.size; omega) (fun k hk e => by omega))
set_option maxRecDepth 100000 in
set_option maxHeartbeats 1600000 in
theorem rbody_any (h : RA W A g c M D nodes root L) (i : Nat) (hi : i < L.length) :
  Calls Tryz.prog 125 #[.pointer (some ⟨A, 0, none⟩), .int .i64 ((i : Int) + 1)] W (BoPost W L[i].n.ks.L.length L[i].n.vs.L.length L[i].n.cs.s.length L[i].n.ks.L L[i].n.vs.L L[i].n.cs.s) := by
 obtain ⟨w0, hw0⟩ : ∃ w0, w0 = W.alloc (.cells #[.slice none 0 0, .slice none 0 0, .slice none 0 0] 33) := ⟨_, rfl⟩
 have b0 : Below W.heap.size W w0 := by rw [hw0]; exact (Below.refl _ _).alloc (Nat.le_refl _) _
 have z0 : w0.heap.size = W.heap.size + 1 := by rw [hw0]; simp
 have g0 : w0.heap[W.heap.size]? = some (.cells #[.slice none 0 0, .slice none 0 0, .slice none 0 0] 33 (0, 0)) := by rw [hw0]; exact heap_alloc_new W _
 have h0 := h.below b0
 have HS := hide (there_yes h0 i hi)
 have ho := h0.sl L[i] (List.getElem_mem hi)
 obtain ⟨k1, k2, k3, k4, k5, k6⟩ := h0.ncells i hi
 obtain ⟨_, c1, _⟩ := h0.cells
 have HCL := hide (rclone_any L[i].n w0 ho.n)
 have hn := h0.n_le
 generalize L[i].n = nd at *
 obtain ⟨lv, ⟨ha, hc, hs⟩, ri, ⟨ka, kc, K⟩, ⟨va, vc, V⟩, ⟨ca, cc, C⟩⟩ := nd
 clear ho h0 h
 simp only [Nd.v, Tx.v, TL.v, IL.v] at k1 k2 k3 k4 k5 k6 HCL ⊢
 generalize L.length = n at *
 have j4 : (i : Int) < (n : Int) := by omega
 obtain ⟨id, hid⟩ : ∃ id, id = (i : Int) + 1 := ⟨_, rfl⟩
 rw [← hid] at HS ⊢
 have j3 : id - 1 = (i : Int) := by omega
 have j5 : id ≤ 65536 := by omega
 have j6 : 1 ≤ id := by omega
 obtain ⟨lk, hlk⟩ : ∃ lk, K.length = lk := ⟨_, rfl⟩
 obtain ⟨lw, hlw⟩ : ∃ lw, V.length = lw := ⟨_, rfl⟩
 obtain ⟨lc, hlc⟩ : ∃ lc, C.length = lc := ⟨_, rfl⟩
 rw [hlk] at k4
 rw [hlw] at k5
 rw [hlc] at k6
 rw [hlk, hlw, hlc] at HCL ⊢
 have HLK := hide hlk
 have HLW := hide hlw
 have HLC := hide hlc
 clear hlk hlw hlc
 generalize hs.length = lh at *
 have G0 := hide g0
 have B0 := hide b0
 have HW := hide hw0
 have Z0 := hide z0
 clear g0 b0 hw0 hid z0
 go_enter Tryz.func125, Tryz.ntmps125
 go_wp2_with fail
 rw [← HW.out]
 refine keep HS.out ?_
 go_wp2_with fail
 refine HCL.out.mono ?_
 rintro e w2 ⟨⟨lv', ⟨na, nc, ns⟩, ri', ⟨kn, kd, K'⟩, ⟨vn, vd, V'⟩, ⟨cn, cd, C'⟩⟩, N1, N2, rfl, hp, hown, hb2, _, _, _, _, _⟩
 simp only [Nd.p, NP.mk.injEq] at hp
 obtain ⟨rfl, rfl, rfl, hp1, hp2, rfl⟩ := hp
 have l1 : K'.length = lk := by have := congrArg List.length hp1; simp only [TL.p, List.length_map] at this; rw [this]; exact HLK.out
 have l2 : V'.length = lw := by have := congrArg List.length hp2; simp only [TL.p, List.length_map] at this; rw [this]; exact HLW.out
 have P1 : Hid (K'.map (·.s) = K.map (·.s) ∧ V'.map (·.s) = V.map (·.s) ∧ K'.length = lk ∧ V'.length = lw) := ⟨hp1, hp2, l1, l2⟩
 have hv2 := And.intro hown.k (And.intro hown.v hown.c)
 simp only [IL.v, HLC.out] at hv2
 have G2 : Hid (w2.heap[W.heap.size]? = some (.cells #[.slice none 0 0, .slice none 0 0, .slice none 0 0] 33 (0, 0))) := (hb2.block _ (lt_of_block G0.out)).trans G0.out
 have V2 := hide hv2
 have B2 := hide hb2
 simp only [Nd.v, Tx.v, TL.v, IL.v, l1, l2, HLC.out]
 clear hv2 hown hb2 HCL hp1 hp2 l1 l2
 generalize ns.length = lh' at *
 obtain ⟨w3, hw3⟩ : ∃ w3, w3 = w2.alloc (.cells #[.int .i64 lv', .slice na lh' nc, .int .i64 ri', .slice kn lk kd, .slice vn lw vd, .slice cn lc cd] 35) := ⟨_, rfl⟩
 have b3 : Below w2.heap.size w2 w3 := by rw [hw3]; exact (Below.refl _ _).alloc (Nat.le_refl _) _
 have G3 : Hid (w3.heap[W.heap.size]? = some (.cells #[.slice none 0 0, .slice none 0 0, .slice none 0 0] 33 (0, 0))) := (b3.block _ (lt_of_block G2.out)).trans G2.out
 have g3 := G3.out
 rw [hw3] at g3
 obtain ⟨y0, y1, y2⟩ := Tri.of g3
 have F3 := fun j => frozen_of g3 j
 have HW3 := hide hw3
 have B3 := hide b3
 clear hw3 b3 g3
 go_wp2_with fail
 (try simp only [Exit.inBlock, Exit.then])
 rw [← HW3.out]
 have G6 := tri_block G3.out (.slice kn lk kd) (.slice vn lw vd) (.slice cn lc cd)
 have U6 : Upd (fun b => b = W.heap.size) w3 (tri3 w3 W.heap.size (.slice kn lk kd) (.slice vn lw vd) (.slice cn lc cd)) := tri_upd _ _ _ _ _ _ rfl
 obtain ⟨q0, q1, q2⟩ := Tri.of G6
 show bodyPost _ _ _ _ _ (tri3 w3 W.heap.size (.slice kn lk kd) (.slice vn lw vd) (.slice cn lc cd))
 generalize tri3 w3 W.heap.size (.slice kn lk kd) (.slice vn lw vd) (.slice cn lc cd) = w6 at *
 have zz := Z0.out
 have b02 := B0.out.trans (B2.out.mono B0.out.size)
 have b03 := b02.trans (B3.out.mono b02.size)
 obtain ⟨p1, p2, p3, p4⟩ := P1.out
 refine bodyPost_ret (v := .tuple #[.agg #[.slice kn lk kd, .slice vn lw vd, .slice cn lc cd], .int .i64 0]) (by simp [results, Tryz.results125, go_sem, q0, q1, q2]) rfl ⟨kn, kd, K', vn, vd, V', cn, cd, rfl, p1, p2, p3, p4, ?_, ?_, ?_, ?_⟩
 ·exact ((V2.out.1.below B3.out).upd U6 (fun b h1 h2 h3 => by omega)).mono (by omega)
 ·exact ((V2.out.2.1.below B3.out).upd U6 (fun b h1 h2 h3 => by omega)).mono (by omega)
 ·exact owns_mono (ownsI_upd (owns_below V2.out.2.2 B3.out) U6 (fun b h1 h2 h3 => by omega)) (by omega)
 ·exact b03.trans (U6.below (by have := b03.size; omega) (fun k hk e => by omega))
end
end Go.Proofs.YtealejbfloacpaaGreat
namespace Go.Proofs.YtealejbfloacpaaGreat
open Go.RowKit
set_option maxRecDepth 100000
section
variable {W : World} {A g c : Nat} {M D : Nat → Prop} {nodes root : Int} {L : List RS}
def RSetPost (w : World) (A g c : Nat) (M D : Nat → Prop) (nodes root : Int) (L : List RS) (i x : Nat) (p : NP) (e : Ending) (w' : World) : Prop :=
 ∃ D' n, e = .returned (.int .i64 0) ∧ RA w' A g c M D' nodes root (L.set i ⟨x, n⟩) ∧ n.p = p ∧ (∀ k, D' k → D k ∨ w.heap.size ≤ k) ∧ Upd M w w'
def set3 (W : World) (b o : Nat) (x0 x1 x2 : Value) : World := ((W.setCell ⟨b, o, none⟩ x0).setCell ⟨b, o + 1, none⟩ x1).setCell ⟨b, o + 2, none⟩ x2
theorem set3_upd (S : Nat → Prop) (W : World) (b o : Nat) (x0 x1 x2 : Value) (h : S b) : Upd S W (set3 W b o x0 x1 x2) :=
 (((Upd.refl S W).setCell _ _ (fun _ => h)).setCell _ _ (fun _ => h)).setCell _ _ (fun _ => h)
set_option maxHeartbeats 800000 in
theorem rsetHead_not (h : RA W A g c M D nodes root L) (id lv ri : Int) (t : Tx) (hne : heE L id ≠ 0) :
  Calls Tryz.prog 104 #[.pointer (some ⟨A, 0, none⟩), .int .i64 id, .agg #[.int .i64 lv, t.v, .int .i64 ri]] W fun e w' => e = .returned (.int .i64 (heE L id)) ∧ Below W.heap.size W w' := by
 obtain ⟨ha, hc, hs⟩ := t
 simp only [Tx.v]
 obtain ⟨w0, hw0⟩ : ∃ w0, w0 = W.alloc (.cells #[.int .i64 lv, .slice ha hs.length hc, .int .i64 ri] 29) := ⟨_, rfl⟩
 have b0 : Below W.heap.size W w0 := by rw [hw0]; exact (Below.refl _ _).alloc (Nat.le_refl _) _
 have HO := hide (rheld_any (h.below b0) id)
 have B0 := hide b0
 have HW := hide hw0
 clear h b0 hw0
 generalize heE L id = er at *
 generalize hs.length = lh at *
 go_enter Tryz.func104, Tryz.ntmps104
 go_wp2_with fail
 rw [← HW.out]
 refine keep HO.out ?_
 go_wp2_with fail
 go_ret
 exact ⟨rfl, B0.out⟩
set_option maxHeartbeats 800000 in
theorem rsetBody_not (h : RA W A g c M D nodes root L) (id : Int) (k v : TL) (ci : IL) (hne : heE L id ≠ 0) :
  Calls Tryz.prog 105 #[.pointer (some ⟨A, 0, none⟩), .int .i64 id, .agg #[k.v, v.v, ci.v]] W fun e w' => e = .returned (.int .i64 (heE L id)) ∧ Below W.heap.size W w' := by
 obtain ⟨ka, kc, K⟩ := k
 obtain ⟨va, vc, V⟩ := v
 obtain ⟨ca, cc, C⟩ := ci
 simp only [TL.v, IL.v]
 obtain ⟨w0, hw0⟩ : ∃ w0, w0 = W.alloc (.cells #[.slice ka K.length kc, .slice va V.length vc, .slice ca C.length cc] 33) := ⟨_, rfl⟩
 have b0 : Below W.heap.size W w0 := by rw [hw0]; exact (Below.refl _ _).alloc (Nat.le_refl _) _
 have HO := hide (rheld_any (h.below b0) id)
 have B0 := hide b0
 have HW := hide hw0
 clear h b0 hw0
 generalize heE L id = er at *
 generalize K.length = lk at *
 generalize V.length = lw at *
 generalize C.length = lc at *
 go_enter Tryz.func105, Tryz.ntmps105
 go_wp2_with fail
 rw [← HW.out]
 refine keep HO.out ?_
 go_wp2_with fail
 go_ret
 exact ⟨rfl, B0.out⟩
theorem RA.drew_ (h : RA W A g c M D nodes root L) : RA W.drew A g c M D nodes root L :=
 h.upd (S := Noth) ⟨rfl, rfl, rfl, Nat.le_refl _, fun _ _ _ => rfl⟩ (fun _ _ e => e)
theorem RA.set3r {w3 : World} {D' : Nat → Prop} (h : RA w3 A g c M D nodes root L) (i : Nat) (hi : i < L.length) (o : Nat) (ho : o + 3 ≤ 7) (x0 x1 x2 : Value) (s1 s2 s : RS) (e1 : s1.cells = (L[i].cells).set o x0) (e2 : s2.cells = s1.cells.set (o + 1) x1) (e3 : s.cells = s2.cells.set (o + 2) x2)
  (hD : ∀ k, D k → D' k) (hlt : ∀ k, D' k → k < w3.heap.size) (hdj : ∀ k, M k → ¬ D' k) (hok : s.Ok w3 D') : RA (set3 w3 g (i * 7 + o) x0 x1 x2) A g c M D' nodes root (L.set i s) := by
 have hU : Upd (fun k => k = g) w3 (set3 w3 g (i * 7 + o) x0 x1 x2) := set3_upd _ _ _ _ _ _ _ rfl
 refine h.put s hU ?_ hD (fun k hk => Nat.lt_of_lt_of_le (hlt k hk) hU.size) hdj ⟨hok.n.upd hok.d hU (fun k hk e => hdj g h.mg (by rw [← e]; exact hk)), hok.d, hok.w⟩
 have r1 := row7_set h.row i hi o (by omega) x0 s1 e1
 have r2 := row7_set (L := L.set i s1) r1 i (by rw [List.length_set]; exact hi) (o + 1) (by omega) x1 s2 (by rw [List.getElem_set_self]; exact e2)
 rw [List.set_set] at r2
 have r3 := row7_set (L := L.set i s2) r2 i (by rw [List.length_set]; exact hi) (o + 2) (by omega) x2 s (by rw [List.getElem_set_self]; exact e3)
 rw [List.set_set] at r3
 exact r3
set_option maxRecDepth 100000 in
set_option maxHeartbeats 3200000 in
theorem rsetHead_any (h : RA W A g c M D nodes root L) (i : Nat) (hi : i < L.length) (he : L[i].w % 2 = 1) (lv ri : Int) (t : Tx) (ht : t.Ok W) :
  Calls Tryz.prog 104 #[.pointer (some ⟨A, 0, none⟩), .int .i64 ((i : Int) + 1), .agg #[.int .i64 lv, t.v, .int .i64 ri]] W (RSetPost W A g c M D nodes root L i L[i].w (L[i].n.p.setH lv t.s ri)) := by
 obtain ⟨w0, hw0⟩ : ∃ w0, w0 = W.alloc (.cells #[.int .i64 lv, t.v, .int .i64 ri] 29) := ⟨_, rfl⟩
 have b0 : Below W.heap.size W w0 := by rw [hw0]; exact (Below.refl _ _).alloc (Nat.le_refl _) _
 have g0 : w0.heap[W.heap.size]? = some (.cells #[.int .i64 lv, t.v, .int .i64 ri] 29 (0, 0)) := by rw [hw0]; exact heap_alloc_new W _
 have z0 : w0.heap.size = W.heap.size + 1 := by rw [hw0]; simp
 have HO := hide (rheld_any (h.below b0) ((i : Int) + 1))
 rw [heE_at L i hi, if_neg (by omega)] at HO
 have HCL := hide (rclone_any ⟨lv, t, ri, ⟨none, 0, []⟩, ⟨none, 0, []⟩, ⟨none, 0, []⟩⟩ w0 ⟨ht.below b0, TL.nil_ok _, TL.nil_ok _, IL.nil_ok _, Nat.zero_le _, Nat.zero_le _, Nat.zero_le _⟩)
 have HP := hide h
 have HI := hide hi
 have hn := h.n_le
 -- the end
 have HFIN : Hid (∀ w3 na nc, Below w0.heap.size w0 w3 → OwnB w3 w0.heap.size 5 (.slice na t.s.length nc) t.s → B8 t.s ∧ t.s.length ≤ 140737488351232 → RSetPost W A g c M D nodes root L i L[i].w (L[i].n.p.setH lv t.s ri) (.returned (.int .i64 0)) (set3 w3 g (i * 7 + 1) (.int .i64 lv) (.slice na t.s.length nc) (.int .i64 ri)).drew) := by
  intro w3 na nc hb hv h8
  have bel := b0.trans (hb.mono b0.size)
  have P3 := h.below bel
  have ho := P3.sl L[i] (List.getElem_mem hi)
  have hv' : OwnB w3 w0.heap.size 5 (⟨na, nc, t.s⟩ : Tx).v t.s := hv
  have hin := ownB_in (x := ⟨na, nc, t.s⟩) hv'
  refine ⟨fun k => D k ∨ (w0.heap.size ≤ k ∧ k < w3.heap.size), ⟨lv, ⟨na, nc, t.s⟩, ri, L[i].n.ks, L[i].n.vs, L[i].n.cs⟩, rfl, ?_, rfl, ?_, ?_⟩
  ·refine RA.drew_ (P3.set3r i hi 1 (by omega) _ _ _ ⟨L[i].w, ⟨lv, L[i].n.hi, L[i].n.ri, L[i].n.ks, L[i].n.vs, L[i].n.cs⟩⟩ ⟨L[i].w, ⟨lv, ⟨na, nc, t.s⟩, L[i].n.ri, L[i].n.ks, L[i].n.vs, L[i].n.cs⟩⟩ ⟨L[i].w, ⟨lv, ⟨na, nc, t.s⟩, ri, L[i].n.ks, L[i].n.vs, L[i].n.cs⟩⟩ rfl rfl rfl (fun k hk => .inl hk) ?_ ?_ ⟨⟨ownB_ok (x := ⟨na, nc, t.s⟩) hv' h8.1 h8.2, ho.n.k, ho.n.v, ho.n.c, ho.n.kz, ho.n.vz, ho.n.cz⟩, ?_, ho.w⟩)
   ·intro k hk
    rcases hk with hk | hk
    ·exact P3.lt k (.inr hk)
    ·exact hk.2
   ·intro k hk hd
    rcases hd with hd | hd
    ·exact P3.dj k hk hd
    ·have := h.lt k (.inl hk); omega
   ·exact ⟨fun x e _ => .inr (hin x e), fun x e l => .inl (ho.d.k x e l), fun y hy x e l => .inl (ho.d.ke y hy x e l), fun x e l => .inl (ho.d.v x e l), fun y hy x e l => .inl (ho.d.ve y hy x e l), fun x e l => .inl (ho.d.c x e l)⟩
  ·intro k hk
   rcases hk with hk | hk
   ·exact .inl hk
   ·right; omega
  ·exact ((Upd.of_below bel M).trans (set3_upd _ _ _ _ _ _ _ h.mg)).drew
 have HB8 : Hid (B8 t.s ∧ t.s.length ≤ 140737488351232) := ⟨ht.b8, ht.z⟩
 have HR : Hid (∀ W', Below w0.heap.size w0 W' → RA W' A g c M D nodes root L) := fun W' hb => (h.below b0).below hb
 generalize RSetPost W A g c M D nodes root L i L[i].w (L[i].n.p.setH lv t.s ri) = PO at *
 obtain ⟨ha, hc, hs⟩ := t
 simp only [Nd.v, Tx.v, TL.v, IL.v, List.length_nil] at HCL HFIN g0 hw0 HB8 ⊢
 obtain ⟨lh, hlh⟩ : ∃ lh, hs.length = lh := ⟨_, rfl⟩
 rw [hlh] at HCL g0 hw0 ⊢
 have HLH := hide hlh
 clear h he ht hlh
 have G0 := hide g0
 obtain ⟨id, hid⟩ : ∃ id, id = (i : Int) + 1 := ⟨_, rfl⟩
 rw [← hid] at HO ⊢
 obtain ⟨n, hln⟩ : ∃ n, L.length = n := ⟨_, rfl⟩
 rw [hln] at hn hi
 have HLN := hide hln
 have j4 : (i : Int) < (n : Int) := by omega
 have j3 : id - 1 = (i : Int) := by omega
 have j5 : id ≤ 65536 := by omega
 have j6 : 1 ≤ id := by omega
 obtain ⟨t0, t1, t2⟩ := Tri.of g0
 have B0 := hide b0
 have HW := hide hw0
 have Z0 := hide z0
 clear g0 b0 hw0 z0 hid hln
 go_enter Tryz.func104, Tryz.ntmps104
 go_wp2_with fail
 rw [← HW.out]
 refine keep HO.out ?_
 go_wp2_with fail
 refine HCL.out.mono ?_
 rintro e w2 ⟨⟨lv', ⟨na, nc, ns⟩, ri', ⟨kn, kd, K'⟩, ⟨vn, vd, V'⟩, ⟨cn, cd, C'⟩⟩, N1, N2, rfl, hp, hown, hb2, _, _, _, _, _⟩
 simp only [Nd.p, NP.mk.injEq] at hp
 obtain ⟨rfl, rfl, rfl, _, _, _⟩ := hp
 have hv2 : OwnB w2 w0.heap.size 5 (.slice na lh nc) ns := by have := hown.h; simp only [Tx.v, HLH.out] at this; exact this
 have V2 := hide hv2
 have B2 := hide hb2
 simp only [Nd.v, Tx.v, TL.v, IL.v, HLH.out]
 clear hv2 hown hb2 HCL t0 t1 t2
 generalize K'.length = lk' at *
 generalize V'.length = lw' at *
 generalize C'.length = lc' at *
 obtain ⟨w3, hw3⟩ : ∃ w3, w3 = w2.alloc (.cells #[.int .i64 lv', .slice na lh nc, .int .i64 ri', .slice kn lk' kd, .slice vn lw' vd, .slice cn lc' cd] 35) := ⟨_, rfl⟩
 have b3 : Below w2.heap.size w2 w3 := by rw [hw3]; exact (Below.refl _ _).alloc (Nat.le_refl _) _
 have b03 := B2.out.trans (b3.mono B2.out.size)
 have g3 : w3.heap[w2.heap.size]? = some (.cells #[.int .i64 lv', .slice na lh nc, .int .i64 ri', .slice kn lk' kd, .slice vn lw' vd, .slice cn lc' cd] 35 (0, 0)) := by rw [hw3]; exact heap_alloc_new w2 _
 obtain ⟨y0, y1, y2, _, _, _⟩ := Six.of g3
 have P3 := HR.out w3 b03
 obtain ⟨_, c1, _⟩ := P3.cells
 rw [HLN.out] at c1
 have F3 := fun j => P3.frozen j
 obtain ⟨k1, k2, k3, _, _, _⟩ := P3.ncells i HI.out
 have HF := hide (HFIN.out w3 na nc b03 (by rw [HLH.out]; exact V2.out.below b3) HB8.out)
 rw [HLH.out] at HF
 generalize L[i].n = nd at *
 have HW3 := hide hw3
 clear hw3 b3 b03 P3 g3 HFIN HR
 go_wp2_with fail
 rw [← HW3.out]
 have j7 : IntKind.i64.wrap (id - 1) = (i : Int) := by rw [IntKind.wrap_i64]; omega
 have j8 : (0 : Int) ≤ (i : Int) := by omega
 have j9 : (i : Int) ≤ (n : Int) := by omega
 go_region
 go_wp2_with fail
 exact HF.out
set_option maxRecDepth 100000 in
set_option maxHeartbeats 3200000 in
theorem rsetBody_any (h : RA W A g c M D nodes root L) (i : Nat) (hi : i < L.length) (he : L[i].w % 2 = 1) (k v : TL) (ci : IL) (hk : k.Ok W) (hv : v.Ok W) (hc : ci.Ok W) (kz : k.L.length * 24 ≤ 140737488352000) (vz : v.L.length * 24 ≤ 140737488352000) (cz : ci.s.length * 8 ≤ 140737488352000) :
  Calls Tryz.prog 105 #[.pointer (some ⟨A, 0, none⟩), .int .i64 ((i : Int) + 1), .agg #[k.v, v.v, ci.v]] W (RSetPost W A g c M D nodes root L i L[i].w (L[i].n.p.setB k.p v.p ci.s)) := by
 obtain ⟨w0, hw0⟩ : ∃ w0, w0 = W.alloc (.cells #[k.v, v.v, ci.v] 33) := ⟨_, rfl⟩
 have b0 : Below W.heap.size W w0 := by rw [hw0]; exact (Below.refl _ _).alloc (Nat.le_refl _) _
 have g0 : w0.heap[W.heap.size]? = some (.cells #[k.v, v.v, ci.v] 33 (0, 0)) := by rw [hw0]; exact heap_alloc_new W _
 have z0 : w0.heap.size = W.heap.size + 1 := by rw [hw0]; simp
 have HO := hide (rheld_any (h.below b0) ((i : Int) + 1))
 rw [heE_at L i hi, if_neg (by omega)] at HO
 have HCL := hide (rclone_any ⟨0, ⟨none, 0, []⟩, 0, k, v, ci⟩ w0 ⟨Tx.nil_ok _, hk.below b0, hv.below b0, hc.below b0, kz, vz, cz⟩)
 have HP := hide h
 have HI := hide hi
 have hn := h.n_le
 -- the end
 have HFIN : Hid (∀ w3 kn kd K' vn vd V' cn cd, Below w0.heap.size w0 w3 → K'.map (·.s) = k.L.map (·.s) → V'.map (·.s) = v.L.map (·.s) → K'.length = k.L.length → V'.length = v.L.length → (⟨kn, kd, K'⟩ : TL).Own w3 w0.heap.size → (⟨vn, vd, V'⟩ : TL).Own w3 w0.heap.size → w3.ownsRow w0.heap.size 3 1 (.slice cn ci.s.length cd) ci.s.length (ci.s.map (Value.int .i64)) →
   RSetPost W A g c M D nodes root L i L[i].w (L[i].n.p.setB k.p v.p ci.s) (.returned (.int .i64 0)) (set3 w3 g (i * 7 + 4) (.slice kn k.L.length kd) (.slice vn v.L.length vd) (.slice cn ci.s.length cd)).drew) := by
  intro w3 kn kd K' vn vd V' cn cd hb p1 p2 l1 l2 q1 q2 q3
  have bel := b0.trans (hb.mono b0.size)
  have P3 := h.below bel
  have ho := P3.sl L[i] (List.getElem_mem hi)
  have e1 : (⟨kn, kd, K'⟩ : TL).v = .slice kn k.L.length kd := by simp only [TL.v, l1]
  have e2 : (⟨vn, vd, V'⟩ : TL).v = .slice vn v.L.length vd := by simp only [TL.v, l2]
  obtain ⟨m, hm⟩ : ∃ m : Nd, m = ⟨L[i].n.lv, L[i].n.hi, L[i].n.ri, ⟨kn, kd, K'⟩, ⟨vn, vd, V'⟩, ⟨cn, cd, ci.s⟩⟩ := ⟨_, rfl⟩
  refine ⟨fun k => D k ∨ (w0.heap.size ≤ k ∧ k < w3.heap.size), m, rfl, ?_, ?_, ?_, ?_⟩
  ·rw [hm]
   refine RA.drew_ (P3.set3r i hi 4 (by omega) _ _ _ ⟨L[i].w, ⟨L[i].n.lv, L[i].n.hi, L[i].n.ri, ⟨kn, kd, K'⟩, L[i].n.vs, L[i].n.cs⟩⟩ ⟨L[i].w, ⟨L[i].n.lv, L[i].n.hi, L[i].n.ri, ⟨kn, kd, K'⟩, ⟨vn, vd, V'⟩, L[i].n.cs⟩⟩ ⟨L[i].w, ⟨L[i].n.lv, L[i].n.hi, L[i].n.ri, ⟨kn, kd, K'⟩, ⟨vn, vd, V'⟩, ⟨cn, cd, ci.s⟩⟩⟩ (by rw [← e1]; rfl) (by rw [← e2]; rfl) rfl (fun k hk => .inl hk) ?_ ?_ ⟨⟨ho.n.h, q1.ok, q2.ok, il_of_owns (t := ⟨cn, cd, ci.s⟩) q3, ?_, ?_, cz⟩, ?_, ho.w⟩)
   ·intro k hk
    rcases hk with hk | hk
    ·exact P3.lt k (.inr hk)
    ·exact hk.2
   ·intro k hk hd
    rcases hd with hd | hd
    ·exact P3.dj k hk hd
    ·have := h.lt k (.inl hk); omega
   ·simp only [l1]; exact kz
   ·simp only [l2]; exact vz
   ·exact ⟨fun x e l => .inl (ho.d.h x e l), fun x e _ => .inr (owns_in q1.row x e), fun y hy x e _ => .inr (ownB_in (q1.each y hy) x e), fun x e _ => .inr (owns_in q2.row x e), fun y hy x e _ => .inr (ownB_in (q2.each y hy) x e), fun x e _ => .inr (owns_in q3 x e)⟩
  ·rw [hm]
   simp only [Nd.p, NP.setB, TL.p, p1, p2]
  ·intro k hk
   rcases hk with hk | hk
   ·exact .inl hk
   ·right; omega
  ·exact ((Upd.of_below bel M).trans (set3_upd _ _ _ _ _ _ _ h.mg)).drew
 have HR : Hid (∀ W', Below w0.heap.size w0 W' → RA W' A g c M D nodes root L) := fun W' hb => (h.below b0).below hb
 generalize RSetPost W A g c M D nodes root L i L[i].w (L[i].n.p.setB k.p v.p ci.s) = PO at *
 obtain ⟨ka, kc, K⟩ := k
 obtain ⟨va, vc, V⟩ := v
 obtain ⟨ca, cc, C⟩ := ci
 simp only [Nd.v, Tx.v, TL.v, IL.v, List.length_nil] at HCL HFIN g0 hw0 ⊢
 obtain ⟨lk, hlk⟩ : ∃ lk, K.length = lk := ⟨_, rfl⟩
 obtain ⟨lw, hlw⟩ : ∃ lw, V.length = lw := ⟨_, rfl⟩
 obtain ⟨lc, hlc⟩ : ∃ lc, C.length = lc := ⟨_, rfl⟩
 rw [hlk, hlw, hlc] at HCL g0 hw0 ⊢
 have HLK := hide hlk
 have HLW := hide hlw
 have HLC := hide hlc
 clear h he hk hv hc kz vz cz hlk hlw hlc
 have G0 := hide g0
 obtain ⟨id, hid⟩ : ∃ id, id = (i : Int) + 1 := ⟨_, rfl⟩
 rw [← hid] at HO ⊢
 obtain ⟨n, hln⟩ : ∃ n, L.length = n := ⟨_, rfl⟩
 rw [hln] at hn hi
 have HLN := hide hln
 have j4 : (i : Int) < (n : Int) := by omega
 have j3 : id - 1 = (i : Int) := by omega
 have j5 : id ≤ 65536 := by omega
 have j6 : 1 ≤ id := by omega
 obtain ⟨t0, t1, t2⟩ := Tri.of g0
 have B0 := hide b0
 have HW := hide hw0
 have Z0 := hide z0
 clear g0 b0 hw0 z0 hid hln
 go_enter Tryz.func105, Tryz.ntmps105
 go_wp2_with fail
 rw [← HW.out]
 refine keep HO.out ?_
 go_wp2_with fail
 refine HCL.out.mono ?_
 rintro e w2 ⟨⟨lv', ⟨na, nc, ns⟩, ri', ⟨kn, kd, K'⟩, ⟨vn, vd, V'⟩, ⟨cn, cd, C'⟩⟩, N1, N2, rfl, hp, hown, hb2, _, _, _, _, _⟩
 simp only [Nd.p, NP.mk.injEq] at hp
 obtain ⟨rfl, rfl, rfl, hp1, hp2, rfl⟩ := hp
 have l1 : K'.length = lk := by have := congrArg List.length hp1; simp only [TL.p, List.length_map] at this; rw [this]; exact HLK.out
 have l2 : V'.length = lw := by have := congrArg List.length hp2; simp only [TL.p, List.length_map] at this; rw [this]; exact HLW.out
 have P1 : Hid (K'.map (·.s) = K.map (·.s) ∧ V'.map (·.s) = V.map (·.s) ∧ K'.length = lk ∧ V'.length = lw) := ⟨hp1, hp2, l1, l2⟩
 have hv2 := And.intro hown.k (And.intro hown.v hown.c)
 simp only [IL.v, HLC.out] at hv2
 have V2 := hide hv2
 have B2 := hide hb2
 simp only [Nd.v, Tx.v, TL.v, IL.v, l1, l2, HLC.out, List.length_nil]
 clear hv2 hown hb2 HCL hp1 hp2 l1 l2 t0 t1 t2
 obtain ⟨w3, hw3⟩ : ∃ w3, w3 = w2.alloc (.cells #[.int .i64 0, .slice na 0 nc, .int .i64 0, .slice kn lk kd, .slice vn lw vd, .slice cn lc cd] 35) := ⟨_, rfl⟩
 have b3 : Below w2.heap.size w2 w3 := by rw [hw3]; exact (Below.refl _ _).alloc (Nat.le_refl _) _
 have b03 := B2.out.trans (b3.mono B2.out.size)
 have g3 : w3.heap[w2.heap.size]? = some (.cells #[.int .i64 0, .slice na 0 nc, .int .i64 0, .slice kn lk kd, .slice vn lw vd, .slice cn lc cd] 35 (0, 0)) := by rw [hw3]; exact heap_alloc_new w2 _
 obtain ⟨y3, y4, y5⟩ := (Six.of g3).2.2.2
 have P3 := HR.out w3 b03
 obtain ⟨_, c1, _⟩ := P3.cells
 rw [HLN.out] at c1
 have F3 := fun j => P3.frozen j
 obtain ⟨k1, k2, k3⟩ := (P3.ncells i HI.out).2.2.2
 obtain ⟨p1, p2, l1, l2⟩ := P1.out
 have HF := hide (HFIN.out w3 kn kd K' vn vd V' cn cd b03 p1 p2 (l1.trans HLK.out.symm) (l2.trans HLW.out.symm) (V2.out.1.below b3) (V2.out.2.1.below b3) (by rw [HLC.out]; exact owns_below V2.out.2.2 b3))
 rw [HLK.out, HLW.out, HLC.out] at HF
 clear p1 p2 l1 l2
 generalize L[i].n = nd at *
 have HW3 := hide hw3
 clear hw3 b3 b03 P3 g3 HFIN HR
 go_wp2_with fail
 rw [← HW3.out]
 have j7 : IntKind.i64.wrap (id - 1) = (i : Int) := by rw [IntKind.wrap_i64]; omega
 have j8 : (0 : Int) ≤ (i : Int) := by omega
 have j9 : (i : Int) ≤ (n : Int) := by omega
 go_region
 go_wp2_with fail
 exact HF.out
end
end Go.Proofs.YtealejbfloacpaaGreat
