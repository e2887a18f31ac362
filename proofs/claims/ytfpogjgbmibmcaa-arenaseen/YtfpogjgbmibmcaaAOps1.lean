/- arena: Used, Left, Root, slot, Word. -/
import Derived.Test.YtfpogjgbmibmcaaABase
namespace Go.Proofs.Ytfpogjgbmibmcaa
open Go.RowKit

set_option maxHeartbeats 400000 in
theorem used_raw (A : Nat) (a : Option Addr) (n c : Nat) (w : World) (hc : w.cell? ⟨A, 0, none⟩ = some (.slice a n c)) : Calls Try.prog 14 #[.pointer (some ⟨A, 0, none⟩)] w fun e w' => e = .returned (.int .i64 (n : Nat)) ∧ w' = w := by
  go_enter Try.func14, Try.ntmps14
  go_wp2
  go_ret
  exact ⟨rfl, rfl⟩
set_option maxHeartbeats 400000 in
theorem root_raw (A : Nat) (r : Int) (w : World) (hc : w.cell? ⟨A, 2, none⟩ = some (.int .i64 r)) : Calls Try.prog 19 #[.pointer (some ⟨A, 0, none⟩)] w fun e w' => e = .returned (.int .i64 r) ∧ w' = w := by
  go_enter Try.func19, Try.ntmps19
  go_wp2
  go_ret
  exact ⟨rfl, rfl⟩
set_option maxHeartbeats 800000 in
theorem left_raw (A : Nat) (a : Option Addr) (n c : Nat) (m : Int) (w : World) (hc : w.cell? ⟨A, 0, none⟩ = some (.slice a n c)) (hm : w.cell? ⟨A, 1, none⟩ = some (.int .i64 m)) (h0 : 0 ≤ m) (h1 : m ≤ 65536) (hn : n ≤ 65536) :
    Calls Try.prog 16 #[.pointer (some ⟨A, 0, none⟩)] w fun e w' => e = .returned (.int .i64 (m - (n : Nat))) ∧ ∃ k, w' = w.drewN k := by
  have j0 : -65536 ≤ m - (n : Int) := by omega
  have j1 : m - (n : Int) ≤ 65536 := by omega
  go_enter Try.func16, Try.ntmps16
  go_wp2_with fail
  go_quiet (fail)
  go_wp2
  go_ret
  exact ⟨rfl, _, rfl⟩

set_option maxHeartbeats 800000 in
theorem slot_good (A g n c i b : Nat) (w : World) (hc : w.cell? ⟨A, 0, none⟩ = some (.slice (some ⟨g, 0, none⟩) n c)) (hp : w.cell? ⟨g, i, none⟩ = some (.pointer (some ⟨b, 0, none⟩))) (hi : i < n) (hn : n ≤ 65536) :
    Calls Try.prog 44 #[.pointer (some ⟨A, 0, none⟩), .int .i64 ((i : Int) + 1)] w fun e w' => e = .returned (.tuple #[.pointer (some ⟨b, 0, none⟩), .int .i64 0]) ∧ w' = w := by
  have HU := hide (used_raw A _ n c w hc)
  have j4 : (i : Int) < (n : Int) := by omega
  obtain ⟨id, hid⟩ : ∃ id, id = (i : Int) + 1 := ⟨_, rfl⟩
  rw [← hid]
  have j1 : ¬ id < 1 := by omega
  have j2 : ¬ (n : Int) < id := by omega
  have j3 : id - 1 = (i : Int) := by omega
  have j5 : id ≤ 65536 := by omega
  clear hid
  go_enter Try.func44, Try.ntmps44
  go_wp2_with fail
  refine keep HU.out ?_
  go_wp2_with fail
  go_ret2
  exact ⟨rfl, rfl⟩
set_option maxHeartbeats 800000 in
theorem slot_bad (A n c : Nat) (a : Option Addr) (id : Int) (w : World) (hc : w.cell? ⟨A, 0, none⟩ = some (.slice a n c)) (hi : ¬ (1 ≤ id ∧ id ≤ n)) :
    Calls Try.prog 44 #[.pointer (some ⟨A, 0, none⟩), .int .i64 id] w fun e w' => e = .returned (.tuple #[.pointer none, .int .i64 101]) ∧ w' = w := by
  have HU := hide (used_raw A _ n c w hc)
  by_cases h : id < 1
  · clear hi
    go_enter Try.func44, Try.ntmps44
    go_wp2_with fail
    go_ret2
    exact ⟨rfl, rfl⟩
  · have j2 : (n : Int) < id := by omega
    clear hi
    go_enter Try.func44, Try.ntmps44
    go_wp2_with fail
    refine keep HU.out ?_
    go_wp2_with fail
    go_ret2
    exact ⟨rfl, rfl⟩

/-! ### over an arena -/
section
variable {W : World} {A : Nat} {M D : Nat → Prop} {nodes root : Int} {L : List Sl}
theorem PA.n_le (h : PA W A M D nodes root L) : L.length ≤ 65536 := by have := h.le; have := h.nz; omega
/-- The arena's own cells. -/
theorem PA.cells (h : PA W A M D nodes root L) : ∃ g c, W.cell? ⟨A, 0, none⟩ = some (.slice (some ⟨g, 0, none⟩) L.length c) ∧ W.cell? ⟨A, 1, none⟩ = some (.int .i64 nodes) ∧ W.cell? ⟨A, 2, none⟩ = some (.int .i64 root) ∧ ∀ i (hi : i < L.length), W.cell? ⟨g, i, none⟩ = some (.pointer (some ⟨L[i].b, 0, none⟩)) := by
  obtain ⟨g, c, h1, h2, _⟩ := h.row
  refine ⟨g, c, by rw [cell_of_row _ _ _ _ _ _ h1]; rfl, by rw [cell_of_row _ _ _ _ _ _ h1]; rfl, by rw [cell_of_row _ _ _ _ _ _ h1]; rfl, fun i hi => ?_⟩
  have hc := h2.cells (g := g) rfl i (L[i].ptr) (by rw [List.getElem?_map, List.getElem?_eq_getElem hi]; rfl)
  rw [Addr.add_lit, Nat.zero_add] at hc
  exact hc
theorem used_any (h : PA W A M D nodes root L) : Calls Try.prog 14 #[.pointer (some ⟨A, 0, none⟩)] W fun e w' => e = .returned (.int .i64 (L.length : Nat)) ∧ w' = W := by
  obtain ⟨g, c, h1, _⟩ := h.cells
  exact used_raw A _ _ c W h1
theorem root_any (h : PA W A M D nodes root L) : Calls Try.prog 19 #[.pointer (some ⟨A, 0, none⟩)] W fun e w' => e = .returned (.int .i64 root) ∧ w' = W := by
  obtain ⟨g, c, _, _, h3, _⟩ := h.cells
  exact root_raw A root W h3
theorem left_any (h : PA W A M D nodes root L) : Calls Try.prog 16 #[.pointer (some ⟨A, 0, none⟩)] W fun e w' => e = .returned (.int .i64 (nodes - (L.length : Nat))) ∧ ∃ k, w' = W.drewN k := by
  obtain ⟨g, c, h1, h2, _⟩ := h.cells
  exact left_raw A _ _ c nodes W h1 h2 (by have := h.le; omega) h.nz h.n_le
theorem slot_any (h : PA W A M D nodes root L) (i : Nat) (hi : i < L.length) :
    Calls Try.prog 44 #[.pointer (some ⟨A, 0, none⟩), .int .i64 ((i : Int) + 1)] W fun e w' => e = .returned (.tuple #[.pointer (some ⟨L[i].b, 0, none⟩), .int .i64 0]) ∧ w' = W := by
  obtain ⟨g, c, h1, _, _, h4⟩ := h.cells
  exact slot_good A g _ c i _ W h1 (h4 i hi) hi h.n_le
theorem slot_none (h : PA W A M D nodes root L) (id : Int) (hi : ¬ (1 ≤ id ∧ id ≤ (L.length : Nat))) :
    Calls Try.prog 44 #[.pointer (some ⟨A, 0, none⟩), .int .i64 id] W fun e w' => e = .returned (.tuple #[.pointer none, .int .i64 101]) ∧ w' = W := by
  obtain ⟨g, c, h1, _⟩ := h.cells
  exact slot_bad A _ c _ id W h1 hi
theorem PA.wcell (h : PA W A M D nodes root L) (i : Nat) (hi : i < L.length) : W.cell? ⟨L[i].b, 0, none⟩ = some (.int .u64 (L[i].w : Nat)) ∧ W.frozen? ⟨L[i].b, 0, none⟩ = false ∧ L[i].w < 18446744073709551616 := by
  have ho := h.sl L[i] (List.getElem_mem hi)
  exact ⟨by rw [cell_of_row _ _ _ _ _ _ ho.c]; rfl, frozen_of ho.c 0, ho.w⟩
set_option maxHeartbeats 800000 in
theorem word_any (h : PA W A M D nodes root L) (i : Nat) (hi : i < L.length) :
    Calls Try.prog 17 #[.pointer (some ⟨A, 0, none⟩), .int .i64 ((i : Int) + 1)] W fun e w' => e = .returned (.tuple #[.int .u64 (L[i].w : Nat), .int .i64 0]) ∧ w' = W := by
  have HS := hide (slot_any h i hi)
  obtain ⟨h1, h2, h3⟩ := h.wcell i hi
  generalize L[i].b = b at *
  generalize L[i].w = x at *
  have HR := hide (lread_any b x W h1)
  clear h h1 h2 h3 hi
  generalize (i : Int) + 1 = id at *
  go_enter Try.func17, Try.ntmps17
  go_wp2_with fail
  refine keep HS.out ?_
  go_wp2_with fail
  refine keep HR.out ?_
  go_wp2_with fail
  go_ret2
  exact ⟨rfl, rfl⟩
set_option maxHeartbeats 800000 in
theorem word_none (h : PA W A M D nodes root L) (id : Int) (hi : ¬ (1 ≤ id ∧ id ≤ (L.length : Nat))) :
    Calls Try.prog 17 #[.pointer (some ⟨A, 0, none⟩), .int .i64 id] W fun e w' => e = .returned (.tuple #[.int .u64 0, .int .i64 101]) ∧ w' = W := by
  have HS := hide (slot_none h id hi)
  clear h hi
  go_enter Try.func17, Try.ntmps17
  go_wp2_with fail
  refine keep HS.out ?_
  go_wp2_with fail
  go_ret2
  exact ⟨rfl, rfl⟩
end

end Go.Proofs.Ytfpogjgbmibmcaa
