/- The document's arena: There, Used, Root, Left, Word, Lock, Unlock, Grow. -/
import Derived.Test.YtfpogjgbmibmcaaRBase
import Derived.Test.YtfpogjgbmibmcaaAOps3
namespace Go.Proofs.Ytfpogjgbmibmcaa
open Go.RowKit
section
variable {W : World} {A g c : Nat} {M D : Nat → Prop} {nodes root : Int} {L : List RS}

set_option maxHeartbeats 400000 in
theorem rused_any (h : RA W A g c M D nodes root L) : Calls Try.prog 20 #[.pointer (some ⟨A, 0, none⟩)] W fun e w' => e = .returned (.int .i64 (L.length : Nat)) ∧ w' = W := by
  obtain ⟨c0, c1, c2⟩ := h.cells
  clear h
  generalize L.length = n at *
  go_enter Try.func20, Try.ntmps20
  go_wp2
  go_ret
  exact ⟨rfl, rfl⟩
set_option maxHeartbeats 400000 in
theorem rroot_any (h : RA W A g c M D nodes root L) : Calls Try.prog 28 #[.pointer (some ⟨A, 0, none⟩)] W fun e w' => e = .returned (.int .i64 root) ∧ w' = W := by
  obtain ⟨c0, c1, c2⟩ := h.cells
  clear h
  go_enter Try.func28, Try.ntmps28
  go_wp2
  go_ret
  exact ⟨rfl, rfl⟩
set_option maxHeartbeats 800000 in
theorem rleft_any (h : RA W A g c M D nodes root L) : Calls Try.prog 41 #[.pointer (some ⟨A, 0, none⟩)] W fun e w' => e = .returned (.int .i64 (nodes - (L.length : Nat))) ∧ ∃ k, w' = W.drewN k := by
  obtain ⟨c0, c1, c2⟩ := h.cells
  have h1 := h.le
  have h2 := h.nz
  clear h
  generalize L.length = n at *
  have j0 : -65536 ≤ nodes - (n : Int) := by omega
  have j1 : nodes - (n : Int) ≤ 65536 := by omega
  go_enter Try.func41, Try.ntmps41
  go_wp2_with fail
  go_quiet (fail)
  go_wp2
  go_ret
  exact ⟨rfl, _, rfl⟩
set_option maxHeartbeats 800000 in
theorem there_any (h : RA W A g c M D nodes root L) (id : Int) : Calls Try.prog 53 #[.pointer (some ⟨A, 0, none⟩), .int .i64 id] W fun e w' => e = .returned (.bool (decide (1 ≤ id ∧ id ≤ (L.length : Nat)))) ∧ w' = W := by
  obtain ⟨c0, c1, c2⟩ := h.cells
  clear h
  generalize L.length = n at *
  by_cases h1 : 1 ≤ id
  · by_cases h2 : id ≤ (n : Int)
    · rw [decide_eq_true ⟨h1, h2⟩]
      go_enter Try.func53, Try.ntmps53
      go_wp2
      go_ret
      exact ⟨rfl, rfl⟩
    · rw [decide_eq_false (fun h => h2 h.2)]
      have h3 : (n : Int) < id := by omega
      go_enter Try.func53, Try.ntmps53
      go_wp2
      go_ret
      exact ⟨rfl, rfl⟩
  · rw [decide_eq_false (fun h => h1 h.1)]
    have h3 : id < 1 := by omega
    go_enter Try.func53, Try.ntmps53
    go_wp2
    go_ret
    exact ⟨rfl, rfl⟩
theorem there_yes (h : RA W A g c M D nodes root L) (i : Nat) (hi : i < L.length) : Calls Try.prog 53 #[.pointer (some ⟨A, 0, none⟩), .int .i64 ((i : Int) + 1)] W fun e w' => e = .returned (.bool true) ∧ w' = W := by
  have := there_any h ((i : Int) + 1)
  rwa [decide_eq_true (by omega)] at this
theorem there_no (h : RA W A g c M D nodes root L) (id : Int) (hi : ¬ (1 ≤ id ∧ id ≤ (L.length : Nat))) : Calls Try.prog 53 #[.pointer (some ⟨A, 0, none⟩), .int .i64 id] W fun e w' => e = .returned (.bool false) ∧ w' = W := by
  have := there_any h id
  rwa [decide_eq_false hi] at this

set_option maxHeartbeats 800000 in
theorem rword_any (h : RA W A g c M D nodes root L) (i : Nat) (hi : i < L.length) :
    Calls Try.prog 32 #[.pointer (some ⟨A, 0, none⟩), .int .i64 ((i : Int) + 1)] W fun e w' => e = .returned (.tuple #[.int .u64 (L[i].w : Nat), .int .i64 0]) ∧ w' = W := by
  have HT := hide (there_yes h i hi)
  obtain ⟨c0, c1, c2⟩ := h.cells
  have cw := h.wat i hi
  have hn := h.n_le
  generalize L[i].w = x at *
  clear h
  generalize L.length = n at *
  have j4 : (i : Int) < (n : Int) := by omega
  obtain ⟨id, hid⟩ : ∃ id, id = (i : Int) + 1 := ⟨_, rfl⟩
  rw [← hid] at HT ⊢
  have j3 : id - 1 = (i : Int) := by omega
  have j5 : id ≤ 65536 := by omega
  have j6 : 1 ≤ id := by omega
  clear hid
  go_enter Try.func32, Try.ntmps32
  go_wp2_with fail
  refine keep HT.out ?_
  go_wp2_with fail
  go_ret2
  exact ⟨rfl, rfl⟩
set_option maxHeartbeats 800000 in
theorem rword_none (h : RA W A g c M D nodes root L) (id : Int) (hi : ¬ (1 ≤ id ∧ id ≤ (L.length : Nat))) :
    Calls Try.prog 32 #[.pointer (some ⟨A, 0, none⟩), .int .i64 id] W fun e w' => e = .returned (.tuple #[.int .u64 0, .int .i64 101]) ∧ w' = W := by
  have HT := hide (there_no h id hi)
  clear h hi
  go_enter Try.func32, Try.ntmps32
  go_wp2_with fail
  refine keep HT.out ?_
  go_wp2_with fail
  go_ret2
  exact ⟨rfl, rfl⟩
theorem tmod2 (x : Nat) : Int.tmod (x : Int) 2 = ((x % 2 : Nat) : Int) := by
  rw [Int.tmod_eq_emod_of_nonneg (by omega)]; omega
set_option maxHeartbeats 800000 in
theorem rlock_none (h : RA W A g c M D nodes root L) (id x : Int) (hi : ¬ (1 ≤ id ∧ id ≤ (L.length : Nat))) :
    Calls Try.prog 54 #[.pointer (some ⟨A, 0, none⟩), .int .i64 id, .int .u64 x] W fun e w' => e = .returned (.tuple #[.bool false, .int .i64 101]) ∧ w' = W := by
  have HT := hide (there_no h id hi)
  clear h hi
  go_enter Try.func54, Try.ntmps54
  go_wp2_with fail
  refine keep HT.out ?_
  go_wp2_with fail
  go_ret2
  exact ⟨rfl, rfl⟩
set_option maxHeartbeats 1600000 in
theorem rlock_hit (h : RA W A g c M D nodes root L) (i : Nat) (hi : i < L.length) (he : L[i].w % 2 = 0) :
    Calls Try.prog 54 #[.pointer (some ⟨A, 0, none⟩), .int .i64 ((i : Int) + 1), .int .u64 (L[i].w : Nat)] W fun e w' => e = .returned (.tuple #[.bool true, .int .i64 0]) ∧ w' = W.setCell ⟨g, i * 7, none⟩ (.int .u64 ((L[i].w + 1 : Nat) : Int)) := by
  have HT := hide (there_yes h i hi)
  obtain ⟨c0, c1, c2⟩ := h.cells
  have cw := h.wat i hi
  have fz := h.frozen (i * 7)
  have hx := (h.sl L[i] (List.getElem_mem hi)).w
  have hn := h.n_le
  generalize L[i].w = x at *
  clear h
  generalize L.length = n at *
  have j4 : (i : Int) < (n : Int) := by omega
  obtain ⟨id, hid⟩ : ∃ id, id = (i : Int) + 1 := ⟨_, rfl⟩
  rw [← hid] at HT ⊢
  have j3 : id - 1 = (i : Int) := by omega
  have j5 : id ≤ 65536 := by omega
  have j6 : 1 ≤ id := by omega
  obtain ⟨y, hy⟩ : ∃ y : Int, y = (x : Int) := ⟨_, rfl⟩
  rw [show ((x + 1 : Nat) : Int) = y + 1 by omega]
  rw [← hy] at cw ⊢
  have k0 : 0 ≤ y := by omega
  have k1 : y + 1 < 18446744073709551616 := by omega
  have k2 : y % 2 = 0 := by omega
  clear hid hy he hx
  go_enter Try.func54, Try.ntmps54
  go_wp2_with fail
  refine keep HT.out ?_
  go_wp2_with fail
  go_ret2
  exact ⟨rfl, by go_num⟩
set_option maxHeartbeats 1600000 in
theorem rlock_miss (h : RA W A g c M D nodes root L) (i : Nat) (hi : i < L.length) (x : Nat) (hx : x < 18446744073709551616) (hne : ¬ (L[i].w = x ∧ x % 2 = 0)) :
    Calls Try.prog 54 #[.pointer (some ⟨A, 0, none⟩), .int .i64 ((i : Int) + 1), .int .u64 (x : Nat)] W fun e w' => e = .returned (.tuple #[.bool false, .int .i64 0]) ∧ w' = W := by
  have HT := hide (there_yes h i hi)
  obtain ⟨c0, c1, c2⟩ := h.cells
  have cw := h.wat i hi
  have hn := h.n_le
  generalize L[i].w = x0 at *
  clear h
  generalize L.length = n at *
  have j4 : (i : Int) < (n : Int) := by omega
  obtain ⟨id, hid⟩ : ∃ id, id = (i : Int) + 1 := ⟨_, rfl⟩
  rw [← hid] at HT ⊢
  have j3 : id - 1 = (i : Int) := by omega
  have j5 : id ≤ 65536 := by omega
  have j6 : 1 ≤ id := by omega
  obtain ⟨y, hy⟩ : ∃ y : Int, y = (x : Int) := ⟨_, rfl⟩
  obtain ⟨z, hz⟩ : ∃ z : Int, z = (x0 : Int) := ⟨_, rfl⟩
  rw [← hy]
  rw [← hz] at cw
  by_cases hq : z = y
  · have k2 : y % 2 = 1 := by have : ¬ x % 2 = 0 := fun e => hne ⟨by omega, e⟩; omega
    have k0 : 0 ≤ y := by omega
    subst hq
    clear hid hy hz hne hx
    go_enter Try.func54, Try.ntmps54
    go_wp2_with fail
    refine keep HT.out ?_
    go_wp2_with fail
    go_ret2
    exact ⟨rfl, rfl⟩
  · clear hid hy hz hne hx
    go_enter Try.func54, Try.ntmps54
    go_wp2_with fail
    refine keep HT.out ?_
    go_wp2_with fail
    go_ret2
    exact ⟨rfl, rfl⟩

/-- The document's held. -/
def heE (L : List RS) (id : Int) : Int := if 1 ≤ id ∧ id ≤ (L.length : Nat) then (if (L[(id - 1).toNat]?.map RS.w).getD 0 % 2 = 0 then 102 else 0) else 101
theorem heE_at (L : List RS) (i : Nat) (hi : i < L.length) : heE L ((i : Int) + 1) = if L[i].w % 2 = 0 then 102 else 0 := by
  unfold heE
  rw [if_pos (by omega), show ((i : Int) + 1 - 1).toNat = i by omega, List.getElem?_eq_getElem hi]
  rfl
set_option maxHeartbeats 1600000 in
theorem rheld_any (h : RA W A g c M D nodes root L) (id : Int) :
    Calls Try.prog 55 #[.pointer (some ⟨A, 0, none⟩), .int .i64 id] W fun e w' => e = .returned (.int .i64 (heE L id)) ∧ w' = W := by
  by_cases hin : 1 ≤ id ∧ id ≤ (L.length : Nat)
  · obtain ⟨i, hid⟩ : ∃ i : Nat, id = (i : Int) + 1 := ⟨(id - 1).toNat, by omega⟩
    have hi : i < L.length := by omega
    rw [hid, heE_at L i hi, ← hid]
    have HT := hide (there_yes h i hi)
    rw [← hid] at HT
    obtain ⟨c0, c1, c2⟩ := h.cells
    have cw := h.wat i hi
    have hn := h.n_le
    generalize L[i].w = x at *
    clear h
    generalize L.length = n at *
    have j4 : (i : Int) < (n : Int) := by omega
    have j3 : id - 1 = (i : Int) := by omega
    have j5 : id ≤ 65536 := by omega
    have j6 : 1 ≤ id := by omega
    obtain ⟨y, hy⟩ : ∃ y : Int, y = (x : Int) := ⟨_, rfl⟩
    rw [← hy] at cw
    have k0 : 0 ≤ y := by omega
    clear hid hin
    by_cases hx : x % 2 = 0
    · rw [if_pos hx]
      have k1 : y % 2 = 0 := by omega
      clear hx hy
      go_enter Try.func55, Try.ntmps55
      go_wp2_with fail
      refine keep HT.out ?_
      go_wp2_with fail
      go_ret
      exact ⟨rfl, rfl⟩
    · rw [if_neg hx]
      have k1 : y % 2 = 1 := by omega
      clear hx hy
      go_enter Try.func55, Try.ntmps55
      go_wp2_with fail
      refine keep HT.out ?_
      go_wp2_with fail
      go_ret
      exact ⟨rfl, rfl⟩
  · rw [show heE L id = 101 from if_neg hin]
    have HT := hide (there_no h id hin)
    clear h hin
    go_enter Try.func55, Try.ntmps55
    go_wp2_with fail
    refine keep HT.out ?_
    go_wp2_with fail
    go_ret
    exact ⟨rfl, rfl⟩
end

end Go.Proofs.Ytfpogjgbmibmcaa
