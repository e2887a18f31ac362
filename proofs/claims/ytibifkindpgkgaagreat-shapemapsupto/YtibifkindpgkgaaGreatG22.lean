/- The document's arena: There, Used, Root, Left, Word, Lock, Unlock, Grow. -/
import Derived.Test.YtibifkindpgkgaaGreatG21
import Derived.Test.YtibifkindpgkgaaGreatG20
namespace Go.Proofs.YtibifkindpgkgaaGreat
open Go.RowKit
set_option maxRecDepth 100000
section
variable {W : World} {A g c : Nat} {M D : Nat → Prop} {nodes root : Int} {L : List RS}

set_option maxHeartbeats 400000 in
theorem rused_any (h : RA W A g c M D nodes root L) : Calls Tryz.prog 22 #[.pointer (some ⟨A, 0, none⟩)] W fun e w' => e = .returned (.int .i64 (L.length : Nat)) ∧ w' = W := by
  obtain ⟨c0, c1, c2⟩ := h.cells
  clear h
  generalize L.length = n at *
  go_enter Tryz.func22, Tryz.ntmps22
  go_wp2
  go_ret
  exact ⟨rfl, rfl⟩
set_option maxHeartbeats 400000 in
theorem rroot_any (h : RA W A g c M D nodes root L) : Calls Tryz.prog 53 #[.pointer (some ⟨A, 0, none⟩)] W fun e w' => e = .returned (.int .i64 root) ∧ w' = W := by
  obtain ⟨c0, c1, c2⟩ := h.cells
  clear h
  go_enter Tryz.func53, Tryz.ntmps53
  go_wp2
  go_ret
  exact ⟨rfl, rfl⟩
set_option maxHeartbeats 800000 in
theorem rleft_any (h : RA W A g c M D nodes root L) : Calls Tryz.prog 52 #[.pointer (some ⟨A, 0, none⟩)] W fun e w' => e = .returned (.int .i64 (nodes - (L.length : Nat))) ∧ ∃ k, w' = W.drewN k := by
  obtain ⟨c0, c1, c2⟩ := h.cells
  have h1 := h.le
  have h2 := h.nz
  clear h
  generalize L.length = n at *
  have j0 : -65536 ≤ nodes - (n : Int) := by omega
  have j1 : nodes - (n : Int) ≤ 65536 := by omega
  go_enter Tryz.func52, Tryz.ntmps52
  go_wp2_with fail
  go_quiet (fail)
  go_wp2
  go_ret
  exact ⟨rfl, _, rfl⟩
set_option maxHeartbeats 800000 in
theorem there_any (h : RA W A g c M D nodes root L) (id : Int) : Calls Tryz.prog 46 #[.pointer (some ⟨A, 0, none⟩), .int .i64 id] W fun e w' => e = .returned (.bool (decide (1 ≤ id ∧ id ≤ (L.length : Nat)))) ∧ w' = W := by
  obtain ⟨c0, c1, c2⟩ := h.cells
  clear h
  generalize L.length = n at *
  by_cases h1 : 1 ≤ id
  · by_cases h2 : id ≤ (n : Int)
    · rw [decide_eq_true ⟨h1, h2⟩]
      go_enter Tryz.func46, Tryz.ntmps46
      go_wp2
      go_ret
      exact ⟨rfl, rfl⟩
    · rw [decide_eq_false (fun h => h2 h.2)]
      have h3 : (n : Int) < id := by omega
      go_enter Tryz.func46, Tryz.ntmps46
      go_wp2
      go_ret
      exact ⟨rfl, rfl⟩
  · rw [decide_eq_false (fun h => h1 h.1)]
    have h3 : id < 1 := by omega
    go_enter Tryz.func46, Tryz.ntmps46
    go_wp2
    go_ret
    exact ⟨rfl, rfl⟩
theorem there_yes (h : RA W A g c M D nodes root L) (i : Nat) (hi : i < L.length) : Calls Tryz.prog 46 #[.pointer (some ⟨A, 0, none⟩), .int .i64 ((i : Int) + 1)] W fun e w' => e = .returned (.bool true) ∧ w' = W := by
  have := there_any h ((i : Int) + 1)
  rwa [decide_eq_true (by omega)] at this
theorem there_no (h : RA W A g c M D nodes root L) (id : Int) (hi : ¬ (1 ≤ id ∧ id ≤ (L.length : Nat))) : Calls Tryz.prog 46 #[.pointer (some ⟨A, 0, none⟩), .int .i64 id] W fun e w' => e = .returned (.bool false) ∧ w' = W := by
  have := there_any h id
  rwa [decide_eq_false hi] at this

set_option maxHeartbeats 800000 in
theorem rword_any (h : RA W A g c M D nodes root L) (i : Nat) (hi : i < L.length) :
    Calls Tryz.prog 66 #[.pointer (some ⟨A, 0, none⟩), .int .i64 ((i : Int) + 1)] W fun e w' => e = .returned (.tuple #[.int .u64 (L[i].w : Nat), .int .i64 0]) ∧ w' = W := by
  have HT := hide (there_yes h i hi)
  obtain ⟨c0, c1, c2⟩ := h.cells
  have cw := h.wat i hi
  have hn := h.n_le
  generalize L[i].w = x at *
  clear h
  generalize L.length = n at *
  have j4 : (i : Int) < (n : Int) := by omega
  obtain ⟨id, hid⟩ : ∃ id, id = (i : Int) + 1 := ⟨_, rfl⟩
  rw [← hid] at HT ⊢
  have j3 : id - 1 = (i : Int) := by omega
  have j5 : id ≤ 65536 := by omega
  have j6 : 1 ≤ id := by omega
  clear hid
  go_enter Tryz.func66, Tryz.ntmps66
  go_wp2_with fail
  refine keep HT.out ?_
  go_wp2_with fail
  go_ret2
  exact ⟨rfl, rfl⟩
set_option maxHeartbeats 800000 in
theorem rword_none (h : RA W A g c M D nodes root L) (id : Int) (hi : ¬ (1 ≤ id ∧ id ≤ (L.length : Nat))) :
    Calls Tryz.prog 66 #[.pointer (some ⟨A, 0, none⟩), .int .i64 id] W fun e w' => e = .returned (.tuple #[.int .u64 0, .int .i64 101]) ∧ w' = W := by
  have HT := hide (there_no h id hi)
  clear h hi
  go_enter Tryz.func66, Tryz.ntmps66
  go_wp2_with fail
  refine keep HT.out ?_
  go_wp2_with fail
  go_ret2
  exact ⟨rfl, rfl⟩
theorem tmod2 (x : Nat) : Int.tmod (x : Int) 2 = ((x % 2 : Nat) : Int) := by
  rw [Int.tmod_eq_emod_of_nonneg (by omega)]; omega
set_option maxHeartbeats 800000 in
theorem rlock_none (h : RA W A g c M D nodes root L) (id x : Int) (hi : ¬ (1 ≤ id ∧ id ≤ (L.length : Nat))) :
    Calls Tryz.prog 108 #[.pointer (some ⟨A, 0, none⟩), .int .i64 id, .int .u64 x] W fun e w' => e = .returned (.tuple #[.bool false, .int .i64 101]) ∧ w' = W := by
  have HT := hide (there_no h id hi)
  clear h hi
  go_enter Tryz.func108, Tryz.ntmps108
  go_wp2_with fail
  refine keep HT.out ?_
  go_wp2_with fail
  go_ret2
  exact ⟨rfl, rfl⟩
set_option maxHeartbeats 1600000 in
theorem rlock_hit (h : RA W A g c M D nodes root L) (i : Nat) (hi : i < L.length) (he : L[i].w % 2 = 0) :
    Calls Tryz.prog 108 #[.pointer (some ⟨A, 0, none⟩), .int .i64 ((i : Int) + 1), .int .u64 (L[i].w : Nat)] W fun e w' => e = .returned (.tuple #[.bool true, .int .i64 0]) ∧ w' = W.setCell ⟨g, i * 7, none⟩ (.int .u64 ((L[i].w + 1 : Nat) : Int)) := by
  have HT := hide (there_yes h i hi)
  obtain ⟨c0, c1, c2⟩ := h.cells
  have cw := h.wat i hi
  have fz := h.frozen (i * 7)
  have hx := (h.sl L[i] (List.getElem_mem hi)).w
  have hn := h.n_le
  generalize L[i].w = x at *
  clear h
  generalize L.length = n at *
  have j4 : (i : Int) < (n : Int) := by omega
  obtain ⟨id, hid⟩ : ∃ id, id = (i : Int) + 1 := ⟨_, rfl⟩
  rw [← hid] at HT ⊢
  have j3 : id - 1 = (i : Int) := by omega
  have j5 : id ≤ 65536 := by omega
  have j6 : 1 ≤ id := by omega
  obtain ⟨y, hy⟩ : ∃ y : Int, y = (x : Int) := ⟨_, rfl⟩
  rw [show ((x + 1 : Nat) : Int) = y + 1 by omega]
  rw [← hy] at cw ⊢
  have k0 : 0 ≤ y := by omega
  have k1 : y + 1 < 18446744073709551616 := by omega
  have k2 : y % 2 = 0 := by omega
  clear hid hy he hx
  go_enter Tryz.func108, Tryz.ntmps108
  go_wp2_with fail
  refine keep HT.out ?_
  go_wp2_with fail
  go_ret2
  exact ⟨rfl, by go_num⟩
set_option maxHeartbeats 1600000 in
theorem rlock_miss (h : RA W A g c M D nodes root L) (i : Nat) (hi : i < L.length) (x : Nat) (hx : x < 18446744073709551616) (hne : ¬ (L[i].w = x ∧ x % 2 = 0)) :
    Calls Tryz.prog 108 #[.pointer (some ⟨A, 0, none⟩), .int .i64 ((i : Int) + 1), .int .u64 (x : Nat)] W fun e w' => e = .returned (.tuple #[.bool false, .int .i64 0]) ∧ w' = W := by
  have HT := hide (there_yes h i hi)
  obtain ⟨c0, c1, c2⟩ := h.cells
  have cw := h.wat i hi
  have hn := h.n_le
  generalize L[i].w = x0 at *
  clear h
  generalize L.length = n at *
  have j4 : (i : Int) < (n : Int) := by omega
  obtain ⟨id, hid⟩ : ∃ id, id = (i : Int) + 1 := ⟨_, rfl⟩
  rw [← hid] at HT ⊢
  have j3 : id - 1 = (i : Int) := by omega
  have j5 : id ≤ 65536 := by omega
  have j6 : 1 ≤ id := by omega
  obtain ⟨y, hy⟩ : ∃ y : Int, y = (x : Int) := ⟨_, rfl⟩
  obtain ⟨z, hz⟩ : ∃ z : Int, z = (x0 : Int) := ⟨_, rfl⟩
  rw [← hy]
  rw [← hz] at cw
  by_cases hq : z = y
  · have k2 : y % 2 = 1 := by have : ¬ x % 2 = 0 := fun e => hne ⟨by omega, e⟩; omega
    have k0 : 0 ≤ y := by omega
    subst hq
    clear hid hy hz hne hx
    go_enter Tryz.func108, Tryz.ntmps108
    go_wp2_with fail
    refine keep HT.out ?_
    go_wp2_with fail
    go_ret2
    exact ⟨rfl, rfl⟩
  · clear hid hy hz hne hx
    go_enter Tryz.func108, Tryz.ntmps108
    go_wp2_with fail
    refine keep HT.out ?_
    go_wp2_with fail
    go_ret2
    exact ⟨rfl, rfl⟩

/-- The document's held. -/
def heE (L : List RS) (id : Int) : Int := if 1 ≤ id ∧ id ≤ (L.length : Nat) then (if (L[(id - 1).toNat]?.map RS.w).getD 0 % 2 = 0 then 102 else 0) else 101
theorem heE_at (L : List RS) (i : Nat) (hi : i < L.length) : heE L ((i : Int) + 1) = if L[i].w % 2 = 0 then 102 else 0 := by
  unfold heE
  rw [if_pos (by omega), show ((i : Int) + 1 - 1).toNat = i by omega, List.getElem?_eq_getElem hi]
  rfl
set_option maxHeartbeats 1600000 in
theorem rheld_any (h : RA W A g c M D nodes root L) (id : Int) :
    Calls Tryz.prog 110 #[.pointer (some ⟨A, 0, none⟩), .int .i64 id] W fun e w' => e = .returned (.int .i64 (heE L id)) ∧ w' = W := by
  by_cases hin : 1 ≤ id ∧ id ≤ (L.length : Nat)
  · obtain ⟨i, hid⟩ : ∃ i : Nat, id = (i : Int) + 1 := ⟨(id - 1).toNat, by omega⟩
    have hi : i < L.length := by omega
    rw [hid, heE_at L i hi, ← hid]
    have HT := hide (there_yes h i hi)
    rw [← hid] at HT
    obtain ⟨c0, c1, c2⟩ := h.cells
    have cw := h.wat i hi
    have hn := h.n_le
    generalize L[i].w = x at *
    clear h
    generalize L.length = n at *
    have j4 : (i : Int) < (n : Int) := by omega
    have j3 : id - 1 = (i : Int) := by omega
    have j5 : id ≤ 65536 := by omega
    have j6 : 1 ≤ id := by omega
    obtain ⟨y, hy⟩ : ∃ y : Int, y = (x : Int) := ⟨_, rfl⟩
    rw [← hy] at cw
    have k0 : 0 ≤ y := by omega
    clear hid hin
    by_cases hx : x % 2 = 0
    · rw [if_pos hx]
      have k1 : y % 2 = 0 := by omega
      clear hx hy
      go_enter Tryz.func110, Tryz.ntmps110
      go_wp2_with fail
      refine keep HT.out ?_
      go_wp2_with fail
      go_ret
      exact ⟨rfl, rfl⟩
    · rw [if_neg hx]
      have k1 : y % 2 = 1 := by omega
      clear hx hy
      go_enter Tryz.func110, Tryz.ntmps110
      go_wp2_with fail
      refine keep HT.out ?_
      go_wp2_with fail
      go_ret
      exact ⟨rfl, rfl⟩
  · rw [show heE L id = 101 from if_neg hin]
    have HT := hide (there_no h id hin)
    clear h hin
    go_enter Tryz.func110, Tryz.ntmps110
    go_wp2_with fail
    refine keep HT.out ?_
    go_wp2_with fail
    go_ret
    exact ⟨rfl, rfl⟩
end

end Go.Proofs.YtibifkindpgkgaaGreat

namespace Go.Proofs.YtibifkindpgkgaaGreat
open Go.RowKit
set_option maxRecDepth 100000
section
variable {W : World} {A g c : Nat} {M D : Nat → Prop} {nodes root : Int} {L : List RS}

set_option maxHeartbeats 800000 in
theorem runlock_not (h : RA W A g c M D nodes root L) (id : Int) (ch : Bool) (hne : heE L id ≠ 0) :
    Calls Tryz.prog 69 #[.pointer (some ⟨A, 0, none⟩), .int .i64 id, .bool ch] W fun e w' => e = .returned (.int .i64 (heE L id)) ∧ w' = W := by
  have HT := hide (rheld_any h id)
  clear h
  generalize heE L id = er at *
  go_enter Tryz.func69, Tryz.ntmps69
  go_wp2_with fail
  refine keep HT.out ?_
  go_wp2_with fail
  go_ret
  exact ⟨rfl, rfl⟩
set_option maxHeartbeats 1600000 in
theorem runlock_held (h : RA W A g c M D nodes root L) (i : Nat) (hi : i < L.length) (ch : Bool) (he : L[i].w % 2 = 1) :
    Calls Tryz.prog 69 #[.pointer (some ⟨A, 0, none⟩), .int .i64 ((i : Int) + 1), .bool ch] W fun e w' => e = .returned (.int .i64 0) ∧ w' = W.setCell ⟨g, i * 7, none⟩ (.int .u64 ((freeW L[i].w ch : Nat) : Int)) := by
  have HT := hide (rheld_any h ((i : Int) + 1))
  rw [heE_at L i hi, if_neg (by omega)] at HT
  obtain ⟨c0, c1, c2⟩ := h.cells
  have cw := h.wat i hi
  have fz := h.frozen (i * 7)
  have hx := (h.sl L[i] (List.getElem_mem hi)).w
  have hn := h.n_le
  generalize L[i].w = x at *
  clear h
  generalize L.length = n at *
  have j4 : (i : Int) < (n : Int) := by omega
  obtain ⟨id, hid⟩ : ∃ id, id = (i : Int) + 1 := ⟨_, rfl⟩
  rw [← hid] at HT ⊢
  have j3 : id - 1 = (i : Int) := by omega
  have j5 : id ≤ 65536 := by omega
  have j6 : 1 ≤ id := by omega
  obtain ⟨y, hy⟩ : ∃ y : Int, y = (x : Int) := ⟨_, rfl⟩
  rw [← hy] at cw
  cases ch with
  | true =>
    have HV : Hid (((freeW x true : Nat) : Int) = IntKind.u64.wrap (y + 1)) := by
      show _ = _
      rw [IntKind.wrap_u64]
      unfold freeW
      simp only [if_true]
      omega
    rw [HV.out]
    clear hid hy he hx HV
    go_enter Tryz.func69, Tryz.ntmps69
    go_wp2_with fail
    refine keep HT.out ?_
    go_wp2_with fail
    go_ret
    exact ⟨rfl, by first | rfl | (simp only [IntKind.wrap_u64])⟩
  | false =>
    have HV : Hid (((freeW x false : Nat) : Int) = y - 1) := by
      show _ = _
      unfold freeW
      rw [if_neg (by decide)]
      omega
    rw [HV.out]
    have k0 : 1 ≤ y := by omega
    have k1 : y < 18446744073709551616 := by omega
    clear hid hy he hx HV
    go_enter Tryz.func69, Tryz.ntmps69
    go_wp2_with fail
    refine keep HT.out ?_
    go_wp2_with fail
    go_ret
    exact ⟨rfl, by go_num⟩
set_option maxHeartbeats 800000 in
theorem rgrow_none (h : RA W A g c M D nodes root L) (old id : Int) (hi : ¬ (1 ≤ id ∧ id ≤ (L.length : Nat))) :
    Calls Tryz.prog 75 #[.pointer (some ⟨A, 0, none⟩), .int .i64 old, .int .i64 id] W fun e w' => e = .returned (.tuple #[.bool false, .int .i64 101]) ∧ w' = W := by
  have HT := hide (there_no h id hi)
  clear h hi
  go_enter Tryz.func75, Tryz.ntmps75
  go_wp2_with fail
  refine keep HT.out ?_
  go_wp2_with fail
  go_ret2
  exact ⟨rfl, rfl⟩
set_option maxHeartbeats 800000 in
theorem rgrow_no (h : RA W A g c M D nodes root L) (old id : Int) (hi : 1 ≤ id ∧ id ≤ (L.length : Nat)) (hr : ¬ root = old) :
    Calls Tryz.prog 75 #[.pointer (some ⟨A, 0, none⟩), .int .i64 old, .int .i64 id] W fun e w' => e = .returned (.tuple #[.bool false, .int .i64 0]) ∧ w' = W := by
  have HT := hide (there_any h id)
  rw [decide_eq_true hi] at HT
  obtain ⟨c0, c1, c2⟩ := h.cells
  clear h hi
  go_enter Tryz.func75, Tryz.ntmps75
  go_wp2_with fail
  refine keep HT.out ?_
  go_wp2_with fail
  go_ret2
  exact ⟨rfl, rfl⟩
set_option maxHeartbeats 800000 in
theorem rgrow_yes (h : RA W A g c M D nodes root L) (id : Int) (hi : 1 ≤ id ∧ id ≤ (L.length : Nat)) :
    Calls Tryz.prog 75 #[.pointer (some ⟨A, 0, none⟩), .int .i64 root, .int .i64 id] W fun e w' => e = .returned (.tuple #[.bool true, .int .i64 0]) ∧ w' = W.setCell ⟨A, 2, none⟩ (.int .i64 id) := by
  have HT := hide (there_any h id)
  rw [decide_eq_true hi] at HT
  obtain ⟨c0, c1, c2⟩ := h.cells
  have f2 := frozen_of h.a 2
  clear h hi
  go_enter Tryz.func75, Tryz.ntmps75
  go_wp2_with fail
  refine keep HT.out ?_
  go_wp2_with fail
  go_ret2
  exact ⟨rfl, rfl⟩
end

set_option maxHeartbeats 800000 in
theorem rnew_bad (nodes : Int) (w : World) (h : ¬ (1 ≤ nodes ∧ nodes ≤ 65536)) : Calls Tryz.prog 60 #[.int .i64 nodes] w fun e w' => e = .returned (.tuple #[.pointer none, .int .i64 1]) ∧ w' = w := by
  by_cases h1 : nodes < 1
  · clear h
    go_enter Tryz.func60, Tryz.ntmps60
    go_wp2_with fail
    go_ret2
    exact ⟨rfl, rfl⟩
  · have h2 : 65536 < nodes := by omega
    clear h
    go_enter Tryz.func60, Tryz.ntmps60
    go_wp2_with fail
    go_ret2
    exact ⟨rfl, rfl⟩
def RNewPost (w : World) (nodes : Int) (e : Ending) (w' : World) : Prop :=
  ∃ A g c M, e = .returned (.tuple #[.pointer (some ⟨A, 0, none⟩), .int .i64 0]) ∧ RA w' A g c M Noth nodes 1 [⟨0, Nd.zero⟩] ∧ (∀ k, M k → w.heap.size ≤ k) ∧ Below w.heap.size w w'
set_option maxHeartbeats 800000 in
theorem rnew_good (nodes : Int) (w : World) (h1 : 1 ≤ nodes) (h2 : nodes ≤ 65536) : Calls Tryz.prog 60 #[.int .i64 nodes] w (RNewPost w nodes) := by
  have j1 : ¬ nodes < 1 := by omega
  have j2 : ¬ 65536 < nodes := by omega
  obtain ⟨w1, hw1⟩ : ∃ w1, w1 = w.alloc (.cells #[.int .u64 0, .int .i64 0, .slice none 0 0, .int .i64 0, .slice none 0 0, .slice none 0 0, .slice none 0 0] 76) := ⟨_, rfl⟩
  obtain ⟨w3, hw3⟩ : ∃ w3, w3 = w1.alloc (.cells #[.int .i64 nodes, .slice (some ⟨w.heap.size, 0, none⟩) 1 1, .int .i64 1] 79) := ⟨_, rfl⟩
  have s1 : w1.heap.size = w.heap.size + 1 := by rw [hw1]; simp
  have s3 : w3.heap.size = w.heap.size + 2 := by rw [hw3]; simp [s1]
  have a1 : w3.heap[w.heap.size]? = some (.cells #[.int .u64 0, .int .i64 0, .slice none 0 0, .int .i64 0, .slice none 0 0, .slice none 0 0, .slice none 0 0] 76 (0, 0)) := by
    rw [hw3, Below.heap_alloc _ _ _ (by omega), hw1]; exact heap_alloc_new w _
  have a3 : w3.heap[w.heap.size + 1]? = some (.cells #[.int .i64 nodes, .slice (some ⟨w.heap.size, 0, none⟩) 1 1, .int .i64 1] 79 (0, 0)) := by
    rw [hw3, ← s1]; exact heap_alloc_new w1 _
  have B : Below w.heap.size w w3 := by
    rw [hw3, hw1]
    exact ((Below.refl _ _).alloc (Nat.le_refl _) _).alloc (by simp) _
  have HP : Hid (RNewPost w nodes (.returned (.tuple #[.pointer (some ⟨w.heap.size + 1, 0, none⟩), .int .i64 0])) w3) := by
    refine ⟨w.heap.size + 1, w.heap.size, 1, fun k => w.heap.size ≤ k ∧ k < w.heap.size + 2, rfl, ⟨a3, ⟨rfl, .inr ⟨w.heap.size, 1, _, rfl, Nat.zero_le _, a1, Nat.le_refl _, by unfold maxLen; omega, rfl, rfl⟩⟩, ⟨by omega, by omega⟩, ⟨by omega, by omega⟩, ?_, fun k _ e => e, ?_, Nat.le_refl _, h1, h2⟩, fun k hk => hk.1, B⟩
    · intro k hk
      rcases hk with hk | hk
      · omega
      · exact hk.elim
    · intro s hs
      obtain rfl := List.mem_singleton.1 hs
      exact ⟨Nd.zero_ok _, Nd.zero_in _, by simp only; decide⟩
  have HW : Hid (w3 = (w.alloc (.cells #[.int .u64 0, .int .i64 0, .slice none 0 0, .int .i64 0, .slice none 0 0, .slice none 0 0, .slice none 0 0] 76)).alloc (.cells #[.int .i64 nodes, .slice (some ⟨w.heap.size, 0, none⟩) 1 1, .int .i64 1] 79)) := by
    show _ = _
    rw [hw3, hw1]
  clear s1 s3 a1 a3 B hw1 hw3 h1 h2
  go_enter Tryz.func60, Tryz.ntmps60
  go_wp2_with fail
  go_ret2
  rw [← HW.out]
  exact HP.out

section
variable {W : World} {A g c : Nat} {M D : Nat → Prop} {nodes root : Int} {L : List RS}
def RAlPost (w : World) (A : Nat) (M D : Nat → Prop) (nodes root : Int) (L : List RS) (e : Ending) (w' : World) : Prop :=
  ∃ g' c' M', e = .returned (.tuple #[.int .i64 ((L.length : Int) + 1), .int .i64 0]) ∧ RA w' A g' c' M' D nodes root (L ++ [⟨1, Nd.zero⟩]) ∧ (∀ k, M' k → M k ∨ w.heap.size ≤ k) ∧ Upd M w w'
theorem infoR' : (Tryz.prog.info? 76).map (fun i => (i.zero, i.size, i.bytes)) = some (some (.agg #[.int .u64 0, .int .i64 0, .slice none 0 0, .int .i64 0, .slice none 0 0, .slice none 0 0, .slice none 0 0]), 7, 120) := by kernel_rfl
theorem seven_new (w : World) (a0 a1 a2 a3 a4 a5 a6 : Value) (T : TypeId) : ∀ j u, [a0, a1, a2, a3, a4, a5, a6][j]? = some u → (w.alloc (.cells #[a0, a1, a2, a3, a4, a5, a6] T)).cell? ((⟨w.heap.size, 0, none⟩ : Addr).add j) = some u := by
  intro j u hu
  rw [Addr.add_lit, Nat.zero_add, cell_of_row _ _ _ _ _ _ (heap_alloc_new w _), ← Array.getElem?_toList]
  exact hu
set_option maxHeartbeats 800000 in
theorem ralloc_full (h : RA W A g c M D nodes root L) (hn : (L.length : Int) = nodes) :
    Calls Tryz.prog 64 #[.pointer (some ⟨A, 0, none⟩)] W fun e w' => e = .returned (.tuple #[.int .i64 0, .int .i64 2]) ∧ ∃ k, w' = W.drewN k := by
  obtain ⟨c0, c1, c2⟩ := h.cells
  clear h
  generalize L.length = n at *
  subst hn
  go_enter Tryz.func64, Tryz.ntmps64
  go_wp2_with fail
  go_quiet (fail)
  go_wp2_with fail
  go_ret2
  exact ⟨rfl, _, rfl⟩
set_option maxRecDepth 100000 in
set_option maxHeartbeats 1600000 in
theorem ralloc_any (h : RA W A g c M D nodes root L) (hn : (L.length : Int) < nodes) :
    Calls Tryz.prog 64 #[.pointer (some ⟨A, 0, none⟩)] W (RAlPost W A M D nodes root L) := by
  obtain ⟨i0, hi, hz0, hz1, hz2⟩ := info_parts infoR'
  obtain ⟨c0, c1, c2⟩ := h.cells
  have hl6 := h.n_le
  have HP := hide h
  have HN := hide hn
  obtain ⟨n, hln⟩ : ∃ n, L.length = n := ⟨_, rfl⟩
  rw [hln] at hn c1 hl6
  have j1 : ¬ nodes ≤ (n : Int) := by omega
  have HLN := hide hln
  clear h hln hn
  go_enter Tryz.func64, Tryz.ntmps64
  go_wp2_with fail
  go_quiet (fail)
  obtain ⟨w1, hk⟩ : ∃ w1, w1 = W.drewN nq := ⟨_, rfl⟩
  have P1 : Hid (RA w1 A g c M D nodes root L) := by show RA _ _ _ _ _ _ _ _ _; rw [hk]; exact HP.out.drewN nq
  have U1 : Hid (Upd M W w1) := by show Upd _ _ _; rw [hk]; exact upd_drewN _ _ _
  have Z1 : Hid (w1.heap.size = W.heap.size) := by show _ = _; rw [hk]; rfl
  rw [← hk]
  clear hk c0 c1 c2 HP
  obtain ⟨c0, c1, c2⟩ := P1.out.cells
  rw [HLN.out] at c1
  have HO4 : Hid ((w1.alloc (.cells #[.int .u64 1, .int .i64 0, .slice none 0 0, .int .i64 0, .slice none 0 0, .slice none 0 0, .slice none 0 0] 76)).ownsRow 0 76 7 (.slice (some ⟨g, 0, none⟩) n c) n (L.flatMap RS.cells)) := by
    show World.ownsRow _ _ _ _ _ _ _
    rw [← HLN.out]
    exact owns_blkN P1.out.row (fun k hk => by cases hk; exact Below.heap_alloc _ _ _ (P1.out.lt g (.inl P1.out.mg)))
  have HA4 : Hid ((w1.alloc (.cells #[.int .u64 1, .int .i64 0, .slice none 0 0, .int .i64 0, .slice none 0 0, .slice none 0 0, .slice none 0 0] 76)).heap[A]? = _) := (Below.heap_alloc _ _ _ (lt_of_block P1.out.a)).trans P1.out.a
  have HPB := hide (seven_new w1 (.int .u64 1) (.int .i64 0) (.slice none 0 0) (.int .i64 0) (.slice none 0 0) (.slice none 0 0) (.slice none 0 0) 76)
  go_wp2_with (first
    | (at_builtin; refine append_mineN rfl (.tmp 18) (.tmp 20) 77 rfl 0 76 i0 (.agg #[.int .u64 0, .int .i64 0, .slice none 0 0, .int .i64 0, .slice none 0 0, .slice none 0 0, .slice none 0 0]) 7 120 Tryz.underlying77 hi hz0 hz1 hz2 rfl (by decide) (.slice (some ⟨g, 0, none⟩) n c) n (L.flatMap RS.cells) rfl HO4.out ⟨w1.heap.size, 0, none⟩ 1 1 [.int .u64 1, .int .i64 0, .slice none 0 0, .int .i64 0, .slice none 0 0, .slice none 0 0, .slice none 0 0] rfl rfl HPB.out (by intro u hu; simp at hu; rcases hu with rfl | rfl | rfl | rfl | rfl | rfl | rfl <;> rfl) (by omega) (by unfold maxLen; omega) (by omega) (Nat.zero_le _) ?_; intro g' c' w5 hown5 hg5 hor5; have HA5 := hide ((hg5.block A (lt_of_block HA4.out) (fun e => P1.out.ne (Option.some.inj e).symm)).trans HA4.out); have HOW5 := hide hown5; have HG5 := hide hg5; have HOR5 := hide hor5; clear hown5 hg5 hor5; have f5 := frozen_of HA5.out 1; have c5 : w5.cell? ⟨A, 1, none⟩ = some (.slice (some ⟨g, 0, none⟩) n c) := (by rw [cell_of_row _ _ _ _ _ _ HA5.out, ← HLN.out]; rfl))
    | fail)
  obtain ⟨w6, hw6⟩ : ∃ w6, w6 = w5.setCell ⟨A, 1, none⟩ (.slice (some ⟨g', 0, none⟩) (n + 1) c') := ⟨_, rfl⟩
  have hA6 : w6.heap[A]? = some (.cells #[.int .i64 nodes, .slice (some ⟨g', 0, none⟩) (n + 1) c', .int .i64 root] 79 (0, 0)) := by rw [hw6]; exact block_setCell HA5.out 1 _
  have U15 : Upd M w1 w5 := ((Upd.refl M w1).alloc _).trans (Upd.of_grown HG5.out (fun k hk _ => by cases hk; exact P1.out.mg))
  have U16 : Upd M w1 w6 := by rw [hw6]; exact U15.setCell _ _ (fun _ => P1.out.mA)
  have ho6 : w6.ownsRow 0 76 7 (.slice (some ⟨g', 0, none⟩) (n + 1) c') (n + 1) (L.flatMap RS.cells ++ RS.cells ⟨1, Nd.zero⟩) := by
    rw [hw6]
    refine owns_blkN HOW5.out (fun k hk => Below.heap_setCell _ _ _ _ (fun e => ?_))
    cases hk
    rcases HOW5.out.2 with ⟨hv, _⟩ | ⟨g2, c2, cur, hv, _, hh, _⟩
    · cases hv
    · cases hv
      have e' : g' = A := e
      rw [e', HA5.out] at hh
      simp at hh
  have hor : M g' ∨ w1.heap.size ≤ g' := by
    rcases HOR5.out with h | h
    · cases h; exact .inl P1.out.mg
    · right; simp at h; omega
  have HF : Hid (RAlPost W A M D nodes root L (.returned (.tuple #[.int .i64 ((n : Int) + 1), .int .i64 0])) w6) := by
    refine ⟨g', c', _, by rw [HLN.out], P1.out.push HN.out U16 (by rw [HLN.out]; exact hA6) (by rw [HLN.out]; exact ho6) hor ⟨Nd.zero_ok _, Nd.zero_in _, by simp only; decide⟩, ?_, U1.out.trans U16⟩
    intro k hk
    rcases hk with hk | hk
    · exact .inl hk
    · right; have := Z1.out; omega
  rw [← hw6]
  clear hw6 hA6 U15 U16 ho6 hor
  go_ret2
  exact HF.out

set_option maxRecDepth 100000 in
set_option maxHeartbeats 1600000 in
theorem rheldL_any (h : RA W A g c M D nodes root L) :
    Calls Tryz.prog 49 #[.pointer (some ⟨A, 0, none⟩)] W (HeldPost W (heldL (L.map (·.w)))) := by
  obtain ⟨i0, hi, hz0, hz1, hz2⟩ := info_parts infoI
  have hn := h.n_le
  have HP : Hid (∀ W', Below W.heap.size W W' → RA W' A g c M D nodes root L) := fun W' hb => h.below hb
  obtain ⟨ws, hws⟩ : ∃ ws, ws = L.map (·.w) := ⟨_, rfl⟩
  have HWS : Hid (∀ i (hi : i < L.length), ws.getD i 0 = L[i].w) := fun i hi => by rw [hws]; simp [hi]
  have HLW : Hid (ws.length = L.length) := by show _ = _; rw [hws]; simp
  rw [← hws]
  obtain ⟨n, hln⟩ : ∃ n, L.length = n := ⟨_, rfl⟩
  rw [hln] at hn
  have HLN := hide hln
  have HF : Hid (heldL ws = heldN ws n) := by show _ = _; unfold heldL; rw [HLW.out, hln]
  rw [HF.out]
  clear h hws hln
  go_enter Tryz.func49, Tryz.ntmps49
  go_wp2_with fail
  go_loopw [3, 4] (fun q3 q4 wr => ∃ i : Nat, i ≤ n ∧ q4 = .int .i64 (i : Int) ∧ ∃ k, Hid (wr.ownsRow W.heap.size 3 1 q3 k ((heldN ws i).map (Value.int .i64)) ∧ k = (heldN ws i).length ∧ Below W.heap.size W wr)) (fun _ q4 _ => n - (intOf q4).toNat)
  case atStart => exact ⟨0, Nat.zero_le _, rfl, 0, World.ownsRow_nil _ _ _ _, rfl, Below.refl _ _⟩
  case round =>
    obtain ⟨i, hin, rfl, k, HB⟩ := hrel
    rename World => wr
    have P := HP.out wr HB.out.2.2
    obtain ⟨c0, c1, c2⟩ := P.cells
    rw [HLN.out] at c1
    by_cases hlt : i < n
    · have j1 : (i : Int) < (n : Int) := by omega
      have hiL : i < L.length := by rw [HLN.out]; exact hlt
      have cw := P.wat i hiL
      have hE := heldN_succ ws i
      rw [HWS.out i hiL] at hE
      generalize L[i].w = x at *
      have HE := hide hE
      have hkl := heldN_len ws i
      rw [← HB.out.2.1] at hkl
      have hk6 : k ≤ 65536 := by omega
      clear P hE hkl
      obtain ⟨hown, hkk, hB⟩ := HB.out
      have HOW := hide hown
      have HKK := hide hkk
      have HBB := hide hB
      clear HB hown hkk hB
      obtain ⟨y, hy⟩ : ∃ y : Int, y = (x : Int) := ⟨_, rfl⟩
      rw [← hy] at cw
      have y0 : 0 ≤ y := by omega
      rcases Nat.mod_two_eq_zero_or_one x with ex | ex
      · have y1 : y % 2 = 0 := by omega
        rw [if_neg (by omega)] at HE
        clear ex hy
        go_wp2_with fail
        go_roundw
        case rel => exact ⟨i + 1, by omega, by go_num, k, by rw [HE.out]; simpa using HOW.out, by rw [HE.out]; simpa using HKK.out, HBB.out⟩
        case measure => simp [intOf]; omega
      · have y1 : y % 2 = 1 := by omega
        rw [if_pos ex] at HE
        clear ex hy
        have j3 : (i : Int) + 1 ≤ 65536 := by omega
        go_wp2_with (first
          | (at_builtin; refine append_own_any rfl (.tmp 24) (.tmp 27) 57 rfl W.heap.size 3 i0 (.int .i64 0) 1 8 Tryz.underlying57 hi hz0 hz1 hz2 rfl (by decide) _ k ((heldN ws i).map (Value.int .i64)) rfl (HOW.out.alloc _) (some ⟨wr.heap.size, 0, none⟩) 1 1 [.int .i64 ((i : Int) + 1)] rfl rfl (by intro h; cases h) (fun ad had => by cases had; exact cell_one_new _ _ _) (by intro u hu; simp at hu; subst hu; rfl) (by unfold maxLen; omega) (by omega) (by have := HBB.out.size; simp; omega) ?_; intro v5 w5 hown5 hg5; have HO5 := hide hown5; have HG5 := hide hg5; clear hown5 hg5)
          | fail)
        go_roundw
        case rel =>
          refine ⟨i + 1, by omega, by go_num, k + 1, ?_, ?_, ?_⟩
          · rw [HE.out, List.map_append]; exact HO5.out
          · rw [HE.out, List.length_append, ← HKK.out]; rfl
          · exact (HBB.out.alloc HBB.out.size _).grown HG5.out (by have := HBB.out.size; simp; omega) (fun b hb => (HOW.out.lt b hb).1)
        case measure => simp [intOf]; omega
    · have j1 : ¬ (i : Int) < (n : Int) := by omega
      obtain rfl : i = n := by omega
      go_wp2_with fail
      go_ret
      exact ⟨_, rfl, by rw [← HB.out.2.1]; exact HB.out.1, HB.out.2.2⟩
end

end Go.Proofs.YtibifkindpgkgaaGreat

namespace Go.Proofs.YtibifkindpgkgaaGreat
open Go.RowKit
set_option maxRecDepth 100000
section
variable {W : World} {A g c : Nat} {M D : Nat → Prop} {nodes root : Int} {L : List RS}
theorem RA.ncells (h : RA W A g c M D nodes root L) (i : Nat) (hi : i < L.length) :
    W.cell? ⟨g, i * 7 + 1, none⟩ = some (.int .i64 L[i].n.lv) ∧ W.cell? ⟨g, i * 7 + 2, none⟩ = some L[i].n.hi.v ∧ W.cell? ⟨g, i * 7 + 3, none⟩ = some (.int .i64 L[i].n.ri) ∧ W.cell? ⟨g, i * 7 + 4, none⟩ = some L[i].n.ks.v ∧ W.cell? ⟨g, i * 7 + 5, none⟩ = some L[i].n.vs.v ∧ W.cell? ⟨g, i * 7 + 6, none⟩ = some L[i].n.cs.v :=
  ⟨h.at_ i hi 1 (by omega), h.at_ i hi 2 (by omega), h.at_ i hi 3 (by omega), h.at_ i hi 4 (by omega), h.at_ i hi 5 (by omega), h.at_ i hi 6 (by omega)⟩

set_option maxRecDepth 100000 in
set_option maxHeartbeats 1600000 in
theorem rhead_none (h : RA W A g c M D nodes root L) (id : Int) (hi : ¬ (1 ≤ id ∧ id ≤ (L.length : Nat))) :
    Calls Tryz.prog 98 #[.pointer (some ⟨A, 0, none⟩), .int .i64 id] W fun e w' => e = .returned (.tuple #[.agg #[.int .i64 0, .slice none 0 0, .int .i64 0], .int .i64 101]) ∧ Below W.heap.size W w' := by
  obtain ⟨w0, hw0⟩ : ∃ w0, w0 = W.alloc (.cells #[.int .i64 0, .slice none 0 0, .int .i64 0] 55) := ⟨_, rfl⟩
  have b0 : Below W.heap.size W w0 := by rw [hw0]; exact (Below.refl _ _).alloc (Nat.le_refl _) _
  have g0 : w0.heap[W.heap.size]? = some (.cells #[.int .i64 0, .slice none 0 0, .int .i64 0] 55 (0, 0)) := by rw [hw0]; exact heap_alloc_new W _
  have HS := hide (there_no (h.below b0) id hi)
  obtain ⟨c0, c1, c2⟩ := Tri.of g0
  have F0 := fun j => frozen_of g0 j
  have G0 := hide g0
  have B0 := hide b0
  have HW := hide hw0
  clear h hi g0 b0 hw0
  go_enter Tryz.func98, Tryz.ntmps98
  go_wp2_with fail
  rw [← HW.out]
  refine keep HS.out ?_
  go_wp2_with fail
  (try simp only [Exit.inBlock, Exit.then])
  have G6 := tri_block G0.out (.int .i64 0) (.slice none 0 0) (.int .i64 0)
  have U6 : Upd (fun b => b = W.heap.size) w0 (tri3 w0 W.heap.size (.int .i64 0) (.slice none 0 0) (.int .i64 0)) := tri_upd _ _ _ _ _ _ rfl
  obtain ⟨q0, q1, q2⟩ := Tri.of G6
  show bodyPost _ _ _ _ _ (tri3 w0 W.heap.size (.int .i64 0) (.slice none 0 0) (.int .i64 0))
  generalize tri3 w0 W.heap.size (.int .i64 0) (.slice none 0 0) (.int .i64 0) = w6 at *
  refine bodyPost_ret (v := .tuple #[.agg #[.int .i64 0, .slice none 0 0, .int .i64 0], .int .i64 101]) (by simp [results, Tryz.results98, go_sem, q0, q1, q2]) rfl ⟨rfl, ?_⟩
  exact B0.out.trans (U6.below (by have := B0.out.size; omega) (fun k hk e => by omega))
set_option maxRecDepth 100000 in
set_option maxHeartbeats 1600000 in
theorem rbody_none (h : RA W A g c M D nodes root L) (id : Int) (hi : ¬ (1 ≤ id ∧ id ≤ (L.length : Nat))) :
    Calls Tryz.prog 99 #[.pointer (some ⟨A, 0, none⟩), .int .i64 id] W fun e w' => e = .returned (.tuple #[.agg #[.slice none 0 0, .slice none 0 0, .slice none 0 0], .int .i64 101]) ∧ Below W.heap.size W w' := by
  obtain ⟨w0, hw0⟩ : ∃ w0, w0 = W.alloc (.cells #[.slice none 0 0, .slice none 0 0, .slice none 0 0] 59) := ⟨_, rfl⟩
  have b0 : Below W.heap.size W w0 := by rw [hw0]; exact (Below.refl _ _).alloc (Nat.le_refl _) _
  have g0 : w0.heap[W.heap.size]? = some (.cells #[.slice none 0 0, .slice none 0 0, .slice none 0 0] 59 (0, 0)) := by rw [hw0]; exact heap_alloc_new W _
  have HS := hide (there_no (h.below b0) id hi)
  obtain ⟨c0, c1, c2⟩ := Tri.of g0
  have F0 := fun j => frozen_of g0 j
  have G0 := hide g0
  have B0 := hide b0
  have HW := hide hw0
  clear h hi g0 b0 hw0
  go_enter Tryz.func99, Tryz.ntmps99
  go_wp2_with fail
  rw [← HW.out]
  refine keep HS.out ?_
  go_wp2_with fail
  (try simp only [Exit.inBlock, Exit.then])
  have G6 := tri_block G0.out (.slice none 0 0) (.slice none 0 0) (.slice none 0 0)
  have U6 : Upd (fun b => b = W.heap.size) w0 (tri3 w0 W.heap.size (.slice none 0 0) (.slice none 0 0) (.slice none 0 0)) := tri_upd _ _ _ _ _ _ rfl
  obtain ⟨q0, q1, q2⟩ := Tri.of G6
  show bodyPost _ _ _ _ _ (tri3 w0 W.heap.size (.slice none 0 0) (.slice none 0 0) (.slice none 0 0))
  generalize tri3 w0 W.heap.size (.slice none 0 0) (.slice none 0 0) (.slice none 0 0) = w6 at *
  refine bodyPost_ret (v := .tuple #[.agg #[.slice none 0 0, .slice none 0 0, .slice none 0 0], .int .i64 101]) (by simp [results, Tryz.results99, go_sem, q0, q1, q2]) rfl ⟨rfl, ?_⟩
  exact B0.out.trans (U6.below (by have := B0.out.size; omega) (fun k hk e => by omega))

set_option maxRecDepth 100000 in
set_option maxHeartbeats 1600000 in
theorem rhead_any (h : RA W A g c M D nodes root L) (i : Nat) (hi : i < L.length) :
    Calls Tryz.prog 98 #[.pointer (some ⟨A, 0, none⟩), .int .i64 ((i : Int) + 1)] W (HePost W L[i].n.lv L[i].n.ri L[i].n.hi.s.length L[i].n.hi.s) := by
  obtain ⟨w0, hw0⟩ : ∃ w0, w0 = W.alloc (.cells #[.int .i64 0, .slice none 0 0, .int .i64 0] 55) := ⟨_, rfl⟩
  have b0 : Below W.heap.size W w0 := by rw [hw0]; exact (Below.refl _ _).alloc (Nat.le_refl _) _
  have z0 : w0.heap.size = W.heap.size + 1 := by rw [hw0]; simp
  have g0 : w0.heap[W.heap.size]? = some (.cells #[.int .i64 0, .slice none 0 0, .int .i64 0] 55 (0, 0)) := by rw [hw0]; exact heap_alloc_new W _
  have h0 := h.below b0
  have HS := hide (there_yes h0 i hi)
  have ho := h0.sl L[i] (List.getElem_mem hi)
  obtain ⟨k1, k2, k3, k4, k5, k6⟩ := h0.ncells i hi
  obtain ⟨_, c1, _⟩ := h0.cells
  have HCL := hide (rclone_any L[i].n w0 ho.n)
  have hn := h0.n_le
  generalize L[i].n = nd at *
  obtain ⟨lv, ⟨ha, hc, hs⟩, ri, ⟨ka, kc, K⟩, ⟨va, vc, V⟩, ⟨ca, cc, C⟩⟩ := nd
  clear ho h0 h
  simp only [Nd.v, Tx.v, TL.v, IL.v] at k1 k2 k3 k4 k5 k6 HCL ⊢
  generalize L.length = n at *
  have j4 : (i : Int) < (n : Int) := by omega
  obtain ⟨id, hid⟩ : ∃ id, id = (i : Int) + 1 := ⟨_, rfl⟩
  rw [← hid] at HS ⊢
  have j3 : id - 1 = (i : Int) := by omega
  have j5 : id ≤ 65536 := by omega
  have j6 : 1 ≤ id := by omega
  obtain ⟨lh, hlh⟩ : ∃ lh, hs.length = lh := ⟨_, rfl⟩
  rw [hlh] at k2 HCL ⊢
  have HLH := hide hlh
  generalize K.length = lk at *
  generalize V.length = lw at *
  generalize C.length = lc at *
  have G0 := hide g0
  have B0 := hide b0
  have HW := hide hw0
  have Z0 := hide z0
  clear g0 b0 hw0 hid hlh z0
  go_enter Tryz.func98, Tryz.ntmps98
  go_wp2_with fail
  rw [← HW.out]
  refine keep HS.out ?_
  go_wp2_with fail
  refine HCL.out.mono ?_
  rintro e w2 ⟨⟨lv', ⟨na, nc, ns⟩, ri', ⟨kn, kd, K'⟩, ⟨vn, vd, V'⟩, ⟨cn, cd, C'⟩⟩, N1, N2, rfl, hp, hown, hb2, _, _, _, _, _⟩
  simp only [Nd.p, NP.mk.injEq] at hp
  obtain ⟨rfl, rfl, rfl, _, _, _⟩ := hp
  have hv2 : OwnB w2 w0.heap.size 5 (.slice na lh nc) ns := by have := hown.h; simp only [Tx.v, HLH.out] at this; exact this
  have G2 : Hid (w2.heap[W.heap.size]? = some (.cells #[.int .i64 0, .slice none 0 0, .int .i64 0] 55 (0, 0))) := (hb2.block _ (lt_of_block G0.out)).trans G0.out
  have V2 := hide hv2
  have B2 := hide hb2
  simp only [Nd.v, Tx.v, TL.v, IL.v, HLH.out]
  clear hv2 hown hb2 HCL
  generalize K'.length = lk' at *
  generalize V'.length = lw' at *
  generalize C'.length = lc' at *
  obtain ⟨w3, hw3⟩ : ∃ w3, w3 = w2.alloc (.cells #[.int .i64 lv', .slice na lh nc, .int .i64 ri', .slice kn lk' kd, .slice vn lw' vd, .slice cn lc' cd] 61) := ⟨_, rfl⟩
  have b3 : Below w2.heap.size w2 w3 := by rw [hw3]; exact (Below.refl _ _).alloc (Nat.le_refl _) _
  have G3 : Hid (w3.heap[W.heap.size]? = some (.cells #[.int .i64 0, .slice none 0 0, .int .i64 0] 55 (0, 0))) := (b3.block _ (lt_of_block G2.out)).trans G2.out
  have g3 := G3.out
  rw [hw3] at g3
  obtain ⟨y0, y1, y2⟩ := Tri.of g3
  have F3 := fun j => frozen_of g3 j
  have HW3 := hide hw3
  have B3 := hide b3
  clear hw3 b3 g3
  go_wp2_with fail
  (try simp only [Exit.inBlock, Exit.then])
  rw [← HW3.out]
  have G6 := tri_block G3.out (.int .i64 lv') (.slice na lh nc) (.int .i64 ri')
  have U6 : Upd (fun b => b = W.heap.size) w3 (tri3 w3 W.heap.size (.int .i64 lv') (.slice na lh nc) (.int .i64 ri')) := tri_upd _ _ _ _ _ _ rfl
  obtain ⟨q0, q1, q2⟩ := Tri.of G6
  show bodyPost _ _ _ _ _ (tri3 w3 W.heap.size (.int .i64 lv') (.slice na lh nc) (.int .i64 ri'))
  generalize tri3 w3 W.heap.size (.int .i64 lv') (.slice na lh nc) (.int .i64 ri') = w6 at *
  have zz := Z0.out
  have b02 := B0.out.trans (B2.out.mono B0.out.size)
  have b03 := b02.trans (B3.out.mono b02.size)
  refine bodyPost_ret (v := .tuple #[.agg #[.int .i64 lv', .slice na lh nc, .int .i64 ri'], .int .i64 0]) (by simp [results, Tryz.results98, go_sem, q0, q1, q2]) rfl ⟨na, nc, rfl, ?_, ?_⟩
  · exact (ownB_upd' (V2.out.below B3.out) U6 (fun b h1 h2 h3 => by omega)).mono (by omega)
  · exact b03.trans (U6.below (by have := b03.size; omega) (fun k hk e => by omega))
set_option maxRecDepth 100000 in
set_option maxHeartbeats 1600000 in
theorem rbody_any (h : RA W A g c M D nodes root L) (i : Nat) (hi : i < L.length) :
    Calls Tryz.prog 99 #[.pointer (some ⟨A, 0, none⟩), .int .i64 ((i : Int) + 1)] W (BoPost W L[i].n.ks.L.length L[i].n.vs.L.length L[i].n.cs.s.length L[i].n.ks.L L[i].n.vs.L L[i].n.cs.s) := by
  obtain ⟨w0, hw0⟩ : ∃ w0, w0 = W.alloc (.cells #[.slice none 0 0, .slice none 0 0, .slice none 0 0] 59) := ⟨_, rfl⟩
  have b0 : Below W.heap.size W w0 := by rw [hw0]; exact (Below.refl _ _).alloc (Nat.le_refl _) _
  have z0 : w0.heap.size = W.heap.size + 1 := by rw [hw0]; simp
  have g0 : w0.heap[W.heap.size]? = some (.cells #[.slice none 0 0, .slice none 0 0, .slice none 0 0] 59 (0, 0)) := by rw [hw0]; exact heap_alloc_new W _
  have h0 := h.below b0
  have HS := hide (there_yes h0 i hi)
  have ho := h0.sl L[i] (List.getElem_mem hi)
  obtain ⟨k1, k2, k3, k4, k5, k6⟩ := h0.ncells i hi
  obtain ⟨_, c1, _⟩ := h0.cells
  have HCL := hide (rclone_any L[i].n w0 ho.n)
  have hn := h0.n_le
  generalize L[i].n = nd at *
  obtain ⟨lv, ⟨ha, hc, hs⟩, ri, ⟨ka, kc, K⟩, ⟨va, vc, V⟩, ⟨ca, cc, C⟩⟩ := nd
  clear ho h0 h
  simp only [Nd.v, Tx.v, TL.v, IL.v] at k1 k2 k3 k4 k5 k6 HCL ⊢
  generalize L.length = n at *
  have j4 : (i : Int) < (n : Int) := by omega
  obtain ⟨id, hid⟩ : ∃ id, id = (i : Int) + 1 := ⟨_, rfl⟩
  rw [← hid] at HS ⊢
  have j3 : id - 1 = (i : Int) := by omega
  have j5 : id ≤ 65536 := by omega
  have j6 : 1 ≤ id := by omega
  obtain ⟨lk, hlk⟩ : ∃ lk, K.length = lk := ⟨_, rfl⟩
  obtain ⟨lw, hlw⟩ : ∃ lw, V.length = lw := ⟨_, rfl⟩
  obtain ⟨lc, hlc⟩ : ∃ lc, C.length = lc := ⟨_, rfl⟩
  rw [hlk] at k4
  rw [hlw] at k5
  rw [hlc] at k6
  rw [hlk, hlw, hlc] at HCL ⊢
  have HLK := hide hlk
  have HLW := hide hlw
  have HLC := hide hlc
  clear hlk hlw hlc
  generalize hs.length = lh at *
  have G0 := hide g0
  have B0 := hide b0
  have HW := hide hw0
  have Z0 := hide z0
  clear g0 b0 hw0 hid z0
  go_enter Tryz.func99, Tryz.ntmps99
  go_wp2_with fail
  rw [← HW.out]
  refine keep HS.out ?_
  go_wp2_with fail
  refine HCL.out.mono ?_
  rintro e w2 ⟨⟨lv', ⟨na, nc, ns⟩, ri', ⟨kn, kd, K'⟩, ⟨vn, vd, V'⟩, ⟨cn, cd, C'⟩⟩, N1, N2, rfl, hp, hown, hb2, _, _, _, _, _⟩
  simp only [Nd.p, NP.mk.injEq] at hp
  obtain ⟨rfl, rfl, rfl, hp1, hp2, rfl⟩ := hp
  have l1 : K'.length = lk := by have := congrArg List.length hp1; simp only [TL.p, List.length_map] at this; rw [this]; exact HLK.out
  have l2 : V'.length = lw := by have := congrArg List.length hp2; simp only [TL.p, List.length_map] at this; rw [this]; exact HLW.out
  have P1 : Hid (K'.map (·.s) = K.map (·.s) ∧ V'.map (·.s) = V.map (·.s) ∧ K'.length = lk ∧ V'.length = lw) := ⟨hp1, hp2, l1, l2⟩
  have hv2 := And.intro hown.k (And.intro hown.v hown.c)
  simp only [IL.v, HLC.out] at hv2
  have G2 : Hid (w2.heap[W.heap.size]? = some (.cells #[.slice none 0 0, .slice none 0 0, .slice none 0 0] 59 (0, 0))) := (hb2.block _ (lt_of_block G0.out)).trans G0.out
  have V2 := hide hv2
  have B2 := hide hb2
  simp only [Nd.v, Tx.v, TL.v, IL.v, l1, l2, HLC.out]
  clear hv2 hown hb2 HCL hp1 hp2 l1 l2
  generalize ns.length = lh' at *
  obtain ⟨w3, hw3⟩ : ∃ w3, w3 = w2.alloc (.cells #[.int .i64 lv', .slice na lh' nc, .int .i64 ri', .slice kn lk kd, .slice vn lw vd, .slice cn lc cd] 61) := ⟨_, rfl⟩
  have b3 : Below w2.heap.size w2 w3 := by rw [hw3]; exact (Below.refl _ _).alloc (Nat.le_refl _) _
  have G3 : Hid (w3.heap[W.heap.size]? = some (.cells #[.slice none 0 0, .slice none 0 0, .slice none 0 0] 59 (0, 0))) := (b3.block _ (lt_of_block G2.out)).trans G2.out
  have g3 := G3.out
  rw [hw3] at g3
  obtain ⟨y0, y1, y2⟩ := Tri.of g3
  have F3 := fun j => frozen_of g3 j
  have HW3 := hide hw3
  have B3 := hide b3
  clear hw3 b3 g3
  go_wp2_with fail
  (try simp only [Exit.inBlock, Exit.then])
  rw [← HW3.out]
  have G6 := tri_block G3.out (.slice kn lk kd) (.slice vn lw vd) (.slice cn lc cd)
  have U6 : Upd (fun b => b = W.heap.size) w3 (tri3 w3 W.heap.size (.slice kn lk kd) (.slice vn lw vd) (.slice cn lc cd)) := tri_upd _ _ _ _ _ _ rfl
  obtain ⟨q0, q1, q2⟩ := Tri.of G6
  show bodyPost _ _ _ _ _ (tri3 w3 W.heap.size (.slice kn lk kd) (.slice vn lw vd) (.slice cn lc cd))
  generalize tri3 w3 W.heap.size (.slice kn lk kd) (.slice vn lw vd) (.slice cn lc cd) = w6 at *
  have zz := Z0.out
  have b02 := B0.out.trans (B2.out.mono B0.out.size)
  have b03 := b02.trans (B3.out.mono b02.size)
  obtain ⟨p1, p2, p3, p4⟩ := P1.out
  refine bodyPost_ret (v := .tuple #[.agg #[.slice kn lk kd, .slice vn lw vd, .slice cn lc cd], .int .i64 0]) (by simp [results, Tryz.results99, go_sem, q0, q1, q2]) rfl ⟨kn, kd, K', vn, vd, V', cn, cd, rfl, p1, p2, p3, p4, ?_, ?_, ?_, ?_⟩
  · exact ((V2.out.1.below B3.out).upd U6 (fun b h1 h2 h3 => by omega)).mono (by omega)
  · exact ((V2.out.2.1.below B3.out).upd U6 (fun b h1 h2 h3 => by omega)).mono (by omega)
  · exact owns_mono (ownsI_upd (owns_below V2.out.2.2 B3.out) U6 (fun b h1 h2 h3 => by omega)) (by omega)
  · exact b03.trans (U6.below (by have := b03.size; omega) (fun k hk e => by omega))
end

end Go.Proofs.YtibifkindpgkgaaGreat

namespace Go.Proofs.YtibifkindpgkgaaGreat
open Go.RowKit
set_option maxRecDepth 100000
section
variable {W : World} {A g c : Nat} {M D : Nat → Prop} {nodes root : Int} {L : List RS}
def RSetPost (w : World) (A g c : Nat) (M D : Nat → Prop) (nodes root : Int) (L : List RS) (i x : Nat) (p : NP) (e : Ending) (w' : World) : Prop :=
  ∃ D' n, e = .returned (.int .i64 0) ∧ RA w' A g c M D' nodes root (L.set i ⟨x, n⟩) ∧ n.p = p ∧ (∀ k, D' k → D k ∨ w.heap.size ≤ k) ∧ Upd M w w'
/-- Three cells of a row's block. -/
def set3 (W : World) (b o : Nat) (x0 x1 x2 : Value) : World := ((W.setCell ⟨b, o, none⟩ x0).setCell ⟨b, o + 1, none⟩ x1).setCell ⟨b, o + 2, none⟩ x2
theorem set3_upd (S : Nat → Prop) (W : World) (b o : Nat) (x0 x1 x2 : Value) (h : S b) : Upd S W (set3 W b o x0 x1 x2) :=
  (((Upd.refl S W).setCell _ _ (fun _ => h)).setCell _ _ (fun _ => h)).setCell _ _ (fun _ => h)

set_option maxHeartbeats 800000 in
theorem rsetHead_not (h : RA W A g c M D nodes root L) (id lv ri : Int) (t : Tx) (hne : heE L id ≠ 0) :
    Calls Tryz.prog 71 #[.pointer (some ⟨A, 0, none⟩), .int .i64 id, .agg #[.int .i64 lv, t.v, .int .i64 ri]] W fun e w' => e = .returned (.int .i64 (heE L id)) ∧ Below W.heap.size W w' := by
  obtain ⟨ha, hc, hs⟩ := t
  simp only [Tx.v]
  obtain ⟨w0, hw0⟩ : ∃ w0, w0 = W.alloc (.cells #[.int .i64 lv, .slice ha hs.length hc, .int .i64 ri] 55) := ⟨_, rfl⟩
  have b0 : Below W.heap.size W w0 := by rw [hw0]; exact (Below.refl _ _).alloc (Nat.le_refl _) _
  have HO := hide (rheld_any (h.below b0) id)
  have B0 := hide b0
  have HW := hide hw0
  clear h b0 hw0
  generalize heE L id = er at *
  generalize hs.length = lh at *
  go_enter Tryz.func71, Tryz.ntmps71
  go_wp2_with fail
  rw [← HW.out]
  refine keep HO.out ?_
  go_wp2_with fail
  go_ret
  exact ⟨rfl, B0.out⟩
set_option maxHeartbeats 800000 in
theorem rsetBody_not (h : RA W A g c M D nodes root L) (id : Int) (k v : TL) (ci : IL) (hne : heE L id ≠ 0) :
    Calls Tryz.prog 73 #[.pointer (some ⟨A, 0, none⟩), .int .i64 id, .agg #[k.v, v.v, ci.v]] W fun e w' => e = .returned (.int .i64 (heE L id)) ∧ Below W.heap.size W w' := by
  obtain ⟨ka, kc, K⟩ := k
  obtain ⟨va, vc, V⟩ := v
  obtain ⟨ca, cc, C⟩ := ci
  simp only [TL.v, IL.v]
  obtain ⟨w0, hw0⟩ : ∃ w0, w0 = W.alloc (.cells #[.slice ka K.length kc, .slice va V.length vc, .slice ca C.length cc] 59) := ⟨_, rfl⟩
  have b0 : Below W.heap.size W w0 := by rw [hw0]; exact (Below.refl _ _).alloc (Nat.le_refl _) _
  have HO := hide (rheld_any (h.below b0) id)
  have B0 := hide b0
  have HW := hide hw0
  clear h b0 hw0
  generalize heE L id = er at *
  generalize K.length = lk at *
  generalize V.length = lw at *
  generalize C.length = lc at *
  go_enter Tryz.func73, Tryz.ntmps73
  go_wp2_with fail
  rw [← HW.out]
  refine keep HO.out ?_
  go_wp2_with fail
  go_ret
  exact ⟨rfl, B0.out⟩

theorem RA.drew_ (h : RA W A g c M D nodes root L) : RA W.drew A g c M D nodes root L :=
  h.upd (S := Noth) ⟨rfl, rfl, rfl, Nat.le_refl _, fun _ _ _ => rfl⟩ (fun _ _ e => e)
/-- The row behind three stores. -/
theorem RA.set3r {w3 : World} {D' : Nat → Prop} (h : RA w3 A g c M D nodes root L) (i : Nat) (hi : i < L.length) (o : Nat) (ho : o + 3 ≤ 7) (x0 x1 x2 : Value) (s1 s2 s : RS) (e1 : s1.cells = (L[i].cells).set o x0) (e2 : s2.cells = s1.cells.set (o + 1) x1) (e3 : s.cells = s2.cells.set (o + 2) x2)
    (hD : ∀ k, D k → D' k) (hlt : ∀ k, D' k → k < w3.heap.size) (hdj : ∀ k, M k → ¬ D' k) (hok : s.Ok w3 D') : RA (set3 w3 g (i * 7 + o) x0 x1 x2) A g c M D' nodes root (L.set i s) := by
  have hU : Upd (fun k => k = g) w3 (set3 w3 g (i * 7 + o) x0 x1 x2) := set3_upd _ _ _ _ _ _ _ rfl
  refine h.put s hU ?_ hD (fun k hk => Nat.lt_of_lt_of_le (hlt k hk) hU.size) hdj ⟨hok.n.upd hok.d hU (fun k hk e => hdj g h.mg (by rw [← e]; exact hk)), hok.d, hok.w⟩
  have r1 := row7_set h.row i hi o (by omega) x0 s1 e1
  have r2 := row7_set (L := L.set i s1) r1 i (by rw [List.length_set]; exact hi) (o + 1) (by omega) x1 s2 (by rw [List.getElem_set_self]; exact e2)
  rw [List.set_set] at r2
  have r3 := row7_set (L := L.set i s2) r2 i (by rw [List.length_set]; exact hi) (o + 2) (by omega) x2 s (by rw [List.getElem_set_self]; exact e3)
  rw [List.set_set] at r3
  exact r3

set_option maxRecDepth 100000 in
set_option maxHeartbeats 3200000 in
theorem rsetHead_any (h : RA W A g c M D nodes root L) (i : Nat) (hi : i < L.length) (he : L[i].w % 2 = 1) (lv ri : Int) (t : Tx) (ht : t.Ok W) :
    Calls Tryz.prog 71 #[.pointer (some ⟨A, 0, none⟩), .int .i64 ((i : Int) + 1), .agg #[.int .i64 lv, t.v, .int .i64 ri]] W (RSetPost W A g c M D nodes root L i L[i].w (L[i].n.p.setH lv t.s ri)) := by
  obtain ⟨w0, hw0⟩ : ∃ w0, w0 = W.alloc (.cells #[.int .i64 lv, t.v, .int .i64 ri] 55) := ⟨_, rfl⟩
  have b0 : Below W.heap.size W w0 := by rw [hw0]; exact (Below.refl _ _).alloc (Nat.le_refl _) _
  have g0 : w0.heap[W.heap.size]? = some (.cells #[.int .i64 lv, t.v, .int .i64 ri] 55 (0, 0)) := by rw [hw0]; exact heap_alloc_new W _
  have z0 : w0.heap.size = W.heap.size + 1 := by rw [hw0]; simp
  have HO := hide (rheld_any (h.below b0) ((i : Int) + 1))
  rw [heE_at L i hi, if_neg (by omega)] at HO
  have HCL := hide (rclone_any ⟨lv, t, ri, ⟨none, 0, []⟩, ⟨none, 0, []⟩, ⟨none, 0, []⟩⟩ w0 ⟨ht.below b0, TL.nil_ok _, TL.nil_ok _, IL.nil_ok _, Nat.zero_le _, Nat.zero_le _, Nat.zero_le _⟩)
  have HP := hide h
  have HI := hide hi
  have hn := h.n_le
  -- the end
  have HFIN : Hid (∀ w3 na nc, Below w0.heap.size w0 w3 → OwnB w3 w0.heap.size 5 (.slice na t.s.length nc) t.s → B8 t.s ∧ t.s.length ≤ 140737488351232 → RSetPost W A g c M D nodes root L i L[i].w (L[i].n.p.setH lv t.s ri) (.returned (.int .i64 0)) (set3 w3 g (i * 7 + 1) (.int .i64 lv) (.slice na t.s.length nc) (.int .i64 ri)).drew) := by
    intro w3 na nc hb hv h8
    have bel := b0.trans (hb.mono b0.size)
    have P3 := h.below bel
    have ho := P3.sl L[i] (List.getElem_mem hi)
    have hv' : OwnB w3 w0.heap.size 5 (⟨na, nc, t.s⟩ : Tx).v t.s := hv
    have hin := ownB_in (x := ⟨na, nc, t.s⟩) hv'
    refine ⟨fun k => D k ∨ (w0.heap.size ≤ k ∧ k < w3.heap.size), ⟨lv, ⟨na, nc, t.s⟩, ri, L[i].n.ks, L[i].n.vs, L[i].n.cs⟩, rfl, ?_, rfl, ?_, ?_⟩
    · refine RA.drew_ (P3.set3r i hi 1 (by omega) _ _ _ ⟨L[i].w, ⟨lv, L[i].n.hi, L[i].n.ri, L[i].n.ks, L[i].n.vs, L[i].n.cs⟩⟩ ⟨L[i].w, ⟨lv, ⟨na, nc, t.s⟩, L[i].n.ri, L[i].n.ks, L[i].n.vs, L[i].n.cs⟩⟩ ⟨L[i].w, ⟨lv, ⟨na, nc, t.s⟩, ri, L[i].n.ks, L[i].n.vs, L[i].n.cs⟩⟩ rfl rfl rfl (fun k hk => .inl hk) ?_ ?_ ⟨⟨ownB_ok (x := ⟨na, nc, t.s⟩) hv' h8.1 h8.2, ho.n.k, ho.n.v, ho.n.c, ho.n.kz, ho.n.vz, ho.n.cz⟩, ?_, ho.w⟩)
      · intro k hk
        rcases hk with hk | hk
        · exact P3.lt k (.inr hk)
        · exact hk.2
      · intro k hk hd
        rcases hd with hd | hd
        · exact P3.dj k hk hd
        · have := h.lt k (.inl hk); omega
      · exact ⟨fun x e _ => .inr (hin x e), fun x e l => .inl (ho.d.k x e l), fun y hy x e l => .inl (ho.d.ke y hy x e l), fun x e l => .inl (ho.d.v x e l), fun y hy x e l => .inl (ho.d.ve y hy x e l), fun x e l => .inl (ho.d.c x e l)⟩
    · intro k hk
      rcases hk with hk | hk
      · exact .inl hk
      · right; omega
    · exact ((Upd.of_below bel M).trans (set3_upd _ _ _ _ _ _ _ h.mg)).drew
  have HB8 : Hid (B8 t.s ∧ t.s.length ≤ 140737488351232) := ⟨ht.b8, ht.z⟩
  have HR : Hid (∀ W', Below w0.heap.size w0 W' → RA W' A g c M D nodes root L) := fun W' hb => (h.below b0).below hb
  generalize RSetPost W A g c M D nodes root L i L[i].w (L[i].n.p.setH lv t.s ri) = PO at *
  obtain ⟨ha, hc, hs⟩ := t
  simp only [Nd.v, Tx.v, TL.v, IL.v, List.length_nil] at HCL HFIN g0 hw0 HB8 ⊢
  obtain ⟨lh, hlh⟩ : ∃ lh, hs.length = lh := ⟨_, rfl⟩
  rw [hlh] at HCL g0 hw0 ⊢
  have HLH := hide hlh
  clear h he ht hlh
  have G0 := hide g0
  obtain ⟨id, hid⟩ : ∃ id, id = (i : Int) + 1 := ⟨_, rfl⟩
  rw [← hid] at HO ⊢
  obtain ⟨n, hln⟩ : ∃ n, L.length = n := ⟨_, rfl⟩
  rw [hln] at hn hi
  have HLN := hide hln
  have j4 : (i : Int) < (n : Int) := by omega
  have j3 : id - 1 = (i : Int) := by omega
  have j5 : id ≤ 65536 := by omega
  have j6 : 1 ≤ id := by omega
  obtain ⟨t0, t1, t2⟩ := Tri.of g0
  have B0 := hide b0
  have HW := hide hw0
  have Z0 := hide z0
  clear g0 b0 hw0 z0 hid hln
  go_enter Tryz.func71, Tryz.ntmps71
  go_wp2_with fail
  rw [← HW.out]
  refine keep HO.out ?_
  go_wp2_with fail
  refine HCL.out.mono ?_
  rintro e w2 ⟨⟨lv', ⟨na, nc, ns⟩, ri', ⟨kn, kd, K'⟩, ⟨vn, vd, V'⟩, ⟨cn, cd, C'⟩⟩, N1, N2, rfl, hp, hown, hb2, _, _, _, _, _⟩
  simp only [Nd.p, NP.mk.injEq] at hp
  obtain ⟨rfl, rfl, rfl, _, _, _⟩ := hp
  have hv2 : OwnB w2 w0.heap.size 5 (.slice na lh nc) ns := by have := hown.h; simp only [Tx.v, HLH.out] at this; exact this
  have V2 := hide hv2
  have B2 := hide hb2
  simp only [Nd.v, Tx.v, TL.v, IL.v, HLH.out]
  clear hv2 hown hb2 HCL t0 t1 t2
  generalize K'.length = lk' at *
  generalize V'.length = lw' at *
  generalize C'.length = lc' at *
  obtain ⟨w3, hw3⟩ : ∃ w3, w3 = w2.alloc (.cells #[.int .i64 lv', .slice na lh nc, .int .i64 ri', .slice kn lk' kd, .slice vn lw' vd, .slice cn lc' cd] 61) := ⟨_, rfl⟩
  have b3 : Below w2.heap.size w2 w3 := by rw [hw3]; exact (Below.refl _ _).alloc (Nat.le_refl _) _
  have b03 := B2.out.trans (b3.mono B2.out.size)
  have g3 : w3.heap[w2.heap.size]? = some (.cells #[.int .i64 lv', .slice na lh nc, .int .i64 ri', .slice kn lk' kd, .slice vn lw' vd, .slice cn lc' cd] 61 (0, 0)) := by rw [hw3]; exact heap_alloc_new w2 _
  obtain ⟨y0, y1, y2, _, _, _⟩ := Six.of g3
  have P3 := HR.out w3 b03
  obtain ⟨_, c1, _⟩ := P3.cells
  rw [HLN.out] at c1
  have F3 := fun j => P3.frozen j
  obtain ⟨k1, k2, k3, _, _, _⟩ := P3.ncells i HI.out
  have HF := hide (HFIN.out w3 na nc b03 (by rw [HLH.out]; exact V2.out.below b3) HB8.out)
  rw [HLH.out] at HF
  generalize L[i].n = nd at *
  have HW3 := hide hw3
  clear hw3 b3 b03 P3 g3 HFIN HR
  go_wp2_with fail
  rw [← HW3.out]
  have j7 : IntKind.i64.wrap (id - 1) = (i : Int) := by rw [IntKind.wrap_i64]; omega
  have j8 : (0 : Int) ≤ (i : Int) := by omega
  have j9 : (i : Int) ≤ (n : Int) := by omega
  go_region
  go_wp2_with fail
  exact HF.out
set_option maxRecDepth 100000 in
set_option maxHeartbeats 3200000 in
theorem rsetBody_any (h : RA W A g c M D nodes root L) (i : Nat) (hi : i < L.length) (he : L[i].w % 2 = 1) (k v : TL) (ci : IL) (hk : k.Ok W) (hv : v.Ok W) (hc : ci.Ok W) (kz : k.L.length * 24 ≤ 140737488352000) (vz : v.L.length * 24 ≤ 140737488352000) (cz : ci.s.length * 8 ≤ 140737488352000) :
    Calls Tryz.prog 73 #[.pointer (some ⟨A, 0, none⟩), .int .i64 ((i : Int) + 1), .agg #[k.v, v.v, ci.v]] W (RSetPost W A g c M D nodes root L i L[i].w (L[i].n.p.setB k.p v.p ci.s)) := by
  obtain ⟨w0, hw0⟩ : ∃ w0, w0 = W.alloc (.cells #[k.v, v.v, ci.v] 59) := ⟨_, rfl⟩
  have b0 : Below W.heap.size W w0 := by rw [hw0]; exact (Below.refl _ _).alloc (Nat.le_refl _) _
  have g0 : w0.heap[W.heap.size]? = some (.cells #[k.v, v.v, ci.v] 59 (0, 0)) := by rw [hw0]; exact heap_alloc_new W _
  have z0 : w0.heap.size = W.heap.size + 1 := by rw [hw0]; simp
  have HO := hide (rheld_any (h.below b0) ((i : Int) + 1))
  rw [heE_at L i hi, if_neg (by omega)] at HO
  have HCL := hide (rclone_any ⟨0, ⟨none, 0, []⟩, 0, k, v, ci⟩ w0 ⟨Tx.nil_ok _, hk.below b0, hv.below b0, hc.below b0, kz, vz, cz⟩)
  have HP := hide h
  have HI := hide hi
  have hn := h.n_le
  -- the end
  have HFIN : Hid (∀ w3 kn kd K' vn vd V' cn cd, Below w0.heap.size w0 w3 → K'.map (·.s) = k.L.map (·.s) → V'.map (·.s) = v.L.map (·.s) → K'.length = k.L.length → V'.length = v.L.length → (⟨kn, kd, K'⟩ : TL).Own w3 w0.heap.size → (⟨vn, vd, V'⟩ : TL).Own w3 w0.heap.size → w3.ownsRow w0.heap.size 3 1 (.slice cn ci.s.length cd) ci.s.length (ci.s.map (Value.int .i64)) →
      RSetPost W A g c M D nodes root L i L[i].w (L[i].n.p.setB k.p v.p ci.s) (.returned (.int .i64 0)) (set3 w3 g (i * 7 + 4) (.slice kn k.L.length kd) (.slice vn v.L.length vd) (.slice cn ci.s.length cd)).drew) := by
    intro w3 kn kd K' vn vd V' cn cd hb p1 p2 l1 l2 q1 q2 q3
    have bel := b0.trans (hb.mono b0.size)
    have P3 := h.below bel
    have ho := P3.sl L[i] (List.getElem_mem hi)
    have e1 : (⟨kn, kd, K'⟩ : TL).v = .slice kn k.L.length kd := by simp only [TL.v, l1]
    have e2 : (⟨vn, vd, V'⟩ : TL).v = .slice vn v.L.length vd := by simp only [TL.v, l2]
    obtain ⟨m, hm⟩ : ∃ m : Nd, m = ⟨L[i].n.lv, L[i].n.hi, L[i].n.ri, ⟨kn, kd, K'⟩, ⟨vn, vd, V'⟩, ⟨cn, cd, ci.s⟩⟩ := ⟨_, rfl⟩
    refine ⟨fun k => D k ∨ (w0.heap.size ≤ k ∧ k < w3.heap.size), m, rfl, ?_, ?_, ?_, ?_⟩
    · rw [hm]
      refine RA.drew_ (P3.set3r i hi 4 (by omega) _ _ _ ⟨L[i].w, ⟨L[i].n.lv, L[i].n.hi, L[i].n.ri, ⟨kn, kd, K'⟩, L[i].n.vs, L[i].n.cs⟩⟩ ⟨L[i].w, ⟨L[i].n.lv, L[i].n.hi, L[i].n.ri, ⟨kn, kd, K'⟩, ⟨vn, vd, V'⟩, L[i].n.cs⟩⟩ ⟨L[i].w, ⟨L[i].n.lv, L[i].n.hi, L[i].n.ri, ⟨kn, kd, K'⟩, ⟨vn, vd, V'⟩, ⟨cn, cd, ci.s⟩⟩⟩ (by rw [← e1]; rfl) (by rw [← e2]; rfl) rfl (fun k hk => .inl hk) ?_ ?_ ⟨⟨ho.n.h, q1.ok, q2.ok, il_of_owns (t := ⟨cn, cd, ci.s⟩) q3, ?_, ?_, cz⟩, ?_, ho.w⟩)
      · intro k hk
        rcases hk with hk | hk
        · exact P3.lt k (.inr hk)
        · exact hk.2
      · intro k hk hd
        rcases hd with hd | hd
        · exact P3.dj k hk hd
        · have := h.lt k (.inl hk); omega
      · simp only [l1]; exact kz
      · simp only [l2]; exact vz
      · exact ⟨fun x e l => .inl (ho.d.h x e l), fun x e _ => .inr (owns_in q1.row x e), fun y hy x e _ => .inr (ownB_in (q1.each y hy) x e), fun x e _ => .inr (owns_in q2.row x e), fun y hy x e _ => .inr (ownB_in (q2.each y hy) x e), fun x e _ => .inr (owns_in q3 x e)⟩
    · rw [hm]
      simp only [Nd.p, NP.setB, TL.p, p1, p2]
    · intro k hk
      rcases hk with hk | hk
      · exact .inl hk
      · right; omega
    · exact ((Upd.of_below bel M).trans (set3_upd _ _ _ _ _ _ _ h.mg)).drew
  have HR : Hid (∀ W', Below w0.heap.size w0 W' → RA W' A g c M D nodes root L) := fun W' hb => (h.below b0).below hb
  generalize RSetPost W A g c M D nodes root L i L[i].w (L[i].n.p.setB k.p v.p ci.s) = PO at *
  obtain ⟨ka, kc, K⟩ := k
  obtain ⟨va, vc, V⟩ := v
  obtain ⟨ca, cc, C⟩ := ci
  simp only [Nd.v, Tx.v, TL.v, IL.v, List.length_nil] at HCL HFIN g0 hw0 ⊢
  obtain ⟨lk, hlk⟩ : ∃ lk, K.length = lk := ⟨_, rfl⟩
  obtain ⟨lw, hlw⟩ : ∃ lw, V.length = lw := ⟨_, rfl⟩
  obtain ⟨lc, hlc⟩ : ∃ lc, C.length = lc := ⟨_, rfl⟩
  rw [hlk, hlw, hlc] at HCL g0 hw0 ⊢
  have HLK := hide hlk
  have HLW := hide hlw
  have HLC := hide hlc
  clear h he hk hv hc kz vz cz hlk hlw hlc
  have G0 := hide g0
  obtain ⟨id, hid⟩ : ∃ id, id = (i : Int) + 1 := ⟨_, rfl⟩
  rw [← hid] at HO ⊢
  obtain ⟨n, hln⟩ : ∃ n, L.length = n := ⟨_, rfl⟩
  rw [hln] at hn hi
  have HLN := hide hln
  have j4 : (i : Int) < (n : Int) := by omega
  have j3 : id - 1 = (i : Int) := by omega
  have j5 : id ≤ 65536 := by omega
  have j6 : 1 ≤ id := by omega
  obtain ⟨t0, t1, t2⟩ := Tri.of g0
  have B0 := hide b0
  have HW := hide hw0
  have Z0 := hide z0
  clear g0 b0 hw0 z0 hid hln
  go_enter Tryz.func73, Tryz.ntmps73
  go_wp2_with fail
  rw [← HW.out]
  refine keep HO.out ?_
  go_wp2_with fail
  refine HCL.out.mono ?_
  rintro e w2 ⟨⟨lv', ⟨na, nc, ns⟩, ri', ⟨kn, kd, K'⟩, ⟨vn, vd, V'⟩, ⟨cn, cd, C'⟩⟩, N1, N2, rfl, hp, hown, hb2, _, _, _, _, _⟩
  simp only [Nd.p, NP.mk.injEq] at hp
  obtain ⟨rfl, rfl, rfl, hp1, hp2, rfl⟩ := hp
  have l1 : K'.length = lk := by have := congrArg List.length hp1; simp only [TL.p, List.length_map] at this; rw [this]; exact HLK.out
  have l2 : V'.length = lw := by have := congrArg List.length hp2; simp only [TL.p, List.length_map] at this; rw [this]; exact HLW.out
  have P1 : Hid (K'.map (·.s) = K.map (·.s) ∧ V'.map (·.s) = V.map (·.s) ∧ K'.length = lk ∧ V'.length = lw) := ⟨hp1, hp2, l1, l2⟩
  have hv2 := And.intro hown.k (And.intro hown.v hown.c)
  simp only [IL.v, HLC.out] at hv2
  have V2 := hide hv2
  have B2 := hide hb2
  simp only [Nd.v, Tx.v, TL.v, IL.v, l1, l2, HLC.out, List.length_nil]
  clear hv2 hown hb2 HCL hp1 hp2 l1 l2 t0 t1 t2
  obtain ⟨w3, hw3⟩ : ∃ w3, w3 = w2.alloc (.cells #[.int .i64 0, .slice na 0 nc, .int .i64 0, .slice kn lk kd, .slice vn lw vd, .slice cn lc cd] 61) := ⟨_, rfl⟩
  have b3 : Below w2.heap.size w2 w3 := by rw [hw3]; exact (Below.refl _ _).alloc (Nat.le_refl _) _
  have b03 := B2.out.trans (b3.mono B2.out.size)
  have g3 : w3.heap[w2.heap.size]? = some (.cells #[.int .i64 0, .slice na 0 nc, .int .i64 0, .slice kn lk kd, .slice vn lw vd, .slice cn lc cd] 61 (0, 0)) := by rw [hw3]; exact heap_alloc_new w2 _
  obtain ⟨y3, y4, y5⟩ := (Six.of g3).2.2.2
  have P3 := HR.out w3 b03
  obtain ⟨_, c1, _⟩ := P3.cells
  rw [HLN.out] at c1
  have F3 := fun j => P3.frozen j
  obtain ⟨k1, k2, k3⟩ := (P3.ncells i HI.out).2.2.2
  obtain ⟨p1, p2, l1, l2⟩ := P1.out
  have HF := hide (HFIN.out w3 kn kd K' vn vd V' cn cd b03 p1 p2 (l1.trans HLK.out.symm) (l2.trans HLW.out.symm) (V2.out.1.below b3) (V2.out.2.1.below b3) (by rw [HLC.out]; exact owns_below V2.out.2.2 b3))
  rw [HLK.out, HLW.out, HLC.out] at HF
  clear p1 p2 l1 l2
  generalize L[i].n = nd at *
  have HW3 := hide hw3
  clear hw3 b3 b03 P3 g3 HFIN HR
  go_wp2_with fail
  rw [← HW3.out]
  have j7 : IntKind.i64.wrap (id - 1) = (i : Int) := by rw [IntKind.wrap_i64]; omega
  have j8 : (0 : Int) ≤ (i : Int) := by omega
  have j9 : (i : Int) ≤ (n : Int) := by omega
  go_region
  go_wp2_with fail
  exact HF.out
end

end Go.Proofs.YtibifkindpgkgaaGreat

namespace Go.Proofs.YtibifkindpgkgaaGreat
open Go.RowKit
set_option maxRecDepth 100000

/-- An arena, wherever it lies. -/
structure AS where
  nodes : Int
  root : Int
  sl : List (Nat × NP)
def AS.inn (s : AS) (id : Int) : Prop := 1 ≤ id ∧ id ≤ (s.sl.length : Nat)
instance (s : AS) (id : Int) : Decidable (s.inn id) := by unfold AS.inn; exact inferInstance
def AS.w (s : AS) (id : Int) : Nat := (s.sl.getD (id - 1).toNat (0, NP.zero)).1
def AS.n (s : AS) (id : Int) : NP := (s.sl.getD (id - 1).toNat (0, NP.zero)).2
def AS.setw (s : AS) (id : Int) (x : Nat) : AS := ⟨s.nodes, s.root, s.sl.set (id - 1).toNat (x, s.n id)⟩
def AS.setn (s : AS) (id : Int) (p : NP) : AS := ⟨s.nodes, s.root, s.sl.set (id - 1).toNat (s.w id, p)⟩
def AS.wordE (s : AS) (id : Int) : Int := if s.inn id then 0 else 101
def AS.wordW (s : AS) (id : Int) : Nat := if s.inn id then s.w id else 0
def AS.lockB (s : AS) (id : Int) (x : Nat) : Bool := decide (s.inn id ∧ s.w id = x ∧ x % 2 = 0)
def AS.lockS (s : AS) (id : Int) (x : Nat) : AS := if s.inn id ∧ s.w id = x ∧ x % 2 = 0 then s.setw id (x + 1) else s
def AS.unlE (s : AS) (id : Int) : Int := if s.inn id then (if s.w id % 2 = 0 then 102 else 0) else 101
def AS.unlS (s : AS) (id : Int) (ch : Bool) : AS := if s.unlE id = 0 then s.setw id (freeW (s.w id) ch) else s
def AS.hedS (s : AS) (id : Int) (lv : Int) (hi : List Int) (ri : Int) : AS := if s.unlE id = 0 then s.setn id ((s.n id).setH lv hi ri) else s
def AS.bodS (s : AS) (id : Int) (ks vs : List (List Int)) (cs : List Int) : AS := if s.unlE id = 0 then s.setn id ((s.n id).setB ks vs cs) else s
def AS.groB (s : AS) (old id : Int) : Bool := decide (s.inn id ∧ s.root = old)
def AS.groS (s : AS) (old id : Int) : AS := if s.inn id ∧ s.root = old then ⟨s.nodes, id, s.sl⟩ else s
def AS.allI (s : AS) : Int := if (s.sl.length : Int) < s.nodes then (s.sl.length : Int) + 1 else 0
def AS.allE (s : AS) : Int := if (s.sl.length : Int) < s.nodes then 0 else 2
def AS.allS (s : AS) : AS := if (s.sl.length : Int) < s.nodes then ⟨s.nodes, s.root, s.sl ++ [(1, NP.zero)]⟩ else s
theorem AS.idx {s : AS} {id : Int} (h : s.inn id) : ∃ i : Nat, i < s.sl.length ∧ id = (i : Int) + 1 ∧ (id - 1).toNat = i :=
  ⟨(id - 1).toNat, by unfold AS.inn at h; omega, by unfold AS.inn at h; omega, rfl⟩

/-- The program's arena at A, within F. -/
def PX (W : World) (A : Nat) (F : Nat → Prop) (s : AS) : Prop := ∃ M D L, PA W A M D s.nodes s.root L ∧ ndsOf L = s.sl ∧ (∀ k, M k ∨ D k → F k) ∧ (∀ k, F k → k < W.heap.size)
/-- The document's arena at A, within F. -/
def RX (W : World) (A : Nat) (F : Nat → Prop) (s : AS) : Prop := ∃ g c M D L, RA W A g c M D s.nodes s.root L ∧ ndsR L = s.sl ∧ (∀ k, M k ∨ D k → F k) ∧ (∀ k, F k → k < W.heap.size)
/-- A step of an arena. -/
structure Stp (F F' : Nat → Prop) (W W' : World) : Prop where
  f : ∀ k, F' k → F k ∨ W.heap.size ≤ k
  u : Upd F W W'
theorem Stp.refl (F : Nat → Prop) (W : World) : Stp F F W W := ⟨fun _ h => .inl h, Upd.refl _ _⟩
theorem PX.upd {W W' : World} {A : Nat} {F S : Nat → Prop} {s : AS} (h : PX W A F s) (hb : Upd S W W') (hs : ∀ k, F k → ¬ S k) : PX W' A F s := by
  obtain ⟨M, D, L, h1, h2, h3, h4⟩ := h
  exact ⟨M, D, L, h1.upd hb (fun k hk => hs k (h3 k hk)), h2, h3, fun k hk => Nat.lt_of_lt_of_le (h4 k hk) hb.size⟩
theorem RX.upd {W W' : World} {A : Nat} {F S : Nat → Prop} {s : AS} (h : RX W A F s) (hb : Upd S W W') (hs : ∀ k, F k → ¬ S k) : RX W' A F s := by
  obtain ⟨g, c, M, D, L, h1, h2, h3, h4⟩ := h
  exact ⟨g, c, M, D, L, h1.upd hb (fun k hk => hs k (h3 k hk)), h2, h3, fun k hk => Nat.lt_of_lt_of_le (h4 k hk) hb.size⟩
theorem PX.lt {W : World} {A : Nat} {F : Nat → Prop} {s : AS} (h : PX W A F s) : ∀ k, F k → k < W.heap.size := by obtain ⟨M, D, L, _, _, _, h4⟩ := h; exact h4
theorem RX.lt {W : World} {A : Nat} {F : Nat → Prop} {s : AS} (h : RX W A F s) : ∀ k, F k → k < W.heap.size := by obtain ⟨g, c, M, D, L, _, _, _, h4⟩ := h; exact h4

/-- What a call of an arena leaves. -/
def PNext (W : World) (A : Nat) (F : Nat → Prop) (s' : AS) (W' : World) : Prop := ∃ F', PX W' A F' s' ∧ Stp F F' W W'
def RNext (W : World) (A : Nat) (F : Nat → Prop) (s' : AS) (W' : World) : Prop := ∃ F', RX W' A F' s' ∧ Stp F F' W W'
theorem PX.still {W W' : World} {A : Nat} {F : Nat → Prop} {s : AS} (h : PX W A F s) (hb : Below W.heap.size W W') : PNext W A F s W' :=
  ⟨F, h.upd (S := Noth) (Upd.of_below hb _) (fun _ _ e => e), fun _ h => .inl h, Upd.of_below hb _⟩
theorem RX.still {W W' : World} {A : Nat} {F : Nat → Prop} {s : AS} (h : RX W A F s) (hb : Below W.heap.size W W') : RNext W A F s W' :=
  ⟨F, h.upd (S := Noth) (Upd.of_below hb _) (fun _ _ e => e), fun _ h => .inl h, Upd.of_below hb _⟩
/-- A step told by PA. -/
theorem pnext_of {W W' : World} {A : Nat} {F M D M' D' : Nat → Prop} {s' : AS} {L' : List Sl} (hF : ∀ k, M k ∨ D k → F k) (hlt : ∀ k, F k → k < W.heap.size) (h : PA W' A M' D' s'.nodes s'.root L') (he : ndsOf L' = s'.sl) (hm : ∀ k, M' k → M k ∨ W.heap.size ≤ k) (hd : ∀ k, D' k → D k ∨ W.heap.size ≤ k) (hu : Upd M W W') : PNext W A F s' W' := by
  refine ⟨fun k => F k ∨ (W.heap.size ≤ k ∧ k < W'.heap.size), ⟨M', D', L', h, he, ?_, ?_⟩, ⟨?_, hu.mono (fun k _ hk => hF k (.inl hk))⟩⟩
  · intro k hk
    have hl := h.lt k hk
    rcases hk with hk | hk
    · rcases hm k hk with h1 | h1
      · exact .inl (hF k (.inl h1))
      · exact .inr ⟨h1, hl⟩
    · rcases hd k hk with h1 | h1
      · exact .inl (hF k (.inr h1))
      · exact .inr ⟨h1, hl⟩
  · intro k hk
    rcases hk with hk | hk
    · exact Nat.lt_of_lt_of_le (hlt k hk) hu.size
    · exact hk.2
  · intro k hk
    rcases hk with hk | hk
    · exact .inl hk
    · exact .inr hk.1
theorem rnext_of {W W' : World} {A g c : Nat} {F M D M' D' : Nat → Prop} {s' : AS} {L' : List RS} (hF : ∀ k, M k ∨ D k → F k) (hlt : ∀ k, F k → k < W.heap.size) (h : RA W' A g c M' D' s'.nodes s'.root L') (he : ndsR L' = s'.sl) (hm : ∀ k, M' k → M k ∨ W.heap.size ≤ k) (hd : ∀ k, D' k → D k ∨ W.heap.size ≤ k) (hu : Upd M W W') : RNext W A F s' W' := by
  refine ⟨fun k => F k ∨ (W.heap.size ≤ k ∧ k < W'.heap.size), ⟨g, c, M', D', L', h, he, ?_, ?_⟩, ⟨?_, hu.mono (fun k _ hk => hF k (.inl hk))⟩⟩
  · intro k hk
    have hl := h.lt k hk
    rcases hk with hk | hk
    · rcases hm k hk with h1 | h1
      · exact .inl (hF k (.inl h1))
      · exact .inr ⟨h1, hl⟩
    · rcases hd k hk with h1 | h1
      · exact .inl (hF k (.inr h1))
      · exact .inr ⟨h1, hl⟩
  · intro k hk
    rcases hk with hk | hk
    · exact Nat.lt_of_lt_of_le (hlt k hk) hu.size
    · exact hk.2
  · intro k hk
    rcases hk with hk | hk
    · exact .inl hk
    · exact .inr hk.1

theorem ndsOf_at {L : List Sl} {s : AS} (h : ndsOf L = s.sl) {i : Nat} (hi : i < L.length) {id : Int} (hid : id = (i : Int) + 1) : s.w id = L[i].w ∧ s.n id = L[i].n.p := by
  have : s.sl.getD (id - 1).toNat (0, NP.zero) = (L[i].w, L[i].n.p) := by
    rw [← h, show (id - 1).toNat = i by omega]
    simp [ndsOf, hi]
  unfold AS.w AS.n
  rw [this]
  exact ⟨rfl, rfl⟩
theorem ndsR_at {L : List RS} {s : AS} (h : ndsR L = s.sl) {i : Nat} (hi : i < L.length) {id : Int} (hid : id = (i : Int) + 1) : s.w id = L[i].w ∧ s.n id = L[i].n.p := by
  have : s.sl.getD (id - 1).toNat (0, NP.zero) = (L[i].w, L[i].n.p) := by
    rw [← h, show (id - 1).toNat = i by omega]
    simp [ndsR, hi]
  unfold AS.w AS.n
  rw [this]
  exact ⟨rfl, rfl⟩
theorem ndsOf_set {L : List Sl} {s : AS} (h : ndsOf L = s.sl) {i : Nat} {id : Int} (hid : id = (i : Int) + 1) (t : Sl) : ndsOf (L.set i t) = s.sl.set (id - 1).toNat (t.w, t.n.p) := by
  rw [← h, show (id - 1).toNat = i by omega]
  simp [ndsOf, List.map_set]
theorem ndsR_set {L : List RS} {s : AS} (h : ndsR L = s.sl) {i : Nat} {id : Int} (hid : id = (i : Int) + 1) (t : RS) : ndsR (L.set i t) = s.sl.set (id - 1).toNat (t.w, t.n.p) := by
  rw [← h, show (id - 1).toNat = i by omega]
  simp [ndsR, List.map_set]
theorem ndsOf_lenS {L : List Sl} {s : AS} (h : ndsOf L = s.sl) : L.length = s.sl.length := by rw [← h, ndsOf_len]
theorem ndsR_lenS {L : List RS} {s : AS} (h : ndsR L = s.sl) : L.length = s.sl.length := by rw [← h, ndsR_len]

section
variable {W : World} {A : Nat} {F : Nat → Prop} {s : AS}
/-! ### Used, Root, Left -/
theorem px_used (h : PX W A F s) : Calls Tryz.prog 50 #[.pointer (some ⟨A, 0, none⟩)] W fun e w' => e = .returned (.int .i64 (s.sl.length : Nat)) ∧ w' = W := by
  obtain ⟨M, D, L, h1, h2, _⟩ := h
  rw [← ndsOf_lenS h2]
  exact used_any h1
theorem rx_used (h : RX W A F s) : Calls Tryz.prog 22 #[.pointer (some ⟨A, 0, none⟩)] W fun e w' => e = .returned (.int .i64 (s.sl.length : Nat)) ∧ w' = W := by
  obtain ⟨g, c, M, D, L, h1, h2, _⟩ := h
  rw [← ndsR_lenS h2]
  exact rused_any h1
theorem px_root (h : PX W A F s) : Calls Tryz.prog 43 #[.pointer (some ⟨A, 0, none⟩)] W fun e w' => e = .returned (.int .i64 s.root) ∧ w' = W := by
  obtain ⟨M, D, L, h1, _⟩ := h
  exact root_any h1
theorem rx_root (h : RX W A F s) : Calls Tryz.prog 53 #[.pointer (some ⟨A, 0, none⟩)] W fun e w' => e = .returned (.int .i64 s.root) ∧ w' = W := by
  obtain ⟨g, c, M, D, L, h1, _⟩ := h
  exact rroot_any h1
theorem px_left (h : PX W A F s) : Calls Tryz.prog 51 #[.pointer (some ⟨A, 0, none⟩)] W fun e w' => e = .returned (.int .i64 (s.nodes - (s.sl.length : Nat))) ∧ ∃ k, w' = W.drewN k := by
  obtain ⟨M, D, L, h1, h2, _⟩ := h
  rw [← ndsOf_lenS h2]
  exact left_any h1
theorem rx_left (h : RX W A F s) : Calls Tryz.prog 52 #[.pointer (some ⟨A, 0, none⟩)] W fun e w' => e = .returned (.int .i64 (s.nodes - (s.sl.length : Nat))) ∧ ∃ k, w' = W.drewN k := by
  obtain ⟨g, c, M, D, L, h1, h2, _⟩ := h
  rw [← ndsR_lenS h2]
  exact rleft_any h1
theorem px_len (h : PX W A F s) : s.sl.length ≤ 65536 ∧ (s.sl.length : Int) ≤ s.nodes ∧ s.nodes ≤ 65536 ∧ 1 ≤ s.sl.length := by
  obtain ⟨M, D, L, h1, h2, _⟩ := h
  rw [← ndsOf_lenS h2]
  exact ⟨h1.n_le, h1.le, h1.nz, h1.one⟩
theorem px_wlt (h : PX W A F s) (id : Int) (hin : s.inn id) : s.w id < 18446744073709551616 := by
  obtain ⟨M, D, L, h1, h2, _⟩ := h
  obtain ⟨i, hi, hid, _⟩ := AS.idx hin
  have hi' : i < L.length := by rw [ndsOf_lenS h2]; exact hi
  rw [(ndsOf_at h2 hi' hid).1]
  exact (h1.sl L[i] (List.getElem_mem hi')).w
/-! ### Word, Lock, Unlock, Grow, Alloc, Held -/
theorem px_word (h : PX W A F s) (id : Int) : Calls Tryz.prog 65 #[.pointer (some ⟨A, 0, none⟩), .int .i64 id] W fun e w' => e = .returned (.tuple #[.int .u64 (s.wordW id : Nat), .int .i64 (s.wordE id)]) ∧ w' = W := by
  obtain ⟨M, D, L, h1, h2, _⟩ := h
  by_cases hin : s.inn id
  · obtain ⟨i, hi, hid, _⟩ := AS.idx hin
    have hi' : i < L.length := by rw [ndsOf_lenS h2]; exact hi
    have := word_any h1 i hi'
    rw [← hid, ← (ndsOf_at h2 hi' hid).1] at this
    unfold AS.wordW AS.wordE
    rw [if_pos hin, if_pos hin]; exact this
  · unfold AS.wordW AS.wordE
    rw [if_neg hin, if_neg hin]
    exact word_none h1 id (by rw [ndsOf_lenS h2]; exact hin)
theorem rx_word (h : RX W A F s) (id : Int) : Calls Tryz.prog 66 #[.pointer (some ⟨A, 0, none⟩), .int .i64 id] W fun e w' => e = .returned (.tuple #[.int .u64 (s.wordW id : Nat), .int .i64 (s.wordE id)]) ∧ w' = W := by
  obtain ⟨g, c, M, D, L, h1, h2, _⟩ := h
  by_cases hin : s.inn id
  · obtain ⟨i, hi, hid, _⟩ := AS.idx hin
    have hi' : i < L.length := by rw [ndsR_lenS h2]; exact hi
    have := rword_any h1 i hi'
    rw [← hid, ← (ndsR_at h2 hi' hid).1] at this
    unfold AS.wordW AS.wordE
    rw [if_pos hin, if_pos hin]; exact this
  · unfold AS.wordW AS.wordE
    rw [if_neg hin, if_neg hin]
    exact rword_none h1 id (by rw [ndsR_lenS h2]; exact hin)
theorem px_lock (h : PX W A F s) (id : Int) (x : Nat) (hx : x < 18446744073709551616) : Calls Tryz.prog 86 #[.pointer (some ⟨A, 0, none⟩), .int .i64 id, .int .u64 (x : Nat)] W fun e w' => e = .returned (.tuple #[.bool (s.lockB id x), .int .i64 (s.wordE id)]) ∧ PNext W A F (s.lockS id x) w' := by
  have h0 := h
  obtain ⟨M, D, L, h1, h2, h3, h4⟩ := h
  by_cases hin : s.inn id
  · obtain ⟨i, hi, hid, _⟩ := AS.idx hin
    have hi' : i < L.length := by rw [ndsOf_lenS h2]; exact hi
    obtain ⟨hw, hn⟩ := ndsOf_at h2 hi' hid
    rw [show s.wordE id = 0 from if_pos hin]
    by_cases hl : s.w id = x ∧ x % 2 = 0
    · rw [show s.lockB id x = true from decide_eq_true ⟨hin, hl⟩, show s.lockS id x = s.setw id (x + 1) from if_pos ⟨hin, hl⟩]
      have hx' : L[i].w = x := by rw [← hw]; exact hl.1
      have := lock_hit h1 i hi' (by rw [hx']; exact hl.2)
      rw [hx', ← hid] at this
      refine this.mono fun e w' ⟨e1, e2⟩ => ⟨e1, ?_⟩
      rw [e2]
      refine pnext_of (s' := s.setw id (x + 1)) h3 h4 (h1.setW hi' (x + 1) (by omega)) ?_ (fun k hk => .inl hk) (fun k hk => .inl hk) ((Upd.refl _ _).setCell _ _ (fun _ => (h1.sl L[i] (List.getElem_mem hi')).m))
      rw [ndsOf_set h2 hid]
      simp only [AS.setw, hn]
    · rw [show s.lockB id x = false from decide_eq_false (fun e => hl e.2), show s.lockS id x = s from if_neg (fun e => hl e.2)]
      have := lock_miss h1 i hi' x hx (by rw [← hw]; exact hl)
      rw [← hid] at this
      exact this.mono fun e w' ⟨e1, e2⟩ => ⟨e1, by rw [e2]; exact h0.still (Below.refl _ _)⟩
  · rw [show s.wordE id = 101 from if_neg hin, show s.lockB id x = false from decide_eq_false (fun e => hin e.1), show s.lockS id x = s from if_neg (fun e => hin e.1)]
    exact (lock_none h1 id _ (by rw [ndsOf_lenS h2]; exact hin)).mono fun e w' ⟨e1, e2⟩ => ⟨e1, by rw [e2]; exact h0.still (Below.refl _ _)⟩
theorem rx_lock (h : RX W A F s) (id : Int) (x : Nat) (hx : x < 18446744073709551616) : Calls Tryz.prog 108 #[.pointer (some ⟨A, 0, none⟩), .int .i64 id, .int .u64 (x : Nat)] W fun e w' => e = .returned (.tuple #[.bool (s.lockB id x), .int .i64 (s.wordE id)]) ∧ RNext W A F (s.lockS id x) w' := by
  have h0 := h
  obtain ⟨g, c, M, D, L, h1, h2, h3, h4⟩ := h
  by_cases hin : s.inn id
  · obtain ⟨i, hi, hid, _⟩ := AS.idx hin
    have hi' : i < L.length := by rw [ndsR_lenS h2]; exact hi
    obtain ⟨hw, hn⟩ := ndsR_at h2 hi' hid
    rw [show s.wordE id = 0 from if_pos hin]
    by_cases hl : s.w id = x ∧ x % 2 = 0
    · rw [show s.lockB id x = true from decide_eq_true ⟨hin, hl⟩, show s.lockS id x = s.setw id (x + 1) from if_pos ⟨hin, hl⟩]
      have hx' : L[i].w = x := by rw [← hw]; exact hl.1
      have := rlock_hit h1 i hi' (by rw [hx']; exact hl.2)
      rw [hx', ← hid] at this
      refine this.mono fun e w' ⟨e1, e2⟩ => ⟨e1, ?_⟩
      rw [e2]
      refine rnext_of (s' := s.setw id (x + 1)) h3 h4 (h1.setW i hi' (x + 1) (by omega)) ?_ (fun k hk => .inl hk) (fun k hk => .inl hk) ((Upd.refl _ _).setCell _ _ (fun _ => h1.mg))
      rw [ndsR_set h2 hid]
      simp only [AS.setw, hn]
    · rw [show s.lockB id x = false from decide_eq_false (fun e => hl e.2), show s.lockS id x = s from if_neg (fun e => hl e.2)]
      have := rlock_miss h1 i hi' x hx (by rw [← hw]; exact hl)
      rw [← hid] at this
      exact this.mono fun e w' ⟨e1, e2⟩ => ⟨e1, by rw [e2]; exact h0.still (Below.refl _ _)⟩
  · rw [show s.wordE id = 101 from if_neg hin, show s.lockB id x = false from decide_eq_false (fun e => hin e.1), show s.lockS id x = s from if_neg (fun e => hin e.1)]
    exact (rlock_none h1 id _ (by rw [ndsR_lenS h2]; exact hin)).mono fun e w' ⟨e1, e2⟩ => ⟨e1, by rw [e2]; exact h0.still (Below.refl _ _)⟩
theorem freeW_lt (x : Nat) (ch : Bool) (hx : x < 18446744073709551616) : freeW x ch < 18446744073709551616 := by
  unfold freeW
  cases ch
  · simp; omega
  · simp only [if_true]; omega
theorem px_unlock (h : PX W A F s) (id : Int) (ch : Bool) : Calls Tryz.prog 68 #[.pointer (some ⟨A, 0, none⟩), .int .i64 id, .bool ch] W fun e w' => e = .returned (.int .i64 (s.unlE id)) ∧ PNext W A F (s.unlS id ch) w' := by
  have h0 := h
  obtain ⟨M, D, L, h1, h2, h3, h4⟩ := h
  by_cases hin : s.inn id
  · obtain ⟨i, hi, hid, _⟩ := AS.idx hin
    have hi' : i < L.length := by rw [ndsOf_lenS h2]; exact hi
    obtain ⟨hw, hn⟩ := ndsOf_at h2 hi' hid
    by_cases hl : s.w id % 2 = 0
    · have hE : s.unlE id = 102 := by unfold AS.unlE; rw [if_pos hin, if_pos hl]
      rw [show s.unlS id ch = s from if_neg (by rw [hE]; decide), hE]
      have := unlock_free h1 i hi' ch (by rw [← hw]; exact hl)
      rw [← hid] at this
      exact this.mono fun e w' ⟨e1, e2⟩ => ⟨e1, by rw [e2]; exact h0.still (Below.refl _ _)⟩
    · have hE : s.unlE id = 0 := by unfold AS.unlE; rw [if_pos hin, if_neg hl]
      rw [show s.unlS id ch = s.setw id (freeW (s.w id) ch) from if_pos hE, hE]
      have := unlock_held h1 i hi' ch (by rw [← hw]; omega)
      rw [← hid] at this
      refine this.mono fun e w' ⟨e1, e2⟩ => ⟨e1, ?_⟩
      rw [e2, hw]
      refine pnext_of (s' := s.setw id (freeW L[i].w ch)) h3 h4 (h1.setW hi' (freeW L[i].w ch) (freeW_lt _ _ (h1.sl L[i] (List.getElem_mem hi')).w)) ?_ (fun k hk => .inl hk) (fun k hk => .inl hk) ((Upd.refl _ _).setCell _ _ (fun _ => (h1.sl L[i] (List.getElem_mem hi')).m))
      rw [ndsOf_set h2 hid]
      simp only [AS.setw, hn]
  · have hE : s.unlE id = 101 := by unfold AS.unlE; rw [if_neg hin]
    rw [show s.unlS id ch = s from if_neg (by rw [hE]; decide), hE]
    exact (unlock_none h1 id ch (by rw [ndsOf_lenS h2]; exact hin)).mono fun e w' ⟨e1, e2⟩ => ⟨e1, by rw [e2]; exact h0.still (Below.refl _ _)⟩
theorem heE_eq {L : List RS} (h : ndsR L = s.sl) (id : Int) : heE L id = s.unlE id := by
  unfold heE AS.unlE
  by_cases hin : s.inn id
  · obtain ⟨i, hi, hid, e⟩ := AS.idx hin
    have hi' : i < L.length := by rw [ndsR_lenS h]; exact hi
    rw [if_pos hin, if_pos (by rw [ndsR_lenS h]; exact hin), (ndsR_at h hi' hid).1, e, List.getElem?_eq_getElem hi']
    rfl
  · rw [if_neg hin, if_neg (by rw [ndsR_lenS h]; exact hin)]
theorem rx_unlock (h : RX W A F s) (id : Int) (ch : Bool) : Calls Tryz.prog 69 #[.pointer (some ⟨A, 0, none⟩), .int .i64 id, .bool ch] W fun e w' => e = .returned (.int .i64 (s.unlE id)) ∧ RNext W A F (s.unlS id ch) w' := by
  have h0 := h
  obtain ⟨g, c, M, D, L, h1, h2, h3, h4⟩ := h
  by_cases hE : s.unlE id = 0
  · have hin : s.inn id := Decidable.byContradiction fun hc => by unfold AS.unlE at hE; rw [if_neg hc] at hE; cases hE
    obtain ⟨i, hi, hid, _⟩ := AS.idx hin
    have hi' : i < L.length := by rw [ndsR_lenS h2]; exact hi
    obtain ⟨hw, hn⟩ := ndsR_at h2 hi' hid
    have hl : ¬ s.w id % 2 = 0 := fun hc => by unfold AS.unlE at hE; rw [if_pos hin, if_pos hc] at hE; cases hE
    rw [show s.unlS id ch = s.setw id (freeW (s.w id) ch) from if_pos hE, hE]
    have := runlock_held h1 i hi' ch (by rw [← hw]; omega)
    rw [← hid] at this
    refine this.mono fun e w' ⟨e1, e2⟩ => ⟨e1, ?_⟩
    rw [e2, hw]
    refine rnext_of (s' := s.setw id (freeW L[i].w ch)) h3 h4 (h1.setW i hi' (freeW L[i].w ch) (freeW_lt _ _ (h1.sl L[i] (List.getElem_mem hi')).w)) ?_ (fun k hk => .inl hk) (fun k hk => .inl hk) ((Upd.refl _ _).setCell _ _ (fun _ => h1.mg))
    rw [ndsR_set h2 hid]
    simp only [AS.setw, hn]
  · rw [show s.unlS id ch = s from if_neg hE, ← heE_eq h2]
    exact (runlock_not h1 id ch (by rw [heE_eq h2]; exact hE)).mono fun e w' ⟨e1, e2⟩ => ⟨e1, by rw [e2]; exact h0.still (Below.refl _ _)⟩
theorem px_grow (h : PX W A F s) (old id : Int) : Calls Tryz.prog 74 #[.pointer (some ⟨A, 0, none⟩), .int .i64 old, .int .i64 id] W fun e w' => e = .returned (.tuple #[.bool (s.groB old id), .int .i64 (s.wordE id)]) ∧ PNext W A F (s.groS old id) w' := by
  have h0 := h
  obtain ⟨M, D, L, h1, h2, h3, h4⟩ := h
  by_cases hin : s.inn id
  · rw [show s.wordE id = 0 from if_pos hin]
    have hin' : 1 ≤ id ∧ id ≤ (L.length : Nat) := by rw [ndsOf_lenS h2]; exact hin
    by_cases hr : s.root = old
    · rw [show s.groB old id = true from decide_eq_true ⟨hin, hr⟩, show s.groS old id = ⟨s.nodes, id, s.sl⟩ from if_pos ⟨hin, hr⟩, ← hr]
      refine (grow_yes h1 id hin').mono fun e w' ⟨e1, e2⟩ => ⟨e1, ?_⟩
      rw [e2]
      exact pnext_of (s' := ⟨s.nodes, id, s.sl⟩) h3 h4 (h1.setR id) h2 (fun k hk => .inl hk) (fun k hk => .inl hk) ((Upd.refl _ _).setCell _ _ (fun _ => h1.mA))
    · rw [show s.groB old id = false from decide_eq_false (fun e => hr e.2), show s.groS old id = s from if_neg (fun e => hr e.2)]
      exact (grow_no h1 old id hin' hr).mono fun e w' ⟨e1, e2⟩ => ⟨e1, by rw [e2]; exact h0.still (Below.refl _ _)⟩
  · rw [show s.wordE id = 101 from if_neg hin, show s.groB old id = false from decide_eq_false (fun e => hin e.1), show s.groS old id = s from if_neg (fun e => hin e.1)]
    exact (grow_none h1 old id (by rw [ndsOf_lenS h2]; exact hin)).mono fun e w' ⟨e1, e2⟩ => ⟨e1, by rw [e2]; exact h0.still (Below.refl _ _)⟩
theorem rx_grow (h : RX W A F s) (old id : Int) : Calls Tryz.prog 75 #[.pointer (some ⟨A, 0, none⟩), .int .i64 old, .int .i64 id] W fun e w' => e = .returned (.tuple #[.bool (s.groB old id), .int .i64 (s.wordE id)]) ∧ RNext W A F (s.groS old id) w' := by
  have h0 := h
  obtain ⟨g, c, M, D, L, h1, h2, h3, h4⟩ := h
  by_cases hin : s.inn id
  · rw [show s.wordE id = 0 from if_pos hin]
    have hin' : 1 ≤ id ∧ id ≤ (L.length : Nat) := by rw [ndsR_lenS h2]; exact hin
    by_cases hr : s.root = old
    · rw [show s.groB old id = true from decide_eq_true ⟨hin, hr⟩, show s.groS old id = ⟨s.nodes, id, s.sl⟩ from if_pos ⟨hin, hr⟩, ← hr]
      refine (rgrow_yes h1 id hin').mono fun e w' ⟨e1, e2⟩ => ⟨e1, ?_⟩
      rw [e2]
      exact rnext_of (s' := ⟨s.nodes, id, s.sl⟩) h3 h4 (h1.setR id) h2 (fun k hk => .inl hk) (fun k hk => .inl hk) ((Upd.refl _ _).setCell _ _ (fun _ => h1.mA))
    · rw [show s.groB old id = false from decide_eq_false (fun e => hr e.2), show s.groS old id = s from if_neg (fun e => hr e.2)]
      exact (rgrow_no h1 old id hin' hr).mono fun e w' ⟨e1, e2⟩ => ⟨e1, by rw [e2]; exact h0.still (Below.refl _ _)⟩
  · rw [show s.wordE id = 101 from if_neg hin, show s.groB old id = false from decide_eq_false (fun e => hin e.1), show s.groS old id = s from if_neg (fun e => hin e.1)]
    exact (rgrow_none h1 old id (by rw [ndsR_lenS h2]; exact hin)).mono fun e w' ⟨e1, e2⟩ => ⟨e1, by rw [e2]; exact h0.still (Below.refl _ _)⟩
theorem px_alloc (h : PX W A F s) : Calls Tryz.prog 63 #[.pointer (some ⟨A, 0, none⟩)] W fun e w' => e = .returned (.tuple #[.int .i64 s.allI, .int .i64 s.allE]) ∧ PNext W A F s.allS w' := by
  have h0 := h
  obtain ⟨M, D, L, h1, h2, h3, h4⟩ := h
  have hl := ndsOf_lenS h2
  by_cases hn : (s.sl.length : Int) < s.nodes
  · rw [show s.allI = (s.sl.length : Int) + 1 from if_pos hn, show s.allE = 0 from if_pos hn, show s.allS = ⟨s.nodes, s.root, s.sl ++ [(1, NP.zero)]⟩ from if_pos hn]
    refine (alloc_any h1 (by rw [hl]; exact hn)).mono ?_
    rintro e w' ⟨M', b, rfl, hP, hM, hU⟩
    rw [hl]
    refine ⟨rfl, pnext_of (s' := ⟨s.nodes, s.root, s.sl ++ [(1, NP.zero)]⟩) h3 h4 hP ?_ hM (fun k hk => .inl hk) hU⟩
    simp only [ndsOf, List.map_append] at h2 ⊢
    rw [h2]
    rfl
  · rw [show s.allI = 0 from if_neg hn, show s.allE = 2 from if_neg hn, show s.allS = s from if_neg hn]
    have := h1.le
    refine (alloc_full h1 (by rw [hl] at *; omega)).mono ?_
    rintro e w' ⟨rfl, k, rfl⟩
    exact ⟨rfl, h0.still (below_drewN (Below.refl _ _) k)⟩
theorem rx_alloc (h : RX W A F s) : Calls Tryz.prog 64 #[.pointer (some ⟨A, 0, none⟩)] W fun e w' => e = .returned (.tuple #[.int .i64 s.allI, .int .i64 s.allE]) ∧ RNext W A F s.allS w' := by
  have h0 := h
  obtain ⟨g, c, M, D, L, h1, h2, h3, h4⟩ := h
  have hl := ndsR_lenS h2
  by_cases hn : (s.sl.length : Int) < s.nodes
  · rw [show s.allI = (s.sl.length : Int) + 1 from if_pos hn, show s.allE = 0 from if_pos hn, show s.allS = ⟨s.nodes, s.root, s.sl ++ [(1, NP.zero)]⟩ from if_pos hn]
    refine (ralloc_any h1 (by rw [hl]; exact hn)).mono ?_
    rintro e w' ⟨g', c', M', rfl, hP, hM, hU⟩
    rw [hl]
    refine ⟨rfl, rnext_of (s' := ⟨s.nodes, s.root, s.sl ++ [(1, NP.zero)]⟩) h3 h4 hP ?_ hM (fun k hk => .inl hk) hU⟩
    simp only [ndsR, List.map_append] at h2 ⊢
    rw [h2]
    rfl
  · rw [show s.allI = 0 from if_neg hn, show s.allE = 2 from if_neg hn, show s.allS = s from if_neg hn]
    have := h1.le
    refine (ralloc_full h1 (by rw [hl] at *; omega)).mono ?_
    rintro e w' ⟨rfl, k, rfl⟩
    exact ⟨rfl, h0.still (below_drewN (Below.refl _ _) k)⟩
def AS.held (s : AS) : List Int := heldL (s.sl.map (·.1))
theorem px_held (h : PX W A F s) : Calls Tryz.prog 48 #[.pointer (some ⟨A, 0, none⟩)] W (HeldPost W s.held) := by
  obtain ⟨M, D, L, h1, h2, _⟩ := h
  have := held_any h1
  rwa [show heldL (L.map (·.w)) = s.held by unfold AS.held; rw [← h2]; simp [ndsOf, Function.comp_def]] at this
theorem rx_held (h : RX W A F s) : Calls Tryz.prog 49 #[.pointer (some ⟨A, 0, none⟩)] W (HeldPost W s.held) := by
  obtain ⟨g, c, M, D, L, h1, h2, _⟩ := h
  have := rheldL_any h1
  rwa [show heldL (L.map (·.w)) = s.held by unfold AS.held; rw [← h2]; simp [ndsR, Function.comp_def]] at this
end

end Go.Proofs.YtibifkindpgkgaaGreat
