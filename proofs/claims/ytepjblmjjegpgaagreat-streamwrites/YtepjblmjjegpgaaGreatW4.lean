/- What each of the taker's functions does to the world. -/
import Derived.Test.YtepjblmjjegpgaaGreatRows
import Derived.Test.YtepjblmjjegpgaaGreatW1
import Derived.WalkKit
import Derived.WalkSpells
import Derived.WalkLawsBesides
import Derived.RegionTactic
namespace Go.Proofs.YtepjblmjjegpgaaGreat
open Go.RowKit
set_option maxRecDepth 100000

/-- A taker's four fields, in a block of its own. -/
def IsT (w : World) (b : Nat) (n t : Int) (wh wr : Bool) : Prop :=
  w.heap[b]? = some (.cells #[.int .u64 n, .int .i64 t, .bool wh, .bool wr] 213 (0, 0))

section
variable {w : World} {b : Nat} {n t : Int} {wh wr : Bool}
theorem IsT.c0 (h : IsT w b n t wh wr) : w.cell? ⟨b, 0, none⟩ = some (.int .u64 n) := by unfold IsT at h; simp [World.cell?, h]
theorem IsT.c1 (h : IsT w b n t wh wr) : w.cell? ⟨b, 1, none⟩ = some (.int .i64 t) := by unfold IsT at h; simp [World.cell?, h]
theorem IsT.c2 (h : IsT w b n t wh wr) : w.cell? ⟨b, 2, none⟩ = some (.bool wh) := by unfold IsT at h; simp [World.cell?, h]
theorem IsT.c3 (h : IsT w b n t wh wr) : w.cell? ⟨b, 3, none⟩ = some (.bool wr) := by unfold IsT at h; simp [World.cell?, h]
theorem IsT.free (h : IsT w b n t wh wr) (k : Nat) : w.frozen? ⟨b, k, none⟩ = false := by unfold IsT at h; simp [World.frozen?, h]
theorem IsT.lt (h : IsT w b n t wh wr) : b < w.heap.size := lt_of_block h
theorem IsT.kept {w' : World} {row : Option Nat} (h : IsT w b n t wh wr) (hg : w.grownBy w' row) (hne : some b ≠ row) : IsT w' b n t wh wr := by
  unfold IsT at *
  rw [hg.block b (lt_of_block h) hne]; exact h
theorem IsT.below {w' : World} {B : Nat} (h : IsT w b n t wh wr) (hg : Below B w w') (hne : b < B) : IsT w' b n t wh wr := by
  unfold IsT at *
  rw [hg.block b hne]; exact h
end

set_option maxHeartbeats 400000 in
theorem fault_any (p c : Int) (w : World) :
    Calls Tryz.prog 182 #[.int .i64 p, .int .u8 c] w fun e w' => e = .returned (.int .i64 (faultOf p c)) ∧ w' = w := by
  by_cases h1 : p = 9
  · subst h1
    by_cases h2 : 1 < c
    · go_enter Tryz.func182, Tryz.ntmps182
      go_wp2
      go_ret
      exact ⟨by simp [faultOf, h2], rfl⟩
    · by_cases h3 : c = 0
      · subst h3
        go_enter Tryz.func182, Tryz.ntmps182
        go_wp2
        go_ret
        exact ⟨by simp [faultOf], rfl⟩
      · have h4 : (c == 0) = false := by simp [h3]
        go_enter Tryz.func182, Tryz.ntmps182
        go_wp2
        go_ret
        exact ⟨by simp [faultOf, h2, h3], rfl⟩
  · have h1' : (p == 9) = false := by simp [h1]
    by_cases h2 : 0 < p
    · by_cases h3 : c = 0
      · subst h3
        go_enter Tryz.func182, Tryz.ntmps182
        go_wp2
        go_ret
        exact ⟨by simp [faultOf, h1, h2], rfl⟩
      · have h4 : (c == 0) = false := by simp [h3]
        go_enter Tryz.func182, Tryz.ntmps182
        go_wp2
        go_ret
        exact ⟨by simp [faultOf, h1, h3], rfl⟩
    · go_enter Tryz.func182, Tryz.ntmps182
      go_wp2
      go_ret
      exact ⟨by simp [faultOf, h1]; intro h; omega, rfl⟩

set_option maxHeartbeats 400000 in
theorem new_raw (w : World) :
    Calls Tryz.prog 169 #[] w fun e w' => e = .returned (.pointer (some ⟨w.heap.size, 0, none⟩)) ∧ w' = w.alloc (.cells #[.int .u64 0, .int .i64 0, .bool false, .bool false] 213) := by
  go_enter Tryz.func169, Tryz.ntmps169
  go_wp2
  go_ret
  exact ⟨rfl, rfl⟩

theorem new_any (w : World) :
    Calls Tryz.prog 169 #[] w fun e w' => e = .returned (.pointer (some ⟨w.heap.size, 0, none⟩)) ∧ IsT w' w.heap.size 0 0 false false ∧ w'.heap.size = w.heap.size + 1 ∧ Below w.heap.size w w' := by
  refine (new_raw w).mono ?_
  rintro e w' ⟨rfl, rfl⟩
  exact ⟨rfl, heap_alloc_new w _, by simp, (Below.refl _ _).alloc (Nat.le_refl _) _⟩

set_option maxHeartbeats 400000 in
theorem number_any (b : Nat) (n t : Int) (wh wr : Bool) (w : World) (hT : IsT w b n t wh wr) :
    Calls Tryz.prog 172 #[.pointer (some ⟨b, 0, none⟩)] w fun e w' => e = .returned (.tuple #[.int .u64 (if wh then n else 0), .bool wh]) ∧ w' = w := by
  have h0 := hT.c0
  have h2 := hT.c2
  clear hT
  cases wh
  · go_enter Tryz.func172, Tryz.ntmps172
    go_wp2
    go_ret2
    exact ⟨rfl, rfl⟩
  · go_enter Tryz.func172, Tryz.ntmps172
    go_wp2
    go_ret2
    exact ⟨rfl, rfl⟩

set_option maxHeartbeats 400000 in
theorem take_shut (b : Nat) (c n t : Int) (wh wr : Bool) (w : World) (hT : IsT w b n t wh wr) (h : (wh || wr) = true) :
    Calls Tryz.prog 170 #[.pointer (some ⟨b, 0, none⟩), .int .u8 c] w fun e w' => e = .returned (.tuple #[.bool false, .int .i64 1]) ∧ w' = w := by
  have h2 := hT.c2
  have h3 := hT.c3
  clear hT
  cases wh
  · cases wr
    · cases h
    · go_enter Tryz.func170, Tryz.ntmps170
      go_wp2
      go_ret2
      exact ⟨rfl, rfl⟩
  · go_enter Tryz.func170, Tryz.ntmps170
    go_wp2
    go_ret2
    exact ⟨rfl, rfl⟩

set_option maxHeartbeats 400000 in
theorem take_wrong_raw (b : Nat) (c t : Int) (w : World) (ht0 : 0 ≤ t) (ht : t ≤ 9) (h1 : w.cell? ⟨b, 1, none⟩ = some (.int .i64 t)) (h2 : w.cell? ⟨b, 2, none⟩ = some (.bool false)) (h3 : w.cell? ⟨b, 3, none⟩ = some (.bool false))
    (f1 : w.frozen? ⟨b, 1, none⟩ = false) (f3 : w.frozen? ⟨b, 3, none⟩ = false) (hf : (faultOf t c != 0) = true) :
    Calls Tryz.prog 170 #[.pointer (some ⟨b, 0, none⟩), .int .u8 c] w fun e w' => e = .returned (.tuple #[.bool false, .int .i64 (faultOf t c)]) ∧ w' = (w.setCell ⟨b, 1, none⟩ (.int .i64 (t + 1))).setCell ⟨b, 3, none⟩ (.bool true) := by
  generalize hg : faultOf t c = f at *
  have H : Hid (faultOf t c = f) := hg
  clear hg
  go_enter Tryz.func170, Tryz.ntmps170
  go_wp2_with (go_at_call 182; refine (fault_any _ _ _).mono ?_; rintro e w' ⟨rfl, rfl⟩; rw [H.out])
  go_ret2
  exact ⟨rfl, rfl⟩

theorem take_wrong (b t : Nat) (c n : Int) (w : World) (hT : IsT w b n t false false) (ht : t ≤ 9) (hf : faultOf t c ≠ 0) :
    Calls Tryz.prog 170 #[.pointer (some ⟨b, 0, none⟩), .int .u8 c] w fun e w' => e = .returned (.tuple #[.bool false, .int .i64 (faultOf t c)]) ∧ IsT w' b n ((t + 1 : Nat) : Int) false true ∧ w'.heap.size = w.heap.size ∧ w.grownBy w' (some b) := by
  refine (take_wrong_raw b c t w (by omega) (by omega) hT.c1 hT.c2 hT.c3 (hT.free 1) (hT.free 3) (by simpa using hf)).mono ?_
  rintro e w' ⟨rfl, rfl⟩
  refine ⟨rfl, ?_, by simp [World.setCell], grownBy_setCell (grownBy_setCell (grownBy_refl _ _) _ _) _ _⟩
  exact block_setCell (block_setCell hT _ _) _ _

set_option maxHeartbeats 400000 in
theorem take_right_raw (b : Nat) (c n t : Int) (w : World) (ht0 : 0 ≤ t) (ht : t ≤ 9) (hc0 : 0 ≤ c) (hc : c ≤ 255) (h0 : w.cell? ⟨b, 0, none⟩ = some (.int .u64 n)) (h1 : w.cell? ⟨b, 1, none⟩ = some (.int .i64 t)) (h2 : w.cell? ⟨b, 2, none⟩ = some (.bool false)) (h3 : w.cell? ⟨b, 3, none⟩ = some (.bool false))
    (f0 : w.frozen? ⟨b, 0, none⟩ = false) (f1 : w.frozen? ⟨b, 1, none⟩ = false) (f2 : w.frozen? ⟨b, 2, none⟩ = false) (hf : faultOf t c = 0) :
    Calls Tryz.prog 170 #[.pointer (some ⟨b, 0, none⟩), .int .u8 c] w fun e w' => e = .returned (.tuple #[.bool (decide (c < 128)), .int .i64 0]) ∧
      w' = (((w.setCell ⟨b, 1, none⟩ (.int .i64 (t + 1))).setCell ⟨b, 0, none⟩ (.int .u64 (bits .or .u64 n (IntKind.u64.wrap (c % 128 * 2 ^ (7 * t).toNat))))).setCell ⟨b, 2, none⟩ (.bool (decide (c < 128)))).drew := by
  have H : Hid (faultOf t c = 0) := hf
  clear hf
  go_enter Tryz.func170, Tryz.ntmps170
  go_wp2_with (go_at_call 182; refine (fault_any _ _ _).mono ?_; rintro e w' ⟨rfl, rfl⟩; rw [H.out])
  go_region
  all_goals go_wp2
  go_ret2
  exact ⟨rfl, rfl⟩

theorem take_right (b t : Nat) (c n : Int) (w : World) (hT : IsT w b n t false false) (ht : t ≤ 9) (hc0 : 0 ≤ c) (hc : c ≤ 255) (h0 : 0 ≤ n) (hn : n < 128 ^ t) (hf : faultOf t c = 0) :
    Calls Tryz.prog 170 #[.pointer (some ⟨b, 0, none⟩), .int .u8 c] w fun e w' => e = .returned (.tuple #[.bool (decide (c < 128)), .int .i64 0]) ∧ IsT w' b (n + c % 128 * 128 ^ t) ((t + 1 : Nat) : Int) (decide (c < 128)) false ∧ w'.heap.size = w.heap.size ∧ w.grownBy w' (some b) := by
  refine (take_right_raw b c n t w (by omega) (by omega) hc0 hc hT.c0 hT.c1 hT.c2 hT.c3 (hT.free 0) (hT.free 1) (hT.free 2) hf).mono ?_
  rintro e w' ⟨rfl, rfl⟩
  rw [or_step n c t h0 hn hc0 hc (faultOf_le8 t c hf ht)]
  refine ⟨rfl, ?_, by simp [World.setCell], grownBy_drew (grownBy_setCell (grownBy_setCell (grownBy_setCell (grownBy_refl _ _) _ _) _ _) _ _)⟩
  exact block_setCell (block_setCell (block_setCell hT _ _) _ _) _ _

end Go.Proofs.YtepjblmjjegpgaaGreat
