/- block: restart, spell; vint's Bytes. -/
import Derived.Test.YtjnldmbjeiejdaaBPure
import Derived.Test.YtjnldmbjeiejdaaKCut
namespace Go.Proofs.Ytjnldmbjeiejdaa
open Go.RowKit

theorem encE_P (p k v : List Int) : encE p k v = encP p k v := rfl

set_option maxHeartbeats 400000 in
theorem restart_any (n : Nat) (w : World) (hn : n ≤ 4611686018427387904) :
    Calls Try.prog 57 #[.int .i64 (n : Int)] w fun e w' => e = .returned (.bool (decide (n % 8 = 0))) ∧ w' = w := by
  go_enter Try.func57, Try.ntmps57
  go_wp2
  go_ret
  have h : ((n : Int) % 8 == 0) = decide (n % 8 = 0) := by
    by_cases h : n % 8 = 0
    · rw [decide_eq_true h]; simp; omega
    · rw [decide_eq_false h]; simp; omega
  rw [← h]
  exact ⟨rfl, rfl⟩

theorem two_row (w : World) (x y : Int) (T : TypeId) : Row (w.alloc (.cells #[.int .u8 x, .int .u8 y] T)) .u8 (some ⟨w.heap.size, 0, none⟩) [x, y] := by
  intro i hi
  refine ⟨w.heap.size, 0, rfl, ?_⟩
  rw [Nat.zero_add, cell_of_row _ _ _ _ _ _ (heap_alloc_new w _)]
  match i, hi with
  | 0, _ => rfl
  | 1, _ => rfl
set_option maxHeartbeats 400000 in
theorem spell_any (p : Nat) (w : World) :
    Calls Try.prog 58 #[.int .i64 (p : Int)] w fun e w' => e = .returned (.slice (some ⟨w.heap.size, 0, none⟩) 2 2) ∧ w' = w.alloc (.cells #[.int .u8 ((p % 256 : Nat) : Int), .int .u8 ((p / 256 % 256 : Nat) : Int)] 5) := by
  go_enter Try.func58, Try.ntmps58
  go_wp2
  go_ret
  refine ⟨rfl, ?_⟩
  simp

set_option maxHeartbeats 400000 in
theorem vbytes_any (n : Nat) (w : World) (hn : n ≤ 18446744073709551615) :
    Calls Try.prog 63 #[.int .u64 (n : Int)] w fun e w' => e = .returned (.slice (some ⟨w.heap.size + 1, 0, none⟩) (enc n).length (enc n).length) ∧ Row w' .u8 (some ⟨w.heap.size + 1, 0, none⟩) (enc n) ∧ Below w.heap.size w w' := by
  have hrow : Row (w.alloc (.cells #[.int .u64 (n : Int)] 76)) .u64 (some ⟨w.heap.size, 0, none⟩) [(n : Int)] := by
    intro i hi
    refine ⟨w.heap.size, 0, rfl, ?_⟩
    rw [Nat.zero_add, cell_of_row _ _ _ _ _ _ (heap_alloc_new w _)]
    match i, hi with
    | 0, _ => rfl
  have h64 : Fits64 [(n : Int)] := by
    intro i
    match i with
    | 0 => simp; omega
    | i + 1 => simp
  have HJ := hide (join_any (some ⟨w.heap.size, 0, none⟩) 1 1 [(n : Int)] (w.alloc (.cells #[.int .u64 (n : Int)] 76)) rfl (by omega) hrow h64)
  rw [encs_one, Int.toNat_natCast, World.size_alloc] at HJ
  clear hrow h64
  go_enter Try.func63, Try.ntmps63
  go_wp2_with fail
  refine HJ.out.mono ?_
  rintro e w1 ⟨rfl, ho, hb⟩
  replace ho := hide (row_of_owns2 ho)
  replace hb := hide hb
  go_wp2_with fail
  go_ret
  exact ⟨rfl, ho.out, ((Below.refl _ _).alloc (Nat.le_refl _) _).trans (hb.out.mono (by omega))⟩

end Go.Proofs.Ytjnldmbjeiejdaa
