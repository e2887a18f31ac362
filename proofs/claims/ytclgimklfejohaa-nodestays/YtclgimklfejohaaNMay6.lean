/- Check's parts of the document: Key, Value, keys. -/
import Derived.Test.YtclgimklfejohaaNMay5
namespace Go.Proofs.Ytclgimklfejohaa
open Go.RowKit

set_option maxHeartbeats 400000 in
theorem rvalue_any (a : Option Addr) (l c : Nat) (w : World) : Calls Try.prog 21 #[.slice a l c] w fun e w' => e = .returned (.bool (decide (l ≤ 256))) ∧ w' = w := by
  have HD : Hid (decide ((l : Int) ≤ 256) = decide (l ≤ 256)) := by show _ = _; exact decide_eq_decide.2 (by omega)
  rw [← HD.out]
  go_enter Try.func21, Try.ntmps21
  go_wp2
  go_ret
  exact ⟨rfl, rfl⟩
set_option maxHeartbeats 400000 in
theorem rkey_any (a : Option Addr) (l c : Nat) (w : World) : Calls Try.prog 20 #[.slice a l c] w fun e w' => e = .returned (.bool (decide (1 ≤ l ∧ l ≤ 64))) ∧ w' = w := by
  by_cases h1 : 1 ≤ l
  · have i1 : (1 : Int) ≤ (l : Int) := by omega
    have HD : Hid (decide ((l : Int) ≤ 64) = decide (1 ≤ l ∧ l ≤ 64)) := by show _ = _; exact decide_eq_decide.2 (by omega)
    rw [← HD.out]
    clear h1
    go_enter Try.func20, Try.ntmps20
    go_wp2
    go_ret
    exact ⟨rfl, rfl⟩
  · have i1 : ¬ (1 : Int) ≤ (l : Int) := by omega
    have HD : Hid (decide (1 ≤ l ∧ l ≤ 64) = false) := by show _ = _; exact decide_eq_false fun h => h1 h.1
    rw [HD.out]
    clear h1
    go_enter Try.func20, Try.ntmps20
    go_wp2
    go_ret
    exact ⟨rfl, rfl⟩

theorem ky_rs {hi : List Int} {ks : List (List Int)} (h : KyP hi ks) : Rs ks := fun j hj => by
  have := (h (j + 1) (by omega)).2 (Nat.succ_pos j)
  rwa [Nat.add_sub_cancel] at this

end Go.Proofs.Ytclgimklfejohaa
