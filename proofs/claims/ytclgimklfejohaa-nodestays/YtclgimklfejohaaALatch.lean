/- arena: latches. -/
import Derived.Test.YtclgimklfejohaaNTx
import Derived.Laws.LoneSync
namespace Go.Proofs.Ytclgimklfejohaa
open Go.RowKit

theorem a_and1 (x : Nat) (h : x < 18446744073709551616) : bits .and .u64 (x : Int) 1 = ((x % 2 : Nat) : Int) := by
  have := u64_and_nat x 1 h (by decide)
  rw [show ((1 : Nat) : Int) = 1 from rfl] at this
  rw [this, nat_mask1]
theorem a_or1 (x : Nat) (h : x < 18446744073709551616) (he : x % 2 = 0) : bits .or .u64 (x : Int) 1 = ((x + 1 : Nat) : Int) := by
  have := u64_or_nat x 1 h (by decide)
  rw [show ((1 : Nat) : Int) = 1 from rfl] at this
  rw [this, nat_join 1 x 1 (by simpa using he) (by decide)]
theorem a_andNot1 (x : Nat) (h : x < 18446744073709551616) (ho : x % 2 = 1) : bits .andNot .u64 (x : Int) 1 = ((x - 1 : Nat) : Int) := by
  have := u64_andNot_nat x 1 h (by decide)
  rw [show ((1 : Nat) : Int) = 1 from rfl] at this
  rw [this]
  congr 1
  apply Nat.eq_of_testBit_eq
  intro i
  rw [Nat.testBit_and]
  cases i with
  | zero =>
    rw [show (18446744073709551615 - 1 : Nat).testBit 0 = false by decide, Bool.and_false, Nat.testBit_zero]
    have : (x - 1) % 2 = 0 := by omega
    rw [this]; rfl
  | succ j =>
    rw [Nat.testBit_succ, Nat.testBit_succ, Nat.testBit_succ, show (x - 1) / 2 = x / 2 by omega, show ((18446744073709551615 - 1 : Nat) / 2) = 2 ^ 63 - 1 by decide, Nat.testBit_two_pow_sub_one]
    by_cases hj : j < 63
    · simp [hj]
    · have : x / 2 < 2 ^ j := Nat.lt_of_lt_of_le (show x / 2 < 2 ^ 63 by omega) (Nat.pow_le_pow_right (by decide) (by omega))
      rw [Nat.testBit_lt_two_pow this]; simp

theorem held_true {x : Nat} (h : x < 18446744073709551616) (ho : x % 2 = 1) : (!(bits .and .u64 (x : Int) 1 == 0)) = true := by rw [a_and1 x h, ho]; rfl
theorem held_false {x : Nat} (h : x < 18446744073709551616) (ho : x % 2 = 0) : (!(bits .and .u64 (x : Int) 1 == 0)) = false := by rw [a_and1 x h, ho]; rfl

/-- What a latch's word is, given back. -/
def freeW (x : Nat) (ch : Bool) : Nat := if ch then (x + 1) % 18446744073709551616 else x - 1

end Go.Proofs.Ytclgimklfejohaa
