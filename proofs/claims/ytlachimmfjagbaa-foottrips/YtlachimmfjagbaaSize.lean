/- What Size answers. -/
import Derived.Test.YtlachimmfjagbaaLen
import Derived.Test.YtlachimmfjagbaaPlain
import Derived.WalkKit
import Derived.WalkSpells
import Derived.WalkLawsBesides
namespace Go.Proofs.Ytlachimmfjagbaa
open Go.RowKit

/-- How many groups of seven bits. -/
def vsize (n : Nat) : Nat := (Lib.bitLen (n ||| 1) + 6) / 7

theorem or_one (x : Int) (h0 : 0 ≤ x) (h1 : x ≤ 18446744073709551615) : bits .or .u64 x 1 = ((x.toNat ||| 1 : Nat) : Int) := by
  rw [u64_or x 1 h0 (by omega) (by omega) (by omega)]
  rfl
theorem or_one_lt (n : Nat) (h : n ≤ 18446744073709551615) : n ||| 1 < 2 ^ 64 := Nat.or_lt_two_pow (by omega) (by omega)
theorem bitLen_le64 (n : Nat) (h : n < 2 ^ 64) : Lib.bitLen n ≤ 64 := Lib.bitLen_le n 64 (Nat.le_refl _) h

set_option maxHeartbeats 400000 in
theorem size_any (x : Int) (w : World) (h0 : 0 ≤ x) (h1 : x ≤ 18446744073709551615) :
    Calls Try.prog 58 #[.int .u64 x] w fun e w' => e = .returned (.int .i64 (vsize x.toNat)) ∧ w' = w := by
  have hlt := or_one_lt x.toNat (by omega)
  have hle := bitLen_le64 _ hlt
  have HO : Hid (bits .or .u64 x 1 = ((x.toNat ||| 1 : Nat) : Int)) := or_one x h0 h1
  have HV : Hid (vsize x.toNat = (Lib.bitLen (x.toNat ||| 1) + 6) / 7) := rfl
  generalize vsize x.toNat = V at *
  generalize x.toNat ||| 1 = m at *
  have hc := len64_any (m : Int) w (by omega) (by omega)
  rw [Int.toNat_natCast] at hc
  generalize Lib.bitLen m = L at *
  have HC := hide hc
  clear hc
  go_enter Try.func58, Try.ntmps58
  go_wp2_with (go_at_call 63; rw [HO.out]; refine (unhide HC).mono ?_; rintro e w' ⟨rfl, rfl⟩)
  go_ret
  exact ⟨ret_int (by have := HV.out; omega), rfl⟩
theorem vsize_300 : vsize 300 = 2 := by decide +kernel

end Go.Proofs.Ytlachimmfjagbaa
