/- The statements' pick. -/
import Derived.Test.YtfpogjgbmibmcaaNTx
namespace Go.Proofs.Ytfpogjgbmibmcaa
open Go.RowKit

/-- Which of n things a raw number speaks of. -/
def pickN (c : Int) (n : Nat) : Nat := ((if c < 0 then -(c + 1) else c) % (n : Int)).toNat
theorem pickN_lt (c : Int) (n : Nat) (h : 0 < n) : pickN c n < n := by
  unfold pickN
  have h1 := Int.emod_nonneg (if c < 0 then -(c + 1) else c) (show ((n : Int)) ≠ 0 by omega)
  have h2 := Int.emod_lt_of_pos (if c < 0 then -(c + 1) else c) (show (0 : Int) < (n : Int) by omega)
  omega
theorem pickN_eq (c : Int) (n : Nat) (h : 0 < n) : ((pickN c n : Nat) : Int) = (if c < 0 then -(c + 1) else c) % (n : Int) := by
  unfold pickN
  have h1 := Int.emod_nonneg (if c < 0 then -(c + 1) else c) (show ((n : Int)) ≠ 0 by omega)
  omega
set_option maxHeartbeats 800000 in
theorem pick_any (c : Int) (n : Nat) (w : World) (hn : 0 < n) (hn2 : n < 9223372036854775807) (h1 : -9223372036854775808 ≤ c) (h2 : c ≤ 9223372036854775807) :
    Calls Try.prog 13 #[.int .i64 c, .int .i64 (n : Nat)] w fun e w' => e = .returned (.int .i64 (pickN c n : Nat)) ∧ w' = w := by
  have j0 : ¬ (n : Int) = 0 := by omega
  have j00 : ¬ (n : Int) = -1 := by omega
  have hE := pickN_eq c n hn
  have hL := pickN_lt c n hn
  obtain ⟨r, hr⟩ : ∃ r, r = ((pickN c n : Nat) : Int) := ⟨_, rfl⟩
  rw [← hr] at hE ⊢
  have hr0 : 0 ≤ r := by omega
  have hr1 : r < (n : Int) := by omega
  clear hr hL
  by_cases hc : c < 0
  · rw [if_pos hc] at hE
    have HM : Hid (-(Int.tmod (c + 1) (n : Int)) = r) := by show _ = _; rw [← Int.neg_tmod, Int.tmod_eq_emod_of_nonneg (by omega)]; exact hE.symm
    clear hE
    go_enter Try.func13, Try.ntmps13
    go_wp2_with fail
    go_ret
    exact ⟨ret_int HM.out, rfl⟩
  · rw [if_neg hc] at hE
    have HM := hide hE
    clear hE
    go_enter Try.func13, Try.ntmps13
    go_wp2_with fail
    go_ret
    exact ⟨ret_int HM.out.symm, rfl⟩

end Go.Proofs.Ytfpogjgbmibmcaa
