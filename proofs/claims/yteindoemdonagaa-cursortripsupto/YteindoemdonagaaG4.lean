/- What the document's own Read answers: what 'scan' says; it only reads. -/
import Derived.Test.YteindoemdonagaaRows
import Derived.Test.YteindoemdonagaaG1
import Derived.WalkKit
import Derived.WalkSpells
import Derived.WalkLawsBesides
namespace Go.Proofs.Yteindoemdonagaa
open Go.RowKit

/-- The number of the first k bytes from place p on. -/
def pre (zs : List Int) (p : Nat) : Nat → Int
  | 0 => 0
  | k + 1 => pre zs p k + zs.getD (p + k) 0 % 128 * 128 ^ k

theorem pre_bound (zs : List Int) (p k : Nat) : 0 ≤ pre zs p k ∧ pre zs p k < 128 ^ k := by
  induction k with
  | zero => simp [pre]
  | succ k ih => exact step_bound _ _ k ih.1 ih.2

theorem pre_u64 (zs : List Int) (p k : Nat) (hk : k ≤ 9) (h9 : k = 9 → zs.getD (p + 9) 0 ≤ 1) (h8 : Fits8 zs) : pre zs p (k + 1) ≤ 18446744073709551615 := by
  have hb := pre_bound zs p k
  by_cases e : k = 9
  · subst e
    have h1 := h9 rfl
    have h0 := (h8 (p + 9)).1
    have hm : zs.getD (p + 9) 0 % 128 ≤ 1 := by omega
    have hc : (128 : Int) ^ 9 = 9223372036854775808 := by decide
    show pre zs p 9 + zs.getD (p + 9) 0 % 128 * 128 ^ 9 ≤ _
    rw [hc] at *
    omega
  · have hb' := pre_bound zs p (k + 1)
    have hle : (128 : Int) ^ (k + 1) ≤ 128 ^ 9 := by
      rw [pow128i, pow128i]
      have := Nat.pow_le_pow_right (show 0 < 128 by decide) (show k + 1 ≤ 9 by omega)
      omega
    have hc : (128 : Int) ^ 9 = 9223372036854775808 := by decide
    omega

theorem hor_step (zs : List Int) (p j : Nat) (v T : Int) (h : v * 128 ^ (j + 1) + pre zs p (j + 1) = T) : (v * 128 + zs.getD (p + j) 0 % 128) * 128 ^ j + pre zs p j = T := by
  rw [pre, pow128_succ] at h
  rw [Int.add_mul, Int.mul_assoc, Int.mul_comm 128 (128 ^ j)]
  omega

theorem hor_le (v T : Int) (j : Nat) (q : Int) (hv : 0 ≤ v) (hq : 0 ≤ q) (h : v * 128 ^ j + q = T) : v ≤ T := by
  have hp := pow128_pos j
  have := Int.mul_le_mul_of_nonneg_left (show 1 ≤ (128 : Int) ^ j by omega) hv
  omega

theorem scan_done (zs : List Int) (p k : Nat) (hlt : p + k < zs.length) (hf : faultOf k (zs.getD (p + k) 0) = 0) (hc : zs.getD (p + k) 0 < 128) (hs : scan 0 0 (zs.drop p) = scan k (pre zs p k) (zs.drop (p + k))) :
    scan 0 0 (zs.drop p) = (pre zs p (k + 1), k + 1, 0) := by
  rw [hs, getD_drop zs (p + k) hlt, scan, if_neg (by rw [hf]; simp), if_pos hc, pre]
theorem scan_more (zs : List Int) (p k : Nat) (hlt : p + k < zs.length) (hf : faultOf k (zs.getD (p + k) 0) = 0) (hc : ¬ zs.getD (p + k) 0 < 128) (hs : scan 0 0 (zs.drop p) = scan k (pre zs p k) (zs.drop (p + k))) :
    scan 0 0 (zs.drop p) = scan (k + 1) (pre zs p (k + 1)) (zs.drop (p + (k + 1))) := by
  rw [hs, getD_drop zs (p + k) hlt, scan, if_neg (by rw [hf]; simp), if_neg hc, pre]
  rfl
theorem scan_wrong (zs : List Int) (p k : Nat) (hlt : p + k < zs.length) (hf : faultOf k (zs.getD (p + k) 0) ≠ 0) (hs : scan 0 0 (zs.drop p) = scan k (pre zs p k) (zs.drop (p + k))) :
    scan 0 0 (zs.drop p) = (0, k, faultOf k (zs.getD (p + k) 0)) := by
  rw [hs, getD_drop zs (p + k) hlt, scan, if_pos hf]
theorem scan_short (zs : List Int) (p k : Nat) (hge : zs.length ≤ p + k) (hs : scan 0 0 (zs.drop p) = scan k (pre zs p k) (zs.drop (p + k))) :
    scan 0 0 (zs.drop p) = (0, k, 11) := by
  rw [hs, List.drop_eq_nil_of_le hge, scan]

end Go.Proofs.Yteindoemdonagaa
