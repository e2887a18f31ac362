/- A number's bytes are read again; what vint.Bytes gives. -/
import Derived.Test.YteindoemdonagaaG31
import Derived.Test.YteindoemdonagaaG9
namespace Go.Proofs.Yteindoemdonagaa
open Go.RowKit

theorem pre_cons (c : Int) (r : List Int) : ∀ k, pre (c :: r) 0 (k + 1) = c % 128 + 128 * pre r 0 k
  | 0 => by simp [pre]
  | k + 1 => by
    have h1 : pre (c :: r) 0 (k + 1 + 1) = pre (c :: r) 0 (k + 1) + (c :: r).getD (0 + (k + 1)) 0 % 128 * 128 ^ (k + 1) := rfl
    have h2 : pre r 0 (k + 1) = pre r 0 k + r.getD (0 + k) 0 % 128 * 128 ^ k := rfl
    have h3 : (c :: r).getD (0 + (k + 1)) 0 = r.getD (0 + k) 0 := by simp
    rw [h1, pre_cons c r k, h2, h3, Int.pow_succ, Int.mul_add, Int.add_assoc]
    congr 2
    rw [Int.mul_comm (128 ^ k) 128, ← Int.mul_assoc, ← Int.mul_assoc, Int.mul_comm _ 128]
structure NumE (i : Nat) (e : List Int) (n : Nat) : Prop where
  len : 1 ≤ e.length
  more : ∀ j, j + 1 < e.length → ¬ e.getD j 0 < 128
  last : e.getD (e.length - 1) 0 < 128
  ok : ∀ j : Nat, j < e.length → faultOf ((i + j : Nat) : Int) (e.getD j 0) = 0
  val : pre e 0 e.length = (n : Int)
theorem numE_one (i m : Nat) (hm : m < 128) (hf : faultOf (i : Int) (m : Int) = 0) : NumE i [(m : Int)] m := by
  refine ⟨by simp, fun j hj => by simp at hj, by simp; omega, fun j hj => ?_, ?_⟩
  · have : j = 0 := by simpa using hj
    subst this
    simpa using hf
  · simp [pre]
    omega
theorem encF_num : ∀ (f i m : Nat), i + f = 9 → m * 128 ^ i ≤ 18446744073709551615 → (0 < i → 0 < m) → NumE i (encF f m) m := by
  intro f
  induction f with
  | zero =>
    intro i m hi hm h0
    obtain rfl : i = 9 := by omega
    have hp : (128 : Nat) ^ 9 = 9223372036854775808 := by decide
    rw [hp] at hm
    have hm1 : m ≤ 1 := by omega
    have hm0 := h0 (by omega)
    obtain rfl : m = 1 := by omega
    have he : encF 0 1 = [((1 : Nat) : Int)] := encF_lt 0 1 (by omega)
    rw [he]
    exact numE_one 9 1 (by omega) (by decide)
  | succ f ih =>
    intro i m hi hm h0
    by_cases h : m < 128
    · rw [encF_lt _ _ h]
      refine numE_one i m h ?_
      unfold faultOf
      rw [if_neg (by omega), if_neg (by omega)]
    · rw [encF_ge f m (by omega)]
      have hm' : m / 128 * 128 ^ (i + 1) ≤ 18446744073709551615 := by
        rw [Nat.pow_succ, Nat.mul_comm (128 ^ i) 128, ← Nat.mul_assoc]
        have := Nat.mul_le_mul_right (128 ^ i) (show m / 128 * 128 ≤ m by omega)
        omega
      have hI := ih (i + 1) (m / 128) (by omega) hm' (fun _ => by omega)
      have hf : faultOf (i : Int) ((m % 128 + 128 : Nat) : Int) = 0 := by
        unfold faultOf
        rw [if_neg (by omega), if_neg (by omega)]
      generalize encF f (m / 128) = r at *
      have hl := hI.len
      refine ⟨by simp, fun j hj => ?_, ?_, fun j hj => ?_, ?_⟩
      · match j with
        | 0 => simp; omega
        | j + 1 =>
          have := hI.more j (by simp at hj; omega)
          simpa using this
      · rw [List.length_cons, Nat.add_sub_cancel]
        obtain ⟨q, hq⟩ : ∃ q, r.length = q + 1 := ⟨r.length - 1, by omega⟩
        have := hI.last
        rw [hq, Nat.add_sub_cancel] at this
        rw [hq]
        simpa using this
      · match j with
        | 0 => simpa using hf
        | j + 1 =>
          have := hI.ok j (by simp at hj; omega)
          rw [show i + (j + 1) = i + 1 + j by omega]
          simpa using this
      · rw [List.length_cons, pre_cons, hI.val]
        omega
theorem enc_num (n : Nat) (h : n ≤ 18446744073709551615) : NumB (enc n) (n : Int) := by
  have hE := encF_num 9 0 n (by omega) (by omega) (fun h => by omega)
  have hl := enc_len_le n h
  exact ⟨hl, hE.more, hE.last, fun j hj => by have := hE.ok j hj; rwa [Nat.zero_add] at this, hE.val⟩

end Go.Proofs.Yteindoemdonagaa
