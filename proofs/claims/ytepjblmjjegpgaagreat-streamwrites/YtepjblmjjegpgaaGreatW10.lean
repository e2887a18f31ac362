/- What Size answers. -/
import Derived.Test.YtepjblmjjegpgaaGreatW2
import Derived.Test.YtepjblmjjegpgaaGreatW1
import Derived.WalkKit
import Derived.WalkSpells
import Derived.WalkLawsBesides
namespace Go.Proofs.YtepjblmjjegpgaaGreat
open Go.RowKit
set_option maxRecDepth 100000

/-- How many groups of seven bits. -/
def vsize (n : Nat) : Nat := (Lib.bitLen (n ||| 1) + 6) / 7

theorem or_one (x : Int) (h0 : 0 ≤ x) (h1 : x ≤ 18446744073709551615) : bits .or .u64 x 1 = ((x.toNat ||| 1 : Nat) : Int) := by
  rw [u64_or x 1 h0 (by omega) (by omega) (by omega)]
  rfl
theorem or_one_lt (n : Nat) (h : n ≤ 18446744073709551615) : n ||| 1 < 2 ^ 64 := Nat.or_lt_two_pow (by omega) (by omega)
theorem bitLen_le64 (n : Nat) (h : n < 2 ^ 64) : Lib.bitLen n ≤ 64 := Lib.bitLen_le n 64 (Nat.le_refl _) h

set_option maxHeartbeats 400000 in
theorem size_any (x : Int) (w : World) (h0 : 0 ≤ x) (h1 : x ≤ 18446744073709551615) :
    Calls Tryz.prog 135 #[.int .u64 x] w fun e w' => e = .returned (.int .i64 (vsize x.toNat)) ∧ w' = w := by
  have hlt := or_one_lt x.toNat (by omega)
  have hle := bitLen_le64 _ hlt
  have HO : Hid (bits .or .u64 x 1 = ((x.toNat ||| 1 : Nat) : Int)) := or_one x h0 h1
  have HV : Hid (vsize x.toNat = (Lib.bitLen (x.toNat ||| 1) + 6) / 7) := rfl
  generalize vsize x.toNat = V at *
  generalize x.toNat ||| 1 = m at *
  have hc := len64_any (m : Int) w (by omega) (by omega)
  rw [Int.toNat_natCast] at hc
  generalize Lib.bitLen m = L at *
  have HC := hide hc
  clear hc
  go_enter Tryz.func135, Tryz.ntmps135
  go_wp2_with (go_at_call 154; rw [HO.out]; refine (unhide HC).mono ?_; rintro e w' ⟨rfl, rfl⟩)
  go_ret
  exact ⟨ret_int (by have := HV.out; omega), rfl⟩
theorem vsize_300 : vsize 300 = 2 := by decide +kernel

end Go.Proofs.YtepjblmjjegpgaaGreat

namespace Go.Proofs.YtepjblmjjegpgaaGreat
open Go.RowKit
set_option maxRecDepth 100000

/-- A number's bytes: groups of seven bits, the lowest first; 128 more on each that another one follows. -/
def encF : Nat → Nat → List Int
  | 0, n => [(n : Int)]
  | f + 1, n => if n < 128 then [(n : Int)] else ((n % 128 + 128 : Nat) : Int) :: encF f (n / 128)
def enc (n : Nat) : List Int := encF 9 n

theorem encF_lt (f n : Nat) (h : n < 128) : encF f n = [(n : Int)] := by
  cases f with
  | zero => rfl
  | succ f => simp [encF, h]
theorem encF_ge (f n : Nat) (h : 128 ≤ n) : encF (f + 1) n = ((n % 128 + 128 : Nat) : Int) :: encF f (n / 128) := by
  rw [encF, if_neg (by omega)]

theorem enc_len : ∀ (j f n : Nat), j ≤ f → n < 128 ^ (j + 1) → (128 ^ j ≤ n ∨ j = 0) → (encF f n).length = j + 1
  | 0, f, n, _, h2, _ => by rw [encF_lt f n (by simpa using h2)]; rfl
  | j + 1, 0, n, hf, _, _ => by omega
  | j + 1, f + 1, n, hf, h2, h1 => by
    have h1' : 128 ^ j * 128 ≤ n := by
      rcases h1 with h1 | h1
      · rwa [Nat.pow_succ] at h1
      · omega
    have hp : 0 < 128 ^ j := Nat.pow_pos (by decide)
    rw [Nat.pow_succ] at h2
    rw [encF_ge f n (by omega), List.length_cons, enc_len j f (n / 128) (by omega) (by omega) (.inl (by omega))]

theorem range_of (n : Nat) (h : n ≤ 18446744073709551615) : ∃ j, j ≤ 9 ∧ n < 128 ^ (j + 1) ∧ (128 ^ j ≤ n ∨ j = 0) := by
  by_cases h0 : n < 128 ^ 1
  · exact ⟨0, by omega, h0, .inr rfl⟩
  by_cases h1 : n < 128 ^ 2
  · exact ⟨1, by omega, h1, .inl (by omega)⟩
  by_cases h2 : n < 128 ^ 3
  · exact ⟨2, by omega, h2, .inl (by omega)⟩
  by_cases h3 : n < 128 ^ 4
  · exact ⟨3, by omega, h3, .inl (by omega)⟩
  by_cases h4 : n < 128 ^ 5
  · exact ⟨4, by omega, h4, .inl (by omega)⟩
  by_cases h5 : n < 128 ^ 6
  · exact ⟨5, by omega, h5, .inl (by omega)⟩
  by_cases h6 : n < 128 ^ 7
  · exact ⟨6, by omega, h6, .inl (by omega)⟩
  by_cases h7 : n < 128 ^ 8
  · exact ⟨7, by omega, h7, .inl (by omega)⟩
  by_cases h8 : n < 128 ^ 9
  · exact ⟨8, by omega, h8, .inl (by omega)⟩
  · exact ⟨9, by omega, by omega, .inl (by omega)⟩

theorem bitLen_pos (x : Nat) (h : 1 ≤ x) : 1 ≤ Lib.bitLen x := by
  show 1 ≤ Lib.bitLenAux (63 + 1) x
  rw [Lib.bitLenAux, if_neg (by omega)]
  omega

theorem bitLen_ge (x k : Nat) (h : 2 ^ k ≤ x) (hx : x < 2 ^ 64) : k + 1 ≤ Lib.bitLen x := by
  have hp : 0 < 2 ^ k := Nat.pow_pos (by decide)
  rw [Lib.bitLen_shift k x h hx]
  have := bitLen_pos (x / 2 ^ k) (Nat.div_pos h hp)
  omega

theorem vsize_enc (n : Nat) (h : n ≤ 18446744073709551615) : vsize n = (enc n).length := by
  obtain ⟨j, hj, h2, h1⟩ := range_of n h
  unfold enc
  rw [enc_len j 9 n hj h2 h1]
  have hlt : n ||| 1 < 2 ^ 64 := Nat.or_lt_two_pow (by omega) (by omega)
  have hge : n ≤ n ||| 1 := Nat.left_le_or
  have h1le : 1 ≤ n ||| 1 := Nat.right_le_or
  have hlo : 7 * j + 1 ≤ Lib.bitLen (n ||| 1) := by
    refine bitLen_ge _ _ ?_ hlt
    rcases h1 with h1 | h1
    · rw [← pow128]; omega
    · subst h1; simpa using h1le
  have hhi : Lib.bitLen (n ||| 1) ≤ 7 * j + 7 := by
    by_cases h9 : j = 9
    · subst h9
      have := Lib.bitLen_le (n ||| 1) 64 (by omega) hlt
      omega
    · refine Lib.bitLen_le _ _ (by omega) (Nat.or_lt_two_pow ?_ ?_)
      · rw [show 7 * j + 7 = 7 * (j + 1) by omega, ← pow128]; exact h2
      · exact Nat.one_lt_two_pow (by omega)
  unfold vsize
  omega

theorem enc_len_le (n : Nat) (h : n ≤ 18446744073709551615) : 1 ≤ (enc n).length ∧ (enc n).length ≤ 10 := by
  obtain ⟨j, hj, h2, h1⟩ := range_of n h
  unfold enc
  rw [enc_len j 9 n hj h2 h1]
  omega

theorem enc_mono (m n : Nat) (hmn : m ≤ n) (h : n ≤ 18446744073709551615) : (enc m).length ≤ (enc n).length := by
  obtain ⟨i, hi, i2, i1⟩ := range_of m (by omega)
  obtain ⟨j, hj, j2, j1⟩ := range_of n h
  unfold enc
  rw [enc_len i 9 m hi i2 i1, enc_len j 9 n hj j2 j1]
  by_cases hij : i ≤ j
  · omega
  · exfalso
    have := Nat.pow_le_pow_right (show 0 < 128 by decide) (show j + 1 ≤ i by omega)
    rcases i1 with i1 | i1 <;> omega

/-- What is written is read: the number, all its bytes, whatever stands behind. -/
theorem scan_enc (rest : List Int) : ∀ (f i m : Nat) (acc : Int), i + f = 9 → m * 128 ^ i ≤ 18446744073709551615 → (0 < i → 0 < m) →
    scan i acc (encF f m ++ rest) = (acc + (m : Int) * 128 ^ i, i + (encF f m).length, 0) := by
  intro f
  induction f with
  | zero =>
    intro i m acc hi hm h0
    obtain rfl : i = 9 := by omega
    have hp : (128 : Nat) ^ 9 = 9223372036854775808 := by decide
    rw [hp] at hm
    have hm1 : m ≤ 1 := by omega
    have hm0 := h0 (by omega)
    obtain rfl : m = 1 := by omega
    simp [encF, scan, faultOf]
  | succ f ih =>
    intro i m acc hi hm h0
    by_cases h : m < 128
    · rw [encF_lt _ _ h]
      have hf : faultOf (i : Int) (m : Int) = 0 := by
        unfold faultOf
        rw [if_neg (by omega), if_neg (by omega)]
      have e : (m : Int) % 128 = m := by omega
      simp only [List.cons_append, List.nil_append, List.length_cons, List.length_nil]
      rw [scan, if_neg (by rw [hf]; simp), if_pos (by omega), e]
    · rw [encF_ge f m (by omega)]
      have hp : 0 < 128 ^ i := Nat.pow_pos (by decide)
      have hdm : m / 128 * 128 + m % 128 = m := by omega
      have hm' : m / 128 * 128 ^ (i + 1) ≤ 18446744073709551615 := by
        rw [Nat.pow_succ, Nat.mul_comm (128 ^ i) 128, ← Nat.mul_assoc]
        have := Nat.mul_le_mul_right (128 ^ i) (show m / 128 * 128 ≤ m by omega)
        omega
      have hf : faultOf (i : Int) ((m % 128 + 128 : Nat) : Int) = 0 := by
        unfold faultOf
        rw [if_neg (by omega), if_neg (by omega)]
      have e : ((m % 128 + 128 : Nat) : Int) % 128 = (m : Int) % 128 := by omega
      rw [List.cons_append, scan, if_neg (by rw [hf]; simp), if_neg (by omega), e, ih (i + 1) (m / 128) _ (by omega) hm' (fun _ => by omega)]
      have e2 : acc + (m : Int) % 128 * 128 ^ i + ((m / 128 : Nat) : Int) * 128 ^ (i + 1) = acc + (m : Int) * 128 ^ i := by
        rw [pow128_succ, Int.mul_comm (128 ^ i) 128, ← Int.mul_assoc, Int.add_assoc, ← Int.add_mul]
        congr 2
        omega
      rw [e2, List.length_cons]
      simp only [Prod.mk.injEq, true_and, and_true]
      omega

theorem scan_enc0 (n : Nat) (h : n ≤ 18446744073709551615) (rest : List Int) : scan 0 0 (enc n ++ rest) = ((n : Int), (enc n).length, 0) := by
  have := scan_enc rest 9 0 n 0 (by omega) (by omega) (fun h => by omega)
  unfold enc
  rw [this]
  simp

theorem encF_fits8 : ∀ (f n : Nat), n < 128 ^ (f + 1) * 2 → ∀ c ∈ encF f n, 0 ≤ c ∧ c ≤ 255 := by
  intro f
  induction f with
  | zero => intro n hn c hc; simp [encF] at hc; omega
  | succ f ih =>
    intro n hn c hc
    by_cases h : n < 128
    · rw [encF_lt _ _ h] at hc; simp at hc; omega
    · rw [encF_ge f n (by omega)] at hc
      rcases List.mem_cons.1 hc with h1 | h1
      · omega
      · refine ih (n / 128) ?_ c h1
        rw [Nat.pow_succ] at hn
        omega

theorem fits8_of_mem {zs : List Int} (h : ∀ c ∈ zs, 0 ≤ c ∧ c ≤ 255) : Fits8 zs := by
  intro i
  by_cases hi : i < zs.length
  · have := h zs[i] (List.getElem_mem hi)
    simpa [List.getD, hi] using this
  · simp [List.getD, hi]

theorem enc_mem8 (n : Nat) (h : n ≤ 18446744073709551615) : ∀ c ∈ enc n, 0 ≤ c ∧ c ≤ 255 := encF_fits8 9 n (by omega)

/-- Of two unlike numbers neither's bytes begin the other's. -/
theorem enc_apart (m n : Nat) (hm : m ≤ 18446744073709551615) (hn : n ≤ 18446744073709551615) (hne : m ≠ n) : enc m ≠ (enc n).take (enc m).length := by
  intro e
  have h1 := scan_enc0 m hm ((enc n).drop (enc m).length)
  have h2 := scan_enc0 n hn []
  rw [List.append_nil] at h2
  rw [show enc m ++ (enc n).drop (enc m).length = enc n from by
    conv => lhs; lhs; rw [e]
    exact List.take_append_drop _ _] at h1
  rw [h1] at h2
  simp only [Prod.mk.injEq] at h2
  exact hne (by omega)

end Go.Proofs.YtepjblmjjegpgaaGreat
