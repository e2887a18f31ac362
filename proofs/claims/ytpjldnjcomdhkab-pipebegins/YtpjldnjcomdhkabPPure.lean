/- What Copy tells of a source and a sink, in numbers and texts. -/
import Derived.Test.YtpjldnjcomdhkabPInst
namespace Go.Proofs.Ytpjldnjcomdhkab
open Go.RowKit

/-- A hand into a sink: the sink has what it took; without an error that is all. -/
theorem handF_snk (ts : List Int) (fail : Int) : ∀ (fu : Nat) (c : Nat) (ys b : List Int) (idle : Nat), idle < 16 → 17 * b.length + (16 - idle) < fu →
    ∃ n c', handF (snkWf ts fail) fu (c, ys) b idle = (n, (handF (snkWf ts fail) fu (c, ys) b idle).2.1, (c', ys ++ b.take n)) ∧ n ≤ b.length ∧ ((handF (snkWf ts fail) fu (c, ys) b idle).2.1 = 0 → n = b.length)
  | 0, _, _, _, _, _, hf => absurd hf (Nat.not_lt_zero _)
  | fu + 1, c, ys, b, idle, hi, hf => by
    by_cases hb : b = []
    · subst hb
      rw [handF_done]
      exact ⟨0, c, by simp, Nat.le_refl _, fun _ => rfl⟩
    · have hlen : 0 < b.length := List.length_pos_iff.2 hb
      by_cases hfa : failsAt fail (c + 1) = true
      · have hw : snkWf ts fail (c, ys) b = (0, 32, (c + 1, ys)) := by simp [snkWf, hfa]
        rw [handF_err (by omega) hb (by rw [hw]; simp) (by rw [hw]; simp), hw]
        exact ⟨0, c + 1, by simp, Nat.zero_le _, fun h => by cases h⟩
      · have hfa' : failsAt fail (c + 1) = false := by simpa using hfa
        have hw : snkWf ts fail (c, ys) b = (((mostN ts (c + 1) b.length : Nat) : Int), 0, (c + 1, ys ++ b.take (mostN ts (c + 1) b.length))) := by simp [snkWf, hfa']
        have hle := mostN_le ts (c + 1) b.length
        generalize mostN ts (c + 1) b.length = n at *
        by_cases h0 : n = 0
        · subst h0
          by_cases h16 : idle + 1 = 16
          · rw [handF_16 (by omega) hb (by rw [hw]) (by rw [hw]; rfl) h16, hw]
            exact ⟨0, c + 1, by simp, Nat.zero_le _, fun h => by cases h⟩
          · have ih := handF_snk ts fail fu (c + 1) ys b (idle + 1) (by omega) (by omega)
            rw [handF_idle (by omega) hb (by rw [hw]) (by rw [hw]; rfl) h16, hw]
            simp only [List.take_zero, List.append_nil, Nat.add_sub_cancel]
            exact ih
        · obtain ⟨n', c', h1, h2, h3⟩ := handF_snk ts fail fu (c + 1) (ys ++ b.take n) (b.drop n) 0 (by omega) (by rw [List.length_drop]; omega)
          rw [handF_some (by omega) hb (by rw [hw]; simp only; omega) (by rw [hw]) (by rw [hw]; simp only; omega), hw]
          simp only [Int.toNat_natCast, Nat.add_sub_cancel]
          rw [List.length_drop] at h2 h3
          refine ⟨n + n', c', ?_, by omega, fun h => by have := h3 h; omega⟩
          rw [h1]
          simp only [List.append_assoc, Prod.mk.injEq, true_and]
          rw [List.take_add]
theorem handA_snk (ts : List Int) (fail : Int) (c : Nat) (ys b : List Int) : ∃ n c' e, handA (snkWf ts fail) (c, ys) b = (n, e, (c', ys ++ b.take n)) ∧ n ≤ b.length ∧ (e = 0 → n = b.length) := by
  obtain ⟨n, c', h1, h2, h3⟩ := handF_snk ts fail (17 * b.length + 17) c ys b 0 (by omega) (by omega)
  exact ⟨n, c', _, h1, h2, h3⟩

theorem src_step (zs gs : List Int) (fail : Int) (eager : Bool) (size c k : Nat) :
    stp size (srcRd zs gs fail eager size) (c, k) = ((zs.drop k).take (srcN zs gs fail (c + 1) k size), srcErr zs fail eager (c + 1) k (srcN zs gs fail (c + 1) k size), (c + 1, k + srcN zs gs fail (c + 1) k size)) := by
  have := srcN_le zs gs fail (c + 1) k size
  unfold stp
  rw [if_neg (by simp only [srcRd]; omega)]
  rfl
/-- The end is told where nothing is left. -/
theorem src_end {zs gs : List Int} {fail : Int} {eager : Bool} {size c k : Nat} (h : srcErr zs fail eager c k (srcN zs gs fail c k size) = 31) : k + srcN zs gs fail c k size = zs.length := by
  unfold srcErr at h
  split at h
  · cases h
  · rename_i hf
    split at h
    · rename_i hk
      have : srcN zs gs fail c k size = 0 := by unfold srcN; rw [if_neg hf, if_pos hk]
      omega
    · split at h
      · rename_i h2
        exact h2.2
      · cases h

theorem copyL_src (zs gs ts : List Int) (fail fail2 : Int) (eager : Bool) (size : Nat) : ∀ (fu c k idle c2 took : Nat) (ys : List Int) (s : Nat × Nat), k ≤ zs.length → idle < 16 → 17 * (zs.length - k) + (16 - idle) ≤ fu →
    ∃ n e c' k' c2', copyL (handA (snkWf ts fail2)) (chunkL (stp size (srcRd zs gs fail eager size)) fu (c, k) idle) s (c2, ys) took = (took + n, e, (c', k'), (c2', ys ++ (zs.drop k).take n)) ∧ n ≤ zs.length - k ∧ k' ≤ zs.length ∧ (e = 0 → n = zs.length - k ∧ k' = zs.length)
  | 0, c, k, idle, c2, took, ys, s, hk, hi, hf => absurd hf (by omega)
  | fu + 1, c, k, idle, c2, took, ys, s, hk, hi, hf => by
    have hle := srcN_le zs gs fail (c + 1) k size
    have hst := src_step zs gs fail eager size c k
    have hend := @src_end zs gs fail eager size (c + 1) k
    have hl : ((zs.drop k).take (srcN zs gs fail (c + 1) k size)).length = srcN zs gs fail (c + 1) k size := by rw [List.length_take, List.length_drop]; omega
    generalize srcN zs gs fail (c + 1) k size = n at *
    generalize srcErr zs fail eager (c + 1) k n = er at *
    by_cases hb : (zs.drop k).take n = [] ∧ er = 0
    · rw [chunkL_idle (by omega) (by rw [hst]; exact hb.1) (by rw [hst]; exact hb.2), hst]
      have hn0 : n = 0 := by rw [hb.1] at hl; simpa using hl.symm
      subst hn0
      by_cases h16 : idle + 1 < 16
      · rw [if_pos h16]
        exact copyL_src zs gs ts fail fail2 eager size fu (c + 1) k (idle + 1) c2 took ys s hk (by omega) (by omega)
      · rw [if_neg h16]
        have hh : handA (snkWf ts fail2) (c2, ys) [] = (0, 0, (c2, ys)) := by unfold handA; rw [handF_done]
        rw [copyL, hh]
        exact ⟨0, 33, c + 1, k + 0, c2, by simp, Nat.zero_le _, by omega, fun h => by cases h⟩
    · rw [chunkL_some (by omega) (by rw [hst]; exact hb), hst, copyL]
      obtain ⟨n1, c1, e1, h1, h2, h3⟩ := handA_snk ts fail2 c2 ys ((zs.drop k).take n)
      simp only [h1]
      rw [hl] at h2 h3
      have htt : ((zs.drop k).take n).take n1 = (zs.drop k).take n1 := by rw [List.take_take, Nat.min_eq_left h2]
      by_cases he1 : e1 = 0
      · rw [if_neg (by simp [he1])]
        have hn1 := h3 he1
        subst hn1
        by_cases h31 : er = 31
        · rw [if_pos h31]
          have := hend h31
          exact ⟨n1, 0, c + 1, k + n1, c1, by rw [htt], by omega, by omega, fun _ => by omega⟩
        · rw [if_neg h31]
          by_cases her : er = 0
          · rw [if_neg (by simp [her]), if_pos her]
            have hpos : 0 < n1 := by
              rcases Nat.eq_zero_or_pos n1 with h0 | h0
              · exact absurd ⟨by rw [h0]; rfl, her⟩ hb
              · exact h0
            obtain ⟨n2, e2, c', k', c2', g1, g2, g3, g4⟩ := copyL_src zs gs ts fail fail2 eager size fu (c + 1) (k + n1) 0 c1 (took + n1) (ys ++ (zs.drop k).take n1) (c + 1, k + n1) (by omega) (by omega) (by omega)
            simp only [Nat.add_sub_cancel]
            rw [htt, g1]
            refine ⟨n1 + n2, e2, c', k', c2', ?_, by omega, g3, fun h => ⟨by have := (g4 h).1; omega, (g4 h).2⟩⟩
            rw [List.take_add, List.drop_drop, Nat.add_assoc, List.append_assoc]
          · rw [if_pos her]
            exact ⟨n1, er, c + 1, k + n1, c1, by rw [htt], by omega, by omega, fun h => absurd h her⟩
      · rw [if_pos he1]
        exact ⟨n1, e1, c + 1, k + n, c1, by rw [htt], by omega, by omega, fun h => absurd h he1⟩

/-- What Copy from a source into a sink tells. -/
theorem copySS_told (zs gs ts : List Int) (fail fail2 : Int) (eager : Bool) (size : Int) (c k c2 : Nat) (ys : List Int) (hk : k ≤ zs.length) :
    ∃ n e c' k' c2', copyL (handA (snkWf ts fail2)) (srcAll zs gs fail eager size (c, k)) (c, k) (c2, ys) 0 = (n, e, (c', k'), (c2', ys ++ (zs.drop k).take n)) ∧ n ≤ zs.length - k ∧ k' ≤ zs.length ∧ (e = 0 → n = zs.length - k ∧ k' = zs.length) := by
  unfold srcAll
  split
  · obtain ⟨n, e, c', k', c2', h1, h2⟩ := copyL_src zs gs ts fail fail2 eager size.toNat (17 * (zs.length - k) + 16) c k 0 c2 0 ys (c, k) hk (by omega) (by omega)
    refine ⟨n, e, c', k', c2', ?_, h2⟩
    unfold chunkA
    rw [h1, Nat.zero_add]
  · have hh : handA (snkWf ts fail2) (c2, ys) [] = (0, 0, (c2, ys)) := by unfold handA; rw [handF_done]
    rw [copyL, hh]
    exact ⟨0, 1, c, k, c2, by simp, Nat.zero_le _, hk, fun h => by cases h⟩

end Go.Proofs.Ytpjldnjcomdhkab
