/- Plain lists: the numbers of written bytes are just those that were written; what is read is written just so. -/
import Derived.Test.YtlphpcacngimhaaList
namespace Go.Proofs.Ytlphpcacngimhaa
open Go.RowKit

/-- Numbers with their places, from a place on. -/
def pairs : Nat → List Int → List (Nat × Nat)
  | _, [] => []
  | p, n :: ns => (p, n.toNat) :: pairs (p + (enc n.toNat).length) ns

theorem pairs_len : ∀ (p : Nat) (ns : List Int), (pairs p ns).length = ns.length
  | _, [] => rfl
  | p, n :: ns => by simp [pairs, pairs_len _ ns]
theorem pairs_snd : ∀ (p : Nat) (ns : List Int), (∀ n ∈ ns, 0 ≤ n) → (pairs p ns).map (fun x => Value.int .u64 (x.2 : Int)) = ns.map (Value.int .u64)
  | _, [], _ => rfl
  | p, n :: ns, h => by
    have h0 := h n (by simp)
    simp only [pairs, List.map_cons, pairs_snd _ ns (fun m hm => h m (by simp [hm]))]
    rw [Int.toNat_of_nonneg h0]

theorem pairs_get : ∀ (ns : List Int) (p k : Nat), k < ns.length → (pairs p ns)[k]? = some (p + (encs (ns.take k)).length, (ns.getD k 0).toNat)
  | [], _, k, h => by simp at h
  | n :: ns, p, 0, _ => by simp [pairs, encs]
  | n :: ns, p, k + 1, h => by
    simp only [pairs, List.getElem?_cons_succ]
    rw [pairs_get ns _ k (by simpa using h)]
    simp [encs]
    omega

theorem behind_pairs : ∀ (ns : List Int) (p : Nat), behindS (pairs p ns) = if ns = [] then 0 else p + (encs ns).length
  | [], _ => rfl
  | [n], p => by simp [pairs, behindS, encs]
  | n :: m :: ns, p => by
    have ih := behind_pairs (m :: ns) (p + (enc n.toNat).length)
    rw [if_neg (by simp)] at ih ⊢
    have e : behindS (pairs p (n :: m :: ns)) = behindS (pairs (p + (enc n.toNat).length) (m :: ns)) := by
      simp only [behindS, pairs, List.getLast?_cons_cons]
    rw [e, ih]
    simp only [encs, List.length_append]
    omega

theorem enc_pos (n : Nat) (h : n ≤ 18446744073709551615) : 1 ≤ (enc n).length := (enc_len_le n h).1

/-- The numbers that stand in written bytes. -/
theorem seqF_encs (zs : List Int) : ∀ (ns : List Int) (f p : Nat), (∀ n ∈ ns, 0 ≤ n ∧ n ≤ 18446744073709551615) → zs.drop p = encs ns → (encs ns).length < f → seqF zs f p = pairs p ns
  | [], f, p, _, hd, hf => by
    cases f with
    | zero => rfl
    | succ f => rw [seqF, hd]; rfl
  | n :: ns, 0, p, _, _, hf => by omega
  | n :: ns, f + 1, p, h, hd, hf => by
    have hn := h n (by simp)
    have hs : scan 0 0 (zs.drop p) = ((n.toNat : Int), (enc n.toNat).length, 0) := by
      rw [hd, encs]; exact scan_enc0 n.toNat (by omega) _
    have hp := enc_pos n.toNat (by omega)
    rw [seqF, hs]
    simp only [if_true, Int.toNat_natCast, pairs]
    rw [seqF_encs zs ns f _ (fun m hm => h m (by simp [hm])) ?_ ?_]
    · rw [← List.drop_drop, hd, encs]; simp
    · rw [encs, List.length_append] at hf; omega

theorem seq_encs (ns : List Int) (h : ∀ n ∈ ns, 0 ≤ n ∧ n ≤ 18446744073709551615) : seq (encs ns) = pairs 0 ns :=
  seqF_encs (encs ns) ns _ 0 h rfl (by omega)

theorem encs_mem8 : ∀ (ns : List Int), (∀ n ∈ ns, 0 ≤ n ∧ n ≤ 18446744073709551615) → ∀ c ∈ encs ns, 0 ≤ c ∧ c ≤ 255
  | [], _, c, hc => by simp [encs] at hc
  | n :: ns, h, c, hc => by
    rw [encs] at hc
    have hn := h n (by simp)
    rcases List.mem_append.1 hc with hc | hc
    · exact enc_mem8 n.toNat (by omega) c hc
    · exact encs_mem8 ns (fun m hm => h m (by simp [hm])) c hc

theorem mem64_of {ns : List Int} (h : Fits64 ns) : ∀ n ∈ ns, 0 ≤ n ∧ n ≤ 18446744073709551615 := by
  intro n hn
  obtain ⟨i, hi, rfl⟩ := List.mem_iff_getElem.1 hn
  have := h i
  simpa [List.getD, hi] using this

/-- What is read is written just so. -/
theorem scan_back : ∀ (cs : List Int) (i : Nat) (acc : Int), i ≤ 9 → (∀ c ∈ cs, 0 ≤ c ∧ c ≤ 255) → (scan i acc cs).2.2 = 0 →
    ∃ m : Nat, (scan i acc cs).1 = acc + (m : Int) * 128 ^ i ∧ encF (9 - i) m = cs.take ((scan i acc cs).2.1 - i) ∧ (0 < i → 0 < m)
  | [], i, acc, _, _, h => by simp [scan] at h
  | c :: cs, i, acc, hi, h8, h => by
    have hc := h8 c (by simp)
    by_cases hf : faultOf i c = 0
    · have hT := faultOf_le8 i c hf hi
      by_cases hc1 : c < 128
      · rw [scan, if_neg (by rw [hf]; simp), if_pos hc1]
        refine ⟨c.toNat, ?_, ?_, fun h0 => ?_⟩
        · show acc + c % 128 * 128 ^ i = _
          rw [show c % 128 = c by omega, Int.toNat_of_nonneg hc.1]
        · show encF (9 - i) c.toNat = (c :: cs).take (i + 1 - i)
          rw [encF_lt _ _ (by omega), show i + 1 - i = 1 by omega, Int.toNat_of_nonneg hc.1]
          rfl
        · by_cases e : c = 0
          · rw [e] at hf
            unfold faultOf at hf
            rw [if_neg (by omega), if_pos ⟨by omega, rfl⟩] at hf
            exact absurd hf (by decide)
          · omega
      · rw [scan, if_neg (by rw [hf]; simp), if_neg hc1] at h ⊢
        obtain ⟨m, h1, h2, h3⟩ := scan_back cs (i + 1) (acc + c % 128 * 128 ^ i) (by omega) (fun d hd => h8 d (by simp [hd])) h
        have hm := h3 (by omega)
        have hk := (scan_more_len cs (i + 1) (acc + c % 128 * 128 ^ i) h)
        refine ⟨(c % 128).toNat + 128 * m, ?_, ?_, fun _ => by omega⟩
        · rw [h1, pow128_succ, Int.natCast_add, Int.toNat_of_nonneg (by omega), Int.add_mul, Int.add_assoc]
          congr 2
          rw [Int.natCast_mul, Int.mul_comm (128 ^ i) 128, ← Int.mul_assoc, Int.mul_comm (m : Int) 128]
          rfl
        · rw [show 9 - i = (9 - (i + 1)) + 1 by omega, encF_ge _ _ (by omega)]
          rw [show ((c % 128).toNat + 128 * m) / 128 = m by omega, h2]
          rw [show (scan (i + 1) (acc + c % 128 * 128 ^ i) cs).2.1 - i = ((scan (i + 1) (acc + c % 128 * 128 ^ i) cs).2.1 - (i + 1)) + 1 by omega, List.take_succ_cons]
          congr 1
          omega
    · rw [scan, if_pos hf] at h
      exact absurd h hf
where
  scan_more_len : ∀ (cs : List Int) (i : Nat) (acc : Int), (scan i acc cs).2.2 = 0 → i + 1 ≤ (scan i acc cs).2.1
    | [], i, acc, h => by simp [scan] at h
    | c :: cs, i, acc, h => by
      by_cases hf : faultOf i c = 0
      · by_cases hc1 : c < 128
        · rw [scan, if_neg (by rw [hf]; simp), if_pos hc1]; exact Nat.le_refl _
        · rw [scan, if_neg (by rw [hf]; simp), if_neg hc1] at h ⊢
          have := scan_more_len cs (i + 1) _ h
          omega
      · rw [scan, if_pos hf] at h
        exact absurd h hf

theorem scan_back0 (cs : List Int) (h8 : ∀ c ∈ cs, 0 ≤ c ∧ c ≤ 255) (h : (scan 0 0 cs).2.2 = 0) : enc (scan 0 0 cs).1.toNat = cs.take (scan 0 0 cs).2.1 := by
  obtain ⟨m, h1, h2, _⟩ := scan_back cs 0 0 (by omega) h8 h
  have e : (scan 0 0 cs).1 = (m : Int) := by rw [h1]; simp
  rw [e, Int.toNat_natCast]
  exact h2

end Go.Proofs.Ytlphpcacngimhaa
