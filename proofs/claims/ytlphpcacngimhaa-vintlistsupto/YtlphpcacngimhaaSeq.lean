/- The numbers of a row of bytes, each with its place: plain lists; no program is named here. -/
import Derived.Test.YtlphpcacngimhaaJoin
namespace Go.Proofs.Ytlphpcacngimhaa
open Go.RowKit

/-- A number and its place. -/
abbrev VX := { x : Nat × Nat // x.1 ≤ 1125899906842624 ∧ x.2 ≤ 18446744073709551615 }

theorem scan_bound : ∀ (cs : List Int) (i : Nat) (n : Int), 0 ≤ n → n < 128 ^ i → i ≤ 9 → (∀ c ∈ cs, 0 ≤ c ∧ c ≤ 255) →
    0 ≤ (scan i n cs).1 ∧ (scan i n cs).1 ≤ 18446744073709551615 ∧ (scan i n cs).2.1 ≤ i + cs.length ∧ ((scan i n cs).2.2 = 0 → i + 1 ≤ (scan i n cs).2.1)
  | [], i, n, _, _, _, _ => by simp [scan]
  | c :: cs, i, n, h0, hn, hi, h8 => by
    have hc := h8 c (by simp)
    by_cases hf : faultOf i c = 0
    · have hT := faultOf_le8 i c hf hi
      have hb := step_bound n c i h0 hn
      by_cases hc1 : c < 128
      · rw [scan, if_neg (by rw [hf]; simp), if_pos hc1]
        refine ⟨hb.1, ?_, by simp, fun _ => Nat.le_refl _⟩
        show n + c % 128 * 128 ^ i ≤ _
        rcases hT with hT | ⟨rfl, hc2⟩
        · have hle : (128 : Int) ^ (i + 1) ≤ 128 ^ 9 := by
            rw [pow128i, pow128i]
            have := Nat.pow_le_pow_right (show 0 < 128 by decide) (show i + 1 ≤ 9 by omega)
            omega
          have hp : (128 : Int) ^ 9 = 9223372036854775808 := by decide
          omega
        · have hp : (128 : Int) ^ 9 = 9223372036854775808 := by decide
          rw [hp] at *
          have : c % 128 ≤ 1 := by omega
          omega
      · rw [scan, if_neg (by rw [hf]; simp), if_neg hc1]
        have := scan_bound cs (i + 1) (n + c % 128 * 128 ^ i) hb.1 hb.2 (by omega) (fun d hd => h8 d (by simp [hd]))
        refine ⟨this.1, this.2.1, ?_, fun h => ?_⟩
        · have := this.2.2.1; simp; omega
        · have := this.2.2.2 h; omega
    · rw [scan, if_pos hf]
      exact ⟨by simp, by simp, by simp, fun h => absurd h hf⟩

theorem scan_bound0 (cs : List Int) (h8 : ∀ c ∈ cs, 0 ≤ c ∧ c ≤ 255) :
    0 ≤ (scan 0 0 cs).1 ∧ (scan 0 0 cs).1 ≤ 18446744073709551615 ∧ (scan 0 0 cs).2.1 ≤ cs.length ∧ ((scan 0 0 cs).2.2 = 0 → 1 ≤ (scan 0 0 cs).2.1) := by
  have := scan_bound cs 0 0 (by decide) (by decide) (by omega) h8
  simpa using this

/-- The numbers from a place on, each with its place; at most so many. -/
def seqF (zs : List Int) : Nat → Nat → List (Nat × Nat)
  | 0, _ => []
  | f + 1, p => if (scan 0 0 (zs.drop p)).2.2 = 0 then (p, (scan 0 0 (zs.drop p)).1.toNat) :: seqF zs f (p + (scan 0 0 (zs.drop p)).2.1) else []
def seq (zs : List Int) : List (Nat × Nat) := seqF zs (zs.length + 1) 0

theorem scan_nil_err : (scan 0 0 []).2.2 = 11 := rfl

/-- More fuel than bytes are left changes nothing. -/
theorem seqF_fuel (zs : List Int) (h8 : ∀ c ∈ zs, 0 ≤ c ∧ c ≤ 255) : ∀ (f g p : Nat), zs.length < f + p → zs.length < g + p → p ≤ zs.length → seqF zs f p = seqF zs g p
  | 0, g, p, h, _, hp => by omega
  | f + 1, 0, p, _, h, hp => by omega
  | f + 1, g + 1, p, h1, h2, hp => by
    rw [seqF, seqF]
    have hb := scan_bound0 (zs.drop p) (fun c hc => h8 c (List.mem_of_mem_drop hc))
    by_cases he : (scan 0 0 (zs.drop p)).2.2 = 0
    · rw [if_pos he, if_pos he]
      have h1' := hb.2.2.2 he
      have hl := hb.2.2.1
      rw [List.length_drop] at hl
      rw [seqF_fuel zs h8 f g _ (by omega) (by omega) (by omega)]
    · rw [if_neg he, if_neg he]

end Go.Proofs.Ytlphpcacngimhaa
