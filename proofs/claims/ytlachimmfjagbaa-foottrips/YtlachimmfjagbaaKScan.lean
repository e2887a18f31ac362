/- What scan tells: bounds; what is read is written just so. No program is named here. -/
import Derived.Test.YtlachimmfjagbaaEnc
import Derived.Test.YtlachimmfjagbaaKPure
namespace Go.Proofs.Ytlachimmfjagbaa
open Go.RowKit

theorem scan_bound : ∀ (cs : List Int) (i : Nat) (n : Int), 0 ≤ n → n < 128 ^ i → i ≤ 9 → (∀ c ∈ cs, 0 ≤ c ∧ c ≤ 255) →
    0 ≤ (scan i n cs).1 ∧ (scan i n cs).1 ≤ 18446744073709551615 ∧ (scan i n cs).2.1 ≤ i + cs.length ∧ ((scan i n cs).2.2 = 0 → i + 1 ≤ (scan i n cs).2.1)
  | [], i, n, _, _, _, _ => by simp [scan]
  | c :: cs, i, n, h0, hn, hi, h8 => by
    have hc := h8 c (by simp)
    by_cases hf : faultOf i c = 0
    · have hT := faultOf_le8 i c hf hi
      have hb := step_bound n c i h0 hn
      by_cases hc1 : c < 128
      · rw [scan, if_neg (by rw [hf]; simp), if_pos hc1]
        refine ⟨hb.1, ?_, by simp, fun _ => Nat.le_refl _⟩
        show n + c % 128 * 128 ^ i ≤ _
        rcases hT with hT | ⟨rfl, hc2⟩
        · have hle : (128 : Int) ^ (i + 1) ≤ 128 ^ 9 := by
            rw [pow128i, pow128i]
            have := Nat.pow_le_pow_right (show 0 < 128 by decide) (show i + 1 ≤ 9 by omega)
            omega
          have hp : (128 : Int) ^ 9 = 9223372036854775808 := by decide
          omega
        · have hp : (128 : Int) ^ 9 = 9223372036854775808 := by decide
          rw [hp] at *
          have : c % 128 ≤ 1 := by omega
          omega
      · rw [scan, if_neg (by rw [hf]; simp), if_neg hc1]
        have := scan_bound cs (i + 1) (n + c % 128 * 128 ^ i) hb.1 hb.2 (by omega) (fun d hd => h8 d (by simp [hd]))
        refine ⟨this.1, this.2.1, ?_, fun h => ?_⟩
        · have := this.2.2.1; simp; omega
        · have := this.2.2.2 h; omega
    · rw [scan, if_pos hf]
      exact ⟨by simp, by simp, by simp, fun h => absurd h hf⟩

theorem scan_bound0 (cs : List Int) (h8 : ∀ c ∈ cs, 0 ≤ c ∧ c ≤ 255) :
    0 ≤ (scan 0 0 cs).1 ∧ (scan 0 0 cs).1 ≤ 18446744073709551615 ∧ (scan 0 0 cs).2.1 ≤ cs.length ∧ ((scan 0 0 cs).2.2 = 0 → 1 ≤ (scan 0 0 cs).2.1) := by
  have := scan_bound cs 0 0 (by decide) (by decide) (by omega) h8
  simpa using this

/-- What is read is written just so. -/
theorem scan_back : ∀ (cs : List Int) (i : Nat) (acc : Int), i ≤ 9 → (∀ c ∈ cs, 0 ≤ c ∧ c ≤ 255) → (scan i acc cs).2.2 = 0 →
    ∃ m : Nat, (scan i acc cs).1 = acc + (m : Int) * 128 ^ i ∧ encF (9 - i) m = cs.take ((scan i acc cs).2.1 - i) ∧ (0 < i → 0 < m)
  | [], i, acc, _, _, h => by simp [scan] at h
  | c :: cs, i, acc, hi, h8, h => by
    have hc := h8 c (by simp)
    by_cases hf : faultOf i c = 0
    · have hT := faultOf_le8 i c hf hi
      by_cases hc1 : c < 128
      · rw [scan, if_neg (by rw [hf]; simp), if_pos hc1]
        refine ⟨c.toNat, ?_, ?_, fun h0 => ?_⟩
        · show acc + c % 128 * 128 ^ i = _
          rw [show c % 128 = c by omega, Int.toNat_of_nonneg hc.1]
        · show encF (9 - i) c.toNat = (c :: cs).take (i + 1 - i)
          rw [encF_lt _ _ (by omega), show i + 1 - i = 1 by omega, Int.toNat_of_nonneg hc.1]
          rfl
        · by_cases e : c = 0
          · rw [e] at hf
            unfold faultOf at hf
            rw [if_neg (by omega), if_pos ⟨by omega, rfl⟩] at hf
            exact absurd hf (by decide)
          · omega
      · rw [scan, if_neg (by rw [hf]; simp), if_neg hc1] at h ⊢
        obtain ⟨m, h1, h2, h3⟩ := scan_back cs (i + 1) (acc + c % 128 * 128 ^ i) (by omega) (fun d hd => h8 d (by simp [hd])) h
        have hm := h3 (by omega)
        have hk := (scan_more_len cs (i + 1) (acc + c % 128 * 128 ^ i) h)
        refine ⟨(c % 128).toNat + 128 * m, ?_, ?_, fun _ => by omega⟩
        · rw [h1, pow128_succ, Int.natCast_add, Int.toNat_of_nonneg (by omega), Int.add_mul, Int.add_assoc]
          congr 2
          rw [Int.natCast_mul, Int.mul_comm (128 ^ i) 128, ← Int.mul_assoc, Int.mul_comm (m : Int) 128]
          rfl
        · rw [show 9 - i = (9 - (i + 1)) + 1 by omega, encF_ge _ _ (by omega)]
          rw [show ((c % 128).toNat + 128 * m) / 128 = m by omega, h2]
          rw [show (scan (i + 1) (acc + c % 128 * 128 ^ i) cs).2.1 - i = ((scan (i + 1) (acc + c % 128 * 128 ^ i) cs).2.1 - (i + 1)) + 1 by omega, List.take_succ_cons]
          congr 1
          omega
    · rw [scan, if_pos hf] at h
      exact absurd h hf
where
  scan_more_len : ∀ (cs : List Int) (i : Nat) (acc : Int), (scan i acc cs).2.2 = 0 → i + 1 ≤ (scan i acc cs).2.1
    | [], i, acc, h => by simp [scan] at h
    | c :: cs, i, acc, h => by
      by_cases hf : faultOf i c = 0
      · by_cases hc1 : c < 128
        · rw [scan, if_neg (by rw [hf]; simp), if_pos hc1]; exact Nat.le_refl _
        · rw [scan, if_neg (by rw [hf]; simp), if_neg hc1] at h ⊢
          have := scan_more_len cs (i + 1) _ h
          omega
      · rw [scan, if_pos hf] at h
        exact absurd h hf

theorem scan_back0 (cs : List Int) (h8 : ∀ c ∈ cs, 0 ≤ c ∧ c ≤ 255) (h : (scan 0 0 cs).2.2 = 0) : enc (scan 0 0 cs).1.toNat = cs.take (scan 0 0 cs).2.1 := by
  obtain ⟨m, h1, h2, _⟩ := scan_back cs 0 0 (by omega) h8 h
  have e : (scan 0 0 cs).1 = (m : Int) := by rw [h1]; simp
  rw [e, Int.toNat_natCast]
  exact h2


/-! ### A number at a place -/
def nm (zs : List Int) (p : Nat) : Nat := (scan 0 0 (zs.drop p)).1.toNat
def nx (zs : List Int) (p : Nat) : Nat := p + (scan 0 0 (zs.drop p)).2.1
def er (zs : List Int) (p : Nat) : Int := (scan 0 0 (zs.drop p)).2.2
theorem B8.dropB {zs : List Int} (h : B8 zs) (k : Nat) : B8 (zs.drop k) := fun c hc => h c (List.mem_of_mem_drop hc)
theorem rd_at (zs : List Int) (p : Nat) (h8 : B8 zs) (hp : p ≤ zs.length) : rdNum zs (p : Int) = (nm zs p : Int) ∧ rdEnd zs (p : Int) = (nx zs p : Int) ∧ rdErr zs (p : Int) = er zs p ∧ nx zs p ≤ zs.length ∧ p ≤ nx zs p ∧ nm zs p ≤ 18446744073709551615 := by
  have hb := scan_bound0 (zs.drop p) (h8.dropB p)
  rw [List.length_drop] at hb
  unfold rdNum rdEnd rdErr nm nx er
  rw [if_neg (by omega), if_neg (by omega), if_neg (by omega), Int.toNat_natCast]
  refine ⟨?_, ?_, rfl, by omega, by omega, by omega⟩
  · rw [Int.toNat_of_nonneg hb.1]
  · rfl

/-- The head's error, its place or the one behind it. -/
def hE (zs : List Int) (p : Nat) : Int := if er zs p ≠ 0 then er zs p else if er zs (nx zs p) ≠ 0 then er zs (nx zs p) else er zs (nx zs (nx zs p))
def hP (zs : List Int) (p : Nat) : Nat := if er zs p ≠ 0 then nx zs p else if er zs (nx zs p) ≠ 0 then nx zs (nx zs p) else nx zs (nx zs (nx zs p))
theorem hE_ok {zs : List Int} {p : Nat} (h : hE zs p = 0) : er zs p = 0 ∧ er zs (nx zs p) = 0 ∧ er zs (nx zs (nx zs p)) = 0 ∧ hP zs p = nx zs (nx zs (nx zs p)) := by
  unfold hE at h
  unfold hP
  by_cases h1 : er zs p = 0
  · rw [if_neg (by simp [h1])] at h ⊢
    by_cases h2 : er zs (nx zs p) = 0
    · rw [if_neg (by simp [h2])] at h ⊢
      exact ⟨h1, h2, h, rfl⟩
    · rw [if_pos h2] at h; exact absurd h h2
  · rw [if_pos h1] at h; exact absurd h h1
theorem hP_le (zs : List Int) (p : Nat) (h8 : B8 zs) (hp : p ≤ zs.length) : hP zs p ≤ zs.length := by
  have h1 := rd_at zs p h8 hp
  have h2 := rd_at zs (nx zs p) h8 h1.2.2.2.1
  have h3 := rd_at zs (nx zs (nx zs p)) h8 h2.2.2.2.1
  unfold hP
  split
  · omega
  · split <;> omega
/-- What is wrong with a head. -/
def fltE (x y z n : Nat) : Int := if n < x then 52 else if 64 < y ∨ 256 < z then 3 else if x + y < 1 ∨ 64 < x + y then 3 else 0
/-- What is wrong with a key behind a text. -/
def kfE (prev key : List Int) (x : Nat) : Int := if x < comN prev key then 52 else if 0 < prev.length ∧ ¬ cmpI prev key < 0 then 51 else 0
theorem fltE_ok {x y z n : Nat} (h : fltE x y z n = 0) : x ≤ n ∧ y ≤ 64 ∧ z ≤ 256 ∧ 1 ≤ x + y ∧ x + y ≤ 64 := by
  unfold fltE at h
  split at h
  · omega
  · split at h
    · omega
    · split at h
      · omega
      · omega

/-! ### An entry at a place -/
def keyOf (prev zs : List Int) (p : Nat) : List Int := prev.take (nm zs p) ++ (zs.drop (hP zs p)).take (nm zs (nx zs p))
def rEr (prev zs : List Int) (p : Nat) : Int :=
  if hE zs p ≠ 0 then hE zs p else if fltE (nm zs p) (nm zs (nx zs p)) (nm zs (nx zs (nx zs p))) prev.length ≠ 0 then fltE (nm zs p) (nm zs (nx zs p)) (nm zs (nx zs (nx zs p))) prev.length
  else if zs.length < hP zs p + nm zs (nx zs p) + nm zs (nx zs (nx zs p)) then 53 else kfE prev (keyOf prev zs p) (nm zs p)
def rPl (prev zs : List Int) (p : Nat) : Nat :=
  if hE zs p ≠ 0 then hP zs p else if fltE (nm zs p) (nm zs (nx zs p)) (nm zs (nx zs (nx zs p))) prev.length ≠ 0 then p
  else if zs.length < hP zs p + nm zs (nx zs p) + nm zs (nx zs (nx zs p)) then zs.length else if kfE prev (keyOf prev zs p) (nm zs p) ≠ 0 then p else hP zs p + nm zs (nx zs p) + nm zs (nx zs (nx zs p))
def rKy (prev zs : List Int) (p : Nat) : List Int := if rEr prev zs p = 0 then keyOf prev zs p else []
def rVl (prev zs : List Int) (p : Nat) : List Int := if rEr prev zs p = 0 then (zs.drop (hP zs p + nm zs (nx zs p))).take (nm zs (nx zs (nx zs p))) else []

end Go.Proofs.Ytlachimmfjagbaa
