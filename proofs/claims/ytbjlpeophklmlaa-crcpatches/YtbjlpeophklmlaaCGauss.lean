/- 32 equations over bits, solved as the document's Patch does: plain arithmetic, no program is named here. -/
import Derived.Test.YtbjlpeophklmlaaCReg
namespace Go.Proofs.Ytbjlpeophklmlaa

/-- The XOR of chosen rows. -/
def comb : Nat → (Nat → Bool) → (Nat → Nat) → Nat
  | 0, _, _ => 0
  | n + 1, S, b => comb n S b ^^^ (if S n then b n else 0)
def par : Nat → (Nat → Bool) → Bool
  | 0, _ => false
  | n + 1, f => par n f ^^ f n
theorem comb_bit (n : Nat) (S : Nat → Bool) (b : Nat → Nat) (j : Nat) : (comb n S b).testBit j = par n (fun i => S i && (b i).testBit j) := by
  induction n with
  | zero => simp [comb, par]
  | succ n ih =>
    rw [comb, par, Nat.testBit_xor, ih]
    cases h : S n <;> simp
theorem par_none (n : Nat) {f : Nat → Bool} (h : ∀ i, i < n → f i = false) : par n f = false := by
  induction n with
  | zero => rfl
  | succ n ih => rw [par, ih (fun i hi => h i (by omega)), h n (by omega)]; rfl
theorem par_one (n m : Nat) {f : Nat → Bool} (hm : m < n) (h : ∀ i, i < n → i ≠ m → f i = false) : par n f = f m := by
  induction n with
  | zero => omega
  | succ n ih =>
    rw [par]
    by_cases e : m = n
    · subst e
      rw [par_none m (fun i hi => h i (by omega) (by omega))]
      simp
    · rw [ih (by omega) (fun i hi => h i (by omega)), h n (by omega) (by omega)]
      simp
theorem comb_congr (n : Nat) {S S' : Nat → Bool} {b b' : Nat → Nat} (h : ∀ i, i < n → S i = S' i ∧ b i = b' i) : comb n S b = comb n S' b' := by
  induction n with
  | zero => rfl
  | succ n ih => rw [comb, comb, ih (fun i hi => h i (by omega)), (h n (by omega)).1, (h n (by omega)).2]
theorem comb_lin (n : Nat) (S : Nat → Bool) (b : Nat → Nat) (K : Nat) : stn K (comb n S b) = comb n S (fun i => stn K (b i)) := by
  induction n with
  | zero => exact stn_zero K
  | succ n ih =>
    rw [comb, comb, stn_xor, ih]
    cases S n <;> simp [stn_zero]
theorem comb_lt (n : Nat) (S : Nat → Bool) {b : Nat → Nat} (h : ∀ i, i < n → b i < 4294967296) : comb n S b < 4294967296 := by
  induction n with
  | zero => simp [comb]
  | succ n ih =>
    rw [comb]
    refine xor_lt (ih (fun i hi => h i (by omega))) ?_
    split
    · exact h n (by omega)
    · decide
/-- One row more, or one less. -/
theorem comb_flip (n k : Nat) (S : Nat → Bool) (b : Nat → Nat) (hk : k < n) : comb n (fun i => if i = k then !S i else S i) b = comb n S b ^^^ b k := by
  induction n with
  | zero => omega
  | succ n ih =>
    rw [comb, comb]
    by_cases e : k = n
    · subst e
      rw [comb_congr k (S' := S) (b' := b) (fun i hi => ⟨by rw [if_neg (by omega)], rfl⟩), if_pos rfl]
      cases S k <;> simp [Nat.xor_assoc]
    · rw [ih (by omega), if_neg (show ¬ n = k by omega), Nat.xor_assoc, Nat.xor_comm (b k), ← Nat.xor_assoc]
/-- A row to which another one is added. -/
theorem comb_add (n i : Nat) (S : Nat → Bool) (b : Nat → Nat) (x : Nat) (hi : i < n) : comb n S (fun j => if j = i then b j ^^^ x else b j) = comb n S b ^^^ (if S i then x else 0) := by
  induction n with
  | zero => omega
  | succ n ih =>
    rw [comb, comb]
    by_cases e : i = n
    · subst e
      rw [comb_congr i (S' := S) (b' := b) (fun j hj => ⟨rfl, by rw [if_neg (by omega)]⟩), if_pos rfl]
      cases S i <;> simp [Nat.xor_assoc]
    · rw [ih (by omega), if_neg (show ¬ n = i by omega), Nat.xor_assoc, Nat.xor_comm (if S i then x else 0), ← Nat.xor_assoc]
/-- Every register is the XOR of some rows. -/
def Spans (b : Nat → Nat) : Prop := ∀ v, v < 4294967296 → ∃ S, comb 32 S b = v
def addF (i k : Nat) (f : Nat → Nat) (j : Nat) : Nat := if j = i then f j ^^^ f k else f j
theorem spans_add {b : Nat → Nat} {i k : Nat} (hi : i < 32) (hk : k < 32) (hne : i ≠ k) (h : Spans b) : Spans (addF i k b) := by
  intro v hv
  obtain ⟨S, hS⟩ := h v hv
  have e : ∀ S', comb 32 S' (addF i k b) = comb 32 S' b ^^^ (if S' i then b k else 0) := fun S' => comb_add 32 i S' b (b k) hi
  by_cases hs : S i = true
  · refine ⟨fun j => if j = k then !S j else S j, ?_⟩
    rw [e, comb_flip 32 k S b hk, if_neg (show ¬ i = k from hne), if_pos hs, hS, Nat.xor_assoc, Nat.xor_self, Nat.xor_zero]
  · refine ⟨S, ?_⟩
    rw [e, if_neg hs, hS, Nat.xor_zero]
def swapF (k p : Nat) (f : Nat → Nat) (i : Nat) : Nat := if i = k then f p else if i = p then f k else f i
theorem spans_swap {b : Nat → Nat} {k p : Nat} (hk : k < 32) (hp : p < 32) (h : Spans b) : Spans (swapF k p b) := by
  by_cases e : k = p
  · subst e
    have : swapF k k b = b := by
      funext i
      unfold swapF
      by_cases e : i = k
      · rw [if_pos e, e]
      · rw [if_neg e, if_neg e]
    rw [this]; exact h
  · have h3 := spans_add hk hp e (spans_add hp hk (fun h => e h.symm) (spans_add hk hp e h))
    have : swapF k p b = addF k p (addF p k (addF k p b)) := by
      have n1 : ¬ p = k := fun h => e h.symm
      funext i
      unfold swapF addF
      by_cases e1 : i = k
      · subst e1
        simp only [if_true, if_neg e, if_neg n1]
        have e5 : b i ^^^ b p ^^^ (b p ^^^ (b i ^^^ b p)) = (b i ^^^ b i) ^^^ (b p ^^^ b p) ^^^ b p := by ac_rfl
        rw [e5, Nat.xor_self, Nat.xor_self, Nat.zero_xor, Nat.zero_xor]
      · by_cases e2 : i = p
        · subst e2
          simp only [if_true, if_neg e1]
          rw [Nat.xor_comm (b k), ← Nat.xor_assoc, Nat.xor_self, Nat.zero_xor]
        · simp only [if_neg e1, if_neg e2]
    rw [this]; exact h3

/-- The rows as they stand when k columns are done. -/
structure Gau (K : Nat) (t b : Nat → Nat) (k : Nat) : Prop where
  eqs : ∀ i, i < 32 → t i = stn K (b i)
  lt : ∀ i, i < 32 → b i < 4294967296
  done : ∀ i j, i < 32 → j < k → (t i).testBit j = decide (i = j)
  spans : Spans b
theorem Gau.start (K : Nat) : Gau K (fun i => stn K (2 ^ i)) (fun i => 2 ^ i) 0 := by
  refine ⟨fun _ _ => rfl, fun i hi => Nat.pow_lt_pow_right (n := 32) (by decide) hi, fun _ _ _ h => absurd h (Nat.not_lt_zero _), fun v hv => ⟨fun i => v.testBit i, ?_⟩⟩
  refine Nat.eq_of_testBit_eq fun j => ?_
  rw [comb_bit]
  by_cases hj : j < 32
  · rw [par_one 32 j hj (fun i _ hne => by simp [hne])]
    simp
  · rw [par_none 32 (fun i hi => by simp [Nat.testBit_two_pow]; intro _; omega), Nat.testBit_lt_two_pow (Nat.lt_of_lt_of_le hv (Nat.pow_le_pow_right (n := 2) (by decide) (show 32 ≤ j by omega)))]
/-- There is a row to go on with. -/
theorem Gau.pivot {K : Nat} {t b : Nat → Nat} {k : Nat} (h : Gau K t b k) (hk : k < 32) : ∃ p, k ≤ p ∧ p < 32 ∧ (t p).testBit k = true := by
  apply Classical.byContradiction
  intro hn
  have hz : ∀ i, k ≤ i → i < 32 → (t i).testBit k = false := fun i h1 h2 => by
    cases hb : (t i).testBit k
    · rfl
    · exact absurd ⟨i, h1, h2, hb⟩ hn
  have hp : 2 ^ k < 4294967296 := Nat.pow_lt_pow_right (n := 32) (by decide) hk
  obtain ⟨S, hS⟩ := h.spans (bkn K (2 ^ k)) (bkn_lt K hp)
  have hT : comb 32 S t = 2 ^ k := by
    rw [comb_congr 32 (S' := S) (b' := fun i => stn K (b i)) (fun i hi => ⟨rfl, h.eqs i hi⟩), ← comb_lin, hS, stn_bkn]
  have hs : ∀ j, j < k → S j = false := fun j hj => by
    have e := congrArg (fun x => x.testBit j) hT
    simp only [comb_bit, Nat.testBit_two_pow] at e
    rw [par_one 32 j (by omega) (fun i hi hne => by rw [h.done i j hi hj, decide_eq_false hne, Bool.and_false]), h.done j j (by omega) hj] at e
    simp at e
    rw [e]
    simp
    omega
  have e := congrArg (fun x => x.testBit k) hT
  simp only [comb_bit, Nat.testBit_two_pow] at e
  rw [par_none 32 (fun i hi => by
    by_cases hik : i < k
    · rw [hs i hik, Bool.false_and]
    · rw [hz i (by omega) hi, Bool.and_false])] at e
  simp at e
theorem Gau.swap {K : Nat} {t b : Nat → Nat} {k p : Nat} (h : Gau K t b k) (hk : k < 32) (hkp : k ≤ p) (hp : p < 32) : Gau K (swapF k p t) (swapF k p b) k := by
  refine ⟨fun i hi => ?_, fun i hi => ?_, fun i j hi hj => ?_, spans_swap hk hp h.spans⟩
  · unfold swapF
    split
    · exact h.eqs p hp
    · split
      · exact h.eqs k hk
      · exact h.eqs i hi
  · unfold swapF
    split
    · exact h.lt p hp
    · split
      · exact h.lt k hk
      · exact h.lt i hi
  · unfold swapF
    split
    · rw [h.done p j hp hj, decide_eq_false (by omega), decide_eq_false (by omega)]
    · split
      · rw [h.done k j hk hj, decide_eq_false (by omega), decide_eq_false (by omega)]
      · exact h.done i j hi hj
theorem Gau.add {K : Nat} {t b : Nat → Nat} {k i : Nat} (h : Gau K t b k) (hk : k < 32) (hi : i < 32) (hne : i ≠ k) : Gau K (addF i k t) (addF i k b) k := by
  refine ⟨fun j hj => ?_, fun j hj => ?_, fun l j hl hj => ?_, spans_add hi hk hne h.spans⟩
  · unfold addF
    split
    · rw [h.eqs j hj, h.eqs k hk, stn_xor]
    · exact h.eqs j hj
  · unfold addF
    split
    · exact xor_lt (h.lt j hj) (h.lt k hk)
    · exact h.lt j hj
  · unfold addF
    split
    · rw [Nat.testBit_xor, h.done l j hl hj, h.done k j hk hj, decide_eq_false (show ¬ k = j by omega), Bool.xor_false]
    · exact h.done l j hl hj
theorem Gau.next {K : Nat} {t b : Nat → Nat} {k : Nat} (h : Gau K t b k) (hc : ∀ i, i < 32 → (t i).testBit k = decide (i = k)) : Gau K t b (k + 1) :=
  ⟨h.eqs, h.lt, fun i j hi hj => by
    by_cases e : j = k
    · subst e; exact hc i hi
    · exact h.done i j hi (by omega), h.spans⟩
/-- When all columns are done each row turns one bit alone. -/
theorem Gau.unit {K : Nat} {t b : Nat → Nat} (h : Gau K t b 32) (i : Nat) (hi : i < 32) : t i = 2 ^ i := by
  refine Nat.eq_of_testBit_eq fun j => ?_
  rw [Nat.testBit_two_pow]
  by_cases hj : j < 32
  · exact h.done i j hi hj
  · rw [Nat.testBit_lt_two_pow (Nat.lt_of_lt_of_le (show t i < 2 ^ 32 by rw [h.eqs i hi]; exact stn_lt K (h.lt i hi)) (Nat.pow_le_pow_right (n := 2) (by decide) (show 32 ≤ j by omega))), decide_eq_false (by omega)]
/-- The rows that a number's bits choose make that number. -/
theorem Gau.solve {K : Nat} {t b : Nat → Nat} (h : Gau K t b 32) (v : Nat) (hv : v < 4294967296) : stn K (comb 32 (fun i => v.testBit i) b) = v := by
  rw [comb_lin, comb_congr 32 (S' := fun i => v.testBit i) (b' := fun i => 2 ^ i) (fun i hi => ⟨rfl, by rw [← h.eqs i hi, h.unit i hi]⟩)]
  refine Nat.eq_of_testBit_eq fun j => ?_
  rw [comb_bit]
  by_cases hj : j < 32
  · rw [par_one 32 j hj (fun i _ hne => by simp [hne])]
    simp
  · rw [par_none 32 (fun i hi => by simp [Nat.testBit_two_pow]; intro _; omega), Nat.testBit_lt_two_pow (Nat.lt_of_lt_of_le hv (Nat.pow_le_pow_right (n := 2) (by decide) (show 32 ≤ j by omega)))]

end Go.Proofs.Ytbjlpeophklmlaa
