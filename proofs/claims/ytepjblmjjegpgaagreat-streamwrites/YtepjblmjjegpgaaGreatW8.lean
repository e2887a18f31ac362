/- Plain lists: what two texts have in common, which is below which, the shortest between, the least above. No program is named here. -/
import Derived.Test.YtepjblmjjegpgaaGreatW3
import Derived.Lib.Bytealg
import Derived.Lib.Bytes
namespace Go.Proofs.YtepjblmjjegpgaaGreat
open Go.RowKit
set_option maxRecDepth 100000

/-- How many bytes two texts have in common at their beginnings. -/
def comN : List Int → List Int → Nat
  | x :: xs, y :: ys => if x = y then comN xs ys + 1 else 0
  | _, _ => 0
theorem comN_nil_l (b : List Int) : comN [] b = 0 := by cases b <;> rfl
theorem comN_nil_r (a : List Int) : comN a [] = 0 := by cases a <;> rfl
theorem comN_same (x : Int) (a b : List Int) : comN (x :: a) (x :: b) = comN a b + 1 := by rw [comN, if_pos rfl]
theorem comN_unlike {x y : Int} (h : x ≠ y) (a b : List Int) : comN (x :: a) (y :: b) = 0 := by rw [comN, if_neg h]
theorem comN_le : ∀ a b : List Int, comN a b ≤ a.length ∧ comN a b ≤ b.length
  | [], b => by rw [comN_nil_l]; exact ⟨Nat.zero_le _, Nat.zero_le _⟩
  | x :: a, [] => by rw [comN_nil_r]; exact ⟨Nat.zero_le _, Nat.zero_le _⟩
  | x :: a, y :: b => by
    have := comN_le a b
    by_cases h : x = y
    · subst h; rw [comN_same]; simp only [List.length_cons]; omega
    · rw [comN_unlike h]; exact ⟨Nat.zero_le _, Nat.zero_le _⟩
theorem comN_get : ∀ (a b : List Int) (i : Nat), i < comN a b → a.getD i 0 = b.getD i 0
  | [], b, i, h => by rw [comN_nil_l] at h; omega
  | x :: a, [], i, h => by rw [comN_nil_r] at h; omega
  | x :: a, y :: b, i, h => by
    by_cases e : x = y
    · subst e
      rw [comN_same] at h
      cases i with
      | zero => rfl
      | succ i => simp only [List.getD_cons_succ]; exact comN_get a b i (by omega)
    · rw [comN_unlike e] at h; omega
theorem comN_ne : ∀ (a b : List Int), comN a b < a.length → comN a b < b.length → a.getD (comN a b) 0 ≠ b.getD (comN a b) 0
  | [], b, h, _ => by simp at h
  | x :: a, [], _, h => by simp at h
  | x :: a, y :: b, h1, h2 => by
    by_cases e : x = y
    · subst e
      rw [comN_same] at h1 h2 ⊢
      simp only [List.length_cons] at h1 h2
      simp only [List.getD_cons_succ]
      exact comN_ne a b (by omega) (by omega)
    · rw [comN_unlike e]; simpa using e
theorem comN_of : ∀ (n : Nat) (a b : List Int), n ≤ a.length → n ≤ b.length → (∀ i, i < n → a.getD i 0 = b.getD i 0) → (n = a.length ∨ n = b.length ∨ a.getD n 0 ≠ b.getD n 0) → comN a b = n
  | 0, [], b, _, _, _, _ => comN_nil_l b
  | 0, x :: a, [], _, _, _, _ => comN_nil_r _
  | 0, x :: a, y :: b, _, _, _, h => by
    rcases h with h | h | h
    · simp at h
    · simp at h
    · exact comN_unlike (by simpa using h) a b
  | n + 1, [], b, h, _, _, _ => by simp at h
  | n + 1, x :: a, [], _, h, _, _ => by simp at h
  | n + 1, x :: a, y :: b, h1, h2, h3, h4 => by
    have h0 := h3 0 (by omega)
    simp only [List.getD_cons_zero] at h0
    subst h0
    simp only [List.length_cons] at h1 h2 h4
    rw [comN_same, comN_of n a b (by omega) (by omega) (fun i hi => by have := h3 (i + 1) (by omega); simpa only [List.getD_cons_succ] using this) (by
      simp only [List.getD_cons_succ] at h4
      rcases h4 with h | h | h
      · exact .inl (by omega)
      · exact .inr (.inl (by omega))
      · exact .inr (.inr h))]
theorem comN_take (a b : List Int) : a.take (comN a b) = b.take (comN a b) := by
  have h := comN_le a b
  refine List.ext_getElem (by simp; omega) fun i h1 h2 => ?_
  have hi : i < comN a b := by rw [List.length_take] at h1; omega
  have := comN_get a b i hi
  simp only [List.getElem_take]
  simpa [List.getD, show i < a.length by omega, show i < b.length by omega] using this

/-- Below (-1), the same (0), above (1). -/
def cmpI : List Int → List Int → Int
  | [], [] => 0
  | [], _ :: _ => -1
  | _ :: _, [] => 1
  | x :: xs, y :: ys => if x < y then -1 else if y < x then 1 else cmpI xs ys
theorem cmpI_same (x : Int) (a b : List Int) : cmpI (x :: a) (x :: b) = cmpI a b := by rw [cmpI, if_neg (Int.lt_irrefl x), if_neg (Int.lt_irrefl x)]
theorem cmpI_lt {x y : Int} (h : x < y) (a b : List Int) : cmpI (x :: a) (y :: b) = -1 := by rw [cmpI, if_pos h]
theorem cmpI_gt {x y : Int} (h : y < x) (a b : List Int) : cmpI (x :: a) (y :: b) = 1 := by rw [cmpI, if_neg (by omega), if_pos h]
theorem cmpI_nil_cons (x : Int) (a : List Int) : cmpI [] (x :: a) = -1 := rfl
theorem cmpI_cons_nil (x : Int) (a : List Int) : cmpI (x :: a) [] = 1 := rfl
theorem three (x y : Int) : x < y ∨ x = y ∨ y < x := by omega
theorem cmpI_range : ∀ a b : List Int, cmpI a b = -1 ∨ cmpI a b = 0 ∨ cmpI a b = 1
  | [], [] => .inr (.inl rfl)
  | [], _ :: _ => .inl rfl
  | _ :: _, [] => .inr (.inr rfl)
  | x :: a, y :: b => by
    rcases three x y with h | h | h
    · exact .inl (cmpI_lt h a b)
    · subst h; rw [cmpI_same]; exact cmpI_range a b
    · exact .inr (.inr (cmpI_gt h a b))
theorem cmpI_swap : ∀ a b : List Int, cmpI b a = -cmpI a b
  | [], [] => rfl
  | [], _ :: _ => rfl
  | _ :: _, [] => rfl
  | x :: a, y :: b => by
    rcases three x y with h | h | h
    · rw [cmpI_lt h, cmpI_gt h]; rfl
    · subst h; rw [cmpI_same, cmpI_same]; exact cmpI_swap a b
    · rw [cmpI_lt h, cmpI_gt h]
theorem cmpI_refl : ∀ a : List Int, cmpI a a = 0
  | [] => rfl
  | x :: a => by rw [cmpI_same]; exact cmpI_refl a
theorem cmpI_zero : ∀ a b : List Int, cmpI a b = 0 → a = b
  | [], [], _ => rfl
  | [], _ :: _, h => by simp [cmpI] at h
  | _ :: _, [], h => by simp [cmpI] at h
  | x :: a, y :: b, h => by
    rcases three x y with e | e | e
    · rw [cmpI_lt e] at h; omega
    · subst e; rw [cmpI_same] at h; rw [cmpI_zero a b h]
    · rw [cmpI_gt e] at h; omega
theorem cmpI_trans : ∀ a b c : List Int, cmpI a b ≤ 0 → cmpI b c ≤ 0 → cmpI a c ≤ 0 ∧ (cmpI a b < 0 → cmpI a c < 0)
  | [], [], [], _, _ => by simp [cmpI]
  | [], [], _ :: _, _, _ => by simp [cmpI]
  | [], _ :: _, [], _, h => by simp [cmpI] at h
  | [], _ :: _, _ :: _, _, _ => by simp [cmpI]
  | _ :: _, [], _, h, _ => by simp [cmpI] at h
  | _ :: _, _ :: _, [], _, h => by simp [cmpI] at h
  | x :: a, y :: b, z :: c, h1, h2 => by
    rcases three x y with e | e | e
    · rcases three y z with f | f | f
      · rw [cmpI_lt (show x < z by omega)]; omega
      · rw [cmpI_lt (show x < z by omega)]; omega
      · rw [cmpI_gt f] at h2; omega
    · subst e
      rcases three x z with f | f | f
      · rw [cmpI_lt f]; omega
      · subst f; rw [cmpI_same] at *; rw [cmpI_same] at *; exact cmpI_trans a b c h1 h2
      · rw [cmpI_gt f] at h2; omega
    · rw [cmpI_gt e] at h1; omega
theorem cmpI_app : ∀ a c : List Int, cmpI a (a ++ c) = if c = [] then 0 else -1
  | [], [] => rfl
  | [], _ :: _ => by simp [cmpI]
  | x :: a, c => by rw [List.cons_append, cmpI_same]; exact cmpI_app a c
theorem cmpI_take : ∀ (b : List Int) (k : Nat), cmpI (b.take k) b ≤ 0
  | [], k => by simp [cmpI]
  | y :: b, 0 => by simp [cmpI]
  | y :: b, k + 1 => by rw [List.take_succ_cons, cmpI_same]; exact cmpI_take b k
theorem cmpI_com : ∀ a b : List Int, cmpI a b = if comN a b = a.length then (if comN a b = b.length then 0 else -1) else if comN a b = b.length then 1 else if a.getD (comN a b) 0 < b.getD (comN a b) 0 then -1 else 1
  | [], [] => rfl
  | [], _ :: _ => rfl
  | _ :: _, [] => rfl
  | x :: a, y :: b => by
    rcases three x y with e | e | e
    · rw [cmpI_lt e, comN_unlike (by omega)]; simp [e]
    · subst e
      rw [cmpI_same, comN_same, cmpI_com a b]
      simp only [List.length_cons, List.getD_cons_succ, Nat.add_right_cancel_iff]
    · rw [cmpI_gt e, comN_unlike (by omega)]; simp; omega
theorem cmpI_bytes : ∀ (a b : List Int), B8 a → B8 b → Lib.compareBytes (Lib.bytesOf a) (Lib.bytesOf b) = cmpI a b
  | [], [], _, _ => rfl
  | [], _ :: _, _, _ => rfl
  | _ :: _, [], _, _ => rfl
  | x :: a, y :: b, ha, hb => by
    have hx := ha.head
    have hy := hb.head
    have ih := cmpI_bytes a b ha.tail hb.tail
    have lt : ∀ u v : Int, 0 ≤ u ∧ u ≤ 255 → 0 ≤ v ∧ v ≤ 255 → ((UInt8.ofNat u.toNat < UInt8.ofNat v.toNat) ↔ u < v) := by
      intro u v hu hv
      rw [UInt8.lt_iff_toNat_lt]
      simp only [UInt8.toNat_ofNat']
      omega
    show Lib.compareBytes (UInt8.ofNat x.toNat :: Lib.bytesOf a) (UInt8.ofNat y.toNat :: Lib.bytesOf b) = _
    rw [Lib.compareBytes, cmpI, ih]
    simp only [lt x y hx hy, lt y x hy hx]

/-! ### Between -/
/-- The shortest beginning of b above a. -/
def betw (a b : List Int) : List Int := b.take (comN a b + 1)
theorem betw_room : ∀ (a b : List Int), cmpI a b < 0 → comN a b < b.length
  | [], [], h => by simp [cmpI] at h
  | [], _ :: _, _ => by rw [comN_nil_l]; simp
  | _ :: _, [], h => by simp [cmpI] at h
  | x :: a, y :: b, h => by
    by_cases e : x = y
    · subst e; rw [cmpI_same] at h; rw [comN_same]; have := betw_room a b h; simp only [List.length_cons]; omega
    · rw [comN_unlike e]; simp
theorem betw_len (a b : List Int) (h : cmpI a b < 0) : (betw a b).length = comN a b + 1 := by
  have := betw_room a b h
  unfold betw; rw [List.length_take]; omega
theorem betw_above : ∀ (a b : List Int), cmpI a b < 0 → cmpI a (betw a b) = -1
  | [], [], h => by simp [cmpI] at h
  | [], _ :: _, _ => by unfold betw; rw [comN_nil_l]; simp [cmpI]
  | _ :: _, [], h => by simp [cmpI] at h
  | x :: a, y :: b, h => by
    unfold betw
    rcases three x y with e | e | e
    · rw [comN_unlike (by omega)]; simp only [List.take_succ_cons]; exact cmpI_lt e _ _
    · subst e
      rw [comN_same, List.take_succ_cons, cmpI_same]
      rw [cmpI_same] at h
      exact betw_above a b h
    · rw [cmpI_gt e] at h; omega
theorem betw_least : ∀ (a b t : List Int), cmpI a t < 0 → cmpI t b ≤ 0 → comN a b < t.length
  | [], b, t, h, _ => by
    rw [comN_nil_l]
    cases t with
    | nil => simp [cmpI] at h
    | cons z t => simp
  | x :: a, [], t, h, _ => by
    rw [comN_nil_r]
    cases t with
    | nil => simp [cmpI] at h
    | cons z t => simp
  | x :: a, y :: b, [], h, _ => by simp [cmpI] at h
  | x :: a, y :: b, z :: t, h1, h2 => by
    by_cases e : x = y
    · subst e
      rcases three x z with f | f | f
      · rw [cmpI_gt f] at h2; omega
      · subst f
        rw [cmpI_same] at h1 h2
        have := betw_least a b t h1 h2
        rw [comN_same]; simp only [List.length_cons]; omega
      · rw [cmpI_gt f] at h1; omega
    · rw [comN_unlike e]; simp
/-- No beginning of b that is no longer than what both have in common is above a. -/
theorem betw_first : ∀ (a b : List Int) (n : Nat), n ≤ comN a b → 0 ≤ cmpI a (b.take n)
  | [], b, n, h => by rw [comN_nil_l] at h; obtain rfl : n = 0 := (by omega); simp [cmpI]
  | x :: a, [], n, h => by simp [cmpI]
  | x :: a, y :: b, 0, h => by simp [cmpI]
  | x :: a, y :: b, n + 1, h => by
    by_cases e : x = y
    · subst e
      rw [comN_same] at h
      rw [List.take_succ_cons, cmpI_same]
      exact betw_first a b n (by omega)
    · rw [comN_unlike e] at h; omega

/-! ### After -/
/-- Of all texts of at most m bytes the least one above a. -/
def aft : Nat → List Int → Option (List Int)
  | 0, _ => none
  | _ + 1, [] => some [0]
  | m + 1, c :: cs => match aft m cs with
    | some k => some (c :: k)
    | none => if c < 255 then some [c + 1] else none
theorem aft_short : ∀ (m : Nat) (a : List Int), a.length < m → aft m a = some (a ++ [0])
  | 0, a, h => by omega
  | m + 1, [], _ => rfl
  | m + 1, c :: a, h => by rw [aft, aft_short m a (by simpa using h)]; rfl
theorem aft_none : ∀ (m : Nat) (a : List Int), m ≤ a.length → (∀ i, i < m → ¬ a.getD i 0 < 255) → aft m a = none
  | 0, a, _, _ => rfl
  | m + 1, [], h, _ => by simp at h
  | m + 1, c :: a, h, hc => by
    rw [aft, aft_none m a (by simpa using h) (fun i hi => by have := hc (i + 1) (by omega); simpa only [List.getD_cons_succ] using this)]
    have := hc 0 (by omega)
    simp only [List.getD_cons_zero] at this
    simp [this]
theorem aft_at : ∀ (m : Nat) (a : List Int) (j : Nat), m ≤ a.length → j < m → a.getD j 0 < 255 → (∀ i, j < i → i < m → ¬ a.getD i 0 < 255) → aft m a = some (a.take j ++ [a.getD j 0 + 1])
  | 0, a, j, _, h, _, _ => by omega
  | m + 1, [], j, h, _, _, _ => by simp at h
  | m + 1, c :: a, 0, h, _, h2, h3 => by
    simp only [List.getD_cons_zero] at h2 ⊢
    rw [aft, aft_none m a (by simpa using h) (fun i hi => by have := h3 (i + 1) (by omega) (by omega); simpa only [List.getD_cons_succ] using this)]
    simp [h2]
  | m + 1, c :: a, j + 1, h, h1, h2, h3 => by
    simp only [List.getD_cons_succ] at h2 ⊢
    rw [aft, aft_at m a j (by simpa using h) (by omega) h2 (fun i h4 h5 => by have := h3 (i + 1) (by omega) (by omega); simpa only [List.getD_cons_succ] using this)]
    rfl
theorem aft_some : ∀ (m : Nat) (a k : List Int), B8 a → aft m a = some k → k.length ≤ m ∧ 1 ≤ k.length ∧ B8 k ∧ cmpI a k = -1
  | 0, a, k, _, h => by simp [aft] at h
  | m + 1, [], k, _, h => by
    simp only [aft, Option.some.injEq] at h
    subst h
    refine ⟨by simp, by simp, ?_, rfl⟩
    intro c hc; simp at hc; omega
  | m + 1, c :: a, k, h8, h => by
    have hc := h8.head
    cases e : aft m a with
    | some k' =>
      obtain ⟨h1, h2, h3, h4⟩ := aft_some m a k' h8.tail e
      rw [aft, e] at h
      simp only [Option.some.injEq] at h
      subst h
      refine ⟨by simp only [List.length_cons]; omega, by simp, ?_, by rw [cmpI_same]; exact h4⟩
      intro d hd
      rcases List.mem_cons.1 hd with rfl | hd
      · exact hc
      · exact h3 d hd
    | none =>
      rw [aft, e] at h
      simp only at h
      split at h
      · rename_i hlt
        simp only [Option.some.injEq] at h
        subst h
        refine ⟨by simp, by simp, ?_, cmpI_lt (by omega) _ _⟩
        intro d hd; simp at hd; omega
      · cases h
theorem aft_least : ∀ (m : Nat) (a t : List Int), B8 a → B8 t → t.length ≤ m → cmpI a t < 0 → ∃ k, aft m a = some k ∧ cmpI k t ≤ 0
  | 0, a, t, _, _, hl, h => by
    obtain rfl : t = [] := List.eq_nil_of_length_eq_zero (by omega)
    cases a <;> simp [cmpI] at h
  | m + 1, [], t, _, h8, hl, h => by
    cases t with
    | nil => simp [cmpI] at h
    | cons z t =>
      refine ⟨[0], rfl, ?_⟩
      have hz := h8.head
      rcases three 0 z with e | e | e
      · rw [cmpI_lt e]; decide
      · subst e; rw [cmpI_same]; cases t <;> simp [cmpI]
      · omega
  | m + 1, c :: a, t, ha, ht, hl, h => by
    cases t with
    | nil => simp [cmpI] at h
    | cons z t =>
      have hz := ht.head
      rcases three c z with e | e | e
      · cases f : aft m a with
        | some k => exact ⟨c :: k, by rw [aft, f], by rw [cmpI_lt e]; decide⟩
        | none =>
          refine ⟨[c + 1], by rw [aft, f]; simp; omega, ?_⟩
          rcases three (c + 1) z with g | g | g
          · rw [cmpI_lt g]; decide
          · rw [g, cmpI_same]; cases t <;> simp [cmpI]
          · omega
      · subst e
        rw [cmpI_same] at h
        obtain ⟨k, h1, h2⟩ := aft_least m a t ha.tail ht.tail (by simpa using hl) h
        exact ⟨c :: k, by rw [aft, h1], by rw [cmpI_same]; exact h2⟩
      · rw [cmpI_gt e] at h; omega

end Go.Proofs.YtepjblmjjegpgaaGreat
