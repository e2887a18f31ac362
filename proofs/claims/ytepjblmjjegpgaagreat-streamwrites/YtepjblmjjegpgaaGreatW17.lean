/- What scan tells: bounds; what is read is written just so. No program is named here. -/
import Derived.Test.YtepjblmjjegpgaaGreatW10
import Derived.Test.YtepjblmjjegpgaaGreatW8
namespace Go.Proofs.YtepjblmjjegpgaaGreat
open Go.RowKit
set_option maxRecDepth 100000

theorem scan_bound : ∀ (cs : List Int) (i : Nat) (n : Int), 0 ≤ n → n < 128 ^ i → i ≤ 9 → (∀ c ∈ cs, 0 ≤ c ∧ c ≤ 255) →
    0 ≤ (scan i n cs).1 ∧ (scan i n cs).1 ≤ 18446744073709551615 ∧ (scan i n cs).2.1 ≤ i + cs.length ∧ ((scan i n cs).2.2 = 0 → i + 1 ≤ (scan i n cs).2.1)
  | [], i, n, _, _, _, _ => by simp [scan]
  | c :: cs, i, n, h0, hn, hi, h8 => by
    have hc := h8 c (by simp)
    by_cases hf : faultOf i c = 0
    · have hT := faultOf_le8 i c hf hi
      have hb := step_bound n c i h0 hn
      by_cases hc1 : c < 128
      · rw [scan, if_neg (by rw [hf]; simp), if_pos hc1]
        refine ⟨hb.1, ?_, by simp, fun _ => Nat.le_refl _⟩
        show n + c % 128 * 128 ^ i ≤ _
        rcases hT with hT | ⟨rfl, hc2⟩
        · have hle : (128 : Int) ^ (i + 1) ≤ 128 ^ 9 := by
            rw [pow128i, pow128i]
            have := Nat.pow_le_pow_right (show 0 < 128 by decide) (show i + 1 ≤ 9 by omega)
            omega
          have hp : (128 : Int) ^ 9 = 9223372036854775808 := by decide
          omega
        · have hp : (128 : Int) ^ 9 = 9223372036854775808 := by decide
          rw [hp] at *
          have : c % 128 ≤ 1 := by omega
          omega
      · rw [scan, if_neg (by rw [hf]; simp), if_neg hc1]
        have := scan_bound cs (i + 1) (n + c % 128 * 128 ^ i) hb.1 hb.2 (by omega) (fun d hd => h8 d (by simp [hd]))
        refine ⟨this.1, this.2.1, ?_, fun h => ?_⟩
        · have := this.2.2.1; simp; omega
        · have := this.2.2.2 h; omega
    · rw [scan, if_pos hf]
      exact ⟨by simp, by simp, by simp, fun h => absurd h hf⟩

theorem scan_bound0 (cs : List Int) (h8 : ∀ c ∈ cs, 0 ≤ c ∧ c ≤ 255) :
    0 ≤ (scan 0 0 cs).1 ∧ (scan 0 0 cs).1 ≤ 18446744073709551615 ∧ (scan 0 0 cs).2.1 ≤ cs.length ∧ ((scan 0 0 cs).2.2 = 0 → 1 ≤ (scan 0 0 cs).2.1) := by
  have := scan_bound cs 0 0 (by decide) (by decide) (by omega) h8
  simpa using this

/-- What is read is written just so. -/
theorem scan_back : ∀ (cs : List Int) (i : Nat) (acc : Int), i ≤ 9 → (∀ c ∈ cs, 0 ≤ c ∧ c ≤ 255) → (scan i acc cs).2.2 = 0 →
    ∃ m : Nat, (scan i acc cs).1 = acc + (m : Int) * 128 ^ i ∧ encF (9 - i) m = cs.take ((scan i acc cs).2.1 - i) ∧ (0 < i → 0 < m)
  | [], i, acc, _, _, h => by simp [scan] at h
  | c :: cs, i, acc, hi, h8, h => by
    have hc := h8 c (by simp)
    by_cases hf : faultOf i c = 0
    · have hT := faultOf_le8 i c hf hi
      by_cases hc1 : c < 128
      · rw [scan, if_neg (by rw [hf]; simp), if_pos hc1]
        refine ⟨c.toNat, ?_, ?_, fun h0 => ?_⟩
        · show acc + c % 128 * 128 ^ i = _
          rw [show c % 128 = c by omega, Int.toNat_of_nonneg hc.1]
        · show encF (9 - i) c.toNat = (c :: cs).take (i + 1 - i)
          rw [encF_lt _ _ (by omega), show i + 1 - i = 1 by omega, Int.toNat_of_nonneg hc.1]
          rfl
        · by_cases e : c = 0
          · rw [e] at hf
            unfold faultOf at hf
            rw [if_neg (by omega), if_pos ⟨by omega, rfl⟩] at hf
            exact absurd hf (by decide)
          · omega
      · rw [scan, if_neg (by rw [hf]; simp), if_neg hc1] at h ⊢
        obtain ⟨m, h1, h2, h3⟩ := scan_back cs (i + 1) (acc + c % 128 * 128 ^ i) (by omega) (fun d hd => h8 d (by simp [hd])) h
        have hm := h3 (by omega)
        have hk := (scan_more_len cs (i + 1) (acc + c % 128 * 128 ^ i) h)
        refine ⟨(c % 128).toNat + 128 * m, ?_, ?_, fun _ => by omega⟩
        · rw [h1, pow128_succ, Int.natCast_add, Int.toNat_of_nonneg (by omega), Int.add_mul, Int.add_assoc]
          congr 2
          rw [Int.natCast_mul, Int.mul_comm (128 ^ i) 128, ← Int.mul_assoc, Int.mul_comm (m : Int) 128]
          rfl
        · rw [show 9 - i = (9 - (i + 1)) + 1 by omega, encF_ge _ _ (by omega)]
          rw [show ((c % 128).toNat + 128 * m) / 128 = m by omega, h2]
          rw [show (scan (i + 1) (acc + c % 128 * 128 ^ i) cs).2.1 - i = ((scan (i + 1) (acc + c % 128 * 128 ^ i) cs).2.1 - (i + 1)) + 1 by omega, List.take_succ_cons]
          congr 1
          omega
    · rw [scan, if_pos hf] at h
      exact absurd h hf
where
  scan_more_len : ∀ (cs : List Int) (i : Nat) (acc : Int), (scan i acc cs).2.2 = 0 → i + 1 ≤ (scan i acc cs).2.1
    | [], i, acc, h => by simp [scan] at h
    | c :: cs, i, acc, h => by
      by_cases hf : faultOf i c = 0
      · by_cases hc1 : c < 128
        · rw [scan, if_neg (by rw [hf]; simp), if_pos hc1]; exact Nat.le_refl _
        · rw [scan, if_neg (by rw [hf]; simp), if_neg hc1] at h ⊢
          have := scan_more_len cs (i + 1) _ h
          omega
      · rw [scan, if_pos hf] at h
        exact absurd h hf

theorem scan_back0 (cs : List Int) (h8 : ∀ c ∈ cs, 0 ≤ c ∧ c ≤ 255) (h : (scan 0 0 cs).2.2 = 0) : enc (scan 0 0 cs).1.toNat = cs.take (scan 0 0 cs).2.1 := by
  obtain ⟨m, h1, h2, _⟩ := scan_back cs 0 0 (by omega) h8 h
  have e : (scan 0 0 cs).1 = (m : Int) := by rw [h1]; simp
  rw [e, Int.toNat_natCast]
  exact h2


/-! ### A number at a place -/
def nm (zs : List Int) (p : Nat) : Nat := (scan 0 0 (zs.drop p)).1.toNat
def nx (zs : List Int) (p : Nat) : Nat := p + (scan 0 0 (zs.drop p)).2.1
def er (zs : List Int) (p : Nat) : Int := (scan 0 0 (zs.drop p)).2.2
theorem B8.dropB {zs : List Int} (h : B8 zs) (k : Nat) : B8 (zs.drop k) := fun c hc => h c (List.mem_of_mem_drop hc)
theorem rd_at (zs : List Int) (p : Nat) (h8 : B8 zs) (hp : p ≤ zs.length) : rdNum zs (p : Int) = (nm zs p : Int) ∧ rdEnd zs (p : Int) = (nx zs p : Int) ∧ rdErr zs (p : Int) = er zs p ∧ nx zs p ≤ zs.length ∧ p ≤ nx zs p ∧ nm zs p ≤ 18446744073709551615 := by
  have hb := scan_bound0 (zs.drop p) (h8.dropB p)
  rw [List.length_drop] at hb
  unfold rdNum rdEnd rdErr nm nx er
  rw [if_neg (by omega), if_neg (by omega), if_neg (by omega), Int.toNat_natCast]
  refine ⟨?_, ?_, rfl, by omega, by omega, by omega⟩
  · rw [Int.toNat_of_nonneg hb.1]
  · rfl

/-- The head's error, its place or the one behind it. -/
def hE (zs : List Int) (p : Nat) : Int := if er zs p ≠ 0 then er zs p else if er zs (nx zs p) ≠ 0 then er zs (nx zs p) else er zs (nx zs (nx zs p))
def hP (zs : List Int) (p : Nat) : Nat := if er zs p ≠ 0 then nx zs p else if er zs (nx zs p) ≠ 0 then nx zs (nx zs p) else nx zs (nx zs (nx zs p))
theorem hE_ok {zs : List Int} {p : Nat} (h : hE zs p = 0) : er zs p = 0 ∧ er zs (nx zs p) = 0 ∧ er zs (nx zs (nx zs p)) = 0 ∧ hP zs p = nx zs (nx zs (nx zs p)) := by
  unfold hE at h
  unfold hP
  by_cases h1 : er zs p = 0
  · rw [if_neg (by simp [h1])] at h ⊢
    by_cases h2 : er zs (nx zs p) = 0
    · rw [if_neg (by simp [h2])] at h ⊢
      exact ⟨h1, h2, h, rfl⟩
    · rw [if_pos h2] at h; exact absurd h h2
  · rw [if_pos h1] at h; exact absurd h h1
theorem hP_le (zs : List Int) (p : Nat) (h8 : B8 zs) (hp : p ≤ zs.length) : hP zs p ≤ zs.length := by
  have h1 := rd_at zs p h8 hp
  have h2 := rd_at zs (nx zs p) h8 h1.2.2.2.1
  have h3 := rd_at zs (nx zs (nx zs p)) h8 h2.2.2.2.1
  unfold hP
  split
  · omega
  · split <;> omega
/-- What is wrong with a head. -/
def fltE (x y z n : Nat) : Int := if n < x then 52 else if 64 < y ∨ 256 < z then 3 else if x + y < 1 ∨ 64 < x + y then 3 else 0
/-- What is wrong with a key behind a text. -/
def kfE (prev key : List Int) (x : Nat) : Int := if x < comN prev key then 52 else if 0 < prev.length ∧ ¬ cmpI prev key < 0 then 51 else 0
theorem fltE_ok {x y z n : Nat} (h : fltE x y z n = 0) : x ≤ n ∧ y ≤ 64 ∧ z ≤ 256 ∧ 1 ≤ x + y ∧ x + y ≤ 64 := by
  unfold fltE at h
  split at h
  · omega
  · split at h
    · omega
    · split at h
      · omega
      · omega

/-! ### An entry at a place -/
def keyOf (prev zs : List Int) (p : Nat) : List Int := prev.take (nm zs p) ++ (zs.drop (hP zs p)).take (nm zs (nx zs p))
def rEr (prev zs : List Int) (p : Nat) : Int :=
  if hE zs p ≠ 0 then hE zs p else if fltE (nm zs p) (nm zs (nx zs p)) (nm zs (nx zs (nx zs p))) prev.length ≠ 0 then fltE (nm zs p) (nm zs (nx zs p)) (nm zs (nx zs (nx zs p))) prev.length
  else if zs.length < hP zs p + nm zs (nx zs p) + nm zs (nx zs (nx zs p)) then 53 else kfE prev (keyOf prev zs p) (nm zs p)
def rPl (prev zs : List Int) (p : Nat) : Nat :=
  if hE zs p ≠ 0 then hP zs p else if fltE (nm zs p) (nm zs (nx zs p)) (nm zs (nx zs (nx zs p))) prev.length ≠ 0 then p
  else if zs.length < hP zs p + nm zs (nx zs p) + nm zs (nx zs (nx zs p)) then zs.length else if kfE prev (keyOf prev zs p) (nm zs p) ≠ 0 then p else hP zs p + nm zs (nx zs p) + nm zs (nx zs (nx zs p))
def rKy (prev zs : List Int) (p : Nat) : List Int := if rEr prev zs p = 0 then keyOf prev zs p else []
def rVl (prev zs : List Int) (p : Nat) : List Int := if rEr prev zs p = 0 then (zs.drop (hP zs p + nm zs (nx zs p))).take (nm zs (nx zs (nx zs p))) else []

end Go.Proofs.YtepjblmjjegpgaaGreat

namespace Go.Proofs.YtepjblmjjegpgaaGreat
open Go.RowKit
set_option maxRecDepth 100000

/-- An entry's bytes behind a text. -/
def encP (prev key val : List Int) : List Int := enc (comN prev key) ++ enc (key.length - comN prev key) ++ enc val.length ++ key.drop (comN prev key) ++ val

theorem nm_enc (zs : List Int) (p n : Nat) (rest : List Int) (hn : n ≤ 18446744073709551615) (h : zs.drop p = enc n ++ rest) : nm zs p = n ∧ nx zs p = p + (enc n).length ∧ er zs p = 0 ∧ zs.drop (nx zs p) = rest := by
  have hs := scan_enc0 n hn rest
  rw [← h] at hs
  have h2 : nx zs p = p + (enc n).length := by unfold nx; rw [hs]
  refine ⟨by unfold nm; rw [hs]; simp, h2, by unfold er; rw [hs], ?_⟩
  rw [h2, ← List.drop_drop, h, List.drop_left]
/-- What follows a number that was read. -/
theorem enc_nm (zs : List Int) (p : Nat) (h8 : B8 zs) (he : er zs p = 0) : zs.drop p = enc (nm zs p) ++ zs.drop (nx zs p) := by
  have h := scan_back0 (zs.drop p) (h8.dropB p) he
  unfold nm nx
  rw [h, ← List.drop_drop, List.take_append_drop]

theorem comN_pre (prev rest : List Int) (n : Nat) (h : n ≤ prev.length) : n ≤ comN prev (prev.take n ++ rest) := by
  induction n generalizing prev with
  | zero => exact Nat.zero_le _
  | succ n ih =>
    cases prev with
    | nil => simp at h
    | cons x prev =>
      rw [List.take_succ_cons, List.cons_append, comN_same]
      have := ih prev (by simpa using h)
      omega

/-- The head of an entry's bytes. -/
theorem head_enc (zs prev key val rest : List Int) (p : Nat) (hk : key.length ≤ 18446744073709551615) (hv : val.length ≤ 18446744073709551615) (h : zs.drop p = encP prev key val ++ rest) :
    hE zs p = 0 ∧ nm zs p = comN prev key ∧ nm zs (nx zs p) = key.length - comN prev key ∧ nm zs (nx zs (nx zs p)) = val.length ∧ zs.drop (hP zs p) = key.drop (comN prev key) ++ val ++ rest ∧ hP zs p = p + (enc (comN prev key)).length + (enc (key.length - comN prev key)).length + (enc val.length).length := by
  have hle := comN_le prev key
  unfold encP at h
  simp only [List.append_assoc] at h
  obtain ⟨a1, a2, a3, a4⟩ := nm_enc zs p (comN prev key) _ (by omega) h
  obtain ⟨b1, b2, b3, b4⟩ := nm_enc zs (nx zs p) (key.length - comN prev key) _ (by omega) a4
  obtain ⟨c1, c2, c3, c4⟩ := nm_enc zs (nx zs (nx zs p)) val.length _ (by omega) b4
  have e0 : hE zs p = 0 := by unfold hE; rw [if_neg (by rw [a3]; simp), if_neg (by rw [b3]; simp)]; exact c3
  have hp := (hE_ok e0).2.2.2
  refine ⟨e0, a1, b1, c1, ?_, ?_⟩
  · rw [hp, c4, List.append_assoc]
  · rw [hp, c2, b2, a2]
theorem drop_com (prev key : List Int) : prev.take (comN prev key) ++ key.drop (comN prev key) = key := by
  rw [comN_take, List.take_append_drop]
theorem len_drop {zs : List Int} {p : Nat} {r : List Int} (hp : p ≤ zs.length) (h : zs.drop p = r) : zs.length = p + r.length := by
  have := congrArg List.length h
  rw [List.length_drop] at this
  omega

/-- What is written of an entry that may be is read. -/
theorem trip_ok (zs prev key val rest : List Int) (p : Nat) (z8 : B8 zs) (hp : p ≤ zs.length) (h : zs.drop p = encP prev key val ++ rest) (hk1 : 1 ≤ key.length) (hk2 : key.length ≤ 64) (hv : val.length ≤ 256) (ho : prev.length = 0 ∨ cmpI prev key < 0) :
    rEr prev zs p = 0 ∧ rKy prev zs p = key ∧ rVl prev zs p = val ∧ rPl prev zs p = p + (encP prev key val).length := by
  obtain ⟨e0, n1, n2, n3, hd, hpl⟩ := head_enc zs prev key val rest p (by omega) (by omega) h
  have hle := comN_le prev key
  have hple := hP_le zs p z8 hp
  have hl := len_drop hple hd
  simp only [List.length_append, List.length_drop] at hl
  have hko : keyOf prev zs p = key := by
    unfold keyOf
    rw [n1, n2, hd, List.append_assoc, List.take_left' (by rw [List.length_drop])]
    exact drop_com prev key
  have hf : fltE (comN prev key) (key.length - comN prev key) val.length prev.length = 0 := by
    unfold fltE
    rw [if_neg (by omega), if_neg (by omega), if_neg (by omega)]
  have hkf : kfE prev key (comN prev key) = 0 := by
    unfold kfE
    rw [if_neg (by omega), if_neg (by omega)]
  have hlt : ¬ zs.length < hP zs p + (key.length - comN prev key) + val.length := by omega
  have hr : rEr prev zs p = 0 := by
    unfold rEr
    rw [hko, n1, n2, n3, if_neg (by rw [e0]; simp), if_neg (by rw [hf]; simp), if_neg hlt, hkf]
  refine ⟨hr, ?_, ?_, ?_⟩
  · unfold rKy; rw [if_pos hr, hko]
  · unfold rVl
    rw [if_pos hr, n2, n3, ← List.drop_drop, hd, List.append_assoc, List.drop_left' (by rw [List.length_drop]), List.take_left]
  · unfold rPl
    rw [hko, n1, n2, n3, if_neg (by rw [e0]; simp), if_neg (by rw [hf]; simp), if_neg hlt, if_neg (by rw [hkf]; simp), hpl]
    unfold encP
    simp only [List.length_append, List.length_drop]
    omega
/-- What is written of another is not. -/
theorem trip_bad (zs prev key val rest : List Int) (p : Nat) (z8 : B8 zs) (hp : p ≤ zs.length) (h : zs.drop p = encP prev key val ++ rest) (hk : key.length ≤ 18446744073709551615) (hv : val.length ≤ 18446744073709551615) (hbad : ¬ (1 ≤ key.length ∧ key.length ≤ 64 ∧ val.length ≤ 256 ∧ (prev.length = 0 ∨ cmpI prev key < 0))) :
    rEr prev zs p ≠ 0 := by
  obtain ⟨e0, n1, n2, n3, hd, hpl⟩ := head_enc zs prev key val rest p hk hv h
  have hle := comN_le prev key
  have hple := hP_le zs p z8 hp
  have hl := len_drop hple hd
  simp only [List.length_append, List.length_drop] at hl
  have hko : keyOf prev zs p = key := by
    unfold keyOf
    rw [n1, n2, hd, List.append_assoc, List.take_left' (by rw [List.length_drop])]
    exact drop_com prev key
  have hlt : ¬ zs.length < hP zs p + (key.length - comN prev key) + val.length := by omega
  unfold rEr
  rw [hko, n1, n2, n3, if_neg (by rw [e0]; simp)]
  by_cases hf : fltE (comN prev key) (key.length - comN prev key) val.length prev.length = 0
  · rw [if_neg (by rw [hf]; simp), if_neg hlt]
    have := fltE_ok hf
    unfold kfE
    rw [if_neg (by omega), if_pos ⟨by omega, by omega⟩]
    decide
  · rw [if_pos hf]; exact hf
/-- What is read may be, and has just the bytes that are written of it. -/
theorem trip_back (zs prev : List Int) (p : Nat) (z8 : B8 zs) (hp : p ≤ zs.length) (h : rEr prev zs p = 0) :
    1 ≤ (rKy prev zs p).length ∧ (rKy prev zs p).length ≤ 64 ∧ (rVl prev zs p).length ≤ 256 ∧ rPl prev zs p ≤ zs.length ∧ p ≤ rPl prev zs p ∧ encP prev (rKy prev zs p) (rVl prev zs p) = (zs.drop p).take (rPl prev zs p - p) := by
  have hpl := hP_le zs p z8 hp
  have hK : rKy prev zs p = keyOf prev zs p := by unfold rKy; rw [if_pos h]
  have hV : rVl prev zs p = (zs.drop (hP zs p + nm zs (nx zs p))).take (nm zs (nx zs (nx zs p))) := by unfold rVl; rw [if_pos h]
  rw [hK, hV]
  unfold rEr at h
  by_cases e0 : hE zs p = 0
  · rw [if_neg (by rw [e0]; simp)] at h
    by_cases hf : fltE (nm zs p) (nm zs (nx zs p)) (nm zs (nx zs (nx zs p))) prev.length = 0
    · rw [if_neg (by rw [hf]; simp)] at h
      by_cases hs : zs.length < hP zs p + nm zs (nx zs p) + nm zs (nx zs (nx zs p))
      · rw [if_pos hs] at h; exact absurd h (by decide)
      · rw [if_neg hs] at h
        have hPl : rPl prev zs p = hP zs p + nm zs (nx zs p) + nm zs (nx zs (nx zs p)) := by unfold rPl; rw [if_neg (by rw [e0]; simp), if_neg (by rw [hf]; simp), if_neg hs, if_neg (by rw [h]; simp)]
        obtain ⟨f1, f2, f3, f4, f5⟩ := fltE_ok hf
        obtain ⟨g1, g2, g3, g4⟩ := hE_ok e0
        have k1 := enc_nm zs p z8 g1
        have k2 := enc_nm zs _ z8 g2
        have k3 := enc_nm zs _ z8 g3
        rw [← g4] at k3
        have hq1 := (rd_at zs p z8 hp).2.2.2
        have hq2 := (rd_at zs _ z8 hq1.1).2.2.2
        have hq3 := (rd_at zs _ z8 hq2.1).2.2.2
        rw [← g4] at hq3
        have hl1 : (prev.take (nm zs p)).length = nm zs p := by rw [List.length_take]; omega
        have hl2 : ((zs.drop (hP zs p)).take (nm zs (nx zs p))).length = nm zs (nx zs p) := by rw [List.length_take, List.length_drop]; omega
        have hkl : (keyOf prev zs p).length = nm zs p + nm zs (nx zs p) := by unfold keyOf; rw [List.length_append, hl1, hl2]
        have hvl : ((zs.drop (hP zs p + nm zs (nx zs p))).take (nm zs (nx zs (nx zs p)))).length = nm zs (nx zs (nx zs p)) := by rw [List.length_take, List.length_drop]; omega
        have hc : comN prev (keyOf prev zs p) = nm zs p := by
          have hge := comN_pre prev ((zs.drop (hP zs p)).take (nm zs (nx zs p))) (nm zs p) f1
          have : ¬ nm zs p < comN prev (keyOf prev zs p) := fun hlt => by unfold kfE at h; rw [if_pos hlt] at h; exact absurd h (by decide)
          have hge2 : nm zs p ≤ comN prev (keyOf prev zs p) := hge
          omega
        refine ⟨by omega, by omega, by omega, by omega, by omega, ?_⟩
        unfold encP
        rw [hc, hkl, hvl, show nm zs p + nm zs (nx zs p) - nm zs p = nm zs (nx zs p) by omega]
        have hkd : (keyOf prev zs p).drop (nm zs p) = (zs.drop (hP zs p)).take (nm zs (nx zs p)) := by unfold keyOf; rw [List.drop_left' hl1]
        rw [hkd, hPl]
        have hfull : zs.drop p = enc (nm zs p) ++ enc (nm zs (nx zs p)) ++ enc (nm zs (nx zs (nx zs p))) ++ (zs.drop (hP zs p)).take (nm zs (nx zs p)) ++ (zs.drop (hP zs p + nm zs (nx zs p))).take (nm zs (nx zs (nx zs p))) ++ zs.drop (hP zs p + nm zs (nx zs p) + nm zs (nx zs (nx zs p))) := by
          conv => lhs; rw [k1, k2, k3]
          have z1 : zs.drop (hP zs p) = (zs.drop (hP zs p)).take (nm zs (nx zs p)) ++ zs.drop (hP zs p + nm zs (nx zs p)) := by rw [← List.drop_drop, List.take_append_drop]
          have z2 : zs.drop (hP zs p + nm zs (nx zs p)) = (zs.drop (hP zs p + nm zs (nx zs p))).take (nm zs (nx zs (nx zs p))) ++ zs.drop (hP zs p + nm zs (nx zs p) + nm zs (nx zs (nx zs p))) := by
            have q := List.take_append_drop (nm zs (nx zs (nx zs p))) (zs.drop (hP zs p + nm zs (nx zs p)))
            rw [List.drop_drop] at q
            exact q.symm
          conv => lhs; rw [z1, z2]
          simp only [List.append_assoc]
        have hlen := congrArg List.length hfull
        rw [List.length_append, List.length_drop, List.length_drop] at hlen
        conv => rhs; rw [hfull]
        rw [List.take_left' (by omega)]
    · rw [if_pos hf] at h; exact absurd h hf
  · rw [if_pos e0] at h; exact absurd h e0

end Go.Proofs.YtepjblmjjegpgaaGreat

namespace Go.Proofs.YtepjblmjjegpgaaGreat
open Go.RowKit
set_option maxRecDepth 100000

abbrev KV := List Int × List Int
def kyOf (l : List KV) (i : Nat) : List Int := (l.getD i ([], [])).1
def vlOf (l : List KV) (i : Nat) : List Int := (l.getD i ([], [])).2
def pvOf (l : List KV) (i : Nat) : List Int := if i % 8 = 0 then [] else kyOf l (i - 1)
def sp2 (n : Nat) : List Int := [((n % 256 : Nat) : Int), ((n / 256 % 256 : Nat) : Int)]
/-- The bytes of the first entries. -/
def bod (l : List KV) : Nat → List Int
  | 0 => []
  | i + 1 => bod l i ++ encP (pvOf l i) (kyOf l i) (vlOf l i)
/-- The places of the restarts among them. -/
def tab (l : List KV) : Nat → List Int
  | 0 => []
  | i + 1 => if i % 8 = 0 then tab l i ++ sp2 (1 + (bod l i).length) else tab l i
def blk (l : List KV) : List Int := if l.length = 0 then [] else enc l.length ++ bod l l.length ++ tab l l.length

theorem ky_app (l m : List KV) (i : Nat) (h : i < l.length) : kyOf (l ++ m) i = kyOf l i := by simp [kyOf, List.getD, List.getElem?_append_left h]
theorem vl_app (l m : List KV) (i : Nat) (h : i < l.length) : vlOf (l ++ m) i = vlOf l i := by simp [vlOf, List.getD, List.getElem?_append_left h]
theorem ky_at (l : List KV) (x : KV) : kyOf (l ++ [x]) l.length = x.1 := by simp [kyOf, List.getD]
theorem vl_at (l : List KV) (x : KV) : vlOf (l ++ [x]) l.length = x.2 := by simp [vlOf, List.getD]
theorem pv_app (l m : List KV) (i : Nat) (h : i ≤ l.length) : pvOf (l ++ m) i = pvOf l i := by
  unfold pvOf
  split
  · rfl
  · rename_i h8
    rw [ky_app l m (i - 1) (by omega)]
theorem bod_app (l m : List KV) : ∀ i, i ≤ l.length → bod (l ++ m) i = bod l i
  | 0, _ => rfl
  | i + 1, h => by rw [bod, bod, bod_app l m i (by omega), pv_app l m i (by omega), ky_app l m i (by omega), vl_app l m i (by omega)]
theorem tab_app (l m : List KV) : ∀ i, i ≤ l.length → tab (l ++ m) i = tab l i
  | 0, _ => rfl
  | i + 1, h => by rw [tab, tab, tab_app l m i (by omega), bod_app l m i (by omega)]
theorem bod_snoc (l : List KV) (x : KV) : bod (l ++ [x]) (l.length + 1) = bod l l.length ++ encP (pvOf l l.length) x.1 x.2 := by
  rw [bod, bod_app l [x] l.length (by omega), pv_app l [x] _ (by omega), ky_at, vl_at]
theorem tab_snoc (l : List KV) (x : KV) : tab (l ++ [x]) (l.length + 1) = if l.length % 8 = 0 then tab l l.length ++ sp2 (1 + (bod l l.length).length) else tab l l.length := by
  rw [tab, bod_app l [x] l.length (by omega), tab_app l [x] _ (by omega)]
theorem sp2_len (n : Nat) : (sp2 n).length = 2 := rfl
theorem sp2_b8 (n : Nat) : B8 (sp2 n) := by
  intro c hc
  simp only [sp2, List.mem_cons, List.not_mem_nil, or_false] at hc
  omega

/-- Entries that may be, one above the other. -/
structure Good (l : List KV) : Prop where
  n64 : l.length ≤ 64
  k1 : ∀ i, i < l.length → 1 ≤ (kyOf l i).length ∧ (kyOf l i).length ≤ 64
  v1 : ∀ i, i < l.length → (vlOf l i).length ≤ 256
  k8 : ∀ i, i < l.length → B8 (kyOf l i)
  v8 : ∀ i, i < l.length → B8 (vlOf l i)
  up : ∀ i, i + 1 < l.length → cmpI (kyOf l i) (kyOf l (i + 1)) < 0
theorem Good.nil : Good [] := ⟨by simp, fun i h => by simp at h, fun i h => by simp at h, fun i h => by simp at h, fun i h => by simp at h, fun i h => by simp at h⟩
/-- The last key. -/
def ahd (l : List KV) : List Int := kyOf l (l.length - 1)
theorem ahd_nil : ahd [] = [] := rfl
theorem ahd_snoc (l : List KV) (x : KV) : ahd (l ++ [x]) = x.1 := by
  unfold ahd
  rw [List.length_append, List.length_singleton, Nat.add_sub_cancel, ky_at]
theorem pv_ahd (l : List KV) : pvOf l l.length = if l.length % 8 = 0 then [] else ahd l := rfl
theorem Good.snoc {l : List KV} (h : Good l) (k v : List Int) (h64 : l.length < 64) (hk : 1 ≤ k.length ∧ k.length ≤ 64) (hv : v.length ≤ 256) (k8 : B8 k) (v8 : B8 v) (hu : 0 < l.length → cmpI (ahd l) k < 0) : Good (l ++ [(k, v)]) := by
  have hlen : (l ++ [(k, v)]).length = l.length + 1 := by simp
  refine ⟨by omega, fun i hi => ?_, fun i hi => ?_, fun i hi => ?_, fun i hi => ?_, fun i hi => ?_⟩
  · by_cases h2 : i < l.length
    · rw [ky_app l _ i h2]; exact h.k1 i h2
    · obtain rfl : i = l.length := by omega
      rw [ky_at]; exact hk
  · by_cases h2 : i < l.length
    · rw [vl_app l _ i h2]; exact h.v1 i h2
    · obtain rfl : i = l.length := by omega
      rw [vl_at]; exact hv
  · by_cases h2 : i < l.length
    · rw [ky_app l _ i h2]; exact h.k8 i h2
    · obtain rfl : i = l.length := by omega
      rw [ky_at]; exact k8
  · by_cases h2 : i < l.length
    · rw [vl_app l _ i h2]; exact h.v8 i h2
    · obtain rfl : i = l.length := by omega
      rw [vl_at]; exact v8
  · by_cases h2 : i + 1 < l.length
    · rw [ky_app l _ i (by omega), ky_app l _ _ h2]; exact h.up i h2
    · have e : i + 1 = l.length := by omega
      rw [e, ky_at, ky_app l _ i (by omega)]
      have := hu (by omega)
      unfold ahd at this
      rw [show l.length - 1 = i by omega] at this
      exact this
theorem Good.pv8 {l : List KV} (h : Good l) (i : Nat) (hi : i ≤ l.length) : B8 (pvOf l i) := by
  unfold pvOf
  split
  · exact B8.nil
  · exact h.k8 _ (by omega)
theorem Good.pvl {l : List KV} (h : Good l) (i : Nat) (hi : i ≤ l.length) : (pvOf l i).length ≤ 64 := by
  unfold pvOf
  split
  · simp
  · exact (h.k1 _ (by omega)).2
theorem Good.ahd8 {l : List KV} (h : Good l) : B8 (ahd l) := by
  by_cases h0 : l.length = 0
  · obtain rfl := List.eq_nil_of_length_eq_zero h0
    exact B8.nil
  · exact h.k8 _ (by omega)
theorem Good.ahdl {l : List KV} (h : Good l) : (ahd l).length ≤ 64 := by
  by_cases h0 : l.length = 0
  · obtain rfl := List.eq_nil_of_length_eq_zero h0
    simp [ahd, kyOf]
  · exact (h.k1 _ (by omega)).2

theorem encP_len (p k v : List Int) (hk : k.length ≤ 64) (hv : v.length ≤ 256) : (encP p k v).length ≤ 350 := by
  have h1 := comN_le p k
  have e1 := (enc_len_le (comN p k) (by omega)).2
  have e2 := (enc_len_le (k.length - comN p k) (by omega)).2
  have e3 := (enc_len_le v.length (by omega)).2
  unfold encP
  simp only [List.length_append, List.length_drop]
  omega
theorem encP_b8 (p k v : List Int) (hk : k.length ≤ 64) (hv : v.length ≤ 256) (k8 : B8 k) (v8 : B8 v) : B8 (encP p k v) := by
  have h1 := comN_le p k
  unfold encP
  have e1 : B8 (enc (comN p k)) := enc_mem8 _ (by omega)
  have e2 : B8 (enc (k.length - comN p k)) := enc_mem8 _ (by omega)
  have e3 : B8 (enc v.length) := enc_mem8 _ (by omega)
  exact (((e1.append e2).append e3).append (k8.drop _)).append v8
theorem bod_len {l : List KV} (h : Good l) : ∀ i, i ≤ l.length → (bod l i).length ≤ 350 * i
  | 0, _ => by simp [bod]
  | i + 1, hi => by
    rw [bod, List.length_append]
    have := bod_len h i (by omega)
    have := encP_len (pvOf l i) (kyOf l i) (vlOf l i) (h.k1 i (by omega)).2 (h.v1 i (by omega))
    omega
theorem bod_b8 {l : List KV} (h : Good l) : ∀ i, i ≤ l.length → B8 (bod l i)
  | 0, _ => B8.nil
  | i + 1, hi => by
    rw [bod]
    exact (bod_b8 h i (by omega)).append (encP_b8 _ _ _ (h.k1 i (by omega)).2 (h.v1 i (by omega)) (h.k8 i (by omega)) (h.v8 i (by omega)))
theorem tab_len (l : List KV) : ∀ i, (tab l i).length = 2 * ((i + 7) / 8)
  | 0 => rfl
  | i + 1 => by
    rw [tab]
    have := tab_len l i
    split
    · rw [List.length_append, sp2_len]; omega
    · omega
theorem tab_b8 (l : List KV) : ∀ i, B8 (tab l i)
  | 0 => B8.nil
  | i + 1 => by
    rw [tab]
    split
    · exact (tab_b8 l i).append (sp2_b8 _)
    · exact tab_b8 l i
theorem enc_small (n : Nat) (h : n < 128) : enc n = [(n : Int)] := encF_lt 9 n h
theorem blk_some {l : List KV} (h : Good l) (h0 : 0 < l.length) : blk l = (l.length : Int) :: (bod l l.length ++ tab l l.length) := by
  unfold blk
  rw [if_neg (by omega), enc_small _ (by have := h.n64; omega)]
  rfl
theorem blk_len {l : List KV} (h : Good l) : (blk l).length ≤ 22417 := by
  by_cases h0 : l.length = 0
  · unfold blk; rw [if_pos h0]; simp
  · rw [blk_some h (by omega)]
    have := h.n64
    have := bod_len h l.length (Nat.le_refl _)
    have := tab_len l l.length
    simp only [List.length_cons, List.length_append]
    omega
theorem blk_b8 {l : List KV} (h : Good l) : B8 (blk l) := by
  by_cases h0 : l.length = 0
  · unfold blk; rw [if_pos h0]; exact B8.nil
  · rw [blk_some h (by omega)]
    have := h.n64
    intro c hc
    rcases List.mem_cons.1 hc with rfl | hc
    · omega
    · exact ((bod_b8 h _ (Nat.le_refl _)).append (tab_b8 _ _)) c hc

/-! ### Reading -/
structure RS where
  l : List KV
  ps : List Nat
  p : Nat
  e : Int
  q : Nat
def pvS (l : List KV) : List Int := if l.length % 8 = 0 then [] else ahd l
def rstp (zs : List Int) (s : RS) : RS :=
  if s.e ≠ 0 then s else
  if rEr (pvS s.l) zs s.p ≠ 0 then ⟨s.l, s.ps, s.p, rEr (pvS s.l) zs s.p, rPl (pvS s.l) zs s.p⟩ else
  if cmpI (ahd s.l) (rKy (pvS s.l) zs s.p) < 0 then ⟨s.l ++ [(rKy (pvS s.l) zs s.p, rVl (pvS s.l) zs s.p)], s.ps ++ [s.p], rPl (pvS s.l) zs s.p, 0, 0⟩ else ⟨s.l, s.ps, s.p, 51, s.p⟩
def rrun (zs : List Int) (p0 : Nat) : Nat → RS
  | 0 => ⟨[], [], p0, 0, 0⟩
  | k + 1 => rstp zs (rrun zs p0 k)
/-- The table of entries that begin at these places. -/
def tabP (ps : List Nat) : Nat → List Int
  | 0 => []
  | i + 1 => if i % 8 = 0 then tabP ps i ++ sp2 (ps.getD i 0) else tabP ps i
def bFin (zs : List Int) (s : RS) : List KV × Int × Nat :=
  if s.e ≠ 0 then ([], s.e, s.q) else
  if comN (zs.drop s.p) (tabP s.ps s.ps.length) < (tabP s.ps s.ps.length).length then ([], 62, s.p + comN (zs.drop s.p) (tabP s.ps s.ps.length)) else
  if comN (zs.drop s.p) (tabP s.ps s.ps.length) < (zs.drop s.p).length then ([], 63, s.p + comN (zs.drop s.p) (tabP s.ps s.ps.length)) else (s.l, 0, 0)
def bRes (zs : List Int) : List KV × Int × Nat :=
  if er zs 0 ≠ 0 then ([], er zs 0, nx zs 0) else
  if nm zs 0 < 1 ∨ 64 < nm zs 0 then ([], 61, 0) else bFin zs (rrun zs (nx zs 0) (nm zs 0))

theorem tabP_app (ps m : List Nat) : ∀ i, i ≤ ps.length → tabP (ps ++ m) i = tabP ps i
  | 0, _ => rfl
  | i + 1, h => by
    have e : (ps ++ m).getD i 0 = ps.getD i 0 := by simp [List.getD, List.getElem?_append_left (show i < ps.length by omega)]
    rw [tabP, tabP, tabP_app ps m i (by omega), e]
theorem tabP_snoc (ps : List Nat) (p : Nat) : tabP (ps ++ [p]) (ps.length + 1) = if ps.length % 8 = 0 then tabP ps ps.length ++ sp2 p else tabP ps ps.length := by
  have e : (ps ++ [p]).getD ps.length 0 = p := by simp [List.getD]
  rw [tabP, tabP_app ps [p] _ (Nat.le_refl _), e]
theorem tabP_len (ps : List Nat) : ∀ i, (tabP ps i).length = 2 * ((i + 7) / 8)
  | 0 => rfl
  | i + 1 => by
    rw [tabP]
    have := tabP_len ps i
    split
    · rw [List.length_append, sp2_len]; omega
    · omega
theorem tabP_b8 (ps : List Nat) : ∀ i, B8 (tabP ps i)
  | 0 => B8.nil
  | i + 1 => by
    rw [tabP]
    split
    · exact (tabP_b8 ps i).append (sp2_b8 _)
    · exact tabP_b8 ps i
theorem tabP_tab {ps : List Nat} {l : List KV} : ∀ i, (∀ j, j < i → ps.getD j 0 = 1 + (bod l j).length) → tabP ps i = tab l i
  | 0, _ => rfl
  | i + 1, h => by rw [tabP, tab, tabP_tab i (fun j hj => h j (by omega)), h i (by omega)]

theorem rstp_err {zs : List Int} {s : RS} (h : s.e ≠ 0) : rstp zs s = s := by unfold rstp; rw [if_pos h]
theorem rstp_bad {zs : List Int} {s : RS} (h : s.e = 0) (he : rEr (pvS s.l) zs s.p ≠ 0) : rstp zs s = ⟨s.l, s.ps, s.p, rEr (pvS s.l) zs s.p, rPl (pvS s.l) zs s.p⟩ := by
  unfold rstp
  rw [if_neg (by rw [h]; simp), if_pos he]
theorem rstp_ord {zs : List Int} {s : RS} (h : s.e = 0) (he : rEr (pvS s.l) zs s.p = 0) (hc : ¬ cmpI (ahd s.l) (rKy (pvS s.l) zs s.p) < 0) : rstp zs s = ⟨s.l, s.ps, s.p, 51, s.p⟩ := by
  unfold rstp
  rw [if_neg (by rw [h]; simp), if_neg (by rw [he]; simp), if_neg hc]
theorem rstp_ok {zs : List Int} {s : RS} (h : s.e = 0) (he : rEr (pvS s.l) zs s.p = 0) (hc : cmpI (ahd s.l) (rKy (pvS s.l) zs s.p) < 0) : rstp zs s = ⟨s.l ++ [(rKy (pvS s.l) zs s.p, rVl (pvS s.l) zs s.p)], s.ps ++ [s.p], rPl (pvS s.l) zs s.p, 0, 0⟩ := by
  unfold rstp
  rw [if_neg (by rw [h]; simp), if_neg (by rw [he]; simp), if_pos hc]
theorem rrun_stays (zs : List Int) (p0 k : Nat) (h : (rrun zs p0 k).e ≠ 0) : ∀ j, rrun zs p0 (k + j) = rrun zs p0 k
  | 0 => rfl
  | j + 1 => by
    rw [← Nat.add_assoc, rrun, rrun_stays zs p0 k h j, rstp_err h]

theorem rPl_le (prev zs : List Int) (p : Nat) (z8 : B8 zs) (hp : p ≤ zs.length) : rPl prev zs p ≤ zs.length := by
  have := hP_le zs p z8 hp
  unfold rPl
  split
  · omega
  · split
    · exact hp
    · split
      · omega
      · split
        · exact hp
        · omega
theorem rKy_b8 (prev zs : List Int) (p : Nat) (p8 : B8 prev) (z8 : B8 zs) : B8 (rKy prev zs p) := by
  unfold rKy
  split
  · exact (p8.take _).append ((z8.drop _).take _)
  · exact B8.nil
theorem rVl_b8 (prev zs : List Int) (p : Nat) (z8 : B8 zs) : B8 (rVl prev zs p) := by
  unfold rVl
  split
  · exact (z8.drop _).take _
  · exact B8.nil

/-- What holds behind entries that were read. -/
structure RInv (zs : List Int) (p0 : Nat) (s : RS) : Prop where
  good : s.l.length ≤ 64 → Good s.l
  ps : s.ps.length = s.l.length
  p : s.p ≤ zs.length
  ge : p0 ≤ s.p
  q : s.q ≤ zs.length
  e0 : s.e = 0 → s.q = 0
  at' : ∀ i, i < s.l.length → s.ps.getD i 0 = p0 + (bod s.l i).length
  eq : zs.drop p0 = bod s.l s.l.length ++ zs.drop s.p

theorem pvS_eq (l : List KV) : pvS l = pvOf l l.length := rfl
theorem rinv {zs : List Int} {p0 : Nat} (z8 : B8 zs) (hp : p0 ≤ zs.length) : ∀ k, k ≤ 64 → RInv zs p0 (rrun zs p0 k) ∧ ((rrun zs p0 k).e = 0 → (rrun zs p0 k).l.length = k) ∧ (rrun zs p0 k).l.length ≤ k
  | 0, _ => ⟨⟨fun _ => Good.nil, rfl, hp, Nat.le_refl _, Nat.zero_le _, fun _ => rfl, fun i h => by simp [rrun] at h, by simp [rrun, bod]⟩, fun _ => rfl, Nat.le_refl _⟩
  | k + 1, hk => by
    obtain ⟨h, hl, hle⟩ := rinv z8 hp k (by omega)
    rw [rrun]
    generalize rrun zs p0 k = s at *
    by_cases he : s.e = 0
    · have hlk := hl he
      have hg := h.good (by omega)
      by_cases hr : rEr (pvS s.l) zs s.p = 0
      · by_cases hc : cmpI (ahd s.l) (rKy (pvS s.l) zs s.p) < 0
        · rw [rstp_ok he hr hc]
          obtain ⟨t1, t2, t3, t4, t5, t6⟩ := trip_back zs (pvS s.l) s.p z8 h.p hr
          have p8 : B8 (pvS s.l) := by rw [pvS_eq]; exact hg.pv8 _ (Nat.le_refl _)
          have hg2 : Good (s.l ++ [(rKy (pvS s.l) zs s.p, rVl (pvS s.l) zs s.p)]) := hg.snoc _ _ (by omega) ⟨t1, t2⟩ t3 (rKy_b8 _ _ _ p8 z8) (rVl_b8 _ _ _ z8) (fun _ => hc)
          have heq : zs.drop s.p = encP (pvS s.l) (rKy (pvS s.l) zs s.p) (rVl (pvS s.l) zs s.p) ++ zs.drop (rPl (pvS s.l) zs s.p) := by
            rw [t6]
            conv => lhs; rw [← List.take_append_drop (rPl (pvS s.l) zs s.p - s.p) (zs.drop s.p)]
            rw [List.drop_drop, show s.p + (rPl (pvS s.l) zs s.p - s.p) = rPl (pvS s.l) zs s.p by omega]
          have hsp : s.p = p0 + (bod s.l s.l.length).length := by
            have := congrArg List.length h.eq
            rw [List.length_append, List.length_drop, List.length_drop] at this
            have := h.p
            have := h.ge
            omega
          generalize rKy (pvS s.l) zs s.p = K at *
          generalize rVl (pvS s.l) zs s.p = V at *
          generalize rPl (pvS s.l) zs s.p = p2 at *
          have hlen : (s.l ++ [(K, V)]).length = s.l.length + 1 := by simp
          refine ⟨⟨fun _ => hg2, ?_, t4, Nat.le_trans h.ge t5, Nat.zero_le _, fun _ => rfl, fun i hi => ?_, ?_⟩, fun _ => by simp only; omega, by simp only; omega⟩
          · simp only [List.length_append, List.length_singleton]; rw [h.ps]
          · simp only at hi ⊢
            by_cases h2 : i < s.l.length
            · rw [bod_app _ _ _ (by omega)]
              have := h.at' i h2
              have e : (s.ps ++ [s.p]).getD i 0 = s.ps.getD i 0 := by simp [List.getD, List.getElem?_append_left (show i < s.ps.length by rw [h.ps]; exact h2)]
              rw [e, this]
            · have hi2 : i = s.ps.length := by rw [h.ps]; omega
              have e : (s.ps ++ [s.p]).getD i 0 = s.p := by rw [hi2]; simp [List.getD]
              have hi3 : i = s.l.length := by rw [hi2, h.ps]
              rw [e, hi3, bod_app _ _ _ (Nat.le_refl _)]
              exact hsp
          · simp only
            rw [hlen, bod_snoc, List.append_assoc]
            have := h.eq
            rw [heq] at this
            exact this
        · rw [rstp_ord he hr hc]
          exact ⟨⟨h.good, h.ps, h.p, h.ge, h.p, fun e => absurd e (by simp), h.at', h.eq⟩, fun e => absurd e (by simp), by simp only; omega⟩
      · rw [rstp_bad he hr]
        exact ⟨⟨h.good, h.ps, h.p, h.ge, rPl_le _ _ _ z8 h.p, fun e => absurd e hr, h.at', h.eq⟩, fun e => absurd e hr, by simp only; omega⟩
    · rw [rstp_err he]
      exact ⟨h, fun e => absurd e he, by omega⟩

/-- Reading what was written, and what stands behind. -/
theorem rrun_blk {l : List KV} (h : Good l) (zs more : List Int) (hz : zs.drop 1 = bod l l.length ++ more) (z8 : B8 zs) (hz1 : 1 ≤ zs.length) : ∀ k, k ≤ l.length → ∃ ps, rrun zs 1 k = ⟨l.take k, ps, 1 + (bod l k).length, 0, 0⟩ ∧ ps.length = k ∧ ∀ j, j < k → ps.getD j 0 = 1 + (bod l j).length
  | 0, _ => ⟨[], by simp [rrun, bod], rfl, fun j hj => by omega⟩
  | k + 1, hk => by
    obtain ⟨ps, e, hl, hp⟩ := rrun_blk h zs more hz z8 hz1 k (by omega)
    have htl : (l.take k).length = k := by rw [List.length_take]; omega
    have hpre : ∀ j, j ≤ l.length → ∃ r, bod l l.length = bod l j ++ r := by
      intro j hj
      obtain ⟨d, hd⟩ : ∃ d, l.length = j + d := ⟨l.length - j, by omega⟩
      rw [hd]
      clear hd
      induction d with
      | zero => exact ⟨[], by simp⟩
      | succ d ih =>
        obtain ⟨r, hr⟩ := ih
        exact ⟨r ++ encP (pvOf l (j + d)) (kyOf l (j + d)) (vlOf l (j + d)), by rw [← Nat.add_assoc, bod, hr, List.append_assoc]⟩
    obtain ⟨r, hr⟩ := hpre (k + 1) hk
    rw [bod] at hr
    have hd : zs.drop (1 + (bod l k).length) = encP (pvOf l k) (kyOf l k) (vlOf l k) ++ (r ++ more) := by
      rw [← List.drop_drop, hz, hr, List.append_assoc, List.append_assoc, List.drop_left]
    have hple : 1 + (bod l k).length ≤ zs.length := by
      have := congrArg List.length hz
      rw [List.length_drop, hr] at this
      simp only [List.length_append] at this
      omega
    have hah : ahd (l.take k) = kyOf l (k - 1) ∨ k = 0 := by
      by_cases h0 : k = 0
      · exact .inr h0
      · refine .inl ?_
        have hlt : k - 1 < k := by omega
        unfold ahd kyOf
        rw [htl]
        simp [List.getD, hlt]
    have hpv : pvS (l.take k) = pvOf l k := by
      unfold pvS pvOf
      rw [htl]
      split
      · rfl
      · rcases hah with e | e
        · exact e
        · subst e; simp at *
    have hcm : cmpI (ahd (l.take k)) (kyOf l k) < 0 := by
      have hk1 := (h.k1 k (by omega)).1
      by_cases h0 : k = 0
      · subst h0
        simp only [List.take_zero]
        cases hky : kyOf l 0 with
        | nil => rw [hky] at hk1; simp at hk1
        | cons x y => rw [ahd_nil, cmpI_nil_cons]; decide
      · rcases hah with e | e
        · rw [e]
          have := h.up (k - 1) (by omega)
          rw [show k - 1 + 1 = k by omega] at this
          exact this
        · exact absurd e h0
    have hpo : (pvOf l k).length = 0 ∨ cmpI (pvOf l k) (kyOf l k) < 0 := by
      rw [← hpv]
      unfold pvS
      split
      · exact .inl rfl
      · exact .inr hcm
    obtain ⟨t1, t2, t3, t4⟩ := trip_ok zs (pvOf l k) (kyOf l k) (vlOf l k) _ _ z8 hple hd (h.k1 k (by omega)).1 (h.k1 k (by omega)).2 (h.v1 k (by omega)) hpo
    refine ⟨ps ++ [1 + (bod l k).length], ?_, by rw [List.length_append, hl]; rfl, fun j hj => ?_⟩
    · rw [rrun, e, rstp_ok rfl (by rw [hpv]; exact t1) (by rw [hpv, t2]; exact hcm)]
      simp only
      rw [hpv, t2, t3, t4, bod, List.length_append, ← Nat.add_assoc]
      have : l.take (k + 1) = l.take k ++ [(kyOf l k, vlOf l k)] := by
        have hkl : k < l.length := by omega
        have e2 : l.getD k ([], []) = l[k] := by simp [List.getD, List.getElem?_eq_getElem hkl]
        unfold kyOf vlOf
        rw [List.take_succ_eq_append_getElem hkl, e2]
      rw [this]
    · by_cases h2 : j < k
      · have e2 : (ps ++ [1 + (bod l k).length]).getD j 0 = ps.getD j 0 := by simp [List.getD, List.getElem?_append_left (show j < ps.length by omega)]
        rw [e2]; exact hp j h2
      · have h3 : j = ps.length := by omega
        have e2 : (ps ++ [1 + (bod l k).length]).getD j 0 = 1 + (bod l k).length := by rw [h3]; simp [List.getD]
        rw [e2, h3, hl]
theorem comN_app (a m : List Int) : comN (a ++ m) a = a.length := by
  induction a with
  | nil => rw [List.nil_append, comN_nil_r]; rfl
  | cons x a ih => rw [List.cons_append, comN_same, ih]; rfl
theorem nm_small (n : Nat) (zs : List Int) (h : n < 128) : nm ((n : Int) :: zs) 0 = n ∧ nx ((n : Int) :: zs) 0 = 1 ∧ er ((n : Int) :: zs) 0 = 0 := by
  have := nm_enc ((n : Int) :: zs) 0 n zs (by omega) (by rw [enc_small n h]; rfl)
  rw [enc_small n h] at this
  exact ⟨this.1, this.2.1, this.2.2.1⟩
/-- There, and something behind. -/
theorem bRes_blk {l : List KV} (h : Good l) (h0 : 0 < l.length) (more : List Int) (m8 : B8 more) : bRes (blk l ++ more) = if more = [] then (l, 0, 0) else ([], 63, (blk l).length) := by
  have hb8 : B8 (blk l ++ more) := (blk_b8 h).append m8
  have hbl := blk_some h h0
  rw [hbl] at hb8 ⊢
  rw [List.cons_append] at hb8 ⊢
  have n64 := h.n64
  obtain ⟨e1, e2, e3⟩ := nm_small l.length (bod l l.length ++ tab l l.length ++ more) (by omega)
  obtain ⟨ps, hr, hl, hp⟩ := rrun_blk h _ (tab l l.length ++ more) (by rw [List.drop_succ_cons, List.drop_zero, List.append_assoc]) hb8 (by simp) l.length (Nat.le_refl _)
  unfold bRes
  rw [if_neg (by rw [e3]; simp), e1, e2, if_neg (by omega), hr]
  unfold bFin
  simp only
  rw [if_neg (by simp), hl, tabP_tab l.length hp]
  have hd : List.drop (1 + (bod l l.length).length) ((l.length : Int) :: (bod l l.length ++ tab l l.length ++ more)) = tab l l.length ++ more := by
    rw [Nat.add_comm, List.drop_succ_cons, List.append_assoc, List.drop_left]
  rw [hd, comN_app, if_neg (by omega)]
  by_cases hm : more = []
  · subst hm
    rw [if_neg (by simp), if_pos rfl, List.take_length]
  · have : 0 < more.length := List.length_pos_iff.2 hm
    rw [if_pos (by rw [List.length_append]; omega), if_neg hm]
    have hq : 1 + (bod l l.length).length + (tab l l.length).length = ((l.length : Int) :: (bod l l.length ++ tab l l.length)).length := by
      simp only [List.length_cons, List.length_append]; omega
    rw [hq]
theorem comN_all {a b : List Int} (h1 : ¬ comN a b < b.length) (h2 : ¬ comN a b < a.length) : a = b := by
  have h := comN_le a b
  have ht := comN_take a b
  rw [List.take_of_length_le (by omega), List.take_of_length_le (by omega)] at ht
  exact ht
/-- And back. -/
theorem bRes_back {zs : List Int} (z8 : B8 zs) (h : (bRes zs).2.1 = 0) : Good (bRes zs).1 ∧ 0 < (bRes zs).1.length ∧ blk (bRes zs).1 = zs ∧ (bRes zs).2.2 = 0 := by
  unfold bRes at h ⊢
  by_cases h1 : er zs 0 = 0
  · rw [if_neg (by rw [h1]; simp)] at h ⊢
    by_cases h2 : nm zs 0 < 1 ∨ 64 < nm zs 0
    · rw [if_pos h2] at h; simp at h
    · rw [if_neg h2] at h ⊢
      have hz := enc_nm zs 0 z8 h1
      rw [List.drop_zero] at hz
      have hen := enc_small (nm zs 0) (by omega)
      have hnx : nx zs 0 = 1 := by
        have := nm_enc zs 0 (nm zs 0) (zs.drop (nx zs 0)) (by omega) (by rw [List.drop_zero]; exact hz)
        rw [hen] at this
        exact this.2.1
      have hle := (rd_at zs 0 z8 (Nat.zero_le _)).2.2.2.1
      rw [hnx] at hle hz h ⊢
      obtain ⟨hi, hl, _⟩ := rinv z8 hle (nm zs 0) (by omega)
      generalize rrun zs 1 (nm zs 0) = s at *
      unfold bFin at h ⊢
      by_cases he : s.e = 0
      · rw [if_neg (by rw [he]; simp)] at h ⊢
        by_cases h3 : comN (zs.drop s.p) (tabP s.ps s.ps.length) < (tabP s.ps s.ps.length).length
        · rw [if_pos h3] at h; simp at h
        · rw [if_neg h3] at h ⊢
          by_cases h4 : comN (zs.drop s.p) (tabP s.ps s.ps.length) < (zs.drop s.p).length
          · rw [if_pos h4] at h; simp at h
          · rw [if_neg h4]
            have hlk := hl he
            have hg := hi.good (by omega)
            refine ⟨hg, by simp only; omega, ?_, rfl⟩
            simp only
            rw [blk_some hg (by omega)]
            have ht := comN_all h3 h4
            rw [hi.ps, tabP_tab s.l.length hi.at'] at ht
            have heq := hi.eq
            rw [ht] at heq
            rw [← heq, hlk]
            conv => rhs; rw [hz, hen]
            rfl
      · rw [if_pos he] at h; exact absurd h he
  · rw [if_pos h1] at h; exact absurd h h1
/-- With an error: nothing else, and its place is within. -/
theorem bRes_err {zs : List Int} (z8 : B8 zs) (h : (bRes zs).2.1 ≠ 0) : (bRes zs).1 = [] ∧ (bRes zs).2.2 ≤ zs.length := by
  unfold bRes at h ⊢
  have hrd := (rd_at zs 0 z8 (Nat.zero_le _)).2.2.2.1
  by_cases h1 : er zs 0 = 0
  · rw [if_neg (by rw [h1]; simp)] at h ⊢
    by_cases h2 : nm zs 0 < 1 ∨ 64 < nm zs 0
    · rw [if_pos h2]; exact ⟨rfl, Nat.zero_le _⟩
    · rw [if_neg h2] at h ⊢
      obtain ⟨hi, hl, _⟩ := rinv z8 hrd (nm zs 0) (by omega)
      generalize rrun zs (nx zs 0) (nm zs 0) = s at *
      have hc := comN_le (zs.drop s.p) (tabP s.ps s.ps.length)
      rw [List.length_drop] at hc
      have hp := hi.p
      unfold bFin at h ⊢
      by_cases he : s.e = 0
      · rw [if_neg (by rw [he]; simp)] at h ⊢
        split at h
        · rename_i h3
          rw [if_pos h3]
          exact ⟨rfl, by simp only; omega⟩
        · rename_i h3
          rw [if_neg h3]
          split at h
          · rename_i h4
            rw [if_pos h4]
            exact ⟨rfl, by simp only; omega⟩
          · simp at h
      · rw [if_pos he]
        exact ⟨rfl, hi.q⟩
  · rw [if_pos h1]
    exact ⟨rfl, hrd⟩
/-- No beginning of a block is one. -/
theorem bRes_cut {l : List KV} (h : Good l) (h0 : 0 < l.length) (n : Nat) (hn : n < (blk l).length) : (bRes ((blk l).take n)).2.1 ≠ 0 := by
  intro e
  have z8 : B8 ((blk l).take n) := (blk_b8 h).take n
  obtain ⟨g, g0, gb, _⟩ := bRes_back z8 e
  have h1 := bRes_blk g g0 ((blk l).drop n) ((blk_b8 h).drop n)
  have h2 := bRes_blk h h0 [] B8.nil
  rw [gb, List.take_append_drop, if_neg (fun e => by have := congrArg List.length e; rw [List.length_drop] at this; simp at this; omega)] at h1
  rw [List.append_nil, if_pos rfl, h1] at h2
  simp at h2

end Go.Proofs.YtepjblmjjegpgaaGreat
