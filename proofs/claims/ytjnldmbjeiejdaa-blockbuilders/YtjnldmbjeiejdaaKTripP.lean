/- Plain lists: an entry's bytes are read back; what is read is written just so. No program is named here. -/
import Derived.Test.YtjnldmbjeiejdaaKScan
namespace Go.Proofs.Ytjnldmbjeiejdaa
open Go.RowKit

/-- An entry's bytes behind a text. -/
def encP (prev key val : List Int) : List Int := enc (comN prev key) ++ enc (key.length - comN prev key) ++ enc val.length ++ key.drop (comN prev key) ++ val

theorem nm_enc (zs : List Int) (p n : Nat) (rest : List Int) (hn : n ≤ 18446744073709551615) (h : zs.drop p = enc n ++ rest) : nm zs p = n ∧ nx zs p = p + (enc n).length ∧ er zs p = 0 ∧ zs.drop (nx zs p) = rest := by
  have hs := scan_enc0 n hn rest
  rw [← h] at hs
  have h2 : nx zs p = p + (enc n).length := by unfold nx; rw [hs]
  refine ⟨by unfold nm; rw [hs]; simp, h2, by unfold er; rw [hs], ?_⟩
  rw [h2, ← List.drop_drop, h, List.drop_left]
/-- What follows a number that was read. -/
theorem enc_nm (zs : List Int) (p : Nat) (h8 : B8 zs) (he : er zs p = 0) : zs.drop p = enc (nm zs p) ++ zs.drop (nx zs p) := by
  have h := scan_back0 (zs.drop p) (h8.dropB p) he
  unfold nm nx
  rw [h, ← List.drop_drop, List.take_append_drop]

theorem comN_pre (prev rest : List Int) (n : Nat) (h : n ≤ prev.length) : n ≤ comN prev (prev.take n ++ rest) := by
  induction n generalizing prev with
  | zero => exact Nat.zero_le _
  | succ n ih =>
    cases prev with
    | nil => simp at h
    | cons x prev =>
      rw [List.take_succ_cons, List.cons_append, comN_same]
      have := ih prev (by simpa using h)
      omega

/-- The head of an entry's bytes. -/
theorem head_enc (zs prev key val rest : List Int) (p : Nat) (hk : key.length ≤ 18446744073709551615) (hv : val.length ≤ 18446744073709551615) (h : zs.drop p = encP prev key val ++ rest) :
    hE zs p = 0 ∧ nm zs p = comN prev key ∧ nm zs (nx zs p) = key.length - comN prev key ∧ nm zs (nx zs (nx zs p)) = val.length ∧ zs.drop (hP zs p) = key.drop (comN prev key) ++ val ++ rest ∧ hP zs p = p + (enc (comN prev key)).length + (enc (key.length - comN prev key)).length + (enc val.length).length := by
  have hle := comN_le prev key
  unfold encP at h
  simp only [List.append_assoc] at h
  obtain ⟨a1, a2, a3, a4⟩ := nm_enc zs p (comN prev key) _ (by omega) h
  obtain ⟨b1, b2, b3, b4⟩ := nm_enc zs (nx zs p) (key.length - comN prev key) _ (by omega) a4
  obtain ⟨c1, c2, c3, c4⟩ := nm_enc zs (nx zs (nx zs p)) val.length _ (by omega) b4
  have e0 : hE zs p = 0 := by unfold hE; rw [if_neg (by rw [a3]; simp), if_neg (by rw [b3]; simp)]; exact c3
  have hp := (hE_ok e0).2.2.2
  refine ⟨e0, a1, b1, c1, ?_, ?_⟩
  · rw [hp, c4, List.append_assoc]
  · rw [hp, c2, b2, a2]
theorem drop_com (prev key : List Int) : prev.take (comN prev key) ++ key.drop (comN prev key) = key := by
  rw [comN_take, List.take_append_drop]
theorem len_drop {zs : List Int} {p : Nat} {r : List Int} (hp : p ≤ zs.length) (h : zs.drop p = r) : zs.length = p + r.length := by
  have := congrArg List.length h
  rw [List.length_drop] at this
  omega

/-- What is written of an entry that may be is read. -/
theorem trip_ok (zs prev key val rest : List Int) (p : Nat) (z8 : B8 zs) (hp : p ≤ zs.length) (h : zs.drop p = encP prev key val ++ rest) (hk1 : 1 ≤ key.length) (hk2 : key.length ≤ 64) (hv : val.length ≤ 256) (ho : prev.length = 0 ∨ cmpI prev key < 0) :
    rEr prev zs p = 0 ∧ rKy prev zs p = key ∧ rVl prev zs p = val ∧ rPl prev zs p = p + (encP prev key val).length := by
  obtain ⟨e0, n1, n2, n3, hd, hpl⟩ := head_enc zs prev key val rest p (by omega) (by omega) h
  have hle := comN_le prev key
  have hple := hP_le zs p z8 hp
  have hl := len_drop hple hd
  simp only [List.length_append, List.length_drop] at hl
  have hko : keyOf prev zs p = key := by
    unfold keyOf
    rw [n1, n2, hd, List.append_assoc, List.take_left' (by rw [List.length_drop])]
    exact drop_com prev key
  have hf : fltE (comN prev key) (key.length - comN prev key) val.length prev.length = 0 := by
    unfold fltE
    rw [if_neg (by omega), if_neg (by omega), if_neg (by omega)]
  have hkf : kfE prev key (comN prev key) = 0 := by
    unfold kfE
    rw [if_neg (by omega), if_neg (by omega)]
  have hlt : ¬ zs.length < hP zs p + (key.length - comN prev key) + val.length := by omega
  have hr : rEr prev zs p = 0 := by
    unfold rEr
    rw [hko, n1, n2, n3, if_neg (by rw [e0]; simp), if_neg (by rw [hf]; simp), if_neg hlt, hkf]
  refine ⟨hr, ?_, ?_, ?_⟩
  · unfold rKy; rw [if_pos hr, hko]
  · unfold rVl
    rw [if_pos hr, n2, n3, ← List.drop_drop, hd, List.append_assoc, List.drop_left' (by rw [List.length_drop]), List.take_left]
  · unfold rPl
    rw [hko, n1, n2, n3, if_neg (by rw [e0]; simp), if_neg (by rw [hf]; simp), if_neg hlt, if_neg (by rw [hkf]; simp), hpl]
    unfold encP
    simp only [List.length_append, List.length_drop]
    omega
/-- What is written of another is not. -/
theorem trip_bad (zs prev key val rest : List Int) (p : Nat) (z8 : B8 zs) (hp : p ≤ zs.length) (h : zs.drop p = encP prev key val ++ rest) (hk : key.length ≤ 18446744073709551615) (hv : val.length ≤ 18446744073709551615) (hbad : ¬ (1 ≤ key.length ∧ key.length ≤ 64 ∧ val.length ≤ 256 ∧ (prev.length = 0 ∨ cmpI prev key < 0))) :
    rEr prev zs p ≠ 0 := by
  obtain ⟨e0, n1, n2, n3, hd, hpl⟩ := head_enc zs prev key val rest p hk hv h
  have hle := comN_le prev key
  have hple := hP_le zs p z8 hp
  have hl := len_drop hple hd
  simp only [List.length_append, List.length_drop] at hl
  have hko : keyOf prev zs p = key := by
    unfold keyOf
    rw [n1, n2, hd, List.append_assoc, List.take_left' (by rw [List.length_drop])]
    exact drop_com prev key
  have hlt : ¬ zs.length < hP zs p + (key.length - comN prev key) + val.length := by omega
  unfold rEr
  rw [hko, n1, n2, n3, if_neg (by rw [e0]; simp)]
  by_cases hf : fltE (comN prev key) (key.length - comN prev key) val.length prev.length = 0
  · rw [if_neg (by rw [hf]; simp), if_neg hlt]
    have := fltE_ok hf
    unfold kfE
    rw [if_neg (by omega), if_pos ⟨by omega, by omega⟩]
    decide
  · rw [if_pos hf]; exact hf
/-- What is read may be, and has just the bytes that are written of it. -/
theorem trip_back (zs prev : List Int) (p : Nat) (z8 : B8 zs) (hp : p ≤ zs.length) (h : rEr prev zs p = 0) :
    1 ≤ (rKy prev zs p).length ∧ (rKy prev zs p).length ≤ 64 ∧ (rVl prev zs p).length ≤ 256 ∧ rPl prev zs p ≤ zs.length ∧ p ≤ rPl prev zs p ∧ encP prev (rKy prev zs p) (rVl prev zs p) = (zs.drop p).take (rPl prev zs p - p) := by
  have hpl := hP_le zs p z8 hp
  have hK : rKy prev zs p = keyOf prev zs p := by unfold rKy; rw [if_pos h]
  have hV : rVl prev zs p = (zs.drop (hP zs p + nm zs (nx zs p))).take (nm zs (nx zs (nx zs p))) := by unfold rVl; rw [if_pos h]
  rw [hK, hV]
  unfold rEr at h
  by_cases e0 : hE zs p = 0
  · rw [if_neg (by rw [e0]; simp)] at h
    by_cases hf : fltE (nm zs p) (nm zs (nx zs p)) (nm zs (nx zs (nx zs p))) prev.length = 0
    · rw [if_neg (by rw [hf]; simp)] at h
      by_cases hs : zs.length < hP zs p + nm zs (nx zs p) + nm zs (nx zs (nx zs p))
      · rw [if_pos hs] at h; exact absurd h (by decide)
      · rw [if_neg hs] at h
        have hPl : rPl prev zs p = hP zs p + nm zs (nx zs p) + nm zs (nx zs (nx zs p)) := by unfold rPl; rw [if_neg (by rw [e0]; simp), if_neg (by rw [hf]; simp), if_neg hs, if_neg (by rw [h]; simp)]
        obtain ⟨f1, f2, f3, f4, f5⟩ := fltE_ok hf
        obtain ⟨g1, g2, g3, g4⟩ := hE_ok e0
        have k1 := enc_nm zs p z8 g1
        have k2 := enc_nm zs _ z8 g2
        have k3 := enc_nm zs _ z8 g3
        rw [← g4] at k3
        have hq1 := (rd_at zs p z8 hp).2.2.2
        have hq2 := (rd_at zs _ z8 hq1.1).2.2.2
        have hq3 := (rd_at zs _ z8 hq2.1).2.2.2
        rw [← g4] at hq3
        have hl1 : (prev.take (nm zs p)).length = nm zs p := by rw [List.length_take]; omega
        have hl2 : ((zs.drop (hP zs p)).take (nm zs (nx zs p))).length = nm zs (nx zs p) := by rw [List.length_take, List.length_drop]; omega
        have hkl : (keyOf prev zs p).length = nm zs p + nm zs (nx zs p) := by unfold keyOf; rw [List.length_append, hl1, hl2]
        have hvl : ((zs.drop (hP zs p + nm zs (nx zs p))).take (nm zs (nx zs (nx zs p)))).length = nm zs (nx zs (nx zs p)) := by rw [List.length_take, List.length_drop]; omega
        have hc : comN prev (keyOf prev zs p) = nm zs p := by
          have hge := comN_pre prev ((zs.drop (hP zs p)).take (nm zs (nx zs p))) (nm zs p) f1
          have : ¬ nm zs p < comN prev (keyOf prev zs p) := fun hlt => by unfold kfE at h; rw [if_pos hlt] at h; exact absurd h (by decide)
          have hge2 : nm zs p ≤ comN prev (keyOf prev zs p) := hge
          omega
        refine ⟨by omega, by omega, by omega, by omega, by omega, ?_⟩
        unfold encP
        rw [hc, hkl, hvl, show nm zs p + nm zs (nx zs p) - nm zs p = nm zs (nx zs p) by omega]
        have hkd : (keyOf prev zs p).drop (nm zs p) = (zs.drop (hP zs p)).take (nm zs (nx zs p)) := by unfold keyOf; rw [List.drop_left' hl1]
        rw [hkd, hPl]
        have hfull : zs.drop p = enc (nm zs p) ++ enc (nm zs (nx zs p)) ++ enc (nm zs (nx zs (nx zs p))) ++ (zs.drop (hP zs p)).take (nm zs (nx zs p)) ++ (zs.drop (hP zs p + nm zs (nx zs p))).take (nm zs (nx zs (nx zs p))) ++ zs.drop (hP zs p + nm zs (nx zs p) + nm zs (nx zs (nx zs p))) := by
          conv => lhs; rw [k1, k2, k3]
          have z1 : zs.drop (hP zs p) = (zs.drop (hP zs p)).take (nm zs (nx zs p)) ++ zs.drop (hP zs p + nm zs (nx zs p)) := by rw [← List.drop_drop, List.take_append_drop]
          have z2 : zs.drop (hP zs p + nm zs (nx zs p)) = (zs.drop (hP zs p + nm zs (nx zs p))).take (nm zs (nx zs (nx zs p))) ++ zs.drop (hP zs p + nm zs (nx zs p) + nm zs (nx zs (nx zs p))) := by
            have q := List.take_append_drop (nm zs (nx zs (nx zs p))) (zs.drop (hP zs p + nm zs (nx zs p)))
            rw [List.drop_drop] at q
            exact q.symm
          conv => lhs; rw [z1, z2]
          simp only [List.append_assoc]
        have hlen := congrArg List.length hfull
        rw [List.length_append, List.length_drop, List.length_drop] at hlen
        conv => rhs; rw [hfull]
        rw [List.take_left' (by omega)]
    · rw [if_pos hf] at h; exact absurd h hf
  · rw [if_pos e0] at h; exact absurd h e0

end Go.Proofs.Ytjnldmbjeiejdaa
