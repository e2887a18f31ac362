/- foot: there and back, as such. -/
import Derived.Test.YtlachimmfjagbaaFRdP
namespace Go.Proofs.Ytlachimmfjagbaa
open Go.RowKit

theorem nm_encF (zs : List Int) (p n : Nat) (rest : List Int) (hn : n ≤ 18446744073709551615) (h : zs.drop p = enc n ++ rest) : nm zs p = n ∧ nx zs p = p + (enc n).length ∧ er zs p = 0 ∧ zs.drop (nx zs p) = rest := by
  have e := scan_enc0 n hn rest
  rw [← h] at e
  refine ⟨by unfold nm; rw [e]; simp, by unfold nx; rw [e], by unfold er; rw [e], ?_⟩
  unfold nx
  rw [e, ← List.drop_drop, h]
  simp
theorem enc_nmF (zs : List Int) (p : Nat) (h8 : B8 zs) (he : er zs p = 0) : zs.drop p = enc (nm zs p) ++ zs.drop (nx zs p) := by
  have h := scan_back0 (zs.drop p) (h8.dropB p) he
  unfold nm nx
  rw [h, ← List.drop_drop, List.take_append_drop]
theorem len_dropF {zs : List Int} {p : Nat} {r : List Int} (hp : p ≤ zs.length) (h : zs.drop p = r) : zs.length = p + r.length := by
  have := congrArg List.length h
  rw [List.length_drop] at this
  omega

set_option maxHeartbeats 3200000 in
theorem rowR_enc {pk : List Int} {pos : Nat} {zs : List Int} {p : Nat} {r : FRow} {rest : List Int} (hpos : pos ≤ 2199023255552) (hp : p ≤ zs.length) (hf : flt pk (pos : Int) r = 0) (h : zs.drop p = fbody r ++ rest) :
    rowR pk pos zs p = (0, p + (fbody r).length) ∧ rowV zs p = r ∧ zs.drop (p + (fbody r).length) = rest := by
  obtain ⟨f1, f2, f3, f4, f5⟩ := flt_zero hf
  have h0 : zs.drop p = enc r.k.length ++ (r.k ++ (enc r.p.toNat ++ (enc r.l.toNat ++ (enc r.n.toNat ++ rest)))) := by
    rw [h]
    unfold fbody
    show (enc r.k.length ++ r.k ++ ((([] ++ enc (rnum r 0)) ++ enc (rnum r 1)) ++ enc (rnum r 2))) ++ rest = _
    simp only [List.nil_append, List.append_assoc]
    rfl
  obtain ⟨a1, a2, a3, a4⟩ := nm_encF zs p r.k.length _ (by omega) h0
  have hky : ky zs p = r.k := by
    unfold ky
    rw [a1, a4, List.take_append_of_le_length (Nat.le_refl _), List.take_length]
  have hl1 := len_dropF hp h0
  have hnx : nx zs p ≤ zs.length := by rw [a2, hl1, List.length_append]; omega
  have hl2 := len_dropF hnx a4
  have hk : nx zs p + nm zs p ≤ zs.length := by rw [hl2, a1, List.length_append]; omega
  have d1 : zs.drop (nx zs p + nm zs p) = enc r.p.toNat ++ (enc r.l.toNat ++ (enc r.n.toNat ++ rest)) := by
    rw [← List.drop_drop, a4, a1, List.drop_left]
  obtain ⟨b1, b2, b3, b4⟩ := nm_encF zs (nx zs p + nm zs p) r.p.toNat _ (by rw [f3]; simp; omega) d1
  obtain ⟨c1, c2, c3, c4⟩ := nm_encF zs _ r.l.toNat _ (by omega) b4
  obtain ⟨e1, e2, e3, e4⟩ := nm_encF zs _ r.n.toNat _ (by omega) c4
  have hkR : kyR pk zs p = (0, nx zs p + nm zs p) := by
    unfold kyR
    rw [if_neg (fun q => q a3), if_neg (by omega), if_neg (by omega), hky, if_neg (fun q => q f2)]
  have hrow : rowR pk pos zs p = (0, nx zs (nx zs (nx zs (nx zs p + nm zs p)))) := by
    unfold rowR
    rw [hkR, if_neg (by simp)]
    show nuR pos zs (nx zs p + nm zs p) (2 + 1) 0 = _
    unfold nuR
    rw [show kK zs (nx zs p + nm zs p) 0 = nx zs p + nm zs p from rfl, if_neg (fun q => q b3), if_neg (fun q => q (show nm zs (nx zs p + nm zs p) = pos by rw [b1, f3]; simp))]
    unfold nuR
    rw [show kK zs (nx zs p + nm zs p) (0 + 1) = nx zs (nx zs p + nm zs p) from rfl, if_neg (fun q => q c3), if_neg (fun q => q (show 1 ≤ nm zs (nx zs (nx zs p + nm zs p)) ∧ nm zs (nx zs (nx zs p + nm zs p)) ≤ 131072 by rw [c1]; omega))]
    unfold nuR
    rw [show kK zs (nx zs p + nm zs p) (0 + 1 + 1) = nx zs (nx zs (nx zs p + nm zs p)) from rfl, if_neg (fun q => q e3), if_neg (fun q => q (show 1 ≤ nm zs (nx zs (nx zs (nx zs p + nm zs p))) ∧ nm zs (nx zs (nx zs (nx zs p + nm zs p))) ≤ 64 by rw [e1]; omega))]
    rfl
  have hend : nx zs (nx zs (nx zs (nx zs p + nm zs p))) = p + (fbody r).length := by
    have hb : (fbody r).length = (enc r.k.length).length + r.k.length + ((enc r.p.toNat).length + (enc r.l.toNat).length + (enc r.n.toNat).length) := by
      unfold fbody
      show (enc r.k.length ++ r.k ++ ((([] ++ enc (rnum r 0)) ++ enc (rnum r 1)) ++ enc (rnum r 2))).length = _
      simp only [List.nil_append, List.length_append]
      rfl
    rw [e2, c2, b2, a1, a2, hb]
    omega
  refine ⟨by rw [hrow, hend], ?_, by rw [← hend]; exact e4⟩
  have hv : rowV zs p = ⟨ky zs p, (nm zs (nx zs p + nm zs p) : Nat), (nm zs (nx zs (nx zs p + nm zs p)) : Nat), (nm zs (nx zs (nx zs (nx zs p + nm zs p))) : Nat)⟩ := rfl
  rw [hv, hky, b1, c1, e1]
  obtain ⟨rk, rp, rl, rn⟩ := r
  simp only at f3 f4 f5 ⊢
  congr 1 <;> omega

theorem rowR_dec {pk : List Int} {pos : Nat} {zs : List Int} {p : Nat} (z8 : B8 zs) (h : (rowR pk pos zs p).1 = 0) : zs.drop p = fbody (rowV zs p) ++ zs.drop (rowR pk pos zs p).2 := by
  obtain ⟨h1, h2, h3⟩ := rowR_ok h
  obtain ⟨k0, k1, k2, k3, k4, _⟩ := kyR_ok h1
  have e0 := enc_nmF zs p z8 k0
  have hk : zs.drop (nx zs p) = ky zs p ++ zs.drop (nx zs p + nm zs p) := by
    unfold ky
    rw [← List.drop_drop, List.take_append_drop]
  have n0 := enc_nmF zs _ z8 (h3 0 (by omega)).1
  have n1 := enc_nmF zs _ z8 (h3 1 (by omega)).1
  have n2 := enc_nmF zs _ z8 (h3 2 (by omega)).1
  have x0 : zs.drop (nx zs p + nm zs p) = enc (nm zs (kK zs (nx zs p + nm zs p) 0)) ++ zs.drop (kK zs (nx zs p + nm zs p) 1) := n0
  have x1 : zs.drop (kK zs (nx zs p + nm zs p) 1) = enc (nm zs (kK zs (nx zs p + nm zs p) 1)) ++ zs.drop (kK zs (nx zs p + nm zs p) 2) := n1
  have x2 : zs.drop (kK zs (nx zs p + nm zs p) 2) = enc (nm zs (kK zs (nx zs p + nm zs p) 2)) ++ zs.drop (kK zs (nx zs p + nm zs p) 3) := n2
  have hb : fbody (rowV zs p) = enc (nm zs p) ++ ky zs p ++ ((([] ++ enc (nm zs (kK zs (nx zs p + nm zs p) 0))) ++ enc (nm zs (kK zs (nx zs p + nm zs p) 1))) ++ enc (nm zs (kK zs (nx zs p + nm zs p) 2))) := by
    unfold fbody
    show enc (ky zs p).length ++ ky zs p ++ fmid (rowV zs p) 3 = _
    rw [ky_len k3]
    rfl
  rw [h2, hb, e0, hk, x0, x1, x2]
  simp only [List.nil_append, List.append_assoc]

theorem getD_pre (l x : List FRow) (j : Nat) (h : j < l.length) : (l ++ x).getD j default = l.getD j default := by
  simp [List.getD, List.getElem?_append_left h]
theorem kAt_pre (l x : List FRow) : kAt (l ++ x) l.length = kAt l l.length := by
  unfold kAt
  by_cases e : l.length = 0
  · rw [if_pos e, if_pos e]
  · rw [if_neg e, if_neg e, getD_pre _ _ _ (by omega)]
theorem pAt_pre (l x : List FRow) : pAt (l ++ x) l.length = pAt l l.length := by
  unfold pAt
  by_cases e : l.length = 0
  · rw [if_pos e, if_pos e]
  · rw [if_neg e, if_neg e, getD_pre _ _ _ (by omega)]

theorem rdG_enc {zs more : List Int} : ∀ (rs l : List FRow) (p : Nat), p ≤ zs.length → Gd (l ++ rs) (l ++ rs).length → (l ++ rs).length ≤ 8388608 → zs.drop p = rs.flatMap fbody ++ (enc (totN (l ++ rs) (l ++ rs).length) ++ more) → rdG zs rs.length p l = if more = [] then (l ++ rs, 0, 0) else ([], 78, zs.length - more.length)
  | [], l, p, hp, hg, hn, h => by
    rw [List.append_nil] at hg hn h ⊢
    rw [List.flatMap_nil, List.nil_append] at h
    have ht := totN_le hg
    obtain ⟨a1, a2, a3, a4⟩ := nm_encF zs p _ _ (by omega) h
    have hl := len_dropF hp h
    have hnx : nx zs p ≤ zs.length := by rw [a2, hl, List.length_append]; omega
    have hl2 := len_dropF hnx a4
    have hE : enR zs p (totN l l.length) = if nx zs p < zs.length then (78, nx zs p) else (0, 0) := by
      unfold enR
      rw [if_neg (fun q => q a3), if_neg (fun q => q a1)]
    show rdG zs 0 p l = _
    unfold rdG
    rw [hE]
    by_cases hm : more = []
    · subst hm
      have : zs.length = nx zs p := by simpa using hl2
      rw [if_neg (show ¬ nx zs p < zs.length by omega)]
      simp
    · have : 0 < more.length := List.length_pos_iff.2 hm
      rw [if_pos (show nx zs p < zs.length by omega), if_neg hm, if_pos (by simp), show nx zs p = zs.length - more.length by omega]
  | r :: rs, l, p, hp, hg, hn, h => by
    have hlen : (l ++ r :: rs).length = l.length + (rs.length + 1) := by simp
    have hf := hg l.length (by omega)
    unfold fAt at hf
    rw [kAt_pre, pAt_pre, show (l ++ r :: rs).getD l.length default = r by simp [List.getD]] at hf
    have hgl : Gd (l ++ r :: rs) l.length := hg.mono (by omega)
    have hps := hgl.pos
    rw [pAt_pre] at hps
    rw [List.flatMap_cons, List.append_assoc] at h
    have hpn : ((pAt l l.length).toNat : Int) = pAt l l.length := Int.toNat_of_nonneg (by omega)
    rw [← hpn] at hf
    obtain ⟨q1, q2, q3⟩ := rowR_enc (by omega) hp hf h
    have hl := len_dropF hp h
    have e : l ++ r :: rs = (l ++ [r]) ++ rs := by simp
    show rdG zs (rs.length + 1) p l = _
    unfold rdG
    rw [q1, if_neg (by simp), q2]
    rw [e] at hg hn q3 ⊢
    exact rdG_enc rs (l ++ [r]) (p + (fbody r).length) (by rw [hl, List.length_append]; omega) hg hn q3

theorem fpre_flat (l : List FRow) : ∀ i, i ≤ l.length → fpre l i = enc l.length ++ (l.take i).flatMap fbody
  | 0, _ => by simp [fpre]
  | i + 1, h => by
    rw [fpre, fpre_flat l i (by omega), List.take_succ_eq_append_getElem (by omega), List.flatMap_append, List.append_assoc]
    simp [List.getD, List.getElem?_eq_getElem (show i < l.length by omega)]
theorem footB_flat (l : List FRow) : footB l = enc l.length ++ (l.flatMap fbody ++ enc (totN l l.length)) := by
  unfold footB
  rw [fpre_flat l l.length (Nat.le_refl _), List.take_length, List.append_assoc]

/-- A foot, with something behind it or not. -/
theorem rdF_enc {l : List FRow} (hn : l.length ≤ 8388608) (hg : Gd l l.length) (more : List Int) : rdF (footB l ++ more) = if more = [] then (l, 0, 0) else ([], 78, (footB l).length) := by
  have h : (footB l ++ more).drop 0 = enc l.length ++ (l.flatMap fbody ++ (enc (totN l l.length) ++ more)) := by
    rw [List.drop_zero, footB_flat]
    simp only [List.append_assoc]
  obtain ⟨a1, a2, a3, a4⟩ := nm_encF _ 0 _ _ (by omega) h
  have hl := len_dropF (Nat.zero_le _) h
  have hp : nx (footB l ++ more) 0 ≤ (footB l ++ more).length := by rw [a2, hl, List.length_append]; omega
  unfold rdF
  rw [if_neg (fun q => q a3), a1, if_neg (by omega)]
  have := rdG_enc l [] _ hp (by simpa using hg) (by simpa using hn) (by simpa using a4)
  rw [this, List.nil_append, List.length_append, Nat.add_sub_cancel]

theorem rdG_dec {zs : List Int} (z8 : B8 zs) : ∀ (f p : Nat) (l : List FRow), p ≤ zs.length → (rdG zs f p l).2.1 = 0 → ∃ rs, (rdG zs f p l).1 = l ++ rs ∧ rs.length = f ∧ zs.drop p = rs.flatMap fbody ++ enc (totN (l ++ rs) (l ++ rs).length)
  | 0, p, l, hp, h => by
    unfold rdG at h ⊢
    split at h
    · rename_i q; exact absurd h q
    · rename_i q
      rw [if_neg q]
      refine ⟨[], by simp, rfl, ?_⟩
      have q' := Decidable.not_not.1 q
      unfold enR at q'
      split at q'
      · rename_i q2; exact absurd q' q2
      · rename_i q2
        split at q'
        · simp at q'
        · rename_i q3
          split at q'
          · simp at q'
          · rename_i q4
            have e := enc_nmF zs p z8 (Decidable.not_not.1 q2)
            rw [Decidable.not_not.1 q3, List.drop_eq_nil_of_le (show zs.length ≤ nx zs p by omega), List.append_nil] at e
            rw [List.append_nil, List.flatMap_nil, List.nil_append]
            exact e
  | f + 1, p, l, hp, h => by
    unfold rdG at h ⊢
    split at h
    · rename_i q; exact absurd h q
    · rename_i q
      rw [if_neg q]
      have q' := Decidable.not_not.1 q
      have hd := rowR_dec z8 q'
      have hle : (rowR (kAt l l.length) (pAt l l.length).toNat zs p).2 ≤ zs.length := by
        rw [(rowR_ok q').2.1]
        exact kK_le z8 (kyR_ok (rowR_ok q').1).2.2.2.1 3
      obtain ⟨rs, r1, r2, r3⟩ := rdG_dec z8 f _ _ hle h
      refine ⟨rowV zs p :: rs, by rw [r1]; simp, by simp [r2], ?_⟩
      rw [hd, r3, List.flatMap_cons, List.append_assoc]
      simp
/-- What was read has just these bytes. -/
theorem rdF_dec {zs : List Int} (z8 : B8 zs) (h : (rdF zs).2.1 = 0) : footB (rdF zs).1 = zs := by
  unfold rdF at h ⊢
  split at h
  · rename_i q; exact absurd h q
  · rename_i q
    split at h
    · simp at h
    · rename_i q2
      rw [if_neg q, if_neg q2]
      have hle := (rd_at zs 0 z8 (Nat.zero_le _)).2.2.2.1
      obtain ⟨rs, r1, r2, r3⟩ := rdG_dec z8 _ _ _ hle h
      rw [r1, List.nil_append, footB_flat]
      rw [List.nil_append] at r3
      have e := enc_nmF zs 0 z8 (Decidable.not_not.1 q)
      rw [List.drop_zero, r3] at e
      rw [← r2] at e
      exact e.symm

end Go.Proofs.Ytlachimmfjagbaa
