/- foot: what Read answers, as such. -/
import Derived.Test.YtlachimmfjagbaaFFoot
import Derived.Test.YtlachimmfjagbaaKScan
namespace Go.Proofs.Ytlachimmfjagbaa
open Go.RowKit

/-- The key's place, its bytes. -/
def ky (zs : List Int) (p : Nat) : List Int := (zs.drop (nx zs p)).take (nm zs p)
/-- What is wrong with the key of the row at p behind pk, and where; else the place behind it. -/
def kyR (pk zs : List Int) (p : Nat) : Int × Nat :=
  if er zs p ≠ 0 then (er zs p, nx zs p) else if nm zs p < 1 ∨ 64 < nm zs p then (72, p) else if zs.length < nx zs p + nm zs p then (77, zs.length) else if ¬ cmpI pk (ky zs p) < 0 then (72, p) else (0, nx zs p + nm zs p)
/-- May number k of a row be v? -/
def rlN (pos k v : Nat) : Prop := match k with
  | 0 => v = pos
  | 1 => 1 ≤ v ∧ v ≤ 131072
  | _ => 1 ≤ v ∧ v ≤ 64
instance (pos k v : Nat) : Decidable (rlN pos k v) := by unfold rlN; split <;> exact inferInstance
/-- Behind k numbers. -/
def kK (zs : List Int) (p : Nat) : Nat → Nat
  | 0 => p
  | k + 1 => nx zs (kK zs p k)
/-- The numbers from k on: f of them. -/
def nuR (pos : Nat) (zs : List Int) (p : Nat) : Nat → Nat → Int × Nat
  | 0, k => (0, kK zs p k)
  | f + 1, k => if er zs (kK zs p k) ≠ 0 then (er zs (kK zs p k), nx zs (kK zs p k)) else if ¬ rlN pos k (nm zs (kK zs p k)) then (73 + (k : Int), kK zs p k) else nuR pos zs p f (k + 1)
def rowR (pk : List Int) (pos : Nat) (zs : List Int) (p : Nat) : Int × Nat := if (kyR pk zs p).1 ≠ 0 then kyR pk zs p else nuR pos zs (kyR pk zs p).2 3 0
def rowV (zs : List Int) (p : Nat) : FRow := ⟨ky zs p, (nm zs (kK zs (nx zs p + nm zs p) 0) : Nat), (nm zs (kK zs (nx zs p + nm zs p) 1) : Nat), (nm zs (kK zs (nx zs p + nm zs p) 2) : Nat)⟩
/-- The end. -/
def enR (zs : List Int) (p tot : Nat) : Int × Nat := if er zs p ≠ 0 then (er zs p, nx zs p) else if nm zs p ≠ tot then (76, p) else if nx zs p < zs.length then (78, nx zs p) else (0, 0)
def rdG (zs : List Int) : Nat → Nat → List FRow → List FRow × Int × Nat
  | 0, p, l => if (enR zs p (totN l l.length)).1 ≠ 0 then ([], (enR zs p (totN l l.length)).1, (enR zs p (totN l l.length)).2) else (l, 0, 0)
  | f + 1, p, l => if (rowR (kAt l l.length) (pAt l l.length).toNat zs p).1 ≠ 0 then ([], (rowR (kAt l l.length) (pAt l l.length).toNat zs p).1, (rowR (kAt l l.length) (pAt l l.length).toNat zs p).2) else rdG zs f (rowR (kAt l l.length) (pAt l l.length).toNat zs p).2 (l ++ [rowV zs p])
def rdF (zs : List Int) : List FRow × Int × Nat := if er zs 0 ≠ 0 then ([], er zs 0, nx zs 0) else if 8388608 < nm zs 0 then ([], 71, 0) else rdG zs (nm zs 0) (nx zs 0) []

theorem kyR_ok {pk zs : List Int} {p : Nat} (h : (kyR pk zs p).1 = 0) : er zs p = 0 ∧ 1 ≤ nm zs p ∧ nm zs p ≤ 64 ∧ nx zs p + nm zs p ≤ zs.length ∧ cmpI pk (ky zs p) < 0 ∧ (kyR pk zs p).2 = nx zs p + nm zs p := by
  unfold kyR at h ⊢
  split at h
  · rename_i q; exact absurd h q
  · rename_i q
    split at h
    · simp at h
    · rename_i q2
      split at h
      · simp at h
      · rename_i q3
        split at h
        · simp at h
        · rename_i q4
          rw [if_neg q, if_neg q2, if_neg q3, if_neg q4]
          exact ⟨Decidable.not_not.1 q, by omega, by omega, by omega, Decidable.not_not.1 q4, rfl⟩
theorem ky_len {zs : List Int} {p : Nat} (h : nx zs p + nm zs p ≤ zs.length) : (ky zs p).length = nm zs p := by
  unfold ky
  rw [List.length_take, List.length_drop]
  omega
theorem kK_le {zs : List Int} {p : Nat} (h8 : B8 zs) (hp : p ≤ zs.length) : ∀ k, kK zs p k ≤ zs.length
  | 0 => hp
  | k + 1 => (rd_at zs (kK zs p k) h8 (kK_le h8 hp k)).2.2.2.1
theorem nuR_ok {pos : Nat} {zs : List Int} {p : Nat} : ∀ {f k : Nat}, (nuR pos zs p f k).1 = 0 → (nuR pos zs p f k).2 = kK zs p (k + f) ∧ ∀ j, k ≤ j → j < k + f → er zs (kK zs p j) = 0 ∧ rlN pos j (nm zs (kK zs p j))
  | 0, k, _ => ⟨rfl, fun j h1 h2 => by omega⟩
  | f + 1, k, h => by
    unfold nuR at h ⊢
    split at h
    · rename_i q; exact absurd h q
    · rename_i q
      split at h
      · have : (73 : Int) + (k : Int) = 0 := h
        omega
      · rename_i q2
        rw [if_neg q, if_neg q2]
        have i := nuR_ok h
        refine ⟨by rw [i.1]; congr 1; omega, fun j h1 h2 => ?_⟩
        by_cases e : j = k
        · subst e
          exact ⟨Decidable.not_not.1 q, Decidable.not_not.1 q2⟩
        · exact i.2 j (by omega) (by omega)
theorem rowR_ok {pk : List Int} {pos : Nat} {zs : List Int} {p : Nat} (h : (rowR pk pos zs p).1 = 0) : (kyR pk zs p).1 = 0 ∧ (rowR pk pos zs p).2 = kK zs (nx zs p + nm zs p) 3 ∧ ∀ j, j < 3 → er zs (kK zs (nx zs p + nm zs p) j) = 0 ∧ rlN pos j (nm zs (kK zs (nx zs p + nm zs p) j)) := by
  unfold rowR at h ⊢
  split at h
  · rename_i q; exact absurd h q
  · rename_i q
    rw [if_neg q]
    have q' := Decidable.not_not.1 q
    have e := (kyR_ok q').2.2.2.2.2
    rw [e] at h ⊢
    have i := nuR_ok h
    exact ⟨q', by rw [i.1], fun j hj => i.2 j (Nat.zero_le _) (by omega)⟩
/-- A row that was read may be. -/
theorem rowV_ok {pk : List Int} {pos : Nat} {zs : List Int} {p : Nat} (h : (rowR pk pos zs p).1 = 0) : flt pk (pos : Int) (rowV zs p) = 0 := by
  obtain ⟨h1, _, h3⟩ := rowR_ok h
  obtain ⟨_, k1, k2, k3, k4, _⟩ := kyR_ok h1
  refine flt_good ⟨?_, k4⟩ (fun j hj => ?_)
  · show keyE (ky zs p).length = 0
    rw [ky_len k3]
    rcases keyE_cases (nm zs p) with q | q <;> omega
  · match j, hj with
    | 0, _ =>
      have := (h3 0 (by omega)).2
      show ((nm zs (kK zs (nx zs p + nm zs p) 0) : Nat) : Int) = (pos : Int)
      exact congrArg _ this
    | 1, _ =>
      have : 1 ≤ nm zs (kK zs (nx zs p + nm zs p) 1) ∧ nm zs (kK zs (nx zs p + nm zs p) 1) ≤ 131072 := (h3 1 (by omega)).2
      show 1 ≤ ((nm zs (kK zs (nx zs p + nm zs p) 1) : Nat) : Int) ∧ ((nm zs (kK zs (nx zs p + nm zs p) 1) : Nat) : Int) ≤ 131072
      omega
    | 2, _ =>
      have : 1 ≤ nm zs (kK zs (nx zs p + nm zs p) 2) ∧ nm zs (kK zs (nx zs p + nm zs p) 2) ≤ 64 := (h3 2 (by omega)).2
      show 1 ≤ ((nm zs (kK zs (nx zs p + nm zs p) 2) : Nat) : Int) ∧ ((nm zs (kK zs (nx zs p + nm zs p) 2) : Nat) : Int) ≤ 64
      omega
theorem getD_app1 (l : List FRow) (r : FRow) (j : Nat) (h : j < l.length) : (l ++ [r]).getD j default = l.getD j default := by
  simp [List.getD, List.getElem?_append_left h]
theorem getD_app2 (l : List FRow) (r : FRow) : (l ++ [r]).getD l.length default = r := by simp [List.getD]
theorem kAt_app (l : List FRow) (r : FRow) (j : Nat) (h : j ≤ l.length) : kAt (l ++ [r]) j = kAt l j := by
  unfold kAt
  by_cases e : j = 0
  · rw [if_pos e, if_pos e]
  · rw [if_neg e, if_neg e, getD_app1 _ _ _ (by omega)]
theorem pAt_app (l : List FRow) (r : FRow) (j : Nat) (h : j ≤ l.length) : pAt (l ++ [r]) j = pAt l j := by
  unfold pAt
  by_cases e : j = 0
  · rw [if_pos e, if_pos e]
  · rw [if_neg e, if_neg e, getD_app1 _ _ _ (by omega)]
theorem Gd.app {l : List FRow} {r : FRow} (h : Gd l l.length) (hr : flt (kAt l l.length) (pAt l l.length) r = 0) : Gd (l ++ [r]) (l ++ [r]).length := by
  intro j hj
  rw [List.length_append, List.length_singleton] at hj
  unfold fAt
  rw [kAt_app l r j (by omega), pAt_app l r j (by omega)]
  by_cases e : j < l.length
  · rw [getD_app1 _ _ _ e]; exact h j e
  · obtain rfl : j = l.length := by omega
    rw [getD_app2]
    exact hr
theorem kAt_new (l : List FRow) (r : FRow) : kAt (l ++ [r]) (l.length + 1) = r.k := by rw [kAt_succ, getD_app2]
theorem pAt_new (l : List FRow) (r : FRow) : pAt (l ++ [r]) (l.length + 1) = r.p + r.l := by rw [pAt_succ, getD_app2]

end Go.Proofs.Ytlachimmfjagbaa
