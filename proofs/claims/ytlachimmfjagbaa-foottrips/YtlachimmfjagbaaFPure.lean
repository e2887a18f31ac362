/- foot: rows that may be, as such. -/
import Derived.Test.YtlachimmfjagbaaFFault
namespace Go.Proofs.Ytlachimmfjagbaa
open Go.RowKit

def kAt (l : List FRow) (i : Nat) : List Int := if i = 0 then [] else (l.getD (i - 1) default).k
def pAt (l : List FRow) (i : Nat) : Int := if i = 0 then 8 else (l.getD (i - 1) default).p + (l.getD (i - 1) default).l
def fAt (l : List FRow) (i : Nat) : Int := flt (kAt l i) (pAt l i) (l.getD i default)
/-- The first i rows may be. -/
def Gd (l : List FRow) (i : Nat) : Prop := ∀ j, j < i → fAt l j = 0
def IsChk (l : List FRow) (n : Nat) (e : Int) : Prop :=
  (8388608 < l.length ∧ n = 0 ∧ e = 71) ∨ (l.length ≤ 8388608 ∧ ((n < l.length ∧ Gd l n ∧ fAt l n = e ∧ e ≠ 0) ∨ (Gd l l.length ∧ n = 0 ∧ e = 0)))
theorem IsChk.uniq {l : List FRow} {n m : Nat} {e f : Int} (h : IsChk l n e) (k : IsChk l m f) : n = m ∧ e = f := by
  rcases h with ⟨h1, h2, h3⟩ | ⟨h1, ⟨h2, h3, h4, h5⟩ | ⟨h2, h3, h4⟩⟩ <;> rcases k with ⟨k1, k2, k3⟩ | ⟨k1, ⟨k2, k3, k4, k5⟩ | ⟨k2, k3, k4⟩⟩
  · omega
  · omega
  · omega
  · omega
  · by_cases q : n < m
    · exact absurd (k3 n q) (by rw [h4]; exact h5)
    · by_cases q' : m < n
      · exact absurd (h3 m q') (by rw [k4]; exact k5)
      · obtain rfl : n = m := by omega
        exact ⟨rfl, by rw [← h4, ← k4]⟩
  · exact absurd (k2 n h2) (by rw [h4]; exact h5)
  · omega
  · exact absurd (h2 m k2) (by rw [k4]; exact k5)
  · omega
theorem IsChk.ok {l : List FRow} {n : Nat} {e : Int} (h : IsChk l n e) (he : e = 0) : l.length ≤ 8388608 ∧ Gd l l.length ∧ n = 0 := by
  rcases h with ⟨h1, h2, h3⟩ | ⟨h1, ⟨h2, h3, h4, h5⟩ | ⟨h2, h3, h4⟩⟩
  · omega
  · exact absurd he h5
  · exact ⟨h1, h2, h3⟩
theorem flt_zero {pk : List Int} {pos : Int} {r : FRow} (h : flt pk pos r = 0) : (1 ≤ r.k.length ∧ r.k.length ≤ 64) ∧ cmpI pk r.k < 0 ∧ r.p = pos ∧ (1 ≤ r.l ∧ r.l ≤ 131072) ∧ (1 ≤ r.n ∧ r.n ≤ 64) := by
  unfold flt at h
  split at h
  · omega
  · rename_i h1
    split at h
    · omega
    · split at h
      · omega
      · split at h
        · omega
        · rename_i h2 h3 h4
          have e1 : keyE r.k.length = 0 := Decidable.not_not.1 fun q => h1 (.inl q)
          have e2 : cmpI pk r.k < 0 := Decidable.not_not.1 fun q => h1 (.inr q)
          refine ⟨?_, e2, Decidable.not_not.1 h2, Decidable.not_not.1 h3, Decidable.not_not.1 h4⟩
          rcases keyE_cases r.k.length with q | q <;> omega
theorem Gd.mono {l : List FRow} {i j : Nat} (h : Gd l i) (hj : j ≤ i) : Gd l j := fun k hk => h k (by omega)
theorem Gd.succ {l : List FRow} {i : Nat} (h : Gd l i) (hi : fAt l i = 0) : Gd l (i + 1) := fun j hj => by
  by_cases q : j < i
  · exact h j q
  · obtain rfl : j = i := by omega
    exact hi
theorem Gd.row {l : List FRow} {i : Nat} (h : Gd l i) (j : Nat) (hj : j < i) : (1 ≤ (l.getD j default).k.length ∧ (l.getD j default).k.length ≤ 64) ∧ cmpI (kAt l j) (l.getD j default).k < 0 ∧ (l.getD j default).p = pAt l j ∧ (1 ≤ (l.getD j default).l ∧ (l.getD j default).l ≤ 131072) ∧ (1 ≤ (l.getD j default).n ∧ (l.getD j default).n ≤ 64) := flt_zero (h j hj)
theorem Gd.pos {l : List FRow} : ∀ {i : Nat}, Gd l i → 8 ≤ pAt l i ∧ pAt l i ≤ 8 + 131072 * (i : Int)
  | 0, _ => by unfold pAt; simp
  | i + 1, h => by
    have q := Gd.pos (h.mono (Nat.le_succ i))
    have r := h.row i (Nat.lt_succ_self i)
    have e : pAt l (i + 1) = (l.getD i default).p + (l.getD i default).l := by unfold pAt; rw [if_neg (by omega), Nat.add_sub_cancel]
    rw [e, r.2.2.1]
    omega
theorem kAt_succ (l : List FRow) (i : Nat) : kAt l (i + 1) = (l.getD i default).k := by unfold kAt; rw [if_neg (by omega), Nat.add_sub_cancel]
theorem pAt_succ (l : List FRow) (i : Nat) : pAt l (i + 1) = (l.getD i default).p + (l.getD i default).l := by unfold pAt; rw [if_neg (by omega), Nat.add_sub_cancel]

def rws (L : List Spn) : List FRow := L.map Spn.row
theorem rws_len (L : List Spn) : (rws L).length = L.length := by simp [rws]
theorem rws_at (L : List Spn) (i : Nat) (h : i < L.length) : (rws L).getD i default = L[i].row := by
  simp [rws, List.getD, List.getElem?_map, List.getElem?_eq_getElem h]

end Go.Proofs.Ytlachimmfjagbaa
