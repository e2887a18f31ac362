/- node: below, Beyond, Find, Child. -/
import Derived.Test.YtfpogjgbmibmcaaNEq
namespace Go.Proofs.Ytfpogjgbmibmcaa
open Go.RowKit

/-- How many of the keys are below a key; is it one of them; how many are not above. -/
def cntB (ks : List (List Int)) (key : List Int) : Nat := ks.countP fun k => decide (cmpI k key < 0)
def isIn (ks : List (List Int)) (key : List Int) : Bool := ks.any fun k => decide (k = key)
def cntL (ks : List (List Int)) (key : List Int) : Nat := ks.countP fun k => decide (0 ≤ cmpI key k)
theorem take_next {α : Type} {l : List α} {i : Nat} (h : i < l.length) : l.take (i + 1) = l.take i ++ [l[i]] := by
  rw [List.take_add_one, List.getElem?_eq_getElem h]; rfl
theorem cntB_next {ks : List (List Int)} {key : List Int} {i : Nat} (h : i < ks.length) : cntB (ks.take (i + 1)) key = cntB (ks.take i) key + if cmpI ks[i] key < 0 then 1 else 0 := by
  unfold cntB
  rw [take_next h, List.countP_append]
  simp [List.countP_cons]
theorem cntL_next {ks : List (List Int)} {key : List Int} {i : Nat} (h : i < ks.length) : cntL (ks.take (i + 1)) key = cntL (ks.take i) key + if 0 ≤ cmpI key ks[i] then 1 else 0 := by
  unfold cntL
  rw [take_next h, List.countP_append]
  simp [List.countP_cons]
theorem isIn_next {ks : List (List Int)} {key : List Int} {i : Nat} (h : i < ks.length) : isIn (ks.take (i + 1)) key = (isIn (ks.take i) key || decide (ks[i] = key)) := by
  unfold isIn
  rw [take_next h, List.any_append]
  simp
theorem cntB_le (ks : List (List Int)) (key : List Int) : cntB ks key ≤ ks.length := List.countP_le_length
theorem cntL_le (ks : List (List Int)) (key : List Int) : cntL ks key ≤ ks.length := List.countP_le_length
theorem TL.p_at (t : TL) (i : Nat) (h : i < t.L.length) : t.p[i]'(by rw [t.p_len]; exact h) = t.L[i].s := by simp [TL.p]

/-- Does a key lie to the right? -/
def beyB (hi key : List Int) : Bool := decide (0 < hi.length) && decide (0 ≤ cmpI key hi)
/-- Which child leads to a key. -/
def chiN (ks : List (List Int)) (cs : List Int) (key : List Int) : Int := if cs.length = 0 then 0 else cs.getD (min (cntL ks key) (cs.length - 1)) 0
end Go.Proofs.Ytfpogjgbmibmcaa
