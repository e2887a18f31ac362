/- Halves of a right node, as lists. -/
import Derived.Test.YtclgimklfejohaaNSplit0
import Derived.Test.YtclgimklfejohaaNRef
import Derived.Test.YtclgimklfejohaaNFind
namespace Go.Proofs.Ytclgimklfejohaa
open Go.RowKit

theorem Rs.lt {l : List (List Int)} (h : Rs l) : ∀ d i, i + d + 1 < l.length → cmpI (l.getD i []) (l.getD (i + d + 1) []) < 0
  | 0, i, hi => h i (by omega)
  | d + 1, i, hi => by
    have h1 := Rs.lt h d i (by omega)
    have h2 := h (i + d + 1) (by omega)
    exact (cmpI_trans _ _ _ (Int.le_of_lt h1) (Int.le_of_lt h2)).2 h1
theorem Rs.at_lt {l : List (List Int)} (h : Rs l) {i j : Nat} (hij : i < j) (hj : j < l.length) : cmpI (l.getD i []) (l.getD j []) < 0 := by
  obtain ⟨d, rfl⟩ : ∃ d, j = i + d + 1 := ⟨j - i - 1, by omega⟩
  exact h.lt d i hj
theorem NP.bet_at (p : NP) : p.bet = p.ks.getD p.cutK [] := by
  unfold NP.bet
  generalize p.cutK = c
  rw [List.headD_eq_head?_getD, List.head?_drop, List.getD_eq_getElem?_getD]
theorem wd_few {p : NP} (h : RtP p) : p.wd = if 0 < p.lv then p.cs.length else p.ks.length := by
  unfold NP.wd
  rcases h.2 with h1 | h1
  · rw [if_pos h1.1, if_neg (by omega)]
  · rw [if_neg (by omega), if_pos h1.1]
theorem cutK_lt {p : NP} (h : RtP p) (hw : 2 ≤ p.wd) : p.cutK < p.ks.length := by
  have e := wd_few h
  unfold NP.cutK NP.half
  rcases h.2 with h1 | h1
  · rw [if_pos h1.1]; rw [if_neg (by omega)] at e; omega
  · rw [if_neg (by omega)]; rw [if_pos h1.1] at e; omega
theorem keys_l {p : NP} (h : RtP p) (hw : 2 ≤ p.wd) (i : Nat) (hi : i < (p.ks.take p.cutK).length) : cmpI ((p.ks.take p.cutK)[i]) p.bet < 0 := by
  have hc := cutK_lt h hw
  rw [List.length_take] at hi
  rw [NP.bet_at, List.getElem_take]
  have := h.1.at_lt (i := i) (j := p.cutK) (by omega) hc
  rwa [List.getD_eq_getElem?_getD, List.getElem?_eq_getElem (by omega), Option.getD_some] at this
theorem keys_r {p : NP} (h : RtP p) (hw : 2 ≤ p.wd) (i : Nat) (hi : i < p.restK.length) : ¬ cmpI (p.restK[i]) p.bet < 0 := by
  have hc := cutK_lt h hw
  obtain ⟨j, hj1, hj2, hj3⟩ : ∃ j, p.cutK ≤ j ∧ ∃ hj : j < p.ks.length, p.restK[i] = p.ks[j] := by
    by_cases e : p.lv = 0
    · have e1 : p.restK = p.ks.drop p.cutK := if_pos e
      have hl : i < (p.ks.drop p.cutK).length := by rw [← e1]; exact hi
      rw [List.length_drop] at hl
      refine ⟨p.cutK + i, by omega, by omega, ?_⟩
      simp only [e1, List.getElem_drop]
    · have e1 : p.restK = (p.ks.drop p.cutK).drop 1 := if_neg e
      have hl : i < ((p.ks.drop p.cutK).drop 1).length := by rw [← e1]; exact hi
      rw [List.length_drop, List.length_drop] at hl
      refine ⟨p.cutK + (1 + i), by omega, by omega, ?_⟩
      simp only [e1, List.getElem_drop]
  rw [hj3, NP.bet_at]
  intro hlt
  have e2 : p.ks[j] = p.ks.getD j [] := by rw [List.getD_eq_getElem?_getD, List.getElem?_eq_getElem hj2, Option.getD_some]
  rw [e2] at hlt
  by_cases e : j = p.cutK
  · rw [e, cmpI_refl] at hlt; omega
  · have := h.1.at_lt (i := p.cutK) (j := j) (by omega) hj2
    rw [cmpI_swap] at hlt
    omega
theorem keys_all {p : NP} (h : RtP p) (hw : 2 ≤ p.wd) : p.ks = p.ks.take p.cutK ++ (if 0 < p.lv then [p.bet] else []) ++ p.restK := by
  have hc := cutK_lt h hw
  rcases h.2 with h1 | h1
  · rw [if_neg (by omega), show p.restK = p.ks.drop p.cutK from if_pos h1.1, List.append_nil, List.take_append_drop]
  · rw [if_pos h1.1, show p.restK = (p.ks.drop p.cutK).drop 1 from if_neg (by omega), NP.bet_at, List.append_assoc]
    have : p.ks.drop p.cutK = [p.ks.getD p.cutK []] ++ (p.ks.drop p.cutK).drop 1 := by
      rw [List.drop_drop, List.drop_eq_getElem_cons hc, List.getD_eq_getElem?_getD, List.getElem?_eq_getElem hc, Option.getD_some]
      simp
    rw [← this, List.take_append_drop]
theorem cntL_none {l : List (List Int)} {key : List Int} (h : ∀ x ∈ l, cmpI key x < 0) : cntL l key = 0 := by
  unfold cntL
  rw [List.countP_eq_zero]
  intro x hx
  have := h x hx
  simp
  omega
theorem cntL_full {l : List (List Int)} {key : List Int} (h : ∀ x ∈ l, 0 ≤ cmpI key x) : cntL l key = l.length := by
  unfold cntL
  rw [List.countP_eq_length]
  intro x hx
  have := h x hx
  simp
  exact this
theorem cntL_app (a b : List (List Int)) (key : List Int) : cntL (a ++ b) key = cntL a key + cntL b key := by unfold cntL; rw [List.countP_append]
/-- A key is led to the same child. -/
theorem led_same {p : NP} (h : RtP p) (hw : 2 ≤ p.wd) (key : List Int) : (cmpI key p.bet < 0 → chiN (p.ks.take p.cutK) (p.cs.take p.half) key = chiN p.ks p.cs key) ∧ (0 ≤ cmpI key p.bet → chiN p.restK (p.cs.drop p.half) key = chiN p.ks p.cs key) := by
  have hc := cutK_lt h hw
  have hall := keys_all h hw
  rcases h.2 with h1 | h1
  · have hz : p.cs = [] := List.eq_nil_of_length_eq_zero h1.2.2
    rw [hz]
    exact ⟨fun _ => (by simp [chiN]), fun _ => (by simp [chiN])⟩
  · rw [if_pos h1.1] at hall
    have ew : p.wd = p.cs.length := by rw [wd_few h, if_pos h1.1]
    have eh : p.half = (p.cs.length + 1) / 2 := by unfold NP.half; rw [ew]
    have ec : p.cutK = p.half - 1 := if_neg (by omega)
    have hlc := h1.2.2
    have hr : p.restK.length = p.ks.length - p.half := by
      rw [show p.restK = (p.ks.drop p.cutK).drop 1 from if_neg (by omega), List.length_drop, List.length_drop]; omega
    have hcnt : cntL p.ks key = cntL (p.ks.take p.cutK) key + cntL [p.bet] key + cntL p.restK key := by
      conv => lhs; rw [hall]
      rw [cntL_app, cntL_app]
    have hb1 : ∀ x ∈ p.restK, 0 ≤ cmpI x p.bet := fun x hx => by
      obtain ⟨i, hi, rfl⟩ := List.getElem_of_mem hx
      have := keys_r h hw i hi
      omega
    have hb0 : ∀ x ∈ p.ks.take p.cutK, cmpI x p.bet < 0 := fun x hx => by
      obtain ⟨i, hi, rfl⟩ := List.getElem_of_mem hx
      exact keys_l h hw i hi
    have hg : ∀ (l : List Int) (k : Nat), l.getD k 0 = l[k]?.getD 0 := fun l k => List.getD_eq_getElem?_getD ..
    refine ⟨fun hlt => ?_, fun hge => ?_⟩
    · have e1 : cntL [p.bet] key = 0 := cntL_none (fun x hx => by rw [List.mem_singleton] at hx; rw [hx]; exact hlt)
      have e2 : cntL p.restK key = 0 := cntL_none (fun x hx => by
        have h3 := hb1 x hx
        rw [cmpI_swap] at h3
        exact (cmpI_trans key p.bet x (Int.le_of_lt hlt) (by omega)).2 hlt)
      rw [e1, e2] at hcnt
      have hle : cntL (p.ks.take p.cutK) key ≤ p.cutK := by have := cntL_le (p.ks.take p.cutK) key; rw [List.length_take] at this; omega
      unfold chiN
      rw [List.length_take, if_neg (by omega), if_neg (by omega), hcnt]
      rw [hg, hg, List.getElem?_take_of_lt (by omega)]
      congr 2
      omega
    · have e1 : cntL [p.bet] key = 1 := cntL_full (fun x hx => by rw [List.mem_singleton] at hx; rw [hx]; exact hge)
      have e2 : cntL (p.ks.take p.cutK) key = p.cutK := by
        rw [cntL_full (fun x hx => ?_), List.length_take]
        · omega
        · have h3 := hb0 x hx
          have h4 : cmpI p.bet key ≤ 0 := by rw [cmpI_swap]; omega
          have := (cmpI_trans x p.bet key (Int.le_of_lt h3) h4).2 h3
          rw [cmpI_swap]
          omega
      rw [e1, e2] at hcnt
      have hle := cntL_le p.restK key
      unfold chiN
      rw [List.length_drop, if_neg (by omega), if_neg (by omega), hcnt]
      rw [hg, hg, List.getElem?_drop]
      congr 2
      omega
end Go.Proofs.Ytclgimklfejohaa
