/- Rising keys as lists: where a key is, a key more, a key less. No program is named here. -/
import Derived.Test.YtclgimklfejohaaNRef
import Derived.Test.YtclgimklfejohaaNWith
namespace Go.Proofs.Ytclgimklfejohaa
open Go.RowKit

theorem cmp_lt_trans {a b c : List Int} (h1 : cmpI a b < 0) (h2 : cmpI b c < 0) : cmpI a c < 0 := (cmpI_trans a b c (by omega) (by omega)).2 h1
theorem Rs.far {l : List (List Int)} (h : Rs l) : ∀ d i, i + d + 1 < l.length → cmpI (l.getD i []) (l.getD (i + d + 1) []) < 0
  | 0, i, hi => h i (by omega)
  | d + 1, i, hi => cmp_lt_trans (Rs.far h d i (by omega)) (h (i + d + 1) (by omega))
theorem Rs.pair {l : List (List Int)} (h : Rs l) : l.Pairwise fun a b => cmpI a b < 0 := by
  rw [List.pairwise_iff_getElem]
  intro i j hi hj hij
  have := h.far (j - i - 1) i (by omega)
  rw [show i + (j - i - 1) + 1 = j by omega] at this
  simpa [hi, hj] using this
theorem Rs.of {l : List (List Int)} (h : l.Pairwise fun a b => cmpI a b < 0) : Rs l := by
  intro j hj
  rw [List.pairwise_iff_getElem] at h
  have h1 : j < l.length := by omega
  have h2 : j + 1 < l.length := by omega
  have := h j (j + 1) h1 h2 (by omega)
  simpa [h1, h2] using this
theorem isIn_iff {ks : List (List Int)} {key : List Int} : isIn ks key = true ↔ key ∈ ks := by
  unfold isIn
  simp [List.any_eq_true]
theorem isIn_false {ks : List (List Int)} {key : List Int} : isIn ks key = false ↔ key ∉ ks := by
  rw [← isIn_iff]; cases isIn ks key <;> simp
theorem cntB_nil (key : List Int) : cntB [] key = 0 := rfl
theorem cntB_cons (a : List Int) (r : List (List Int)) (key : List Int) : cntB (a :: r) key = cntB r key + if cmpI a key < 0 then 1 else 0 := by
  simp [cntB, List.countP_cons]
theorem cntB_app (a r : List (List Int)) (key : List Int) : cntB (a ++ r) key = cntB a key + cntB r key := by simp [cntB, List.countP_append]
theorem cntB_zero {r : List (List Int)} {key : List Int} (h : ∀ x ∈ r, ¬ cmpI x key < 0) : cntB r key = 0 := by
  unfold cntB
  rw [List.countP_eq_zero]
  intro x hx
  simp only [decide_eq_true_eq]
  exact h x hx
theorem cntB_all {r : List (List Int)} {key : List Int} (h : ∀ x ∈ r, cmpI x key < 0) : cntB r key = r.length := by
  unfold cntB
  rw [List.countP_eq_length]
  intro x hx
  simp only [decide_eq_true_eq]
  exact h x hx
theorem cmp_gt {a b : List Int} (h : cmpI a b < 0) : ¬ cmpI b a < 0 := by rw [cmpI_swap a b]; omega
theorem cmp_ne {a b : List Int} (h : cmpI a b < 0) : a ≠ b := fun e => by rw [e, cmpI_refl] at h; omega

/-- A rising list parts at a key: those below, the key if it is there, those above. -/
theorem parts : ∀ (ks : List (List Int)) (key : List Int), (ks.Pairwise fun a b => cmpI a b < 0) →
    ∃ A B, (∀ x ∈ A, cmpI x key < 0) ∧ (∀ x ∈ B, cmpI key x < 0) ∧ cntB ks key = A.length ∧ ((isIn ks key = true ∧ ks = A ++ key :: B) ∨ (isIn ks key = false ∧ ks = A ++ B))
  | [], key, _ => ⟨[], [], fun x hx => (by cases hx), fun x hx => (by cases hx), rfl, .inr ⟨rfl, rfl⟩⟩
  | a :: r, key, h => by
    rw [List.pairwise_cons] at h
    obtain ⟨A, B, hA, hB, hc, hor⟩ := parts r key h.2
    rcases cmpI_range a key with h1 | h1 | h1
    · have hal : cmpI a key < 0 := by omega
      refine ⟨a :: A, B, fun x hx => ?_, hB, by rw [cntB_cons, if_pos hal, hc]; rfl, ?_⟩
      · rcases List.mem_cons.1 hx with rfl | hx
        · exact hal
        · exact hA x hx
      · rcases hor with ⟨h2, h3⟩ | ⟨h2, h3⟩
        · exact .inl ⟨by rw [isIn_iff]; exact List.mem_cons_of_mem _ (isIn_iff.1 h2), by rw [h3]; rfl⟩
        · refine .inr ⟨?_, by rw [h3]; rfl⟩
          rw [isIn_false]
          intro hm
          rcases List.mem_cons.1 hm with e | hm
          · exact cmp_ne hal e.symm
          · exact (isIn_false.1 h2) hm
    · obtain rfl := cmpI_zero a key h1
      have hz : cntB r a = 0 := cntB_zero fun x hx => cmp_gt (h.1 x hx)
      have hA0 : A = [] := List.eq_nil_of_length_eq_zero (by omega)
      subst hA0
      refine ⟨[], r, fun x hx => (by cases hx), h.1, by rw [cntB_cons, hz, if_neg (by omega)]; rfl, .inl ⟨by rw [isIn_iff]; exact List.mem_cons_self, rfl⟩⟩
    · have hg : cmpI key a < 0 := by rw [cmpI_swap a key]; omega
      have hz : cntB r key = 0 := cntB_zero fun x hx => cmp_gt (cmp_lt_trans hg (h.1 x hx))
      refine ⟨[], a :: r, fun x hx => (by cases hx), fun x hx => ?_, by rw [cntB_cons, hz, if_neg (by omega)]; rfl, .inr ⟨?_, rfl⟩⟩
      · rcases List.mem_cons.1 hx with rfl | hx
        · exact hg
        · exact cmp_lt_trans hg (h.1 x hx)
      · rw [isIn_false]
        intro hm
        rcases List.mem_cons.1 hm with e | hm
        · exact cmp_ne hg e
        · exact cmp_ne (cmp_lt_trans hg (h.1 key hm)) rfl
theorem insL_at {α : Type} (A B : List α) (x : α) : insL (A ++ B) A.length x = A ++ x :: B := by simp [insL]
theorem remL_at {α : Type} (A B : List α) (x : α) : remL (A ++ x :: B) A.length = A ++ B := by simp [remL, List.drop_append]
theorem split_at {α : Type} {l : List α} {i : Nat} (h : i ≤ l.length) : ∃ A B, l = A ++ B ∧ A.length = i := ⟨l.take i, l.drop i, (List.take_append_drop i l).symm, by rw [List.length_take]; omega⟩
theorem split_at1 {α : Type} {l : List α} {i : Nat} (h : i < l.length) : ∃ A x B, l = A ++ x :: B ∧ A.length = i := ⟨l.take i, l[i], l.drop (i + 1), by rw [← List.drop_eq_getElem_cons h, List.take_append_drop], by rw [List.length_take]; omega⟩
theorem remL_insL {α : Type} {l : List α} {i : Nat} (h : i ≤ l.length) (x : α) : remL (insL l i x) i = l := by
  obtain ⟨A, B, rfl, rfl⟩ := split_at h
  rw [insL_at, remL_at]
theorem insL_get {α : Type} {l : List α} {i : Nat} (h : i ≤ l.length) (x : α) : (insL l i x)[i]? = some x := by
  obtain ⟨A, B, rfl, rfl⟩ := split_at h
  rw [insL_at]; simp
theorem remL_len1 {α : Type} {l : List α} {i : Nat} (h : i < l.length) : (remL l i).length + 1 = l.length := by
  obtain ⟨A, x, B, rfl, rfl⟩ := split_at1 h
  rw [remL_at]; simp; omega

/-- What With, Find and Without say of a right leaf. -/
structure BackP (p : NP) (key value : List Int) : Prop where
  now : isIn (p.with_ key value).ks key = true
  at' : cntB (p.with_ key value).ks key = cntB p.ks key
  k : (p.with_ key value).ks[cntB p.ks key]? = some key
  v : (p.with_ key value).vs[cntB p.ks key]? = some value
  still : isIn ((p.with_ key value).without key).ks key = false
  back : (p.with_ key value).without key = p.without key
theorem back_ok {p : NP} {key value : List Int} (h : RtP p) (h0 : p.lv = 0) : BackP p key value := by
  obtain ⟨hrs, hor⟩ := h
  have hvl : p.vs.length = p.ks.length := by
    rcases hor with h | h
    · exact h.2.1
    · omega
  obtain ⟨A, B, hA, hB, hc, hor2⟩ := parts p.ks key hrs.pair
  have hAn : key ∉ A := fun hm => cmp_ne (hA key hm) rfl
  have hBn : key ∉ B := fun hm => cmp_ne (hB key hm) rfl
  rcases hor2 with ⟨hin, hks⟩ | ⟨hin, hks⟩
  · have hiv : cntB p.ks key < p.vs.length := by rw [hvl, hc, hks]; simp
    have e1 : p.with_ key value = { p with vs := insL (remL p.vs (cntB p.ks key)) (cntB p.ks key) value } := by unfold NP.with_; rw [hin]; rfl
    have hr1 := remL_len1 hiv
    have e2 : (p.with_ key value).without key = { p with ks := remL p.ks (cntB p.ks key), vs := remL p.vs (cntB p.ks key) } := by
      rw [e1]
      unfold NP.without
      simp only [hin, if_true]
      rw [remL_insL (by omega)]
    have e3 : p.without key = { p with ks := remL p.ks (cntB p.ks key), vs := remL p.vs (cntB p.ks key) } := by unfold NP.without; rw [hin]; rfl
    refine ⟨by rw [e1]; exact hin, by rw [e1], ?_, ?_, ?_, by rw [e2, e3]⟩
    · rw [e1]
      simp only
      rw [hc, hks]
      simp
    · rw [e1]
      exact insL_get (by omega) value
    · rw [e2]
      simp only
      rw [hc, hks, remL_at, isIn_false]
      intro hm
      rcases List.mem_append.1 hm with h | h
      · exact hAn h
      · exact hBn h
  · have hik : cntB p.ks key ≤ p.ks.length := cntB_le _ _
    have e1 : p.with_ key value = { p with ks := insL p.ks (cntB p.ks key) key, vs := insL p.vs (cntB p.ks key) value } := by unfold NP.with_; rw [hin]; rfl
    have hcc : cntB (insL p.ks (cntB p.ks key) key) key = cntB p.ks key := by
      rw [hc, hks, insL_at, cntB_app, cntB_cons, cmpI_refl, cntB_all hA, cntB_zero (fun x hx => cmp_gt (hB x hx))]
      simp
    have hii : isIn (insL p.ks (cntB p.ks key) key) key = true := by
      rw [isIn_iff, hc, hks, insL_at]; simp
    have e2 : (p.with_ key value).without key = p := by
      rw [e1]
      unfold NP.without
      simp only [hii, if_true, hcc]
      rw [remL_insL hik, remL_insL (by omega)]
    have e3 : p.without key = p := by unfold NP.without; rw [hin]; rfl
    refine ⟨by rw [e1]; exact hii, by rw [e1]; exact hcc, ?_, ?_, ?_, by rw [e2, e3]⟩
    · rw [e1]; exact insL_get hik key
    · rw [e1]; exact insL_get (by omega) value
    · rw [e2]; exact hin

end Go.Proofs.Ytclgimklfejohaa
