/- Nodes of arenas, as such. -/
import Derived.Test.YtfpogjgbmibmcaaALaw9
namespace Go.Proofs.Ytfpogjgbmibmcaa
open Go.RowKit
theorem AS.idx_ne {s : AS} {j k : Int} (hj : s.inn j) (hk : s.inn k) (h : j ≠ k) : (j - 1).toNat ≠ (k - 1).toNat := by unfold AS.inn at *; omega
theorem AS.n_setw {s : AS} {k : Int} (hk : s.inn k) (x : Nat) (j : Int) : (s.setw k x).n j = s.n j := by
  obtain ⟨i, hi, _, e⟩ := AS.idx hk
  unfold AS.n AS.setw
  simp only [e]
  by_cases h : (j - 1).toNat = i
  · rw [h, List.getD_eq_getElem?_getD, List.getElem?_set_self hi]
    unfold AS.n
    rw [e]; rfl
  · rw [List.getD_eq_getElem?_getD, List.getElem?_set_ne (fun e => h e.symm), ← List.getD_eq_getElem?_getD]
theorem AS.n_setn {s : AS} {k : Int} (hk : s.inn k) (p : NP) {j : Int} (hj : s.inn j) : (s.setn k p).n j = if j = k then p else s.n j := by
  obtain ⟨i, hi, _, e⟩ := AS.idx hk
  unfold AS.n AS.setn
  simp only [e]
  by_cases h : j = k
  · rw [if_pos h, h, e, List.getD_eq_getElem?_getD, List.getElem?_set_self hi]
    rfl
  · have hne := AS.idx_ne hj hk h
    rw [e] at hne
    rw [if_neg h, List.getD_eq_getElem?_getD, List.getElem?_set_ne (fun e => hne e.symm), ← List.getD_eq_getElem?_getD]
theorem AS.w_setn {s : AS} {k : Int} (hk : s.inn k) (p : NP) (j : Int) : (s.setn k p).w j = s.w j := by
  obtain ⟨i, hi, _, e⟩ := AS.idx hk
  unfold AS.w AS.setn
  simp only [e]
  by_cases h : (j - 1).toNat = i
  · rw [h, List.getD_eq_getElem?_getD, List.getElem?_set_self hi]
    unfold AS.w
    rw [e]; rfl
  · rw [List.getD_eq_getElem?_getD, List.getElem?_set_ne (fun e => h e.symm), ← List.getD_eq_getElem?_getD]
theorem AS.setn_len (s : AS) (k : Int) (p : NP) : (s.setn k p).sl.length = s.sl.length := by simp [AS.setn]
theorem AS.inn_of_len {s t : AS} (h : t.sl.length = s.sl.length) (j : Int) : t.inn j ↔ s.inn j := by unfold AS.inn; rw [h]
/-- A head and a body are set under a latch that is held. -/
structure SetBoth (s s2 s3 s4 : AS) (k : Int) (p : NP) : Prop where
  e2 : s2.unlE k = 0
  e3 : s3.unlE k = 0
  len : s4.sl.length = s.sl.length
  root : s4.root = s.root
  rd : ∀ j, s.inn j → s4.rd j = if j = k then p else s.n j
theorem set_both {s : AS} {k : Int} (hk : s.inn k) (p : NP) : SetBoth s (s.lockS k (s.w k)) ((s.lockS k (s.w k)).hedS k p.lv p.hi p.ri) (((s.lockS k (s.w k)).hedS k p.lv p.hi p.ri).bodS k p.ks p.vs p.cs) k p := by
  obtain ⟨t1, t2, _⟩ := took_held hk
  have hodd : (s.lockS k (s.w k)).w k % 2 = 1 := by rw [t2]; split <;> omega
  have hl2 : (s.lockS k (s.w k)).sl.length = s.sl.length := by unfold AS.lockS; split; exact AS.setw_len _ _ _; rfl
  have hr2 : (s.lockS k (s.w k)).root = s.root := by unfold AS.lockS; split <;> rfl
  have hn2 : ∀ j, (s.lockS k (s.w k)).n j = s.n j := fun j => by unfold AS.lockS; split; exact AS.n_setw hk _ j; rfl
  generalize s.lockS k (s.w k) = s2 at *
  have e2 : s2.unlE k = 0 := by unfold AS.unlE; rw [if_pos t1, if_neg (by omega)]
  have h3 : s2.hedS k p.lv p.hi p.ri = s2.setn k ((s2.n k).setH p.lv p.hi p.ri) := if_pos e2
  rw [h3]
  have t3 : (s2.setn k ((s2.n k).setH p.lv p.hi p.ri)).inn k := (AS.inn_of_len (AS.setn_len _ _ _) k).2 t1
  have e3 : (s2.setn k ((s2.n k).setH p.lv p.hi p.ri)).unlE k = 0 := by unfold AS.unlE; rw [if_pos t3, if_neg (by rw [AS.w_setn t1]; omega)]
  have h4 : (s2.setn k ((s2.n k).setH p.lv p.hi p.ri)).bodS k p.ks p.vs p.cs = (s2.setn k ((s2.n k).setH p.lv p.hi p.ri)).setn k (((s2.setn k ((s2.n k).setH p.lv p.hi p.ri)).n k).setB p.ks p.vs p.cs) := if_pos e3
  rw [h4]
  refine ⟨e2, e3, by rw [AS.setn_len, AS.setn_len]; exact hl2, hr2, fun j hj => ?_⟩
  have hj2 : s2.inn j := (AS.inn_of_len hl2 j).2 hj
  have hj3 : (s2.setn k ((s2.n k).setH p.lv p.hi p.ri)).inn j := (AS.inn_of_len (AS.setn_len _ _ _) j).2 hj2
  unfold AS.rd
  rw [if_pos ((AS.inn_of_len (AS.setn_len _ _ _) j).2 hj3), AS.n_setn t3 _ hj3]
  by_cases h : j = k
  · rw [if_pos h, if_pos h, AS.n_setn t1 _ t1, if_pos rfl]
    rfl
  · rw [if_neg h, if_neg h, AS.n_setn t1 _ hj2, if_neg h, hn2]
/-- A node's six cells. -/
def Six' (W : World) (b o : Nat) (n : Nd) : Prop := W.cell? ⟨b, o, none⟩ = some (.int .i64 n.lv) ∧ W.cell? ⟨b, o + 1, none⟩ = some n.hi.v ∧ W.cell? ⟨b, o + 2, none⟩ = some (.int .i64 n.ri) ∧ W.cell? ⟨b, o + 3, none⟩ = some n.ks.v ∧ W.cell? ⟨b, o + 4, none⟩ = some n.vs.v ∧ W.cell? ⟨b, o + 5, none⟩ = some n.cs.v
/-- The document's slots, as they lie. -/
theorem AW.slots {K : Nat → Prop} {W : World} {P AX AY : Nat} {s t : AS} (h : AW K W P AX AY s t) : ∃ g c, W.cell? ⟨AY, 1, none⟩ = some (.slice (some ⟨g, 0, none⟩) t.sl.length c) ∧ ∀ i : Nat, i < t.sl.length → ∃ n : Nd, n.Ok W ∧ n.p = t.n ((i : Int) + 1) ∧ Six' W g (i * 7 + 1) n := by
  obtain ⟨F, g, c, M, D, L, h1, h2, _⟩ := h.rx
  refine ⟨g, c, by rw [← ndsR_lenS h2]; exact h1.cells.2.1, fun i hi => ?_⟩
  have hi' : i < L.length := by rw [ndsR_lenS h2]; exact hi
  exact ⟨L[i].n, (h1.sl L[i] (List.getElem_mem hi')).n, ((ndsR_at h2 hi' rfl).2).symm, h1.ncells i hi'⟩

end Go.Proofs.Ytfpogjgbmibmcaa
