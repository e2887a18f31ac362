/- Packed as the document says it, over chains. No function is named here. -/
import Derived.Test.YtmhhakahjhjhlaaGreatG40
namespace Go.Proofs.YtmhhakahjhjhlaaGreat
open Go.RowKit
set_option maxRecDepth 100000

/-- A node of a level is as it must be. -/
def nodeOk (s : AS) (c : Chn) (k : Nat) (inn fl : Int) : Prop :=
  ((s.n (c.getD k (0, [])).1).lv = 0 → ((s.n (c.getD k (0, [])).1).ks.length : Int) ≤ fl ∧ (k + 1 < c.length → fl ≤ ((s.n (c.getD k (0, [])).1).ks.length : Int)) ∧ (0 < (s.n (c.getD k (0, [])).1).ks.length ∨ c.length ≤ 1)) ∧ (0 < (s.n (c.getD k (0, [])).1).lv → k + 1 < c.length → ((s.n (c.getD k (0, [])).1).cs.length : Int) = inn)
def kidSum (s : AS) (c : Chn) : Nat := (c.map fun x => (s.n x.1).cs.length).sum
structure PkR (s : AS) (ls : List Chn) (inn fl : Int) : Prop where
  one : (ls.getD 0 []).length = 1
  two : ls.length ≤ 1 ∨ 2 ≤ (s.n s.root).cs.length
  nodes : ∀ i, i < ls.length → ∀ k, k < (ls.getD i []).length → nodeOk s (ls.getD i []) k inn fl
  sums : ∀ i, i + 1 < ls.length → kidSum s (ls.getD i []) = (ls.getD (i + 1) []).length

theorem chQ_getD (O : List (List Sp)) (i : Nat) : (chQ O).getD i [] = (O.getD i []).map Sp.q := by
  unfold chQ
  by_cases h : i < O.length
  · simp [List.getD_eq_getElem?_getD, h]
  · simp [List.getD_eq_getElem?_getD, List.getElem?_eq_none (Nat.le_of_not_lt h)]
theorem chQ_len (O : List (List Sp)) : (chQ O).length = O.length := by simp [chQ]
theorem q_getD (c : List Sp) {k : Nat} (h : k < c.length) : ((c.map Sp.q).getD k (0, [])).1 = c[k].id := by simp [List.getD_eq_getElem?_getD, h, Sp.q]
theorem wdS_kids {s : AS} : ∀ (c : List Sp), (∀ x ∈ c, 0 < x.n.lv ∧ x.n.p = s.n x.id) → wdS c = kidSum s (c.map Sp.q)
  | [], _ => rfl
  | x :: r, h => by
    have h1 := wdS_kids r (fun y hy => h y (.tail _ hy))
    have h2 := h x (.head _)
    unfold wdS kidSum at h1 ⊢
    simp only [List.map_cons, List.sum_cons]
    rw [h1]
    congr 1
    unfold Sp.w
    rw [if_pos h2.1]
    show x.n.cs.s.length = (s.n x.id).cs.length
    rw [← h2.2]
    rfl

theorem pk_eq {s : AS} {ck : NP → Int} {O : List (List Sp)} {inn fl : Int} (hp : ∀ x ∈ O.flatten, x.n.p = s.n x.id) (hl : Lvs s ck O (-1)) (hO : O ≠ []) (hroot : ∀ x, O.getD 0 [] = [x] → x.id = s.root) (hfl : 1 ≤ fl) : PkS O inn fl ↔ PkR s (chQ O) inn fl := by
  have hpos : 0 < O.length := List.length_pos_iff.2 hO
  have mem : ∀ i (hi : i < O.length), ∀ x ∈ O.getD i [], x.n.p = s.n x.id ∧ x.n.lv = -1 + ((O.length - i : Nat) : Int) := fun i hi x hx => by
    have e : O.getD i [] = O[i] := by simp [List.getD_eq_getElem?_getD, hi]
    rw [e] at hx
    exact ⟨hp x (List.mem_flatten.2 ⟨O[i], List.getElem_mem hi, hx⟩), hl.lv i hi x hx⟩
  have lvw : ∀ i (hi : i < O.length), ∀ x ∈ O.getD i [], (s.n x.id).lv = -1 + ((O.length - i : Nat) : Int) ∧ (s.n x.id).ks.length = x.n.ks.L.length ∧ (s.n x.id).cs.length = x.n.cs.s.length := fun i hi x hx => by
    obtain ⟨h1, h2⟩ := mem i hi x hx
    rw [← h1]
    exact ⟨h2, TL.p_len _, rfl⟩
  have inner : ∀ i, i + 1 < O.length → ∀ x ∈ O.getD i [], 0 < x.n.lv ∧ x.w = (s.n x.id).cs.length := fun i hi x hx => by
    obtain ⟨h1, h2⟩ := mem i (by omega) x hx
    have h3 : 0 < x.n.lv := by omega
    exact ⟨h3, by unfold Sp.w; rw [if_pos h3, (lvw i (by omega) x hx).2.2]⟩
  have leaf : ∀ x ∈ O.getD (O.length - 1) [], x.n.lv = 0 ∧ x.w = (s.n x.id).ks.length := fun x hx => by
    obtain ⟨h1, h2⟩ := mem (O.length - 1) (by omega) x hx
    have h3 : x.n.lv = 0 := by omega
    exact ⟨h3, by unfold Sp.w; rw [if_neg (by omega), (lvw _ (by omega) x hx).2.1]⟩
  have last : O.getLast?.getD [] = O.getD (O.length - 1) [] := by rw [List.getLast?_eq_getElem?, List.getD_eq_getElem?_getD]
  have sumk : ∀ i, i + 1 < O.length → wdS (O.getD i []) = kidSum s ((O.getD i []).map Sp.q) := fun i hi => wdS_kids _ (fun x hx => ⟨(inner i hi x hx).1, (mem i (by omega) x hx).1⟩)
  have root2 : 1 < O.length → (O.getD 0 []).length = 1 → wdS (O.getD 0 []) = (s.n s.root).cs.length := fun h1 h2 => by
    match hx : O.getD 0 [], h2 with
    | [x], _ =>
      have h3 := sumk 0 (by omega)
      rw [hx] at h3
      rw [h3]
      simp only [kidSum, List.map_cons, List.map_nil, List.sum_cons, List.sum_nil, Nat.add_zero, Sp.q]
      rw [hroot x hx]
  unfold PkS
  rw [last]
  constructor
  · rintro ⟨⟨h1, h2⟩, h3, h4⟩
    refine ⟨by rw [chQ_getD, List.length_map]; exact h1, ?_, fun i hi k hk => ?_, fun i hi => ?_⟩
    · rw [chQ_len]
      rcases h2 with h2 | h2
      · exact .inl (by omega)
      · by_cases h5 : 1 < O.length
        · rw [root2 h5 h1] at h2; exact .inr h2
        · exact .inl (by omega)
    · rw [chQ_len] at hi
      rw [chQ_getD] at hk ⊢
      rw [List.length_map] at hk
      have hx := List.getElem_mem hk
      unfold nodeOk
      rw [q_getD _ hk, List.length_map]
      by_cases h5 : i + 1 < O.length
      · obtain ⟨h6, h7⟩ := inner i h5 _ hx
        have h8 := (lvw i hi _ hx).1
        refine ⟨fun e => by omega, fun _ hk2 => ?_⟩
        have h9 := (h3 i h5).1 k hk hk2
        rw [h7] at h9
        exact h9
      · obtain rfl : i = O.length - 1 := by omega
        obtain ⟨h6, h7⟩ := leaf _ hx
        have h8 := (lvw _ hi _ hx).1
        refine ⟨fun _ => ?_, fun e => by omega⟩
        obtain ⟨f1, f2, f3⟩ := h4
        by_cases hk2 : k + 1 < (O.getD (O.length - 1) []).length
        · have h9 := f1 k hk hk2
          rw [h7] at h9
          exact ⟨by omega, fun _ => by omega, .inl (by omega)⟩
        · have hlast : (O.getD (O.length - 1) []).getLast? = some (O.getD (O.length - 1) [])[k] := by
            rw [List.getLast?_eq_getElem?, show (O.getD (O.length - 1) []).length - 1 = k by omega, List.getElem?_eq_getElem hk]
          rw [hlast] at f2 f3
          simp only [Option.map_some, Option.getD_some] at f2 f3
          rw [h7] at f2 f3
          refine ⟨f2, fun h => absurd h hk2, ?_⟩
          rcases f3 with f3 | f3
          · exact .inl (by omega)
          · exact .inr (by omega)
    · rw [chQ_len] at hi
      rw [chQ_getD, chQ_getD, List.length_map, ← sumk i hi]
      exact (h3 i hi).2
  · rintro ⟨h1, h2, h3, h4⟩
    rw [chQ_getD, List.length_map] at h1
    rw [chQ_len] at h2
    refine ⟨⟨h1, ?_⟩, fun i hi => ⟨fun k hk hk2 => ?_, ?_⟩, fun k hk hk2 => ?_, ?_, ?_⟩
    · by_cases h5 : O.length = 1
      · exact .inl h5
      · rcases h2 with h2 | h2
        · omega
        · rw [root2 (by omega) h1]; exact .inr h2
    · have h5 := h3 i (by rw [chQ_len]; omega) k (by rw [chQ_getD, List.length_map]; exact hk)
      rw [chQ_getD] at h5
      unfold nodeOk at h5
      rw [q_getD _ hk, List.length_map] at h5
      have hx := List.getElem_mem hk
      obtain ⟨h6, h7⟩ := inner i hi _ hx
      have h8 := (lvw i (by omega) _ hx).1
      rw [h7]
      exact h5.2 (by omega) hk2
    · have h5 := h4 i (by rw [chQ_len]; exact hi)
      rw [chQ_getD, chQ_getD, List.length_map, ← sumk i hi] at h5
      exact h5
    · have h5 := h3 (O.length - 1) (by rw [chQ_len]; omega) k (by rw [chQ_getD, List.length_map]; exact hk)
      rw [chQ_getD] at h5
      unfold nodeOk at h5
      rw [q_getD _ hk, List.length_map] at h5
      have hx := List.getElem_mem hk
      obtain ⟨h6, h7⟩ := leaf _ hx
      have h8 := (lvw _ (by omega) _ hx).1
      have h9 := h5.1 (by omega)
      rw [h7]
      have := h9.2.1 hk2
      omega
    all_goals
      obtain ⟨c, hc⟩ : ∃ c, O.getD (O.length - 1) [] = c := ⟨_, rfl⟩
      rw [hc]
      have hcne : c ≠ [] := by
        rw [← hc, List.getD_eq_getElem?_getD, List.getElem?_eq_getElem (show O.length - 1 < O.length by omega)]
        exact hl.ne _ (List.getElem_mem _)
      have hcp : 0 < c.length := List.length_pos_iff.2 hcne
      have hkc : c.length - 1 < c.length := by omega
      have hlast : c.getLast? = some c[c.length - 1] := by rw [List.getLast?_eq_getElem?, List.getElem?_eq_getElem hkc]
      have h5 := h3 (O.length - 1) (by rw [chQ_len]; omega) (c.length - 1) (by rw [chQ_getD, List.length_map, hc]; omega)
      rw [chQ_getD, hc] at h5
      unfold nodeOk at h5
      rw [q_getD _ hkc, List.length_map] at h5
      have hx : c[c.length - 1] ∈ O.getD (O.length - 1) [] := by rw [hc]; exact List.getElem_mem hkc
      obtain ⟨h6, h7⟩ := leaf _ hx
      have h8 := (lvw _ (by omega) _ hx).1
      have h9 := h5.1 (by omega)
      rw [hlast]
      simp only [Option.map_some, Option.getD_some]
      rw [h7]
    · exact h9.1
    · rcases h9.2.2 with h | h
      · exact .inl (by omega)
      · exact .inr (by omega)
end Go.Proofs.YtmhhakahjhjhlaaGreat
