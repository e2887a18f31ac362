/- node: a node's lists cut in two; what Split's halves say, as numbers. -/
import Derived.Test.YtclgimklfejohaaNWith
namespace Go.Proofs.Ytclgimklfejohaa
open Go.RowKit

theorem TCells.takeN {W : World} {a : Option Addr} {L : List Tx} (h : TCells W a L) (n : Nat) : TCells W a (L.take n) := by
  intro i hi
  have hi' : i < n ∧ i < L.length := by rw [List.length_take] at hi; omega
  obtain ⟨b, o, ha, hc⟩ := h i hi'.2
  refine ⟨b, o, ha, ?_⟩
  rw [List.getElem_take]; exact hc
theorem TCells.dropN {W : World} {a : Option Addr} {L : List Tx} (h : TCells W a L) (n m : Nat) (hm : L.length ≤ m) : TCells W (cutAt a n m) (L.drop n) := by
  intro i hi
  have hi' : n + i < L.length := by rw [List.length_drop] at hi; omega
  obtain ⟨b, o, rfl, hc⟩ := h (n + i) hi'
  refine ⟨b, o + n, ?_, ?_⟩
  · unfold cutAt; rw [if_neg (by omega)]; simp [Addr.add_lit]
  · rw [List.getElem_drop, Nat.add_assoc]; exact hc
theorem TL.Ok.cutL {W : World} {t : TL} (h : t.Ok W) (m : Nat) (hm : m ≤ t.L.length) : (⟨t.a, m, t.L.take m⟩ : TL).Ok W :=
  ⟨h.r.takeN m, fun x hx => h.ok x (List.mem_of_mem_take hx), fun e => by have := (h.n e).1; simp only [List.length_take]; omega, by simp only [List.length_take]; omega⟩
theorem TL.Ok.cutR {W : World} {t : TL} (h : t.Ok W) (m : Nat) : (⟨cutAt t.a m t.L.length, t.L.length - m, t.L.drop m⟩ : TL).Ok W :=
  ⟨h.r.dropN m t.L.length (Nat.le_refl _), fun x hx => h.ok x (List.mem_of_mem_drop hx), fun e => by have := (h.n (cutAt_none e)).1; simp only [List.length_drop]; omega, by simp only [List.length_drop]; omega⟩
theorem row_takeN {W : World} {k : IntKind} {a : Option Addr} {s : List Int} (h : Row W k a s) (n : Nat) : Row W k a (s.take n) := by
  intro i hi
  have hi' : i < n ∧ i < s.length := by rw [List.length_take] at hi; omega
  obtain ⟨b, o, ha, hc⟩ := h i hi'.2
  refine ⟨b, o, ha, ?_⟩
  rw [List.getD_eq_getElem?_getD, List.getElem?_take_of_lt hi'.1, ← List.getD_eq_getElem?_getD]; exact hc
theorem row_dropN {W : World} {k : IntKind} {a : Option Addr} {s : List Int} (h : Row W k a s) (n m : Nat) (hm : s.length ≤ m) : Row W k (cutAt a n m) (s.drop n) := by
  intro i hi
  have hi' : n + i < s.length := by rw [List.length_drop] at hi; omega
  obtain ⟨b, o, rfl, hc⟩ := h (n + i) hi'
  refine ⟨b, o + n, ?_, ?_⟩
  · unfold cutAt; rw [if_neg (by omega)]; simp [Addr.add_lit]
  · rw [List.getD_eq_getElem?_getD, List.getElem?_drop, ← List.getD_eq_getElem?_getD, Nat.add_assoc]; exact hc
theorem IL.Ok.cutL {W : World} {t : IL} (h : t.Ok W) (m : Nat) (hm : m ≤ t.s.length) : (⟨t.a, m, t.s.take m⟩ : IL).Ok W :=
  ⟨row_takeN h.r m, fun e => by have := (h.n e).1; simp only [List.length_take]; omega, by simp only [List.length_take]; omega⟩
theorem IL.Ok.cutR {W : World} {t : IL} (h : t.Ok W) (m : Nat) : (⟨cutAt t.a m t.s.length, t.s.length - m, t.s.drop m⟩ : IL).Ok W :=
  ⟨row_dropN h.r m t.s.length (Nat.le_refl _), fun e => by have := (h.n (cutAt_none e)).1; simp only [List.length_drop]; omega, by simp only [List.length_drop]; omega⟩
/-- A list in two, as cut gives it. -/
def TL.left (t : TL) (h : Nat) : TL := ⟨t.a, min h t.L.length, t.L.take (min h t.L.length)⟩
def TL.rest (t : TL) (h : Nat) : TL := ⟨cutAt t.a (min h t.L.length) t.L.length, t.L.length - min h t.L.length, t.L.drop (min h t.L.length)⟩
def IL.left (t : IL) (h : Nat) : IL := ⟨t.a, min h t.s.length, t.s.take (min h t.s.length)⟩
def IL.rest (t : IL) (h : Nat) : IL := ⟨cutAt t.a (min h t.s.length) t.s.length, t.s.length - min h t.s.length, t.s.drop (min h t.s.length)⟩
theorem TL.Ok.left {W : World} {t : TL} (h : t.Ok W) (m : Nat) : (t.left m).Ok W := h.cutL _ (Nat.min_le_right _ _)
theorem TL.Ok.rest {W : World} {t : TL} (h : t.Ok W) (m : Nat) : (t.rest m).Ok W := h.cutR _
theorem IL.Ok.left {W : World} {t : IL} (h : t.Ok W) (m : Nat) : (t.left m).Ok W := h.cutL _ (Nat.min_le_right _ _)
theorem IL.Ok.rest {W : World} {t : IL} (h : t.Ok W) (m : Nat) : (t.rest m).Ok W := h.cutR _
theorem take_min {α : Type} (l : List α) (m : Nat) : l.take (min m l.length) = l.take m := by
  rcases Nat.le_total m l.length with h | h
  · rw [Nat.min_eq_left h]
  · rw [Nat.min_eq_right h, List.take_of_length_le (Nat.le_refl _), List.take_of_length_le h]
theorem drop_min {α : Type} (l : List α) (m : Nat) : l.drop (min m l.length) = l.drop m := by
  rcases Nat.le_total m l.length with h | h
  · rw [Nat.min_eq_left h]
  · rw [Nat.min_eq_right h, List.drop_of_length_le (Nat.le_refl _), List.drop_of_length_le h]
theorem TL.left_p (t : TL) (m : Nat) : (t.left m).p = t.p.take m := by
  unfold TL.left TL.p
  simp only [take_min, List.map_take]
theorem TL.rest_p (t : TL) (m : Nat) : (t.rest m).p = t.p.drop m := by
  unfold TL.rest TL.p
  simp only [drop_min, List.map_drop]
theorem IL.left_s (t : IL) (m : Nat) : (t.left m).s = t.s.take m := take_min _ _
theorem IL.rest_s (t : IL) (m : Nat) : (t.rest m).s = t.s.drop m := drop_min _ _
theorem TL.left_v (t : TL) (m : Nat) : (t.left m).v = .slice t.a (min m t.L.length) (min m t.L.length) := by
  unfold TL.left TL.v
  simp only [List.length_take, Nat.min_assoc, Nat.min_self]
theorem TL.rest_v (t : TL) (m : Nat) : (t.rest m).v = .slice (cutAt t.a (min m t.L.length) t.L.length) (t.L.length - min m t.L.length) (t.L.length - min m t.L.length) := by
  unfold TL.rest TL.v
  simp only [List.length_drop]
theorem IL.left_v (t : IL) (m : Nat) : (t.left m).v = .slice t.a (min m t.s.length) (min m t.s.length) := by
  unfold IL.left IL.v
  simp only [List.length_take, Nat.min_assoc, Nat.min_self]
theorem IL.rest_v (t : IL) (m : Nat) : (t.rest m).v = .slice (cutAt t.a (min m t.s.length) t.s.length) (t.s.length - min m t.s.length) (t.s.length - min m t.s.length) := by
  unfold IL.rest IL.v
  simp only [List.length_drop]

/-- How many of a node are counted; what the halves say. -/
def NP.wd (p : NP) : Nat := if p.lv = 0 then p.ks.length else p.cs.length
def NP.half (p : NP) : Nat := (p.wd + 1) / 2
def NP.cutK (p : NP) : Nat := if p.lv = 0 then p.half else p.half - 1
def NP.bet (p : NP) : List Int := (p.ks.drop p.cutK).headD []
def NP.restK (p : NP) : List (List Int) := if p.lv = 0 then p.ks.drop p.cutK else (p.ks.drop p.cutK).drop 1
def NP.one (p : NP) (right : Int) : NP := ⟨p.lv, p.bet, right, p.ks.take p.cutK, p.vs.take p.half, p.cs.take p.half⟩
def NP.two (p : NP) : NP := ⟨p.lv, p.hi, p.ri, p.restK, p.vs.drop p.half, p.cs.drop p.half⟩
end Go.Proofs.Ytclgimklfejohaa
