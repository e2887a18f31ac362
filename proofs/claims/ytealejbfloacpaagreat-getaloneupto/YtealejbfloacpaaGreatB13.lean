/- Texts of one's own. -/
import Derived.Test.YtealejbfloacpaaGreatB12
import Derived.Test.YtealejbfloacpaaGreatB9
namespace Go.Proofs.YtealejbfloacpaaGreat
open Go.RowKit
set_option maxRecDepth 100000
theorem TCells.takeN {W : World} {a : Option Addr} {L : List Tx} (h : TCells W a L) (n : Nat) : TCells W a (L.take n) := by
  intro i hi
  have hi' : i < n ∧ i < L.length := by rw [List.length_take] at hi; omega
  obtain ⟨b, o, ha, hc⟩ := h i hi'.2
  refine ⟨b, o, ha, ?_⟩
  rw [List.getElem_take]; exact hc
theorem TCells.dropN {W : World} {a : Option Addr} {L : List Tx} (h : TCells W a L) (n m : Nat) (hm : L.length ≤ m) : TCells W (cutAt a n m) (L.drop n) := by
  intro i hi
  have hi' : n + i < L.length := by rw [List.length_drop] at hi; omega
  obtain ⟨b, o, rfl, hc⟩ := h (n + i) hi'
  refine ⟨b, o + n, ?_, ?_⟩
  · unfold cutAt; rw [if_neg (by omega)]; simp [Addr.add_lit]
  · rw [List.getElem_drop, Nat.add_assoc]; exact hc
theorem TL.Ok.cutL {W : World} {t : TL} (h : t.Ok W) (m : Nat) (hm : m ≤ t.L.length) : (⟨t.a, m, t.L.take m⟩ : TL).Ok W :=
  ⟨h.r.takeN m, fun x hx => h.ok x (List.mem_of_mem_take hx), fun e => by have := (h.n e).1; simp only [List.length_take]; omega, by simp only [List.length_take]; omega⟩
theorem TL.Ok.cutR {W : World} {t : TL} (h : t.Ok W) (m : Nat) : (⟨cutAt t.a m t.L.length, t.L.length - m, t.L.drop m⟩ : TL).Ok W :=
  ⟨h.r.dropN m t.L.length (Nat.le_refl _), fun x hx => h.ok x (List.mem_of_mem_drop hx), fun e => by have := (h.n (cutAt_none e)).1; simp only [List.length_drop]; omega, by simp only [List.length_drop]; omega⟩
theorem row_takeN {W : World} {k : IntKind} {a : Option Addr} {s : List Int} (h : Row W k a s) (n : Nat) : Row W k a (s.take n) := by
  intro i hi
  have hi' : i < n ∧ i < s.length := by rw [List.length_take] at hi; omega
  obtain ⟨b, o, ha, hc⟩ := h i hi'.2
  refine ⟨b, o, ha, ?_⟩
  rw [List.getD_eq_getElem?_getD, List.getElem?_take_of_lt hi'.1, ← List.getD_eq_getElem?_getD]; exact hc
theorem row_dropN {W : World} {k : IntKind} {a : Option Addr} {s : List Int} (h : Row W k a s) (n m : Nat) (hm : s.length ≤ m) : Row W k (cutAt a n m) (s.drop n) := by
  intro i hi
  have hi' : n + i < s.length := by rw [List.length_drop] at hi; omega
  obtain ⟨b, o, rfl, hc⟩ := h (n + i) hi'
  refine ⟨b, o + n, ?_, ?_⟩
  · unfold cutAt; rw [if_neg (by omega)]; simp [Addr.add_lit]
  · rw [List.getD_eq_getElem?_getD, List.getElem?_drop, ← List.getD_eq_getElem?_getD, Nat.add_assoc]; exact hc
theorem IL.Ok.cutL {W : World} {t : IL} (h : t.Ok W) (m : Nat) (hm : m ≤ t.s.length) : (⟨t.a, m, t.s.take m⟩ : IL).Ok W :=
  ⟨row_takeN h.r m, fun e => by have := (h.n e).1; simp only [List.length_take]; omega, by simp only [List.length_take]; omega⟩
theorem IL.Ok.cutR {W : World} {t : IL} (h : t.Ok W) (m : Nat) : (⟨cutAt t.a m t.s.length, t.s.length - m, t.s.drop m⟩ : IL).Ok W :=
  ⟨row_dropN h.r m t.s.length (Nat.le_refl _), fun e => by have := (h.n (cutAt_none e)).1; simp only [List.length_drop]; omega, by simp only [List.length_drop]; omega⟩
/-- A list in two, as cut gives it. -/
def TL.left (t : TL) (h : Nat) : TL := ⟨t.a, min h t.L.length, t.L.take (min h t.L.length)⟩
def TL.rest (t : TL) (h : Nat) : TL := ⟨cutAt t.a (min h t.L.length) t.L.length, t.L.length - min h t.L.length, t.L.drop (min h t.L.length)⟩
def IL.left (t : IL) (h : Nat) : IL := ⟨t.a, min h t.s.length, t.s.take (min h t.s.length)⟩
def IL.rest (t : IL) (h : Nat) : IL := ⟨cutAt t.a (min h t.s.length) t.s.length, t.s.length - min h t.s.length, t.s.drop (min h t.s.length)⟩
theorem TL.Ok.left {W : World} {t : TL} (h : t.Ok W) (m : Nat) : (t.left m).Ok W := h.cutL _ (Nat.min_le_right _ _)
theorem TL.Ok.rest {W : World} {t : TL} (h : t.Ok W) (m : Nat) : (t.rest m).Ok W := h.cutR _
theorem IL.Ok.left {W : World} {t : IL} (h : t.Ok W) (m : Nat) : (t.left m).Ok W := h.cutL _ (Nat.min_le_right _ _)
theorem IL.Ok.rest {W : World} {t : IL} (h : t.Ok W) (m : Nat) : (t.rest m).Ok W := h.cutR _
/-- How many of a node are counted; what the halves say. -/
def NP.wd (p : NP) : Nat := if p.lv = 0 then p.ks.length else p.cs.length
def NP.half (p : NP) : Nat := (p.wd + 1) / 2
def NP.cutK (p : NP) : Nat := if p.lv = 0 then p.half else p.half - 1
def NP.bet (p : NP) : List Int := (p.ks.drop p.cutK).headD []
def NP.restK (p : NP) : List (List Int) := if p.lv = 0 then p.ks.drop p.cutK else (p.ks.drop p.cutK).drop 1
def NP.one (p : NP) (right : Int) : NP := ⟨p.lv, p.bet, right, p.ks.take p.cutK, p.vs.take p.half, p.cs.take p.half⟩
def NP.two (p : NP) : NP := ⟨p.lv, p.hi, p.ri, p.restK, p.vs.drop p.half, p.cs.drop p.half⟩
end Go.Proofs.YtealejbfloacpaaGreat

namespace Go.Proofs.YtealejbfloacpaaGreat
open Go.RowKit
set_option maxRecDepth 100000
theorem Rs.lt {l : List (List Int)} (h : Rs l) : ∀ d i, i + d + 1 < l.length → cmpI (l.getD i []) (l.getD (i + d + 1) []) < 0
  | 0, i, hi => h i (by omega)
  | d + 1, i, hi => by
    have h1 := Rs.lt h d i (by omega)
    have h2 := h (i + d + 1) (by omega)
    exact (cmpI_trans _ _ _ (Int.le_of_lt h1) (Int.le_of_lt h2)).2 h1
theorem NP.bet_at (p : NP) : p.bet = p.ks.getD p.cutK [] := by
  unfold NP.bet
  generalize p.cutK = c
  rw [List.headD_eq_head?_getD, List.head?_drop, List.getD_eq_getElem?_getD]
theorem wd_few {p : NP} (h : RtP p) : p.wd = if 0 < p.lv then p.cs.length else p.ks.length := by
  unfold NP.wd
  rcases h.2 with h1 | h1
  · rw [if_pos h1.1, if_neg (by omega)]
  · rw [if_neg (by omega), if_pos h1.1]
theorem cutK_lt {p : NP} (h : RtP p) (hw : 2 ≤ p.wd) : p.cutK < p.ks.length := by
  have e := wd_few h
  unfold NP.cutK NP.half
  rcases h.2 with h1 | h1
  · rw [if_pos h1.1]; rw [if_neg (by omega)] at e; omega
  · rw [if_neg (by omega)]; rw [if_pos h1.1] at e; omega
end Go.Proofs.YtealejbfloacpaaGreat
