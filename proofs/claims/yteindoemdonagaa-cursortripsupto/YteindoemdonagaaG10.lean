/- A taker's state by the document: what it took and how it stands; both programs' takers step alike. -/
import Derived.Test.YteindoemdonagaaG5
import Derived.Test.YteindoemdonagaaG4
import Derived.Test.YteindoemdonagaaG6
import Derived.OwnWalk
import Derived.ArgAppend

import Derived.OwnWalk
import Derived.ArgAppend
namespace Go.Proofs.Yteindoemdonagaa
open Go.RowKit

/-- How it stands: 0 goes on, 1 whole, 2 refused. -/
def stepSt (zs : List Int) (st : Nat) (c : Int) : Nat := if st ≠ 0 then st else if faultOf zs.length c ≠ 0 then 2 else if c < 128 then 1 else 0
def stepZs (zs : List Int) (st : Nat) (c : Int) : List Int := if st ≠ 0 then zs else zs ++ [c]
def stepDone (zs : List Int) (st : Nat) (c : Int) : Bool := decide (st = 0 ∧ faultOf zs.length c = 0 ∧ c < 128)
def stepErr (zs : List Int) (st : Nat) (c : Int) : Int := if st ≠ 0 then 1 else faultOf zs.length c

structure Good (zs : List Int) (st : Nat) : Prop where
  len : zs.length ≤ 10
  fits : ∀ c ∈ zs, 0 ≤ c ∧ c ≤ 255
  st2 : st ≤ 2
  goes : st = 0 → zs.length ≤ 9 ∧ ∀ rest, scan 0 0 (zs ++ rest) = scan zs.length (pre zs 0 zs.length) rest
  whole : st = 1 → scan 0 0 zs = (pre zs 0 zs.length, zs.length, 0)

theorem pre_app (zs ys : List Int) : ∀ k, k ≤ zs.length → pre (zs ++ ys) 0 k = pre zs 0 k
  | 0, _ => rfl
  | k + 1, h => by
    rw [pre, pre, pre_app zs ys k (by omega)]
    simp only [Nat.zero_add, List.getD_eq_getElem?_getD]
    rw [List.getElem?_append_left (by omega)]
theorem pre_snoc (zs : List Int) (c : Int) : pre (zs ++ [c]) 0 (zs ++ [c]).length = pre zs 0 zs.length + c % 128 * 128 ^ zs.length := by
  rw [List.length_append, List.length_singleton, pre, pre_app zs [c] _ (Nat.le_refl _)]
  simp

theorem Good.start : Good [] 0 := ⟨by simp, by simp, by omega, fun _ => ⟨by simp, fun rest => rfl⟩, fun h => by omega⟩

theorem Good.step {zs : List Int} {st : Nat} (h : Good zs st) (c : Int) (h0 : 0 ≤ c) (h1 : c ≤ 255) : Good (stepZs zs st c) (stepSt zs st c) := by
  by_cases hs : st = 0
  · subst hs
    have hg := h.goes rfl
    have e1 : stepZs zs 0 c = zs ++ [c] := by simp [stepZs]
    rw [e1]
    refine ⟨by simp; omega, ?_, ?_, ?_, ?_⟩
    · intro d hd
      rcases List.mem_append.1 hd with hd | hd
      · exact h.fits d hd
      · simp at hd; subst hd; exact ⟨h0, h1⟩
    · unfold stepSt; repeat (first | omega | split)
    · intro e
      have hf : faultOf zs.length c = 0 ∧ ¬ c < 128 := by
        unfold stepSt at e
        rw [if_neg (by simp)] at e
        by_cases hf : faultOf zs.length c = 0
        · rw [if_neg (by simp [hf])] at e
          by_cases hc : c < 128
          · rw [if_pos hc] at e; omega
          · exact ⟨hf, hc⟩
        · rw [if_pos hf] at e; omega
      have hT := faultOf_le8 zs.length c hf.1 hg.1
      refine ⟨by simp; omega, fun rest => ?_⟩
      rw [List.append_assoc, hg.2, pre_snoc, List.singleton_append, scan, if_neg (by rw [hf.1]; simp), if_neg hf.2, List.length_append]
      rfl
    · intro e
      have hf : faultOf zs.length c = 0 ∧ c < 128 := by
        unfold stepSt at e
        rw [if_neg (by simp)] at e
        by_cases hf : faultOf zs.length c = 0
        · rw [if_neg (by simp [hf])] at e
          by_cases hc : c < 128
          · exact ⟨hf, hc⟩
          · rw [if_neg hc] at e; omega
        · rw [if_pos hf] at e; omega
      rw [hg.2, pre_snoc, scan, if_neg (by rw [hf.1]; simp), if_pos hf.2, List.length_append]
      rfl
  · have e1 : stepZs zs st c = zs := by simp [stepZs, hs]
    have e2 : stepSt zs st c = st := by simp [stepSt, hs]
    rw [e1, e2]; exact h

/-- The program's taker that has taken zs and stands so. -/
def VT (w : World) (b : Nat) (zs : List Int) (st : Nat) : Prop := ∃ n, IsT w b n zs.length (st == 1) (st == 2) ∧ (st ≠ 2 → n = pre zs 0 zs.length)

theorem VT.below {w w' : World} {b : Nat} {zs : List Int} {st B : Nat} (h : VT w b zs st) (hb : Below B w w') (hB : b < B) : VT w' b zs st := by
  obtain ⟨n, h1, h2⟩ := h
  exact ⟨n, h1.below hb hB, h2⟩
theorem VT.lt {w : World} {b : Nat} {zs : List Int} {st : Nat} (h : VT w b zs st) : b < w.heap.size := by
  obtain ⟨n, h1, h2⟩ := h
  exact h1.lt
theorem VT.block {w w' : World} {b : Nat} {zs : List Int} {st : Nat} (h : VT w b zs st) (hb : w'.heap[b]? = w.heap[b]?) : VT w' b zs st := by
  obtain ⟨n, h1, h2⟩ := h
  exact ⟨n, by unfold IsT at *; rw [hb]; exact h1, h2⟩

theorem vtake (b : Nat) (zs : List Int) (st : Nat) (c : Int) (w : World) (hV : VT w b zs st) (hG : Good zs st) (h0 : 0 ≤ c) (h1 : c ≤ 255) :
    Calls Try.prog 26 #[.pointer (some ⟨b, 0, none⟩), .int .u8 c] w fun e w' =>
      e = .returned (.tuple #[.bool (stepDone zs st c), .int .i64 (stepErr zs st c)]) ∧ VT w' b (stepZs zs st c) (stepSt zs st c) ∧ w'.heap.size = w.heap.size ∧ w.grownBy w' (some b) := by
  obtain ⟨n, hT, hn⟩ := hV
  by_cases hs : st = 0
  · subst hs
    have hg := hG.goes rfl
    have hnn := hn (by omega)
    have hnb := pre_bound zs 0 zs.length
    rw [← hnn] at hnb
    by_cases hf : faultOf zs.length c = 0
    · refine (take_right b zs.length c n w hT hg.1 h0 h1 hnb.1 hnb.2 hf).mono ?_
      rintro e w' ⟨rfl, hT', hsz, hgr⟩
      have e1 : stepZs zs 0 c = zs ++ [c] := by simp [stepZs]
      by_cases hc : c < 128
      · have e2 : stepSt zs 0 c = 1 := by simp [stepSt, hf, hc]
        have e3 : stepDone zs 0 c = true := by simp [stepDone, hf, hc]
        have e4 : stepErr zs 0 c = 0 := by simp [stepErr, hf]
        rw [e1, e2, e3, e4]
        rw [decide_eq_true hc] at hT' ⊢
        refine ⟨rfl, ⟨n + c % 128 * 128 ^ zs.length, ?_, fun _ => ?_⟩, hsz, hgr⟩
        · rw [List.length_append]; exact hT'
        · rw [pre_snoc, hnn]
      · have e2 : stepSt zs 0 c = 0 := by simp [stepSt, hf, hc]
        have e3 : stepDone zs 0 c = false := by simp [stepDone, hc]
        have e4 : stepErr zs 0 c = 0 := by simp [stepErr, hf]
        rw [e1, e2, e3, e4]
        rw [decide_eq_false hc] at hT' ⊢
        refine ⟨rfl, ⟨n + c % 128 * 128 ^ zs.length, ?_, fun _ => ?_⟩, hsz, hgr⟩
        · rw [List.length_append]; exact hT'
        · rw [pre_snoc, hnn]
    · refine (take_wrong b zs.length c n w hT hg.1 hf).mono ?_
      rintro e w' ⟨rfl, hT', hsz, hgr⟩
      have e1 : stepZs zs 0 c = zs ++ [c] := by simp [stepZs]
      have e2 : stepSt zs 0 c = 2 := by simp [stepSt, hf]
      have e3 : stepDone zs 0 c = false := by simp [stepDone, hf]
      have e4 : stepErr zs 0 c = faultOf zs.length c := by simp [stepErr]
      rw [e1, e2, e3, e4]
      refine ⟨rfl, ⟨n, ?_, fun h => absurd rfl h⟩, hsz, hgr⟩
      rw [List.length_append]; exact hT'
  · have h12 : (st == 1 || st == 2) = true := by
      have := hG.st2
      rcases (show st = 1 ∨ st = 2 by omega) with rfl | rfl <;> rfl
    refine (take_shut b c n zs.length (st == 1) (st == 2) w hT h12).mono ?_
    rintro e w' ⟨rfl, rfl⟩
    have e1 : stepZs zs st c = zs := by simp [stepZs, hs]
    have e2 : stepSt zs st c = st := by simp [stepSt, hs]
    have e3 : stepDone zs st c = false := by simp [stepDone, hs]
    have e4 : stepErr zs st c = 1 := by simp [stepErr, hs]
    rw [e1, e2, e3, e4]
    exact ⟨rfl, ⟨n, hT, hn⟩, rfl, grownBy_refl _ _⟩

/-- What Number tells. -/
def tellNum (zs : List Int) (st : Nat) : Int := if st = 1 then pre zs 0 zs.length else 0

theorem vnumber (b : Nat) (zs : List Int) (st : Nat) (w : World) (hV : VT w b zs st) :
    Calls Try.prog 28 #[.pointer (some ⟨b, 0, none⟩)] w fun e w' => e = .returned (.tuple #[.int .u64 (tellNum zs st), .bool (st == 1)]) ∧ w' = w := by
  obtain ⟨n, hT, hn⟩ := hV
  refine (number_any b n zs.length (st == 1) (st == 2) w hT).mono ?_
  rintro e w' ⟨rfl, rfl⟩
  refine ⟨?_, rfl⟩
  have : (if (st == 1) = true then n else 0) = tellNum zs st := by
    unfold tellNum
    by_cases h : st = 1
    · subst h; simp [hn (by omega)]
    · simp [h]
  rw [this]

theorem vtaken (b : Nat) (zs : List Int) (st : Nat) (w : World) (hV : VT w b zs st) :
    Calls Try.prog 27 #[.pointer (some ⟨b, 0, none⟩)] w fun e w' => e = .returned (.int .i64 (zs.length : Int)) ∧ w' = w := by
  obtain ⟨n, hT, hn⟩ := hV
  exact taken_any b n zs.length (st == 1) (st == 2) w hT

end Go.Proofs.Yteindoemdonagaa
