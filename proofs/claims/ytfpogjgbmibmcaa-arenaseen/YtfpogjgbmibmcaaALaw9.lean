/- Words of arenas, as numbers. -/
import Derived.Test.YtfpogjgbmibmcaaALaw8
namespace Go.Proofs.Ytfpogjgbmibmcaa
open Go.RowKit
theorem AS.setw_len (s : AS) (id : Int) (x : Nat) : (s.setw id x).sl.length = s.sl.length := by simp [AS.setw]
theorem AS.setw_inn {s : AS} {id id' : Int} {x : Nat} (h : s.inn id) : (s.setw id' x).inn id := by unfold AS.inn at *; rw [AS.setw_len]; exact h
theorem AS.setw_w {s : AS} {id : Int} {x : Nat} (h : s.inn id) : (s.setw id x).w id = x := by
  obtain ⟨i, hi, _, e⟩ := AS.idx h
  unfold AS.w AS.setw
  simp only [e]
  rw [List.getD_eq_getElem?_getD, List.getElem?_set_self hi]
  rfl
/-- A latch that is held, and what it is given back as. -/
theorem held_lock {s : AS} {id : Int} (ho : s.w id % 2 = 1) (x : Nat) : s.lockB id x = false ∧ s.lockS id x = s := by
  have hn : ¬ (s.inn id ∧ s.w id = x ∧ x % 2 = 0) := fun ⟨_, h1, h2⟩ => by omega
  exact ⟨decide_eq_false hn, if_neg hn⟩
theorem took_held {s : AS} {id : Int} (h : s.inn id) : (s.lockS id (s.w id)).inn id ∧ (s.lockS id (s.w id)).w id = (if s.w id % 2 = 0 then s.w id + 1 else s.w id) ∧ s.lockB id (s.w id) = decide (s.w id % 2 = 0) := by
  by_cases hx : s.w id % 2 = 0
  · rw [show s.lockS id (s.w id) = s.setw id (s.w id + 1) from if_pos ⟨h, rfl, hx⟩, if_pos hx]
    exact ⟨AS.setw_inn h, AS.setw_w h, by unfold AS.lockB; rw [decide_eq_true ⟨h, rfl, hx⟩, decide_eq_true hx]⟩
  · rw [show s.lockS id (s.w id) = s from if_neg (fun e => hx e.2.2), if_neg hx]
    exact ⟨h, rfl, by unfold AS.lockB; rw [decide_eq_false (fun e => hx e.2.2), decide_eq_false hx]⟩
theorem unl_held {s : AS} {id : Int} (h : s.inn id) (ho : s.w id % 2 = 1) (ch : Bool) : s.unlE id = 0 ∧ s.unlS id ch = s.setw id (freeW (s.w id) ch) := by
  have hE : s.unlE id = 0 := by unfold AS.unlE; rw [if_pos h, if_neg (by omega)]
  exact ⟨hE, if_pos hE⟩
theorem wordW_in {s : AS} {id : Int} (h : s.inn id) : s.wordW id = s.w id ∧ s.wordE id = 0 := ⟨if_pos h, if_pos h⟩
theorem freeW_even {y : Nat} (ho : y % 2 = 1) (ch : Bool) : freeW y ch % 2 = 0 := by
  unfold freeW
  cases ch
  · simp; omega
  · simp only [if_true]; omega
/-- Behind a latch that was taken at an even word x. -/
theorem free_back (x : Nat) (ch : Bool) : (decide (freeW (x + 1) ch = x)) = !ch := by
  unfold freeW
  cases ch
  · simp
  · simp only [if_true, Bool.not_true, decide_eq_false_iff_not]; omega
/-- The number that a raw one speaks of among the taken. -/
def AS.nth (s : AS) (c : Int) : Int := 1 + ((pickN c s.sl.length : Nat) : Int)
theorem AS.nth_in {s : AS} (c : Int) (h : 1 ≤ s.sl.length) : s.inn (s.nth c) := by
  have := pickN_lt c s.sl.length (by omega)
  unfold AS.inn AS.nth
  omega

end Go.Proofs.Ytfpogjgbmibmcaa
