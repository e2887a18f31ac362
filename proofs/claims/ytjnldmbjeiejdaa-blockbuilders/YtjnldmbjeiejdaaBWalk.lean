/- block: the walker: start. -/
import Derived.Test.YtjnldmbjeiejdaaBTried
import Derived.Test.YtjnldmbjeiejdaaKTRead
namespace Go.Proofs.Ytjnldmbjeiejdaa
open Go.RowKit

/-- A walker's cells: the bytes, the place, how many entries, the next one's number, the key ahead. -/
structure WkR (W : World) (B g : Nat) (a : Option Addr) (l c p n num : Nat) (ls : List Int) (va : Value) : Prop where
  blk : W.heap[g]? = some (.cells #[.slice a l c, .int .i64 (p : Int), .int .i64 (n : Int), .int .i64 (num : Int), va] 93 (0, 0))
  own : W.ownsRow B 5 1 va ls.length (ls.map (Value.int .u8))
  dva : ∀ i, va.ownBlock = some i → i ≠ g
  gB : B ≤ g
def WkM (g : Nat) (va : Value) (i : Nat) : Prop := i = g ∨ va.ownBlock = some i
theorem WkR.lt {W : World} {B g : Nat} {a : Option Addr} {l c p n num : Nat} {ls : List Int} {va : Value} (h : WkR W B g a l c p n num ls va) : ∀ i, WkM g va i → B ≤ i ∧ i < W.heap.size := by
  rintro i (rfl | hi)
  · exact ⟨h.gB, lt_of_block h.blk⟩
  · exact h.own.lt i hi
theorem WkR.upd {W W' : World} {B g : Nat} {a : Option Addr} {l c p n num : Nat} {ls : List Int} {va : Value} {S : Nat → Prop} (h : WkR W B g a l c p n num ls va) (hu : Upd S W W') (hs : ∀ i, WkM g va i → ¬ S i) : WkR W' B g a l c p n num ls va :=
  ⟨hu.heap h.blk (hs _ (.inl rfl)), owns_upd h.own hu (fun _ hi => hs _ (.inr hi)), h.dva, h.gB⟩
theorem WkR.cells {W : World} {B g : Nat} {a : Option Addr} {l c p n num : Nat} {ls : List Int} {va : Value} (h : WkR W B g a l c p n num ls va) :
    W.cell? ⟨g, 0, none⟩ = some (.slice a l c) ∧ W.cell? ⟨g, 1, none⟩ = some (.int .i64 (p : Int)) ∧ W.cell? ⟨g, 2, none⟩ = some (.int .i64 (n : Int)) ∧ W.cell? ⟨g, 3, none⟩ = some (.int .i64 (num : Int)) ∧ W.cell? ⟨g, 4, none⟩ = some va ∧ ∀ j, W.frozen? ⟨g, j, none⟩ = false := by
  have hb := h.blk
  refine ⟨?_, ?_, ?_, ?_, ?_, fun j => by simp [World.frozen?, hb]⟩ <;> (rw [cell_of_row _ _ _ _ _ _ hb]; rfl)

def stE (zs : List Int) : Int := if er zs 0 ≠ 0 then er zs 0 else if nm zs 0 < 1 ∨ 64 < nm zs 0 then 61 else 0
def stP (zs : List Int) : Nat := if er zs 0 ≠ 0 then nx zs 0 else 0
def StPost (w : World) (a : Option Addr) (l c : Nat) (zs : List Int) (e : Ending) (w' : World) : Prop :=
  Below w.heap.size w w' ∧ ((stE zs = 0 ∧ ∃ g, w.heap.size ≤ g ∧ e = .returned (.pointer (some ⟨g, 0, none⟩)) ∧ WkR w' w.heap.size g a l c (nx zs 0) (nm zs 0) 0 [] (.slice none 0 0)) ∨ (stE zs ≠ 0 ∧ e = fallen (stE zs) (stP zs : Nat)))
theorem b8_fits {zs : List Int} (h : B8 zs) : Fits8 zs := fits8_of_mem h

set_option maxRecDepth 100000 in
set_option maxHeartbeats 800000 in
theorem start_any (a : Option Addr) (l c : Nat) (zs : List Int) (w : World) (hl : zs.length = l) (hm : l ≤ 140737488400000) (hr : Row w .u8 a zs) (z8 : B8 zs) :
    Calls Try.prog 39 #[.slice a l c] w (StPost w a l c zs) := by
  obtain ⟨q1, q2, q3, q4, q5, q6⟩ := rd_at zs 0 z8 (Nat.zero_le _)
  have HR := hide (read_any a l c 0 zs w hl (by unfold maxLen; omega) hr (b8_fits z8))
  rw [show ((0 : Nat) : Int) = 0 from rfl] at q1 q2 q3
  rw [q1, q2, q3] at HR
  have hP : Hid (∀ e w', StPost w a l c zs e w' ↔ (Below w.heap.size w w' ∧ ((stE zs = 0 ∧ ∃ g, w.heap.size ≤ g ∧ e = .returned (.pointer (some ⟨g, 0, none⟩)) ∧ WkR w' w.heap.size g a l c (nx zs 0) (nm zs 0) 0 [] (.slice none 0 0)) ∨ (stE zs ≠ 0 ∧ e = fallen (stE zs) (stP zs : Nat))))) := fun _ _ => Iff.rfl
  unfold stE stP at hP
  generalize nm zs 0 = n at *
  generalize nx zs 0 = x at *
  generalize er zs 0 = r at *
  clear q1 q2 q3 hr
  go_enter Try.func39, Try.ntmps39
  go_wp2_with fail
  refine HR.out.mono ?_
  rintro e w1 ⟨rfl, hb⟩
  have HB := hide hb
  clear hb
  by_cases hr0 : r = 0
  · subst hr0
    by_cases hn : n < 1 ∨ 64 < n
    · have HF : Hid (∀ w', Below w.heap.size w w' → StPost w a l c zs (fallen 61 0) w') := fun w' hb => by
        rw [hP.out]
        exact ⟨hb, .inr ⟨by rw [if_neg (by simp), if_pos hn]; decide, by rw [if_neg (by simp), if_pos hn, if_neg (by simp)]; rfl⟩⟩
      rcases hn with hn | hn
      · have h1 : (n : Int) < 1 := by omega
        go_wp2_with fail
        refine (giveUp_any 61 0 w1).mono ?_
        rintro e w2 ⟨rfl, rfl⟩
        exact ⟨rfl, HF.out _ HB.out⟩
      · have h1 : ¬ (n : Int) < 1 := by omega
        have h2 : (64 : Int) < (n : Int) := by omega
        go_wp2_with fail
        refine (giveUp_any 61 0 w1).mono ?_
        rintro e w2 ⟨rfl, rfl⟩
        exact ⟨rfl, HF.out _ HB.out⟩
    · have h1 : ¬ (n : Int) < 1 := by omega
      have h2 : ¬ (64 : Int) < (n : Int) := by omega
      have hw : IntKind.i64.wrap (n : Int) = (n : Int) := by rw [IntKind.wrap_i64]; omega
      go_wp2_with fail
      go_ret
      refine (hP.out _ _).2 ⟨HB.out.alloc HB.out.size _, .inl ⟨by rw [if_neg (by simp), if_neg hn], w1.heap.size, HB.out.size, rfl, heap_alloc_new w1 _, World.ownsRow_nil _ _ _ _, (fun i h => by cases h), HB.out.size⟩⟩
  · have hne : (r != 0) = true := by simp [hr0]
    go_wp2_with fail
    refine (giveUp_any r x w1).mono ?_
    rintro e w2 ⟨rfl, rfl⟩
    exact ⟨rfl, (hP.out _ _).2 ⟨HB.out, .inr ⟨by rw [if_pos hr0]; exact hr0, by rw [if_pos hr0, if_pos hr0]; rfl⟩⟩⟩

end Go.Proofs.Ytjnldmbjeiejdaa
