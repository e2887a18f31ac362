/- plan: call, bound; the clones. -/
import Derived.Test.YteindoemdonagaaG12
import Derived.Test.YteindoemdonagaaG6
import Derived.Lib.Bytes
import Derived.Lib.SliceRun
import Derived.Deep.RegionHeld3
import Derived.BigRegion
import Derived.Handy
namespace Go.Proofs.Yteindoemdonagaa
open Go.RowKit

theorem Still.upd {w w' : World} (h : Still w w') (S : Nat → Prop) : Upd S w w' := ⟨h.os, h.tape, h.output, by rw [h.heap]; exact Nat.le_refl _, fun k _ _ => by rw [h.heap]⟩
/-- Does the call with this number fail? -/
def failsAt (fail : Int) (c : Nat) : Bool := decide (1 ≤ fail ∧ fail ≤ (c : Int))
/-- How many of n bytes it moves. -/
def mostN (gs : List Int) (c n : Nat) : Nat := if c ≤ gs.length then min n (gs.getD (c - 1) 0).toNat else n
theorem mostN_le (gs : List Int) (c n : Nat) : mostN gs c n ≤ n := by
  unfold mostN
  split
  · exact Nat.min_le_left _ _
  · exact Nat.le_refl _

set_option maxHeartbeats 800000 in
theorem call_any (g : Nat) (fail : Int) (c : Nat) (w : World) (hc : c < 9223372036854775807) (h1 : w.cell? ⟨g, 1, none⟩ = some (.int .i64 fail)) (h2 : w.cell? ⟨g, 2, none⟩ = some (.int .i64 (c : Int))) (hf : w.frozen? ⟨g, 2, none⟩ = false) :
    Calls Try.prog 54 #[.pointer (some ⟨g, 0, none⟩)] w fun e w' => e = .returned (.bool (!failsAt fail (c + 1))) ∧ Still (w.setCell ⟨g, 2, none⟩ (.int .i64 ((c + 1 : Nat) : Int))) w' := by
  have k1 : (w.setCell ⟨g, 2, none⟩ (.int .i64 ((c : Int) + 1))).cell? ⟨g, 1, none⟩ = some (.int .i64 fail) := by
    rw [World.cell?_setCell_other w ⟨g, 2, none⟩ ⟨g, 1, none⟩ _ (by simp)]; exact h1
  have k2 : (w.setCell ⟨g, 2, none⟩ (.int .i64 ((c : Int) + 1))).cell? ⟨g, 2, none⟩ = some (.int .i64 ((c : Int) + 1)) := World.cell?_setCell_same w ⟨g, 2, none⟩ _ h2
  have e1 : ((c + 1 : Nat) : Int) = (c : Int) + 1 := by omega
  rw [e1]
  by_cases hA : fail < 1
  · have hz : failsAt fail (c + 1) = false := by simp [failsAt]; omega
    rw [hz]
    go_enter Try.func54, Try.ntmps54
    go_wp2_with fail
    go_quiet (fail)
    go_wp2
    go_ret
    exact ⟨rfl, (Still.refl _).drewN _⟩
  · by_cases hB : (c : Int) + 1 < fail
    · have hz : failsAt fail (c + 1) = false := by simp [failsAt]; omega
      rw [hz]
      go_enter Try.func54, Try.ntmps54
      go_wp2_with fail
      go_quiet (fail)
      go_wp2
      go_ret
      exact ⟨rfl, (Still.refl _).drewN _⟩
    · have hz : failsAt fail (c + 1) = true := by simp [failsAt]; omega
      rw [hz]
      go_enter Try.func54, Try.ntmps54
      go_wp2_with fail
      go_quiet (fail)
      go_wp2
      go_ret
      refine ⟨?_, (Still.refl _).drewN _⟩
      show Ending.returned (Value.bool (decide (fail < 1) || decide ((c : Int) + 1 < fail))) = _
      simp [hA, hB]


set_option maxHeartbeats 800000 in
theorem bound_any (g : Nat) (am : Option Addr) (lm cm : Nat) (gs : List Int) (c n : Nat) (w : World) (hl : gs.length = lm) (hn : n ≤ maxLen) (hc0 : 1 ≤ c) (hc : c ≤ 9223372036854775807) (h0 : w.cell? ⟨g, 0, none⟩ = some (.slice am lm cm)) (h2 : w.cell? ⟨g, 2, none⟩ = some (.int .i64 (c : Int))) (hr : Row w .i64 am gs) :
    Calls Try.prog 55 #[.pointer (some ⟨g, 0, none⟩), .int .i64 n] w fun e w' => e = .returned (.int .i64 (mostN gs c n : Nat)) ∧ ∃ m, w' = w.drewN m := by
  unfold maxLen at hn
  by_cases hA : lm < c
  · have hz : mostN gs c n = n := by unfold mostN; rw [if_neg (by omega)]
    rw [hz]
    have i1 : (lm : Int) < (c : Int) := by omega
    go_enter Try.func55, Try.ntmps55
    go_wp2_with fail
    go_quiet (fail)
    go_wp2
    go_ret
    exact ⟨rfl, _, rfl⟩
  · obtain ⟨j, rfl⟩ : ∃ j, c = j + 1 := ⟨c - 1, by omega⟩
    have hz : mostN gs (j + 1) n = min n (gs.getD j 0).toNat := by unfold mostN; rw [if_pos (by omega)]; rfl
    rw [hz]
    obtain ⟨b, off, rfl, hcell⟩ := hr j (by omega)
    clear hr hz
    generalize gs.getD j 0 = x at *
    have i1 : ¬ (lm : Int) < ((j + 1 : Nat) : Int) := by omega
    have i2 : ((j + 1 : Nat) : Int) - 1 = (j : Int) := by omega
    have i3 : (j : Int) < (lm : Int) := by omega
    have i4 : (0 : Int) ≤ (j : Int) := by omega
    generalize ((j + 1 : Nat) : Int) = cc at *
    go_enter Try.func55, Try.ntmps55
    go_wp2_with fail
    go_quiet (fail)
    go_wp2_with fail
    go_quiet (fail)
    go_wp2
    all_goals go_ret
    all_goals exact ⟨ret_int (by omega), _, rfl⟩

/-! ### Clones -/
theorem infoByte' : (Try.prog.info? 5).map (fun i => (i.zero, i.size, i.bytes)) = some (some (.int .u8 0), 1, 1) := by kernel_rfl
theorem infoInt' : (Try.prog.info? 3).map (fun i => (i.zero, i.size, i.bytes)) = some (some (.int .i64 0), 1, 8) := by kernel_rfl
theorem info_parts' {P : Program} {t : TypeId} {z : Value} {n m : Nat} (h : (P.info? t).map (fun i => (i.zero, i.size, i.bytes)) = some (some z, n, m)) : ∃ i, P.info? t = some i ∧ i.zero = some z ∧ i.size = n ∧ i.bytes = m := by
  cases hi : P.info? t with
  | none => rw [hi] at h; cases h
  | some i =>
    rw [hi] at h
    simp only [Option.map_some, Option.some.injEq, Prod.mk.injEq] at h
    exact ⟨i, rfl, h.1, h.2.1, h.2.2⟩

set_option maxHeartbeats 800000 in
theorem bclone_some (x : Addr) (len cap : Nat) (zs : List Int) (w : World) (hl : zs.length = len) (hm : len ≤ 140737488355328) (hr : Row w .u8 (some x) zs) :
    Calls Try.prog 22 #[.slice (some x) len cap] w fun e w' => ∃ v, e = .returned v ∧ OwnB w' w.heap.size 5 v zs ∧ Below w.heap.size w w' := by
  obtain ⟨i0, hi, hz0, hz1, hz2⟩ := info_parts' infoByte'
  have HR := hide hr
  clear hr
  have qn : ∀ w : World, (binOp .eql 32 (.slice (some x) len cap) (.slice none 0 0)).run Try.prog w = .ok (.bool false) w := fun w => Lib.run_eql_slice_nil w _ _ _ _ _ _ _ Try.underlying32
  go_enter Try.func22, Try.ntmps22
  go_wp2_with (first
    | (at_builtin; refine append_b rfl (.tmp 5) (.tmp 6) 32 rfl w.heap.size 5 i0 Try.underlying32 hi hz0 hz1 hz2 (.slice (some ⟨w.heap.size, 0, none⟩) 0 0) [] rfl (OwnB.made #[] 0 (Nat.le_refl _) (by unfold maxLen; omega) rfl (by intro u hu; cases hu)) (some x) len cap zs rfl hl (by intro h; cases h) (HR.out.alloc _) (by simp; omega) (by simp) ?_; intro v4 w4 hown4 hg4; simp only [List.nil_append] at hown4)
    | fail)
  go_ret
  exact ⟨v4, rfl, hown4, ((Below.refl _ _).alloc (Nat.le_refl _) _).grown hg4 (by simp) (fun k h => by cases h; exact Nat.le_refl _)⟩
set_option maxHeartbeats 400000 in
theorem bclone_nil (w : World) : Calls Try.prog 22 #[.slice none 0 0] w fun e w' => e = .returned (.slice none 0 0) ∧ w' = w := by
  have qn : ∀ w : World, (binOp .eql 32 (.slice none 0 0) (.slice none 0 0)).run Try.prog w = .ok (.bool true) w := fun w => Lib.run_eql_slice_nil w _ _ _ _ _ _ _ Try.underlying32
  go_enter Try.func22, Try.ntmps22
  go_wp2
  go_ret
  exact ⟨rfl, rfl⟩
theorem bclone_any (a : Option Addr) (len cap : Nat) (zs : List Int) (w : World) (hl : zs.length = len) (hm : len ≤ 140737488355328) (hn : a = none → len = 0 ∧ cap = 0) (hr : Row w .u8 a zs) :
    Calls Try.prog 22 #[.slice a len cap] w fun e w' => ∃ v, e = .returned v ∧ OwnB w' w.heap.size 5 v zs ∧ Below w.heap.size w w' := by
  cases a with
  | none =>
    obtain ⟨rfl, rfl⟩ := hn rfl
    obtain rfl : zs = [] := List.eq_nil_of_length_eq_zero hl
    exact (bclone_nil w).mono fun e w' ⟨h1, h2⟩ => ⟨_, h1, OwnB.nil _ _ _, by rw [h2]; exact Below.refl _ _⟩
  | some x =>
    exact bclone_some x len cap zs w hl hm hr

set_option maxHeartbeats 800000 in
theorem iclone_some (x : Addr) (len cap : Nat) (zs : List Int) (w : World) (hl : zs.length = len) (hm : len * 8 ≤ 140737488355328) (hr : Row w .i64 (some x) zs) :
    Calls Try.prog 30 #[.slice (some x) len cap] w fun e w' => ∃ v, e = .returned v ∧ w'.ownsRow w.heap.size 3 1 v len (zs.map (Value.int .i64)) ∧ Below w.heap.size w w' := by
  obtain ⟨i0, hi, hz0, hz1, hz2⟩ := info_parts' infoInt'
  have HR := hide hr
  clear hr
  have qn : ∀ w : World, (binOp .eql 23 (.slice (some x) len cap) (.slice none 0 0)).run Try.prog w = .ok (.bool false) w := fun w => Lib.run_eql_slice_nil w _ _ _ _ _ _ _ Try.underlying23
  go_enter Try.func30, Try.ntmps30
  go_wp2_with (first
    | (at_builtin; refine append_own_any rfl (.tmp 5) (.tmp 6) 23 rfl w.heap.size 3 i0 (.int .i64 0) 1 8 Try.underlying23 hi hz0 hz1 hz2 rfl (by decide) (.slice (some ⟨w.heap.size, 0, none⟩) 0 0) 0 [] rfl (World.ownsRow_made w #[] 0 (Nat.le_refl _) (by unfold maxLen; omega) rfl) (some x) len cap (zs.map (Value.int .i64)) rfl (by simp [hl]) (by intro h; cases h) ((HR.out.alloc _).cells) (ints_oneCell _ _) (by unfold maxLen; omega) (by omega) (by simp) ?_; intro v4 w4 hown4 hg4; simp only [Nat.zero_add, List.nil_append] at hown4)
    | fail)
  go_ret
  exact ⟨v4, rfl, hown4, ((Below.refl _ _).alloc (Nat.le_refl _) _).grown hg4 (by simp) (fun k h => by cases h; exact Nat.le_refl _)⟩
set_option maxHeartbeats 400000 in
theorem iclone_nil (w : World) : Calls Try.prog 30 #[.slice none 0 0] w fun e w' => e = .returned (.slice none 0 0) ∧ w' = w := by
  have qn : ∀ w : World, (binOp .eql 23 (.slice none 0 0) (.slice none 0 0)).run Try.prog w = .ok (.bool true) w := fun w => Lib.run_eql_slice_nil w _ _ _ _ _ _ _ Try.underlying23
  go_enter Try.func30, Try.ntmps30
  go_wp2
  go_ret
  exact ⟨rfl, rfl⟩
theorem iclone_any (a : Option Addr) (len cap : Nat) (zs : List Int) (w : World) (hl : zs.length = len) (hm : len * 8 ≤ 140737488355328) (hn : a = none → len = 0 ∧ cap = 0) (hr : Row w .i64 a zs) :
    Calls Try.prog 30 #[.slice a len cap] w fun e w' => ∃ v, e = .returned v ∧ w'.ownsRow w.heap.size 3 1 v len (zs.map (Value.int .i64)) ∧ Below w.heap.size w w' := by
  cases a with
  | none =>
    obtain ⟨rfl, rfl⟩ := hn rfl
    obtain rfl : zs = [] := List.eq_nil_of_length_eq_zero hl
    exact (iclone_nil w).mono fun e w' ⟨h1, h2⟩ => ⟨_, h1, ⟨rfl, .inl ⟨rfl, rfl⟩⟩, by rw [h2]; exact Below.refl _ _⟩
  | some x =>
    exact iclone_some x len cap zs w hl hm hr

end Go.Proofs.Yteindoemdonagaa
