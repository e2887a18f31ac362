/- What 'same' answers: whether two rows of bytes are the same; it only reads. -/
import Derived.Test.YteindoemdonagaaRows
import Derived.Test.YteindoemdonagaaG1
import Derived.WalkKit
import Derived.WalkSpells
import Derived.WalkLawsBesides
import Derived.Deep.QuietTactic
import Derived.BigQuiet
namespace Go.Proofs.Yteindoemdonagaa
open Go.RowKit

/-- Nothing in memory has turned. -/
structure Still (w w' : World) : Prop where
  heap : w'.heap = w.heap
  os : w'.os = w.os
  tape : w'.tape = w.tape
  output : w'.output = w.output

theorem Still.refl (w : World) : Still w w := ⟨rfl, rfl, rfl, rfl⟩
theorem Still.trans {a b c : World} (h : Still a b) (k : Still b c) : Still a c := ⟨k.heap.trans h.heap, k.os.trans h.os, k.tape.trans h.tape, k.output.trans h.output⟩
theorem Still.drewN {a w : World} (h : Still a w) (n : Nat) : Still a (w.drewN n) := ⟨h.heap, h.os, h.tape, h.output⟩
theorem Still.drew {a w : World} (h : Still a w) : Still a w.drew := ⟨h.heap, h.os, h.tape, h.output⟩
theorem Still.below {w w' : World} (h : Still w w') (B : Nat) : Below B w w' := ⟨h.os, h.tape, h.output, by rw [h.heap]; exact Nat.le_refl _, fun k _ => by rw [h.heap]⟩
theorem Still.cell {w w' : World} (h : Still w w') (a : Addr) : w'.cell? a = w.cell? a := by simp only [World.cell?, h.heap]
theorem Still.row {w w' : World} {k : IntKind} {a : Option Addr} {zs : List Int} (h : Still w w') (hr : Row w k a zs) : Row w' k a zs := by
  intro i hi
  obtain ⟨b, off, ha, hc⟩ := hr i hi
  exact ⟨b, off, ha, (h.cell _).trans hc⟩

theorem eq_of_getD {xs ys : List Int} (h : xs.length = ys.length) (hx : ∀ i, i < xs.length → xs.getD i 0 = ys.getD i 0) : xs = ys := by
  refine List.ext_getElem h fun i h1 h2 => ?_
  have := hx i h1
  simpa [List.getD, h1, h2] using this

set_option maxHeartbeats 400000 in
theorem same_unlike (a b : Option Addr) (l1 c1 l2 c2 : Nat) (w : World) (hne : l1 ≠ l2) :
    Calls Try.prog 16 #[.slice a l1 c1, .slice b l2 c2] w fun e w' => e = .returned (.bool false) ∧ w' = w := by
  have hb : ((l1 : Int) != (l2 : Int)) = true := by rw [bne_iff_ne]; omega
  go_enter Try.func16, Try.ntmps16
  go_wp2
  go_ret
  exact ⟨rfl, rfl⟩

set_option maxHeartbeats 400000 in
theorem same_some (b1 o1 c1 b2 o2 c2 l : Nat) (xs ys : List Int) (w : World) (hl : l ≤ maxLen) (h1 : xs.length = l) (h2 : ys.length = l)
    (k1 : ∀ i, i < l → w.cell? ⟨b1, o1 + i, none⟩ = some (.int .u8 (xs.getD i 0))) (k2 : ∀ i, i < l → w.cell? ⟨b2, o2 + i, none⟩ = some (.int .u8 (ys.getD i 0))) :
    Calls Try.prog 16 #[.slice (some ⟨b1, o1, none⟩) l c1, .slice (some ⟨b2, o2, none⟩) l c2] w fun e w' => e = .returned (.bool (decide (xs = ys))) ∧ Still w w' := by
  unfold maxLen at hl
  go_enter Try.func16, Try.ntmps16
  go_wp2
  go_loopw [5] (fun q wr => ∃ k : Nat, k ≤ l ∧ q = .int .i64 (k : Int) ∧ Still w wr ∧ Hid (∀ i, i < k → xs.getD i 0 = ys.getD i 0)) (fun q _ => l - (intOf q).toNat)
  case atStart => exact ⟨0, by omega, rfl, Still.refl _, fun i hi => absurd hi (Nat.not_lt_zero i)⟩
  case round =>
    obtain ⟨k, hk, rfl, hst, HE⟩ := hrel
    by_cases hlt : k < l
    · have g1 : wr.cell? ⟨b1, o1 + k, none⟩ = some (.int .u8 (xs.getD k 0)) := (hst.cell _).trans (k1 k hlt)
      have g2 : wr.cell? ⟨b2, o2 + k, none⟩ = some (.int .u8 (ys.getD k 0)) := (hst.cell _).trans (k2 k hlt)
      have hi : (k : Int) < (l : Int) := by omega
      by_cases heq : xs.getD k 0 = ys.getD k 0
      · have HQ : Hid (∀ i, i < k + 1 → xs.getD i 0 = ys.getD i 0) := fun i hi => by
          by_cases e : i = k
          · subst e; exact heq
          · exact HE.out i (by omega)
        rw [heq] at g1
        generalize ys.getD k 0 = c at *
        generalize xs.getD k 0 = c' at *
        clear heq
        go_wp2
        go_quiet (fail)
        go_wp2
        go_roundw
        case rel => exact ⟨k + 1, by omega, by go_num, hst.drewN _, HQ⟩
        case measure => simp [intOf]; omega
      · have hne : (xs.getD k 0 != ys.getD k 0) = true := by rw [bne_iff_ne]; exact heq
        have HN : Hid (decide (xs = ys) = false) := by
          show decide (xs = ys) = false
          simp only [decide_eq_false_iff_not]
          intro e; subst e; exact heq rfl
        generalize ys.getD k 0 = c at *
        generalize xs.getD k 0 = c' at *
        clear heq
        go_wp2
        go_quiet (fail)
        go_wp2
        go_ret
        exact ⟨by rw [HN.out]; rfl, hst.drewN _⟩
    · have HN : Hid (decide (xs = ys) = true) := by
        show decide (xs = ys) = true
        simp only [decide_eq_true_eq]
        exact eq_of_getD (by omega) fun i hi => HE.out i (by omega)
      have hge : ¬ (k : Int) < (l : Int) := by omega
      go_wp2
      go_ret
      exact ⟨by rw [HN.out]; rfl, hst⟩

set_option maxHeartbeats 400000 in
theorem same_nothing (a b : Option Addr) (c1 c2 : Nat) (w : World) :
    Calls Try.prog 16 #[.slice a 0 c1, .slice b 0 c2] w fun e w' => e = .returned (.bool true) ∧ w' = w := by
  go_enter Try.func16, Try.ntmps16
  go_wp2
  refine wp_loop_rounds 1 ?_
  rw [rounds_succ]
  go_wp2
  go_ret
  exact ⟨rfl, rfl⟩

/-- 'same' of any two rows of bytes. -/
theorem same_any (a b : Option Addr) (l1 c1 l2 c2 : Nat) (xs ys : List Int) (w : World) (hl1 : l1 ≤ maxLen) (h1 : xs.length = l1) (h2 : ys.length = l2) (r1 : Row w .u8 a xs) (r2 : Row w .u8 b ys) :
    Calls Try.prog 16 #[.slice a l1 c1, .slice b l2 c2] w fun e w' => e = .returned (.bool (decide (xs = ys))) ∧ Still w w' := by
  by_cases hne : l1 = l2
  · subst hne
    by_cases h0 : l1 = 0
    · subst h0
      have e1 : xs = [] := List.eq_nil_of_length_eq_zero h1
      have e2 : ys = [] := List.eq_nil_of_length_eq_zero h2
      subst e1 e2
      refine (same_nothing a b c1 c2 w).mono ?_
      rintro e w' ⟨rfl, rfl⟩
      exact ⟨rfl, Still.refl _⟩
    · obtain ⟨b1, o1, rfl, _, k1⟩ := r1.cons (by omega)
      obtain ⟨b2, o2, rfl, _, k2⟩ := r2.cons (by omega)
      exact same_some b1 o1 c1 b2 o2 c2 l1 xs ys w hl1 h1 h2 (by rw [← h1]; exact k1) (by rw [← h2]; exact k2)
  · refine (same_unlike a b l1 c1 l2 c2 w hne).mono ?_
    rintro e w' ⟨rfl, rfl⟩
    refine ⟨?_, Still.refl _⟩
    have : decide (xs = ys) = false := by
      simp only [decide_eq_false_iff_not]
      intro e; subst e; omega
    rw [this]

end Go.Proofs.Yteindoemdonagaa

namespace Go.Proofs.Yteindoemdonagaa
open Go.RowKit

set_option maxHeartbeats 400000 in
theorem sameq_some (b1 o1 c1 b2 o2 c2 l : Nat) (xs : List Int) (w : World) (hl : l ≤ maxLen)
    (k1 : ∀ i, i < l → w.cell? ⟨b1, o1 + i, none⟩ = some (.int .u8 (xs.getD i 0))) (k2 : ∀ i, i < l → w.cell? ⟨b2, o2 + i, none⟩ = some (.int .u8 (xs.getD i 0))) :
    Calls Try.prog 16 #[.slice (some ⟨b1, o1, none⟩) l c1, .slice (some ⟨b2, o2, none⟩) l c2] w fun e w' => e = .returned (.bool true) ∧ ∃ m, w' = w.drewN m := by
  unfold maxLen at hl
  go_enter Try.func16, Try.ntmps16
  go_wp2
  go_loopw [5] (fun q wr => ∃ k m : Nat, k ≤ l ∧ q = .int .i64 (k : Int) ∧ wr = w.drewN m) (fun q _ => l - (intOf q).toNat)
  case atStart => exact ⟨0, 0, by omega, rfl, rfl⟩
  case round =>
    obtain ⟨k, m, hk, rfl, rfl⟩ := hrel
    by_cases hlt : k < l
    · have g1 : (w.drewN m).cell? ⟨b1, o1 + k, none⟩ = some (.int .u8 (xs.getD k 0)) := k1 k hlt
      have g2 : (w.drewN m).cell? ⟨b2, o2 + k, none⟩ = some (.int .u8 (xs.getD k 0)) := k2 k hlt
      have hi : (k : Int) < (l : Int) := by omega
      generalize xs.getD k 0 = c at *
      go_wp2
      go_quiet (fail)
      go_wp2
      go_roundw
      case rel => exact ⟨k + 1, _, by omega, by go_num, rfl⟩
      case measure => simp [intOf]; omega
    · have hge : ¬ (k : Int) < (l : Int) := by omega
      go_wp2
      go_ret
      exact ⟨rfl, _, rfl⟩
theorem sameq (a b : Option Addr) (l c1 c2 : Nat) (xs : List Int) (w : World) (hl1 : l ≤ maxLen) (h1 : xs.length = l) (r1 : Row w .u8 a xs) (r2 : Row w .u8 b xs) :
    Calls Try.prog 16 #[.slice a l c1, .slice b l c2] w fun e w' => e = .returned (.bool true) ∧ ∃ m, w' = w.drewN m := by
  by_cases h0 : l = 0
  · subst h0
    exact (same_nothing a b c1 c2 w).mono fun e w' ⟨h1, h2⟩ => ⟨h1, 0, h2⟩
  · obtain ⟨b1, o1, rfl, _, k1⟩ := r1.cons (by omega)
    obtain ⟨b2, o2, rfl, _, k2⟩ := r2.cons (by omega)
    exact sameq_some b1 o1 c1 b2 o2 c2 l xs w hl1 (by rw [← h1]; exact k1) (by rw [← h1]; exact k2)

end Go.Proofs.Yteindoemdonagaa
