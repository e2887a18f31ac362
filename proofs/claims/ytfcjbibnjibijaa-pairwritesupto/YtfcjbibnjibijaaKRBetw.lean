/- The document's Between. -/
import Derived.Test.YtfcjbibnjibijaaKBetw
import Derived.Test.YtfcjbibnjibijaaKRef
namespace Go.Proofs.Ytfcjbibnjibijaa
open Go.RowKit

set_option maxHeartbeats 1600000 in
theorem rbetween_core (a : Option Addr) (p o l1 c1 l2 c2 : Nat) (xs ys : List Int) (w : World) (hl1 : l1 ≤ 140737488351232) (hl2 : l2 ≤ 140737488351232) (hc2 : l2 ≤ c2) (h1 : xs.length = l1) (h2 : ys.length = l2) (r1 : Row w .u8 a xs) (r2 : Row w .u8 (some ⟨p, o, none⟩) ys) :
    Calls Try.prog 28 #[.slice a l1 c1, .slice (some ⟨p, o, none⟩) l2 c2] w fun e w' => ∃ v, e = .returned (.tuple #[v, .int .i64 (btE xs ys)]) ∧ OwnB w' w.heap.size 5 v (btL xs ys) ∧ Below w.heap.size w w' := by
  obtain ⟨i0, hi, hz0, hz1, hz2⟩ := info_parts infoByte'
  have R1 := hide r1
  have R2 := hide r2
  clear r1 r2
  go_enter Try.func28, Try.ntmps28
  go_wp2_with fail
  go_loopw [6] (fun q wr => ∃ k m : Nat, k ≤ l2 + 1 ∧ q = .int .i64 (k : Int) ∧ wr = w.drewN m ∧ Hid (∀ i, i < k → 0 ≤ cmpI xs (ys.take i))) (fun q _ => l2 + 1 - (intOf q).toNat)
  case atStart => exact ⟨0, 0, by omega, rfl, rfl, fun i hi => absurd hi (Nat.not_lt_zero i)⟩
  case round =>
    obtain ⟨k, m, hk, rfl, rfl, HE⟩ := hrel
    by_cases hlt : k ≤ l2
    · have i1 : (k : Int) ≤ (l2 : Int) := by omega
      have i2 : (k : Int) ≤ (c2 : Int) := by omega
      have hlk : (ys.take k).length = k := by rw [List.length_take]; omega
      have HC : Hid (∀ c, Calls Try.prog 33 #[.slice a l1 c1, .slice (some ⟨p, o, none⟩) k c] (w.drewN m) fun e w' => e = .returned (.int .i64 (cmpI xs (ys.take k))) ∧ ∃ m2, w' = (w.drewN m).drewN m2) :=
        fun c => rcompare_any a _ l1 c1 k c xs (ys.take k) (w.drewN m) (by unfold maxLen; omega) (by unfold maxLen; omega) h1 hlk (R1.out.drewR m) ((R2.out.take k).drewR m)
      by_cases hcmp : cmpI xs (ys.take k) < 0
      · have HV : Hid (btE xs ys = 0 ∧ btL xs ys = ys.take k) := by
          have ht := cmpI_take ys k
          have hxy : cmpI xs ys < 0 := (cmpI_trans xs (ys.take k) ys (by omega) ht).2 hcmp
          have hroom := betw_room xs ys hxy
          have hk2 : comN xs ys + 1 = k := by
            have q1 := betw_least xs ys (ys.take k) hcmp ht
            rw [hlk] at q1
            by_cases e : comN xs ys + 1 = k
            · exact e
            · exfalso
              have := HE.out (comN xs ys + 1) (by omega)
              have h2 := betw_above xs ys hxy
              unfold betw at h2
              omega
          unfold btE btL betw
          rw [if_pos hxy, if_pos hxy, hk2]
          exact ⟨rfl, rfl⟩
        have HR : Hid (Row w .u8 (some ⟨p, o, none⟩) (ys.take k)) := R2.out.take k
        have HLK := hide hlk
        clear hlk
        generalize ys.take k = yk at *
        generalize cmpI xs yk = cv at *
        go_wp2_with fail
        refine (HC.out _).mono ?_
        rintro e w1 ⟨rfl, m2, rfl⟩
        go_wp2_with (first
          | (at_builtin; refine append_b rfl (.tmp 19) (.tmp 22) 23 rfl w.heap.size 5 i0 Try.underlying23 hi hz0 hz1 hz2 (.slice (some ⟨w.heap.size, 0, none⟩) 0 0) [] rfl (OwnB.made (w := (w.drewN m).drewN m2) #[] 0 (Nat.le_refl _) (by unfold maxLen; omega) rfl (by intro u hu; cases hu)) (some ⟨p, o, none⟩) k _ yk rfl HLK.out (by intro h; cases h) (((HR.out.drewR m).drewR m2).alloc _) (by simp; omega) (by simp) ?_; intro v4 w4 hown4 hg4; simp only [List.nil_append] at hown4)
          | fail)
        go_ret2
        exact ⟨v4, by rw [HV.out.1]; rfl, by rw [HV.out.2]; exact hown4, ((drewB (Below.refl _ _) (m + m2)).alloc (Nat.le_refl _) _).grown hg4 (by simp) (fun k h => by cases h; exact Nat.le_refl _)⟩
      · have HQ : Hid (∀ i, i < k + 1 → 0 ≤ cmpI xs (ys.take i)) := fun i hi => by
          by_cases e : i = k
          · subst e; omega
          · exact HE.out i (by omega)
        generalize cmpI xs (ys.take k) = cv at *
        go_wp2_with fail
        refine (HC.out _).mono ?_
        rintro e w1 ⟨rfl, m2, rfl⟩
        go_wp2_with fail
        go_roundw
        case rel => exact ⟨k + 1, _, by omega, by go_num, rfl, HQ⟩
        case measure => simp [intOf]; omega
    · have HV : Hid (btE xs ys = 51 ∧ btL xs ys = []) := by
        have := HE.out l2 (by omega)
        rw [List.take_of_length_le (by omega)] at this
        unfold btE btL
        rw [if_neg (by omega), if_neg (by omega)]
        exact ⟨rfl, rfl⟩
      have i1 : ¬ (k : Int) ≤ (l2 : Int) := by omega
      go_wp2_with fail
      go_ret2
      exact ⟨_, by rw [HV.out.1]; rfl, by rw [HV.out.2]; exact OwnB.nil _ _ _, drewB (Below.refl _ _) m⟩
set_option maxHeartbeats 800000 in
theorem rbetween_nothing (a b : Option Addr) (l1 c1 c2 : Nat) (xs : List Int) (w : World) (hl1 : l1 ≤ 140737488351232) (h1 : xs.length = l1) (r1 : Row w .u8 a xs) :
    Calls Try.prog 28 #[.slice a l1 c1, .slice b 0 c2] w fun e w' => ∃ v, e = .returned (.tuple #[v, .int .i64 51]) ∧ OwnB w' w.heap.size 5 v [] ∧ Below w.heap.size w w' := by
  have HC := hide (rcompare_any a b l1 c1 0 c2 xs [] w (by unfold maxLen; omega) (by unfold maxLen; omega) h1 rfl r1 (row_nil _ _ _))
  have hge : ¬ cmpI xs [] < 0 := by cases xs <;> simp [cmpI]
  clear r1
  generalize cmpI xs [] = cv at *
  go_enter Try.func28, Try.ntmps28
  go_wp2_with fail
  refine wp_loop_rounds 2 ?_
  rw [rounds_succ]
  go_wp2_with fail
  refine HC.out.mono ?_
  rintro e w1 ⟨rfl, m, rfl⟩
  go_wp2_with fail
  rw [rounds_succ]
  go_wp2_with fail
  go_ret2
  exact ⟨_, rfl, OwnB.nil _ _ _, drewB (Below.refl _ _) m⟩
theorem rbetween_any (a b : Option Addr) (l1 c1 l2 c2 : Nat) (xs ys : List Int) (w : World) (hl1 : l1 ≤ 140737488351232) (hl2 : l2 ≤ 140737488351232) (hc2 : l2 ≤ c2) (h1 : xs.length = l1) (h2 : ys.length = l2) (r1 : Row w .u8 a xs) (r2 : Row w .u8 b ys) :
    Calls Try.prog 28 #[.slice a l1 c1, .slice b l2 c2] w fun e w' => ∃ v, e = .returned (.tuple #[v, .int .i64 (btE xs ys)]) ∧ OwnB w' w.heap.size 5 v (btL xs ys) ∧ Below w.heap.size w w' := by
  by_cases h0 : l2 = 0
  · subst h0
    obtain rfl : ys = [] := List.eq_nil_of_length_eq_zero h2
    have hge : ¬ cmpI xs [] < 0 := by cases xs <;> simp [cmpI]
    unfold btE btL
    rw [if_neg hge, if_neg hge]
    exact rbetween_nothing a b l1 c1 c2 xs w hl1 h1 r1
  · obtain ⟨p, o, rfl, _, _⟩ := r2.cons (by omega)
    exact rbetween_core a p o l1 c1 l2 c2 xs ys w hl1 hl2 hc2 h1 h2 r1 r2

end Go.Proofs.Ytfcjbibnjibijaa
