/- The document's Common, Compare, Key, Value, Check. -/
import Derived.Test.YtlachimmfjagbaaKBase
namespace Go.Proofs.Ytlachimmfjagbaa
open Go.RowKit

set_option maxHeartbeats 800000 in
theorem rcommon_core (b1 o1 c1 b2 o2 c2 l1 l2 : Nat) (xs ys : List Int) (w : World) (hl1 : l1 ≤ maxLen) (hl2 : l2 ≤ maxLen) (h1 : xs.length = l1) (h2 : ys.length = l2)
    (k1 : ∀ i, i < l1 → w.cell? ⟨b1, o1 + i, none⟩ = some (.int .u8 (xs.getD i 0))) (k2 : ∀ i, i < l2 → w.cell? ⟨b2, o2 + i, none⟩ = some (.int .u8 (ys.getD i 0))) :
    Calls Try.prog 57 #[.slice (some ⟨b1, o1, none⟩) l1 c1, .slice (some ⟨b2, o2, none⟩) l2 c2] w fun e w' => e = .returned (.int .i64 (comN xs ys : Nat)) ∧ ∃ m, w' = w.drewN m := by
  unfold maxLen at hl1 hl2
  have K1 := hide k1
  have K2 := hide k2
  clear k1 k2
  go_enter Try.func57, Try.ntmps57
  go_wp2
  go_loopw [5] (fun q wr => ∃ k m : Nat, k ≤ l1 ∧ k ≤ l2 ∧ q = .int .i64 (k : Int) ∧ wr = w.drewN m ∧ Hid (∀ i, i < k → xs.getD i 0 = ys.getD i 0)) (fun q _ => l1 - (intOf q).toNat)
  case atStart => exact ⟨0, 0, by omega, by omega, rfl, rfl, fun i hi => absurd hi (Nat.not_lt_zero i)⟩
  case round =>
    obtain ⟨k, m, hk1, hk2, rfl, rfl, HE⟩ := hrel
    by_cases hlt : k < l1
    · have i1 : (k : Int) < (l1 : Int) := by omega
      by_cases hlt2 : k < l2
      · have g1 : w.cell? ⟨b1, o1 + k, none⟩ = some (.int .u8 (xs.getD k 0)) := K1.out k hlt
        have g2 : w.cell? ⟨b2, o2 + k, none⟩ = some (.int .u8 (ys.getD k 0)) := K2.out k hlt2
        have i2 : (k : Int) < (l2 : Int) := by omega
        by_cases heq : xs.getD k 0 = ys.getD k 0
        · have HQ : Hid (∀ i, i < k + 1 → xs.getD i 0 = ys.getD i 0) := fun i hi => by
            by_cases e : i = k
            · subst e; exact heq
            · exact HE.out i (by omega)
          rw [heq] at g1
          generalize ys.getD k 0 = c at *
          generalize xs.getD k 0 = c' at *
          clear heq
          go_wp2
          go_quiet (fail)
          go_wp2
          go_roundw
          case rel => exact ⟨k + 1, _, by omega, by omega, by go_num, rfl, HQ⟩
          case measure => simp [intOf]; omega
        · have hne : (xs.getD k 0 == ys.getD k 0) = false := by rw [beq_eq_false_iff_ne]; exact heq
          have HC : Hid (comN xs ys = k) := comN_of k xs ys (by omega) (by omega) HE.out (.inr (.inr heq))
          generalize ys.getD k 0 = c at *
          generalize xs.getD k 0 = c' at *
          clear heq
          go_wp2
          go_quiet (fail)
          go_wp2
          go_ret
          exact ⟨ret_nat HC.out.symm, _, World.drewN_drewN _ _ _⟩
      · have HC : Hid (comN xs ys = k) := comN_of k xs ys (by omega) (by omega) HE.out (by omega)
        have i2 : ¬ (k : Int) < (l2 : Int) := by omega
        have HF : Hid (k = l2) := by show _ = _; omega
        go_wp2
        go_quiet (fail)
        go_wp2
        go_ret
        exact ⟨ret_nat HC.out.symm, _, World.drewN_drewN _ _ _⟩
    · have HC : Hid (comN xs ys = k) := comN_of k xs ys (by omega) (by omega) HE.out (by omega)
      have i1 : ¬ (k : Int) < (l1 : Int) := by omega
      go_wp2
      go_quiet (fail)
      go_wp2
      go_ret
      exact ⟨ret_nat HC.out.symm, _, World.drewN_drewN _ _ _⟩
theorem rcommon_nothing1 (a b : Option Addr) (c1 l2 c2 : Nat) (w : World) :
    Calls Try.prog 57 #[.slice a 0 c1, .slice b l2 c2] w fun e w' => e = .returned (.int .i64 0) ∧ ∃ m, w' = w.drewN m := by
  go_enter Try.func57, Try.ntmps57
  go_wp2
  refine wp_loop_rounds 1 ?_
  rw [rounds_succ]
  go_wp2
  go_quiet (fail)
  go_wp2
  go_ret
  exact ⟨rfl, _, rfl⟩
theorem rcommon_nothing2 (a b : Option Addr) (l1 c1 c2 : Nat) (w : World) (hp : 0 < l1) :
    Calls Try.prog 57 #[.slice a l1 c1, .slice b 0 c2] w fun e w' => e = .returned (.int .i64 0) ∧ ∃ m, w' = w.drewN m := by
  have i1 : (0 : Int) < (l1 : Int) := by omega
  go_enter Try.func57, Try.ntmps57
  go_wp2
  refine wp_loop_rounds 1 ?_
  rw [rounds_succ]
  go_wp2
  go_quiet (fail)
  go_wp2
  go_ret
  exact ⟨rfl, _, rfl⟩
theorem rcommon_any (a b : Option Addr) (l1 c1 l2 c2 : Nat) (xs ys : List Int) (w : World) (hl1 : l1 ≤ maxLen) (hl2 : l2 ≤ maxLen) (h1 : xs.length = l1) (h2 : ys.length = l2) (r1 : Row w .u8 a xs) (r2 : Row w .u8 b ys) :
    Calls Try.prog 57 #[.slice a l1 c1, .slice b l2 c2] w fun e w' => e = .returned (.int .i64 (comN xs ys : Nat)) ∧ ∃ m, w' = w.drewN m := by
  by_cases h01 : l1 = 0
  · subst h01
    obtain rfl : xs = [] := List.eq_nil_of_length_eq_zero h1
    exact (rcommon_nothing1 a b c1 l2 c2 w).mono fun e w' ⟨h1, h2⟩ => ⟨by rw [h1, comN_nil_l]; rfl, h2⟩
  · by_cases h02 : l2 = 0
    · subst h02
      obtain rfl : ys = [] := List.eq_nil_of_length_eq_zero h2
      exact (rcommon_nothing2 a b l1 c1 c2 w (by omega)).mono fun e w' ⟨h1, h2⟩ => ⟨by rw [h1, comN_nil_r]; rfl, h2⟩
    · obtain ⟨b1, o1, rfl, _, k1⟩ := r1.cons (by omega)
      obtain ⟨b2, o2, rfl, _, k2⟩ := r2.cons (by omega)
      exact rcommon_core b1 o1 c1 b2 o2 c2 l1 l2 xs ys w hl1 hl2 h1 h2 (by rw [← h1]; exact k1) (by rw [← h2]; exact k2)

set_option maxHeartbeats 800000 in
theorem rcompare_any (a b : Option Addr) (l1 c1 l2 c2 : Nat) (xs ys : List Int) (w : World) (hl1 : l1 ≤ maxLen) (hl2 : l2 ≤ maxLen) (h1 : xs.length = l1) (h2 : ys.length = l2) (r1 : Row w .u8 a xs) (r2 : Row w .u8 b ys) :
    Calls Try.prog 39 #[.slice a l1 c1, .slice b l2 c2] w fun e w' => e = .returned (.int .i64 (cmpI xs ys)) ∧ ∃ m, w' = w.drewN m := by
  have HC := hide (rcommon_any a b l1 c1 l2 c2 xs ys w hl1 hl2 h1 h2 r1 r2)
  have hle := comN_le xs ys
  have HI := hide (cmpI_com xs ys)
  unfold maxLen at hl1 hl2
  by_cases e1 : comN xs ys = l1
  · by_cases e2 : comN xs ys = l2
    · have HV : Hid (cmpI xs ys = 0) := by show _ = _; rw [HI.out, h1, h2, if_pos e1, if_pos e2]
      rw [HV.out]
      have q1 : ((comN xs ys : Nat) : Int) = (l1 : Int) := by omega
      have q2 : ((comN xs ys : Nat) : Int) = (l2 : Int) := by omega
      generalize comN xs ys = n at *
      subst e1
      obtain rfl : n = l2 := by omega
      clear q1 q2 r1 r2 HI e2
      go_enter Try.func39, Try.ntmps39
      go_wp2_with fail
      refine HC.out.mono ?_
      rintro e w1 ⟨rfl, m, rfl⟩
      go_wp2
      go_ret
      exact ⟨rfl, _, rfl⟩
    · have HV : Hid (cmpI xs ys = -1) := by show _ = _; rw [HI.out, h1, h2, if_pos e1, if_neg e2]
      rw [HV.out]
      generalize comN xs ys = n at *
      subst e1
      have q2 : (((n : Nat) : Int) == (l2 : Int)) = false := by rw [beq_eq_false_iff_ne]; omega
      clear r1 r2 HI e2
      go_enter Try.func39, Try.ntmps39
      go_wp2_with fail
      refine HC.out.mono ?_
      rintro e w1 ⟨rfl, m, rfl⟩
      go_wp2
      go_ret
      exact ⟨rfl, _, rfl⟩
  · by_cases e2 : comN xs ys = l2
    · have HV : Hid (cmpI xs ys = 1) := by show _ = _; rw [HI.out, h1, h2, if_neg e1, if_pos e2]
      rw [HV.out]
      generalize comN xs ys = n at *
      subst e2
      have q1 : (((n : Nat) : Int) == (l1 : Int)) = false := by rw [beq_eq_false_iff_ne]; omega
      clear r1 r2 HI e1
      go_enter Try.func39, Try.ntmps39
      go_wp2_with fail
      refine HC.out.mono ?_
      rintro e w1 ⟨rfl, m, rfl⟩
      go_wp2
      go_ret
      exact ⟨rfl, _, rfl⟩
    · have hn1 : comN xs ys < l1 := by omega
      have hn2 : comN xs ys < l2 := by omega
      obtain ⟨p1, o1, rfl, g1⟩ := r1 (comN xs ys) (by omega)
      obtain ⟨p2, o2, rfl, g2⟩ := r2 (comN xs ys) (by omega)
      have HI2 : Hid (cmpI xs ys = if xs.getD (comN xs ys) 0 < ys.getD (comN xs ys) 0 then -1 else 1) := by show _ = _; rw [HI.out, h1, h2, if_neg e1, if_neg e2]
      generalize comN xs ys = n at *
      have q1 : (((n : Nat) : Int) == (l1 : Int)) = false := by rw [beq_eq_false_iff_ne]; omega
      have q2 : (((n : Nat) : Int) == (l2 : Int)) = false := by rw [beq_eq_false_iff_ne]; omega
      have i1 : (n : Int) < (l1 : Int) := by omega
      have i2 : (n : Int) < (l2 : Int) := by omega
      clear r1 r2 HI e1 e2
      generalize xs.getD n 0 = c at *
      generalize ys.getD n 0 = d at *
      by_cases hlt : c < d
      · have HV : Hid (cmpI xs ys = -1) := by show _ = _; rw [HI2.out, if_pos hlt]
        rw [HV.out]
        go_enter Try.func39, Try.ntmps39
        go_wp2_with fail
        refine HC.out.mono ?_
        rintro e w1 ⟨rfl, m, rfl⟩
        go_wp2
        go_quiet (fail)
        go_wp2
        go_ret
        exact ⟨rfl, _, World.drewN_drewN _ _ _⟩
      · have HV : Hid (cmpI xs ys = 1) := by show _ = _; rw [HI2.out, if_neg hlt]
        rw [HV.out]
        go_enter Try.func39, Try.ntmps39
        go_wp2_with fail
        refine HC.out.mono ?_
        rintro e w1 ⟨rfl, m, rfl⟩
        go_wp2
        go_quiet (fail)
        go_wp2
        go_ret
        exact ⟨rfl, _, World.drewN_drewN _ _ _⟩

set_option maxHeartbeats 400000 in
theorem rkey_any (a : Option Addr) (l c : Nat) (w : World) :
    Calls Try.prog 38 #[.slice a l c] w fun e w' => e = .returned (.int .i64 (keyE l)) ∧ w' = w := by
  rcases keyE_cases l with ⟨h, h1 | h1⟩ | ⟨h, h1, h2⟩
  all_goals
    rw [h]
    clear h
    go_enter Try.func38, Try.ntmps38
    go_wp2
    go_ret
    exact ⟨rfl, rfl⟩
end Go.Proofs.Ytlachimmfjagbaa
