/- Config, of the program and of the document. -/
import Derived.Test.YtclgimklfejohaaNTx
namespace Go.Proofs.Ytclgimklfejohaa
open Go.RowKit

/-- May a configuration be? -/
def cfgOk (nd lf inn fl bk : Int) : Prop := (1 ≤ nd ∧ nd ≤ 65536) ∧ (2 ≤ lf ∧ lf ≤ 64) ∧ (3 ≤ inn ∧ inn ≤ 64) ∧ (1 ≤ fl ∧ fl ≤ lf) ∧ (1 ≤ bk ∧ bk ≤ 64)
instance (nd lf inn fl bk : Int) : Decidable (cfgOk nd lf inn fl bk) := by unfold cfgOk; exact inferInstance
def cfgE (nd lf inn fl bk : Int) : Int := if cfgOk nd lf inn fl bk then 0 else 1

set_option maxHeartbeats 400000 in
theorem within_yes (n a b : Int) (w : World) (h1 : a ≤ n) (h2 : n ≤ b) : Calls Try.prog 52 #[.int .i64 n, .int .i64 a, .int .i64 b] w fun e w' => e = .returned (.bool true) ∧ w' = w := by
  go_enter Try.func52, Try.ntmps52
  go_wp2
  go_ret
  exact ⟨rfl, rfl⟩
set_option maxHeartbeats 400000 in
theorem within_no (n a b : Int) (w : World) (h : ¬ (a ≤ n ∧ n ≤ b)) : Calls Try.prog 52 #[.int .i64 n, .int .i64 a, .int .i64 b] w fun e w' => e = .returned (.bool false) ∧ w' = w := by
  by_cases h1 : a ≤ n
  · have h2 : ¬ n ≤ b := fun h2 => h ⟨h1, h2⟩
    clear h
    go_enter Try.func52, Try.ntmps52
    go_wp2
    go_ret
    exact ⟨rfl, rfl⟩
  · clear h
    go_enter Try.func52, Try.ntmps52
    go_wp2
    go_ret
    exact ⟨rfl, rfl⟩

set_option maxHeartbeats 1600000 in
theorem config_any (nd lf inn fl bk : Int) (w : World) : Calls Try.prog 38 #[.agg #[.int .i64 nd, .int .i64 lf, .int .i64 inn, .int .i64 fl, .int .i64 bk]] w fun e w' => e = .returned (.int .i64 (cfgE nd lf inn fl bk)) ∧ Below w.heap.size w w' := by
  by_cases h0 : 1 ≤ nd ∧ nd ≤ 65536
  · skip
    by_cases h1 : 2 ≤ lf ∧ lf ≤ 64
    · skip
      by_cases h2 : 3 ≤ inn ∧ inn ≤ 64
      · skip
        by_cases h3 : 1 ≤ fl ∧ fl ≤ lf
        · skip
          by_cases h4 : 1 ≤ bk ∧ bk ≤ 64
          · skip
            have HE : Hid (cfgE nd lf inn fl bk = 0) := if_pos ⟨h0, h1, h2, h3, h4⟩
            rw [HE.out]
            go_enter Try.func38, Try.ntmps38
            go_wp2_with fail
            refine keep (within_yes _ _ _ _ h0.1 h0.2) ?_
            go_wp2_with fail
            refine keep (within_yes _ _ _ _ h1.1 h1.2) ?_
            go_wp2_with fail
            refine keep (within_yes _ _ _ _ h2.1 h2.2) ?_
            go_wp2_with fail
            refine keep (within_yes _ _ _ _ h3.1 h3.2) ?_
            go_wp2_with fail
            refine keep (within_yes _ _ _ _ h4.1 h4.2) ?_
            go_wp2_with fail
            go_ret
            exact ⟨rfl, (Below.refl _ _).alloc (Nat.le_refl _) _⟩
          · have HE : Hid (cfgE nd lf inn fl bk = 1) := if_neg fun h => h4 h.2.2.2.2
            rw [HE.out]
            go_enter Try.func38, Try.ntmps38
            go_wp2_with fail
            refine keep (within_yes _ _ _ _ h0.1 h0.2) ?_
            go_wp2_with fail
            refine keep (within_yes _ _ _ _ h1.1 h1.2) ?_
            go_wp2_with fail
            refine keep (within_yes _ _ _ _ h2.1 h2.2) ?_
            go_wp2_with fail
            refine keep (within_yes _ _ _ _ h3.1 h3.2) ?_
            go_wp2_with fail
            refine keep (within_no _ _ _ _ h4) ?_
            go_wp2_with fail
            go_ret
            exact ⟨rfl, (Below.refl _ _).alloc (Nat.le_refl _) _⟩
        · have HE : Hid (cfgE nd lf inn fl bk = 1) := if_neg fun h => h3 h.2.2.2.1
          rw [HE.out]
          go_enter Try.func38, Try.ntmps38
          go_wp2_with fail
          refine keep (within_yes _ _ _ _ h0.1 h0.2) ?_
          go_wp2_with fail
          refine keep (within_yes _ _ _ _ h1.1 h1.2) ?_
          go_wp2_with fail
          refine keep (within_yes _ _ _ _ h2.1 h2.2) ?_
          go_wp2_with fail
          refine keep (within_no _ _ _ _ h3) ?_
          go_wp2_with fail
          go_ret
          exact ⟨rfl, (Below.refl _ _).alloc (Nat.le_refl _) _⟩
      · have HE : Hid (cfgE nd lf inn fl bk = 1) := if_neg fun h => h2 h.2.2.1
        rw [HE.out]
        go_enter Try.func38, Try.ntmps38
        go_wp2_with fail
        refine keep (within_yes _ _ _ _ h0.1 h0.2) ?_
        go_wp2_with fail
        refine keep (within_yes _ _ _ _ h1.1 h1.2) ?_
        go_wp2_with fail
        refine keep (within_no _ _ _ _ h2) ?_
        go_wp2_with fail
        go_ret
        exact ⟨rfl, (Below.refl _ _).alloc (Nat.le_refl _) _⟩
    · have HE : Hid (cfgE nd lf inn fl bk = 1) := if_neg fun h => h1 h.2.1
      rw [HE.out]
      go_enter Try.func38, Try.ntmps38
      go_wp2_with fail
      refine keep (within_yes _ _ _ _ h0.1 h0.2) ?_
      go_wp2_with fail
      refine keep (within_no _ _ _ _ h1) ?_
      go_wp2_with fail
      go_ret
      exact ⟨rfl, (Below.refl _ _).alloc (Nat.le_refl _) _⟩
  · have HE : Hid (cfgE nd lf inn fl bk = 1) := if_neg fun h => h0 h.1
    rw [HE.out]
    go_enter Try.func38, Try.ntmps38
    go_wp2_with fail
    refine keep (within_no _ _ _ _ h0) ?_
    go_wp2_with fail
    go_ret
    exact ⟨rfl, (Below.refl _ _).alloc (Nat.le_refl _) _⟩

end Go.Proofs.Ytclgimklfejohaa
