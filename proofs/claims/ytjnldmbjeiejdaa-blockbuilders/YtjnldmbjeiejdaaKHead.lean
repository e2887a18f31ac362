/- pair: readHead, fault, keyFault, join. -/
import Derived.Test.YtjnldmbjeiejdaaKScan
import Derived.Test.YtjnldmbjeiejdaaKTRead
import Derived.Test.YtjnldmbjeiejdaaKBetw
import Derived.Test.YtjnldmbjeiejdaaPUpd
import Derived.Laws.CopyOwn
namespace Go.Proofs.Ytjnldmbjeiejdaa
open Go.RowKit

theorem fits8_b8 {zs : List Int} (h : B8 zs) : Fits8 zs := fun i => by
  by_cases hi : i < zs.length
  · have := h zs[i] (List.getElem_mem hi)
    simpa [List.getD, hi] using this
  · simp [List.getD, hi]

set_option maxHeartbeats 800000 in
theorem fault_pair (x y z n : Nat) (w : World) (hx : x ≤ 18446744073709551615) (hy : y ≤ 18446744073709551615) (hz : z ≤ 18446744073709551615) (hn : n ≤ 140737488355328) :
    Calls Try.prog 86 #[.agg #[.int .u64 (x : Int), .int .u64 (y : Int), .int .u64 (z : Int)], .int .i64 (n : Int)] w fun e w' => e = .returned (.int .i64 (fltE x y z n)) ∧ Below w.heap.size w w' := by
  by_cases h1 : n < x
  · have e : fltE x y z n = 52 := by unfold fltE; rw [if_pos h1]
    rw [e]
    go_enter Try.func86, Try.ntmps86
    go_wp2
    go_ret
    exact ⟨rfl, (Below.refl _ _).alloc (Nat.le_refl _) _⟩
  · by_cases h2 : 64 < y
    · have e : fltE x y z n = 3 := by unfold fltE; rw [if_neg h1, if_pos (.inl h2)]
      rw [e]
      go_enter Try.func86, Try.ntmps86
      go_wp2
      go_ret
      exact ⟨rfl, (Below.refl _ _).alloc (Nat.le_refl _) _⟩
    · by_cases h3 : 256 < z
      · have e : fltE x y z n = 3 := by unfold fltE; rw [if_neg h1, if_pos (.inr h3)]
        rw [e]
        go_enter Try.func86, Try.ntmps86
        go_wp2
        go_ret
        exact ⟨rfl, (Below.refl _ _).alloc (Nat.le_refl _) _⟩
      · by_cases h4 : x + y < 1
        · have e : fltE x y z n = 3 := by unfold fltE; rw [if_neg h1, if_neg (by omega), if_pos (.inl h4)]
          rw [e]
          have q : (x : Int) + (y : Int) < 1 := by omega
          go_enter Try.func86, Try.ntmps86
          go_wp2
          go_ret
          exact ⟨rfl, (Below.refl _ _).alloc (Nat.le_refl _) _⟩
        · by_cases h5 : 64 < x + y
          · have e : fltE x y z n = 3 := by unfold fltE; rw [if_neg h1, if_neg (by omega), if_pos (.inr h5)]
            rw [e]
            have q : ¬ (x : Int) + (y : Int) < 1 := by omega
            have q2 : 64 < (x : Int) + (y : Int) := by omega
            go_enter Try.func86, Try.ntmps86
            go_wp2
            go_ret
            exact ⟨rfl, (Below.refl _ _).alloc (Nat.le_refl _) _⟩
          · have e : fltE x y z n = 0 := by unfold fltE; rw [if_neg h1, if_neg (by omega), if_neg (by omega)]
            rw [e]
            have q : ¬ (x : Int) + (y : Int) < 1 := by omega
            have q2 : ¬ 64 < (x : Int) + (y : Int) := by omega
            go_enter Try.func86, Try.ntmps86
            go_wp2
            go_ret
            exact ⟨rfl, (Below.refl _ _).alloc (Nat.le_refl _) _⟩

set_option maxHeartbeats 800000 in
theorem keyFault_any (a b : Option Addr) (l1 c1 l2 c2 x : Nat) (xs ys : List Int) (w : World) (hl1 : l1 ≤ 140737488355328) (hl2 : l2 ≤ 140737488355328) (h1 : xs.length = l1) (h2 : ys.length = l2) (r1 : Row w .u8 a xs) (r2 : Row w .u8 b ys) (b1 : B8 xs) (b2 : B8 ys) :
    Calls Try.prog 88 #[.slice a l1 c1, .slice b l2 c2, .int .i64 (x : Int)] w fun e w' => e = .returned (.int .i64 (kfE xs ys x)) ∧ ∃ m, w' = w.drewN m := by
  have HC := hide (common_any a b l1 c1 l2 c2 xs ys w (by unfold maxLen; omega) (by unfold maxLen; omega) h1 h2 r1 r2)
  have HB : Hid (∀ m, Calls Try.prog 64 #[.slice a l1 c1, .slice b l2 c2] (w.drewN m) fun e w' => e = .returned (.bool (decide (cmpI xs ys < 0))) ∧ w' = w.drewN m) := fun m => below_any a b l1 c1 l2 c2 xs ys (w.drewN m) h1 h2 (r1.drewR m) (r2.drewR m) b1 b2
  have hle := comN_le xs ys
  clear r1 r2
  by_cases q1 : x < comN xs ys
  · have e : kfE xs ys x = 52 := by unfold kfE; rw [if_pos q1]
    rw [e]
    generalize comN xs ys = n at *
    go_enter Try.func88, Try.ntmps88
    go_wp2_with fail
    refine HC.out.mono ?_
    rintro e w1 ⟨rfl, m, rfl⟩
    go_wp2_with fail
    go_ret
    exact ⟨rfl, _, rfl⟩
  · by_cases q2 : l1 = 0
    · have e : kfE xs ys x = 0 := by unfold kfE; rw [if_neg q1, if_neg (by omega)]
      rw [e]
      generalize comN xs ys = n at *
      subst q2
      go_enter Try.func88, Try.ntmps88
      go_wp2_with fail
      refine HC.out.mono ?_
      rintro e w1 ⟨rfl, m, rfl⟩
      go_wp2_with fail
      go_ret
      exact ⟨rfl, _, rfl⟩
    · have i1 : (0 : Int) < (l1 : Int) := by omega
      by_cases q3 : cmpI xs ys < 0
      · have e : kfE xs ys x = 0 := by unfold kfE; rw [if_neg q1, if_neg (by omega)]
        rw [e]
        rw [decide_eq_true q3] at HB
        generalize comN xs ys = n at *
        go_enter Try.func88, Try.ntmps88
        go_wp2_with fail
        refine HC.out.mono ?_
        rintro e w1 ⟨rfl, m, rfl⟩
        go_wp2_with fail
        refine keep (HB.out m) ?_
        go_wp2_with fail
        go_ret
        exact ⟨rfl, _, rfl⟩
      · have e : kfE xs ys x = 51 := by unfold kfE; rw [if_neg q1, if_pos ⟨by omega, q3⟩]
        rw [e]
        rw [decide_eq_false q3] at HB
        generalize comN xs ys = n at *
        go_enter Try.func88, Try.ntmps88
        go_wp2_with fail
        refine HC.out.mono ?_
        rintro e w1 ⟨rfl, m, rfl⟩
        go_wp2_with fail
        refine keep (HB.out m) ?_
        go_wp2_with fail
        go_ret
        exact ⟨rfl, _, rfl⟩

end Go.Proofs.Ytjnldmbjeiejdaa
