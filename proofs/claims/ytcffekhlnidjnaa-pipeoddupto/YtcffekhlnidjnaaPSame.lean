/- 'same' of one text with itself: it only draws. -/
import Derived.Test.YtcffekhlnidjnaaSame
namespace Go.Proofs.Ytcffekhlnidjnaa
open Go.RowKit

set_option maxHeartbeats 400000 in
theorem sameq_some (b1 o1 c1 b2 o2 c2 l : Nat) (xs : List Int) (w : World) (hl : l ≤ maxLen)
    (k1 : ∀ i, i < l → w.cell? ⟨b1, o1 + i, none⟩ = some (.int .u8 (xs.getD i 0))) (k2 : ∀ i, i < l → w.cell? ⟨b2, o2 + i, none⟩ = some (.int .u8 (xs.getD i 0))) :
    Calls Try.prog 15 #[.slice (some ⟨b1, o1, none⟩) l c1, .slice (some ⟨b2, o2, none⟩) l c2] w fun e w' => e = .returned (.bool true) ∧ ∃ m, w' = w.drewN m := by
  unfold maxLen at hl
  go_enter Try.func15, Try.ntmps15
  go_wp2
  go_loopw [5] (fun q wr => ∃ k m : Nat, k ≤ l ∧ q = .int .i64 (k : Int) ∧ wr = w.drewN m) (fun q _ => l - (intOf q).toNat)
  case atStart => exact ⟨0, 0, by omega, rfl, rfl⟩
  case round =>
    obtain ⟨k, m, hk, rfl, rfl⟩ := hrel
    by_cases hlt : k < l
    · have g1 : (w.drewN m).cell? ⟨b1, o1 + k, none⟩ = some (.int .u8 (xs.getD k 0)) := k1 k hlt
      have g2 : (w.drewN m).cell? ⟨b2, o2 + k, none⟩ = some (.int .u8 (xs.getD k 0)) := k2 k hlt
      have hi : (k : Int) < (l : Int) := by omega
      generalize xs.getD k 0 = c at *
      go_wp2
      go_quiet (fail)
      go_wp2
      go_roundw
      case rel => exact ⟨k + 1, _, by omega, by go_num, rfl⟩
      case measure => simp [intOf]; omega
    · have hge : ¬ (k : Int) < (l : Int) := by omega
      go_wp2
      go_ret
      exact ⟨rfl, _, rfl⟩
theorem sameq (a b : Option Addr) (l c1 c2 : Nat) (xs : List Int) (w : World) (hl1 : l ≤ maxLen) (h1 : xs.length = l) (r1 : Row w .u8 a xs) (r2 : Row w .u8 b xs) :
    Calls Try.prog 15 #[.slice a l c1, .slice b l c2] w fun e w' => e = .returned (.bool true) ∧ ∃ m, w' = w.drewN m := by
  by_cases h0 : l = 0
  · subst h0
    exact (same_nothing a b c1 c2 w).mono fun e w' ⟨h1, h2⟩ => ⟨h1, 0, h2⟩
  · obtain ⟨b1, o1, rfl, _, k1⟩ := r1.cons (by omega)
    obtain ⟨b2, o2, rfl, _, k2⟩ := r2.cons (by omega)
    exact sameq_some b1 o1 c1 b2 o2 c2 l xs w hl1 (by rw [← h1]; exact k1) (by rw [← h1]; exact k2)

end Go.Proofs.Ytcffekhlnidjnaa
