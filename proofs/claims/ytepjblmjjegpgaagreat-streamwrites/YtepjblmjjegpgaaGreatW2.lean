/- What Len64 answers: how many halvings till nothing is left. -/
import Derived.Test.YtepjblmjjegpgaaGreatRows
import Derived.Lib.Strings
import Derived.Lib.Walk
import Derived.Lib.BitFns
namespace Go.Proofs.YtepjblmjjegpgaaGreat

/-- The table's byte for the highest byte that is not 0, with the bits below it, are the number's bits. -/
theorem len_close (s : Nat) (x y : Int) (h1 : x.toNat < 2 ^ 64) (hs : 2 ^ s ≤ x.toNat ∨ s = 0) (hy0 : 0 ≤ y) (hy1 : y ≤ 255) (hy : y.toNat = x.toNat / 2 ^ s) :
    Lib.len8 y + (s : Int) = (Lib.bitLen x.toNat : Int) ∧ Lib.len8 y ≤ 8 ∧ 0 ≤ Lib.len8 y := by
  rw [Lib.len8_of y hy0 hy1]
  have hl := Lib.bitLen_le8' y hy0 hy1
  rcases hs with hs | rfl
  · have := Lib.bitLen_shift s x.toNat hs h1
    rw [hy] at hl ⊢
    omega
  · have e : y.toNat = x.toNat := by rw [hy, Nat.pow_zero, Nat.div_one]
    rw [e] at hl ⊢
    omega

set_option maxHeartbeats 1000000 in
set_option maxRecDepth 100000 in
theorem len64_any (x : Int) (w : World) (h0 : 0 ≤ x) (h1 : x ≤ 18446744073709551615) :
    Calls Tryz.prog 154 #[.int .u64 x] w fun e w' => e = .returned (.int .i64 (Lib.bitLen x.toNat)) ∧ w' = w := by
  go_enter Tryz.func154, Tryz.ntmps154
  go_wp2
  all_goals go_ret
  all_goals refine ⟨congrArg Ending.returned (congrArg (Value.int IntKind.i64) ?_), rfl⟩
  · have := len_close 56 x (x / 4294967296 / 65536 / 256 % 256) (by omega) (.inl (by omega)) (by omega) (by omega) (by omega)
    omega
  · have := len_close 48 x (x / 4294967296 / 65536 % 256) (by omega) (.inl (by omega)) (by omega) (by omega) (by omega)
    omega
  · have := len_close 40 x (x / 4294967296 / 256 % 256) (by omega) (.inl (by omega)) (by omega) (by omega) (by omega)
    omega
  · have := len_close 32 x (x / 4294967296 % 256) (by omega) (.inl (by omega)) (by omega) (by omega) (by omega)
    omega
  · have := len_close 24 x (x / 65536 / 256 % 256) (by omega) (.inl (by omega)) (by omega) (by omega) (by omega)
    omega
  · have := len_close 16 x (x / 65536 % 256) (by omega) (.inl (by omega)) (by omega) (by omega) (by omega)
    omega
  · have := len_close 8 x (x / 256 % 256) (by omega) (.inl (by omega)) (by omega) (by omega) (by omega)
    omega
  · have := len_close 0 x (x % 256) (by omega) (.inr rfl) (by omega) (by omega) (by omega)
    omega

end Go.Proofs.YtepjblmjjegpgaaGreat
