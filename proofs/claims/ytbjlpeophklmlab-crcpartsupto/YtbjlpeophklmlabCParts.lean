/- CrcParts: the walk. -/
import Derived.Test.YtbjlpeophklmlabCDigest
import Derived.Test.YtbjlpeophklmlabCLives
import Derived.Test.YtbjlpeophklmlabCSkip
namespace Go.Proofs.Ytbjlpeophklmlab
open Go.RowKit

theorem infoU8 : (Try.prog.info? 5).map (fun i => (i.zero, i.size, i.bytes)) = some (some (.int .u8 0), 1, 1) := by kernel_rfl

set_option maxRecDepth 100000 in
set_option maxHeartbeats 1600000 in
theorem crcParts_any (a0 a1 a2 : Option Addr) (len0 cap0 len1 cap1 len2 cap2 : Nat) (x y z : List Int) (w : World) (hx : x.length = len0) (hy : y.length = len1) (hz : z.length = len2)
    (hm0 : len0 ≤ 1048576) (hm1 : len1 ≤ 1048576) (hm2 : len2 ≤ 1048576) (n0 : a0 = none → len0 = 0 ∧ cap0 = 0) (n1 : a1 = none → len1 = 0 ∧ cap1 = 0) (n2 : a2 = none → len2 = 0 ∧ cap2 = 0) (r0 : Row w .u8 a0 x) (r1 : Row w .u8 a1 y) (r2 : Row w .u8 a2 z) (bx : B8 x) (by' : B8 y) (bz : B8 z) :
    Calls Try.prog 3 #[.slice a0 len0 cap0, .slice a1 len1 cap1, .slice a2 len2 cap2] w fun e w' => e = .returned (.bool true) ∧ Below w.heap.size w w' := by
  obtain ⟨i0, hi, hz0, hz1, hz2⟩ := info_parts infoU8
  have R0 := hide r0
  have R1 := hide r1
  have R2 := hide r2
  have N0 := hide n0
  have N1 := hide n1
  have N2 := hide n2
  have x0 : len0 ≤ maxLen := by unfold maxLen; omega
  have x1 : len1 ≤ maxLen := by unfold maxLen; omega
  have x2 : len2 ≤ maxLen := by unfold maxLen; omega
  clear r0 r1 r2 n0 n1 n2
  have e1 : moreOf (sumOf x) y = sumOf (x ++ y) := moreOf_sum x y bx
  have e2 : moreOf (sumOf (x ++ y)) z = sumOf (x ++ y ++ z) := moreOf_sum (x ++ y) z (bx.append by')
  have e3 : joinOf (sumOf x) (sumOf y) len1 = sumOf (x ++ y) := by rw [← hy]; exact join_sum x y bx by'
  have e4 : joinOf (sumOf (x ++ y)) (sumOf z) len2 = sumOf (x ++ y ++ z) := by rw [← hz]; exact join_sum (x ++ y) z (bx.append by') bz
  have e5 : joinOf (sumOf y) (sumOf z) len2 = sumOf (y ++ z) := by rw [← hz]; exact join_sum y z by' bz
  have e6 : joinOf (sumOf x) (sumOf (y ++ z)) (len1 + len2) = sumOf (x ++ y ++ z) := by
    rw [← hy, ← hz, ← List.length_append, join_sum x (y ++ z) bx (by'.append bz), List.append_assoc]
  have e7 : moreOf 0 x = sumOf x := moreOf_zero x
  have s0 := sumOf_lt x
  have s1 := sumOf_lt y
  have s2 := sumOf_lt z
  have s3 := sumOf_lt (x ++ y)
  have s4 := sumOf_lt (y ++ z)
  have M1 : Hid (∀ W, Row W .u8 a1 y → Calls Try.prog 9 #[.int .u32 (sumOf x : Nat), .slice a1 len1 cap1] W fun e w' => e = .returned (.int .u32 (sumOf (x ++ y) : Nat)) ∧ w' = W) := fun W h => by
    rw [← e1]; exact more_any (sumOf x) a1 len1 cap1 y W s0 hy x1 h by'
  have M2 : Hid (∀ W, Row W .u8 a2 z → Calls Try.prog 9 #[.int .u32 (sumOf (x ++ y) : Nat), .slice a2 len2 cap2] W fun e w' => e = .returned (.int .u32 (sumOf (x ++ y ++ z) : Nat)) ∧ w' = W) := fun W h => by
    rw [← e2]; exact more_any (sumOf (x ++ y)) a2 len2 cap2 z W s3 hz x2 h bz
  have J1 : Hid (∀ W, Calls Try.prog 10 #[.int .u32 (sumOf x : Nat), .int .u32 (sumOf y : Nat), .int .i64 len1] W fun e w' => e = .returned (.tuple #[.int .u32 (sumOf (x ++ y) : Nat), .int .i64 0]) ∧ Below W.heap.size W w') := fun W => by
    rw [← e3]; exact join_any _ _ len1 W s0 s1 (by omega)
  have J2 : Hid (∀ W, Calls Try.prog 10 #[.int .u32 (sumOf (x ++ y) : Nat), .int .u32 (sumOf z : Nat), .int .i64 len2] W fun e w' => e = .returned (.tuple #[.int .u32 (sumOf (x ++ y ++ z) : Nat), .int .i64 0]) ∧ Below W.heap.size W w') := fun W => by
    rw [← e4]; exact join_any _ _ len2 W s3 s2 (by omega)
  have J3 : Hid (∀ W, Calls Try.prog 10 #[.int .u32 (sumOf y : Nat), .int .u32 (sumOf z : Nat), .int .i64 len2] W fun e w' => e = .returned (.tuple #[.int .u32 (sumOf (y ++ z) : Nat), .int .i64 0]) ∧ Below W.heap.size W w') := fun W => by
    rw [← e5]; exact join_any _ _ len2 W s1 s2 (by omega)
  have J4 : Hid (∀ W, Calls Try.prog 10 #[.int .u32 (sumOf x : Nat), .int .u32 (sumOf (y ++ z) : Nat), .int .i64 ((len1 : Int) + (len2 : Int))] W fun e w' => e = .returned (.tuple #[.int .u32 (sumOf (x ++ y ++ z) : Nat), .int .i64 0]) ∧ Below W.heap.size W w') := fun W => by
    rw [← e6]; exact join_any _ _ (len1 + len2) W s0 s4 (by omega)
  have W1 : Hid (∀ W g, IsD W g 0 0 → Row W .u8 a0 x → Calls Try.prog 12 #[.pointer (some ⟨g, 0, none⟩), .slice a0 len0 cap0] W fun e w' => e = .returned (.tuple #[]) ∧ IsD w' g (sumOf x) len0 ∧ W.grownBy w' (some g)) := fun W g h1 h2 => by
    have := write_any g 0 0 a0 len0 cap0 x W h1 (by decide) (by omega) hx (by omega) h2 bx
    rw [Nat.zero_add] at this
    exact this
  have W2 : Hid (∀ W g, IsD W g (sumOf x) len0 → Row W .u8 a1 y → Calls Try.prog 12 #[.pointer (some ⟨g, 0, none⟩), .slice a1 len1 cap1] W fun e w' => e = .returned (.tuple #[]) ∧ IsD w' g (sumOf (x ++ y)) (len0 + len1) ∧ W.grownBy w' (some g)) := fun W g h1 h2 => by
    rw [← e1]; exact write_any g (sumOf x) len0 a1 len1 cap1 y W h1 s0 (by omega) hy (by omega) h2 by'
  have W3 : Hid (∀ W g, IsD W g (sumOf (x ++ y)) (len0 + len1) → Row W .u8 a2 z → Calls Try.prog 12 #[.pointer (some ⟨g, 0, none⟩), .slice a2 len2 cap2] W fun e w' => e = .returned (.tuple #[]) ∧ IsD w' g (sumOf (x ++ y ++ z)) (len0 + len1 + len2) ∧ W.grownBy w' (some g)) := fun W g h1 h2 => by
    rw [← e2]; exact write_any g (sumOf (x ++ y)) (len0 + len1) a2 len2 cap2 z W h1 s3 (by omega) hz (by omega) h2 bz
  have SA : Hid (∀ W a c, Row W .u8 a (x ++ y ++ z) → Calls Try.prog 8 #[.slice a (len0 + len1 + len2) c] W fun e w' => e = .returned (.int .u32 (sumOf (x ++ y ++ z) : Nat)) ∧ w' = W) := fun W a c h =>
    sum_any a (len0 + len1 + len2) c (x ++ y ++ z) W (by rw [List.length_append, List.length_append, hx, hy, hz]) (by unfold maxLen; omega) h ((bx.append by').append bz)
  have S0 : Hid (∀ W, Row W .u8 a0 x → Calls Try.prog 8 #[.slice a0 len0 cap0] W fun e w' => e = .returned (.int .u32 (sumOf x : Nat)) ∧ w' = W) := fun W h => sum_any a0 len0 cap0 x W hx x0 h bx
  have S1 : Hid (∀ W, Row W .u8 a1 y → Calls Try.prog 8 #[.slice a1 len1 cap1] W fun e w' => e = .returned (.int .u32 (sumOf y : Nat)) ∧ w' = W) := fun W h => sum_any a1 len1 cap1 y W hy x1 h by'
  have S2 : Hid (∀ W, Row W .u8 a2 z → Calls Try.prog 8 #[.slice a2 len2 cap2] W fun e w' => e = .returned (.int .u32 (sumOf z : Nat)) ∧ w' = W) := fun W h => sum_any a2 len2 cap2 z W hz x2 h bz
  clear e1 e2 e3 e4 e5 e6 e7
  generalize sumOf x = t0 at *
  generalize sumOf y = t1 at *
  generalize sumOf z = t2 at *
  generalize sumOf (x ++ y) = t3 at *
  generalize sumOf (y ++ z) = t4 at *
  generalize sumOf (x ++ y ++ z) = t5 at *
  go_enter Try.func3, Try.ntmps3
  go_wp2_with (first
    | (go_at_call 7; refine (lives_any _).mono ?_; rintro e w1 ⟨rfl, hb1⟩)
    | (at_builtin; refine append_own_any rfl (.tmp 26) (.tmp 27) 22 rfl w1.heap.size 5 i0 (.int .u8 0) 1 1 Try.underlying22 hi hz0 hz1 hz2 rfl (by decide) (.slice (some ⟨w1.heap.size, 0, none⟩) 0 0) 0 [] rfl (World.ownsRow_made w1 #[] 0 (Nat.le_refl _) (by unfold maxLen; omega) rfl) a0 len0 cap0 (x.map (Value.int .u8)) rfl (by simp [hx]) N0.out (((R0.out.below2 hb1).alloc _).cells) (ints_oneCell _ _) (by unfold maxLen; omega) (by omega) (by simp) ?_; intro v4 w4 hown4 hg4; simp only [Nat.zero_add, List.nil_append] at hown4; have hb4 : Below w1.heap.size w1 w4 := ((Below.refl _ _).alloc (Nat.le_refl _) _).grown hg4 (by simp) (fun k h => by cases h; exact Nat.le_refl _))
    | (at_builtin; refine append_own_any rfl (.tmp 28) (.tmp 29) 22 rfl w1.heap.size 5 i0 (.int .u8 0) 1 1 Try.underlying22 hi hz0 hz1 hz2 rfl (by decide) v4 len0 _ rfl hown4 a1 len1 cap1 (y.map (Value.int .u8)) rfl (by simp [hy]) N1.out (R1.out.below2 (hb1.trans (hb4.mono hb1.size))).cells (ints_oneCell _ _) (by unfold maxLen; omega) (by omega) hb4.size ?_; intro v5 w5 hown5 hg5; have hb5 : Below w1.heap.size w1 w5 := hb4.grown hg5 hb4.size (fun k h => (hown4.lt k h).1))
    | (at_builtin; refine append_own_any rfl (.tmp 30) (.tmp 31) 22 rfl w1.heap.size 5 i0 (.int .u8 0) 1 1 Try.underlying22 hi hz0 hz1 hz2 rfl (by decide) v5 (len0 + len1) _ rfl hown5 a2 len2 cap2 (z.map (Value.int .u8)) rfl (by simp [hz]) N2.out (R2.out.below2 (hb1.trans (hb5.mono hb1.size))).cells (ints_oneCell _ _) (by unfold maxLen; omega) (by omega) hb5.size ?_; intro v6 w6 hown6 hg6; have hb6 : Below w1.heap.size w1 w6 := hb5.grown hg6 hb5.size (fun k h => (hown5.lt k h).1))
    | fail)
  rw [← List.map_append, ← List.map_append] at hown6
  obtain ⟨a6, c6, hv6, _, _⟩ := slice_of_owns2 hown6
  subst hv6
  have hw6 : Below w.heap.size w w6 := hb1.trans (hb6.mono hb1.size)
  have HO := hide hown6
  clear hown4 hown5 hown6 hg4 hg5 hg6 hb4 hb5 hb6 hb1
  refine keep (SA.out w6 a6 c6 (row_of_owns2 HO.out)) ?_
  go_wp2_with fail
  refine keep (S0.out w6 (R0.out.below2 hw6)) ?_
  go_wp2_with fail
  refine keep (S1.out w6 (R1.out.below2 hw6)) ?_
  go_wp2_with fail
  refine keep (S2.out w6 (R2.out.below2 hw6)) ?_
  go_wp2_with fail
  refine keep (M1.out _ (R1.out.below2 hw6)) ?_
  go_wp2_with fail
  refine keep (M2.out _ (R2.out.below2 hw6)) ?_
  go_wp2_with fail
  refine (J1.out _).mono ?_
  rintro e w7 ⟨rfl, hb7⟩
  go_wp2_with fail
  refine (J2.out _).mono ?_
  rintro e w8 ⟨rfl, hb8'⟩
  go_wp2_with fail
  refine (J3.out _).mono ?_
  rintro e w9 ⟨rfl, hb9⟩
  go_wp2_with fail
  refine (J4.out _).mono ?_
  rintro e w10 ⟨rfl, hb10⟩
  have hw7 := hw6.trans (hb7.mono hw6.size)
  have hw8 := hw7.trans (hb8'.mono hw7.size)
  have hw9 := hw8.trans (hb9.mono hw8.size)
  have hw10 := hw9.trans (hb10.mono hw9.size)
  clear hb7 hb8' hb9 hb10 hw7 hw8 hw9 hw6 HO
  go_wp2_with fail
  refine (new_any w10).mono ?_
  rintro e w11 ⟨rfl, hw11⟩
  have hD := hide (new_isD w10)
  rw [← hw11] at hD
  have hb11 : Below w.heap.size w w11 := by rw [hw11]; exact hw10.alloc hw10.size _
  have hsz := hw10.size
  clear hw11 hw10
  generalize w10.heap.size = g at *
  go_wp2_with fail
  refine (W1.out _ _ hD.out (R0.out.below2 hb11)).mono ?_
  rintro e w12 ⟨rfl, hD12, hg12⟩
  have hb12 := hb11.grown hg12 hb11.size (fun k h => by cases h; exact hsz)
  have hD12 := hide hD12
  clear hD hg12 hb11
  go_wp2_with fail
  refine (W2.out _ _ hD12.out (R1.out.below2 hb12)).mono ?_
  rintro e w13 ⟨rfl, hD13, hg13⟩
  have hb13 := hb12.grown hg13 hb12.size (fun k h => by cases h; exact hsz)
  have hD13 := hide hD13
  clear hD12 hg13 hb12
  go_wp2_with fail
  refine (W3.out _ _ hD13.out (R2.out.below2 hb13)).mono ?_
  rintro e w14 ⟨rfl, hD14, hg14⟩
  have hb14 := hb13.grown hg14 hb13.size (fun k h => by cases h; exact hsz)
  have hD14 := hide hD14
  clear hD13 hg14 hb13
  go_wp2_with fail
  refine keep (dsum_any _ _ _ _ hD14.out) ?_
  go_wp2_with fail
  refine keep (dlen_any _ _ _ _ hD14.out) ?_
  go_wp2_with fail
  go_ret
  exact ⟨rfl, hb14⟩

end Go.Proofs.Ytbjlpeophklmlab
