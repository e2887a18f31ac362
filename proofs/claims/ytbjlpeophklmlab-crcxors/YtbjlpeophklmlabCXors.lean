/- CrcXors: the walk. -/
import Derived.Test.YtbjlpeophklmlabCLives
import Derived.Test.YtbjlpeophklmlabCRow
import Derived.Deep.RegionHeld3
import Derived.Deep.AppendLies
namespace Go.Proofs.Ytbjlpeophklmlab
open Go.RowKit

theorem infoU8 : (Try.prog.info? 5).map (fun i => (i.zero, i.size, i.bytes)) = some (some (.int .u8 0), 1, 1) := by kernel_rfl

def x3 (x y z : List Int) (i : Nat) : Int := (((x.getD i 0).toNat ^^^ (y.getD i 0).toNat ^^^ (z.getD i 0).toNat : Nat) : Int)
def xs3 (x y z : List Int) (n : Nat) : List Int := (List.range n).map (x3 x y z)
theorem xs3_succ (x y z : List Int) (n : Nat) : xs3 x y z (n + 1) = xs3 x y z n ++ [x3 x y z n] := by
  unfold xs3; rw [List.range_succ, List.map_append]; rfl
theorem xs3_len (x y z : List Int) (n : Nat) : (xs3 x y z n).length = n := by simp [xs3]
theorem getD_b8 {x : List Int} (h : B8 x) (i : Nat) : 0 ≤ x.getD i 0 ∧ x.getD i 0 ≤ 255 := by
  by_cases hi : i < x.length
  · have := h x[i] (List.getElem_mem hi)
    simpa [List.getD, hi] using this
  · simp [List.getD, hi]
theorem xor8 {a b : Nat} (ha : a < 256) (hb : b < 256) : a ^^^ b < 256 := Nat.xor_lt_two_pow (n := 8) ha hb
theorem x3_b8 {x y z : List Int} (hx : B8 x) (hy : B8 y) (hz : B8 z) (i : Nat) : 0 ≤ x3 x y z i ∧ x3 x y z i ≤ 255 := by
  have h1 := getD_b8 hx i
  have h2 := getD_b8 hy i
  have h3 := getD_b8 hz i
  have := xor8 (xor8 (a := (x.getD i 0).toNat) (b := (y.getD i 0).toNat) (by omega) (by omega)) (b := (z.getD i 0).toNat) (by omega)
  unfold x3
  omega
theorem xs3_b8 {x y z : List Int} (hx : B8 x) (hy : B8 y) (hz : B8 z) (n : Nat) : B8 (xs3 x y z n) := by
  intro c hc
  obtain ⟨i, _, rfl⟩ := List.mem_map.1 hc
  exact x3_b8 hx hy hz i
theorem take_snoc {x : List Int} {n : Nat} (h : n < x.length) : x.take (n + 1) = x.take n ++ [x.getD n 0] := by
  rw [List.take_succ_eq_append_getElem h]; simp [List.getD, h]
theorem goR_x3 (x y z : List Int) : ∀ n, n ≤ x.length → n ≤ y.length → n ≤ z.length →
    goR 4294967295 (xs3 x y z n) = goR 4294967295 (x.take n) ^^^ goR 4294967295 (y.take n) ^^^ goR 4294967295 (z.take n)
  | 0, _, _, _ => by simp only [xs3, List.range_zero, List.map_nil, List.take_zero, goR_nil]; decide
  | n + 1, hx, hy, hz => by
    rw [xs3_succ, goR_snoc, goR_x3 x y z n (by omega) (by omega) (by omega), take_snoc (by omega), take_snoc (by omega), take_snoc (by omega), goR_snoc, goR_snoc, goR_snoc, ← stn_xor, ← stn_xor]
    congr 1
    unfold x3
    rw [Int.toNat_natCast]
    generalize goR 4294967295 (x.take n) = A
    generalize goR 4294967295 (y.take n) = B
    generalize goR 4294967295 (z.take n) = C
    ac_rfl
theorem sum_x3 (x y z : List Int) (n : Nat) (hx : n ≤ x.length) (hy : n ≤ y.length) (hz : n ≤ z.length) (bx : B8 x) (by' : B8 y) (bz : B8 z) :
    sumOf (xs3 x y z n) = sumOf (x.take n) ^^^ sumOf (y.take n) ^^^ sumOf (z.take n) := by
  have h0 := goR_lt (xs3 x y z n) (show 4294967295 < 4294967296 by decide) (xs3_b8 bx by' bz n)
  have h1 := goR_lt (x.take n) (show 4294967295 < 4294967296 by decide) (bx.take n)
  have h2 := goR_lt (y.take n) (show 4294967295 < 4294967296 by decide) (by'.take n)
  have h3 := goR_lt (z.take n) (show 4294967295 < 4294967296 by decide) (bz.take n)
  unfold sumOf
  rw [flip_xor h0, flip_xor h1, flip_xor h2, flip_xor h3, goR_x3 x y z n hx hy hz]
  generalize goR 4294967295 (x.take n) = A
  generalize goR 4294967295 (y.take n) = B
  generalize goR 4294967295 (z.take n) = C
  generalize 4294967295 = F
  have e : A ^^^ F ^^^ (B ^^^ F) ^^^ (C ^^^ F) = (A ^^^ B ^^^ C ^^^ F) ^^^ (F ^^^ F) := by ac_rfl
  rw [e, Nat.xor_self, Nat.xor_zero]
theorem min3 (a b c : Nat) : (if (c : Int) < (if b < a then (b : Int) else (a : Int)) then (c : Int) else (if b < a then (b : Int) else (a : Int))) = ((min (min a b) c : Nat) : Int) := by
  split <;> split <;> omega

theorem x3_bits {x y z : Int} (hx : 0 ≤ x ∧ x ≤ 255) (hy : 0 ≤ y ∧ y ≤ 255) (hz : 0 ≤ z ∧ z ≤ 255) : bits .xor .u8 (bits .xor .u8 x y) z = ((x.toNat ^^^ y.toNat ^^^ z.toNat : Nat) : Int) := by
  obtain ⟨a, rfl⟩ := Int.eq_ofNat_of_zero_le hx.1
  obtain ⟨b, rfl⟩ := Int.eq_ofNat_of_zero_le hy.1
  obtain ⟨c, rfl⟩ := Int.eq_ofNat_of_zero_le hz.1
  rw [u8_xor_nat _ _ (by omega) (by omega), u8_xor_nat _ _ (xor8 (by omega) (by omega)) (by omega)]
  rfl

set_option maxRecDepth 100000 in
set_option maxHeartbeats 3200000 in
theorem crcXors_some (b0 o0 b1 o1 b2 o2 len0 cap0 len1 cap1 len2 cap2 n : Nat) (x y z : List Int) (w : World) (hx : x.length = len0) (hy : y.length = len1) (hz : z.length = len2) (hc0 : len0 ≤ cap0) (hc1 : len1 ≤ cap1) (hc2 : len2 ≤ cap2)
    (hm0 : len0 ≤ 140737488351232) (r0 : Row w .u8 (some ⟨b0, o0, none⟩) x) (r1 : Row w .u8 (some ⟨b1, o1, none⟩) y) (r2 : Row w .u8 (some ⟨b2, o2, none⟩) z) (bx : B8 x) (by' : B8 y) (bz : B8 z) (hn0 : n ≤ len0) (hn1 : n ≤ len1) (hn2 : n ≤ len2) (hmin : (if (len2 : Int) < (if len1 < len0 then (len1 : Int) else (len0 : Int)) then (len2 : Int) else (if len1 < len0 then (len1 : Int) else (len0 : Int))) = (n : Int)) :
    Calls Try.prog 6 #[.slice (some ⟨b0, o0, none⟩) len0 cap0, .slice (some ⟨b1, o1, none⟩) len1 cap1, .slice (some ⟨b2, o2, none⟩) len2 cap2] w fun e w' => e = .returned (.bool true) ∧ Below w.heap.size w w' := by
  obtain ⟨i0, hi, hz0, hz1, hz2⟩ := info_parts infoU8
  have H0 := hide r0
  have H1 := hide r1
  have H2 := hide r2
  clear r0 r1 r2
  go_enter Try.func6, Try.ntmps6
  go_wp2_with (first
    | (go_at_call 7; refine (lives_any _).mono ?_; rintro e w1 ⟨rfl, hb1⟩))
  clear hmin
  go_loopw [9, 10] (fun v q wr => ∃ k : Nat, k ≤ n ∧ q = .int .i64 (k : Int) ∧ wr.ownsRow w.heap.size 5 1 v k ((xs3 x y z k).map (Value.int .u8)) ∧ Below w.heap.size w wr) (fun _ q _ => n - (intOf q).toNat)
  case atStart => exact ⟨0, by omega, rfl, World.ownsRow_nil _ _ _ _, hb1⟩
  case round =>
    obtain ⟨k, hk, rfl, hown, hbel⟩ := hrel
    by_cases hlt : k < n
    · obtain ⟨d0, f0, e0, g0⟩ := (H0.out.below2 hbel) k (by omega)
      obtain ⟨d1, f1, e1, g1⟩ := (H1.out.below2 hbel) k (by omega)
      obtain ⟨d2, f2, e2, g2⟩ := (H2.out.below2 hbel) k (by omega)
      cases e0
      cases e1
      cases e2
      obtain ⟨_, _, e0, t0⟩ := H0.out k (by omega)
      obtain ⟨_, _, e1, t1⟩ := H1.out k (by omega)
      obtain ⟨_, _, e2, t2⟩ := H2.out k (by omega)
      cases e0
      cases e1
      cases e2
      have l0 : b0 < w.heap.size := World.block_lt_of_cell? w ⟨b0, o0 + k, none⟩ t0
      have l1 : b1 < w.heap.size := World.block_lt_of_cell? w ⟨b1, o1 + k, none⟩ t1
      have l2 : b2 < w.heap.size := World.block_lt_of_cell? w ⟨b2, o2 + k, none⟩ t2
      have hsz := hbel.size
      have q0 : u9.ownBlock ≠ some b0 := fun h => by have := (hown.lt _ h).1; omega
      have q1 : u9.ownBlock ≠ some b1 := fun h => by have := (hown.lt _ h).1; omega
      have q2 : u9.ownBlock ≠ some b2 := fun h => by have := (hown.lt _ h).1; omega
      have hbits := x3_bits (getD_b8 bx k) (getD_b8 by' k) (getD_b8 bz k)
      have HX : Hid (xs3 x y z (k + 1) = xs3 x y z k ++ [(((x.getD k 0).toNat ^^^ (y.getD k 0).toNat ^^^ (z.getD k 0).toNat : Nat) : Int)]) := xs3_succ x y z k
      clear t0 t1 t2
      have HO := hide hown
      clear hown
      generalize x.getD k 0 = p at *
      generalize y.getD k 0 = q at *
      generalize z.getD k 0 = r at *
      generalize p.toNat ^^^ q.toNat ^^^ r.toNat = c at *
      have hi0 : (0 : Int) ≤ (k : Int) := Int.natCast_nonneg _
      have hi1 : (k : Int) < (len0 : Int) := by omega
      have hi2 : (k : Int) < (len1 : Int) := by omega
      have hi3 : (k : Int) < (len2 : Int) := by omega
      have hi4 : (k : Int) < (n : Int) := by omega
      go_wp2_with fail
      go_region_held3 (fun w' => w'.cell? ⟨b0, o0 + k, none⟩ = some (.int .u8 p) ∧ w'.cell? ⟨b1, o1 + k, none⟩ = some (.int .u8 q) ∧ w'.cell? ⟨b2, o2 + k, none⟩ = some (.int .u8 r))
        (first
          | go_keep
          | (go_split_ands
             refine ⟨?_, ?_, ?_⟩
             · (rw [hgrow.cell_far _ (by simp; omega) (Ne.symm q0)]; assumption)
             · (rw [hgrow.cell_far _ (by simp; omega) (Ne.symm q1)]; assumption)
             · (rw [hgrow.cell_far _ (by simp; omega) (Ne.symm q2)]; assumption)))
        ((refine step_append_lies _ (by rfl) (.tmp 28) (.tmp 43) 22 (by rfl) w.heap.size 5 i0 (.int .u8 0) 1 1 Try.underlying22 hi hz0 hz1 hz2 rfl (by decide) u9 k ((xs3 x y z k).map (Value.int .u8)) (by rfl) ((HO.out.alloc _).drew)
            ⟨wr.heap.size, 0, none⟩ 1 1 [.int .u8 c] (by rfl) (by rfl) (World.news_of_block (cs := #[.int .u8 c]) (t := 5) (fr := (0, 0)) (heap_alloc_new wr _)) (by simp [Value.oneCell'])
            (by omega) (by unfold maxLen; omega) (by omega) (by simp; omega) (wr.heap.size + 1) (by simp) ?_; intro gg cap w2 hown1 hgrow hat hlt2))
      go_wp2_with fail
      go_roundw
      case rel => exact ⟨k + 1, by omega, by go_num, by rw [HX.out, List.map_append]; exact hown1, ((hbel.alloc hsz _).drew).grown hgrow (by simp; omega) (fun j h => (HO.out.lt j h).1)⟩
      case measure => simp [intOf]; omega
    · obtain rfl : k = n := by omega
      have hge : ¬ (k : Int) < (k : Int) := by omega
      have h31 : k ≤ maxLen := by unfold maxLen; omega
      obtain ⟨a5, c5, hv5, hn5, _⟩ := slice_of_owns2 hown
      subst hv5
      have hr5 := row_of_owns2 hown
      have HS := hide (sum_x3 x y z k (by omega) (by omega) (by omega) bx by' bz)
      have l1 := sumOf_lt (x.take k)
      have l2 := sumOf_lt (y.take k)
      have l3 := sumOf_lt (z.take k)
      have hb32 : bits .xor .u32 (bits .xor .u32 (sumOf (x.take k) : Int) (sumOf (y.take k) : Int)) (sumOf (z.take k) : Int) = (sumOf (xs3 x y z k) : Int) := by
        rw [u32_xor_nat _ _ l1 l2, u32_xor_nat _ _ (xor_lt l1 l2) l3, HS.out]
      have C0 := hide (sum_any (some ⟨b0, o0, none⟩) k cap0 (x.take k) wr (by rw [List.length_take]; omega) h31 ((H0.out.below2 hbel).take k) (bx.take k))
      have C1 := hide (sum_any (some ⟨b1, o1, none⟩) k cap1 (y.take k) wr (by rw [List.length_take]; omega) h31 ((H1.out.below2 hbel).take k) (by'.take k))
      have C2 := hide (sum_any (some ⟨b2, o2, none⟩) k cap2 (z.take k) wr (by rw [List.length_take]; omega) h31 ((H2.out.below2 hbel).take k) (bz.take k))
      have C3 := hide (sum_any a5 k c5 (xs3 x y z k) wr (xs3_len x y z k) h31 hr5 (xs3_b8 bx by' bz k))
      clear hown hr5 HS l1 l2 l3
      generalize sumOf (x.take k) = s0 at *
      generalize sumOf (y.take k) = s1 at *
      generalize sumOf (z.take k) = s2 at *
      generalize sumOf (xs3 x y z k) = s3 at *
      go_wp2_with fail
      refine keep C0.out ?_
      go_wp2_with fail
      refine keep C1.out ?_
      go_wp2_with fail
      refine keep C2.out ?_
      go_wp2_with fail
      refine keep C3.out ?_
      go_wp2_with fail
      go_ret
      exact ⟨rfl, hbel⟩

theorem sum_nil : sumOf [] = 0 := by decide

set_option maxHeartbeats 1000000 in
theorem crcXors_none (a0 a1 a2 : Option Addr) (len0 cap0 len1 cap1 len2 cap2 : Nat) (w : World)
    (hmin : (if (len2 : Int) < (if len1 < len0 then (len1 : Int) else (len0 : Int)) then (len2 : Int) else (if len1 < len0 then (len1 : Int) else (len0 : Int))) = 0) :
    Calls Try.prog 6 #[.slice a0 len0 cap0, .slice a1 len1 cap1, .slice a2 len2 cap2] w fun e w' => e = .returned (.bool true) ∧ Below w.heap.size w w' := by
  have hz : bits .xor .u32 (bits .xor .u32 0 0) 0 = 0 := by decide
  go_enter Try.func6, Try.ntmps6
  go_wp2_with (first
    | (go_at_call 7; refine (lives_any _).mono ?_; rintro e w1 ⟨rfl, hb1⟩))
  clear hmin
  have HC : Hid (∀ (a : Option Addr) (cap : Nat), Calls Try.prog 8 #[.slice a 0 cap] w1 fun e w' => e = .returned (.int .u32 0) ∧ w' = w1) := by
    intro a cap
    have h := sum_any a 0 cap [] w1 rfl (by unfold maxLen; omega) (row_nil _ _ _) B8.nil
    rw [sum_nil] at h
    exact h
  refine wp_loop_rounds 1 ?_
  rw [rounds_succ]
  go_wp2_with fail
  refine keep (HC.out _ _) ?_
  go_wp2_with fail
  refine keep (HC.out _ _) ?_
  go_wp2_with fail
  refine keep (HC.out _ _) ?_
  go_wp2_with fail
  refine keep (HC.out _ _) ?_
  go_wp2_with fail
  go_ret
  exact ⟨rfl, hb1⟩

theorem crcXors_any (a0 a1 a2 : Option Addr) (len0 cap0 len1 cap1 len2 cap2 : Nat) (x y z : List Int) (w : World) (hx : x.length = len0) (hy : y.length = len1) (hz : z.length = len2) (hc0 : len0 ≤ cap0) (hc1 : len1 ≤ cap1) (hc2 : len2 ≤ cap2)
    (hm0 : len0 ≤ 140737488351232) (r0 : Row w .u8 a0 x) (r1 : Row w .u8 a1 y) (r2 : Row w .u8 a2 z) (bx : B8 x) (by' : B8 y) (bz : B8 z) :
    Calls Try.prog 6 #[.slice a0 len0 cap0, .slice a1 len1 cap1, .slice a2 len2 cap2] w fun e w' => e = .returned (.bool true) ∧ Below w.heap.size w w' := by
  have hmin := min3 len0 len1 len2
  by_cases h0 : min (min len0 len1) len2 = 0
  · rw [h0] at hmin
    exact crcXors_none a0 a1 a2 len0 cap0 len1 cap1 len2 cap2 w hmin
  · obtain ⟨b0, o0, rfl, _, _⟩ := r0.cons (by omega)
    obtain ⟨b1, o1, rfl, _, _⟩ := r1.cons (by omega)
    obtain ⟨b2, o2, rfl, _, _⟩ := r2.cons (by omega)
    exact crcXors_some b0 o0 b1 o1 b2 o2 len0 cap0 len1 cap1 len2 cap2 _ x y z w hx hy hz hc0 hc1 hc2 hm0 r0 r1 r2 bx by' bz (by omega) (by omega) (by omega) hmin

end Go.Proofs.Ytbjlpeophklmlab
