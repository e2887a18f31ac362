/- The document's Join, and CrcJoins: the walk. -/
import Derived.Test.YtbjlpeophklmlaaCRef
import Derived.Test.YtbjlpeophklmlaaCSkip
namespace Go.Proofs.Ytbjlpeophklmlaa
open Go.RowKit

theorem hi_succ (a k : Nat) : a / 2 ^ k * 2 ^ k = (a / 2 ^ (k + 1) * 2 ^ (k + 1)) ^^^ (a / 2 ^ k % 2 * 2 ^ k) := by
  refine Nat.eq_of_testBit_eq fun i => ?_
  rw [Nat.testBit_xor, Nat.mul_comm, Nat.mul_comm (a / 2 ^ (k + 1)), Nat.mul_comm (a / 2 ^ k % 2), Nat.testBit_two_pow_mul, Nat.testBit_two_pow_mul, Nat.testBit_two_pow_mul, Nat.testBit_div_two_pow, Nat.testBit_div_two_pow]
  by_cases h1 : i < k
  · simp [show ¬ k ≤ i by omega, show ¬ k + 1 ≤ i by omega]
  · by_cases h2 : i = k
    · subst h2
      simp [Nat.testBit_eq_decide_div_mod_eq, show ¬ i + 1 ≤ i by omega]
    · have e : ((a / 2 ^ k % 2).testBit (i - k)) = false := Nat.testBit_lt_two_pow (Nat.lt_of_lt_of_le (Nat.mod_lt _ (by decide)) (by
        have := Nat.pow_le_pow_right (n := 2) (by decide) (show 1 ≤ i - k by omega)
        omega))
      simp [e, show k ≤ i by omega, show k + 1 ≤ i by omega]
theorem hi_on {a k : Nat} (h : a / 2 ^ k % 2 = 1) : a / 2 ^ k * 2 ^ k = (a / 2 ^ (k + 1) * 2 ^ (k + 1)) ^^^ 2 ^ k := by rw [hi_succ, h, Nat.one_mul]
theorem hi_off {a k : Nat} (h : ¬ a / 2 ^ k % 2 = 1) : a / 2 ^ k * 2 ^ k = a / 2 ^ (k + 1) * 2 ^ (k + 1) := by
  rw [hi_succ, show a / 2 ^ k % 2 = 0 by omega, Nat.zero_mul, Nat.xor_zero]
theorem st_pow (k : Nat) : st (2 ^ (k + 1)) = 2 ^ k := by rw [Nat.pow_succ, Nat.mul_comm]; exact st_double _
theorem st_stn (j x : Nat) : st (stn j x) = stn j (st x) := by rw [← stn_succ]; rfl
theorem div_mul_lt {a k : Nat} (h : a < 4294967296) : a / 2 ^ k * 2 ^ k < 4294967296 := Nat.lt_of_le_of_lt (Nat.div_mul_le_self _ _) h

set_option maxHeartbeats 800000 in
theorem times_any (a j b0 : Nat) (w : World) (ha : a < 4294967296) (hb : b0 = stn j 2147483648) :
    Calls Try.prog 40 #[.int .u32 a, .int .u32 b0] w fun e w' => e = .returned (.int .u32 (stn j a : Nat)) ∧ w' = w := by
  have hb0 := stn_lt j (show 2147483648 < 4294967296 by decide)
  rw [← hb] at hb0
  have HB0 := hide hb
  clear hb
  go_enter Try.func40, Try.ntmps40
  go_wp2
  go_loop [1, 5, 6] (fun qb qo qi => ∃ i b : Nat, i ≤ 32 ∧ b < 4294967296 ∧ qi = .int .i64 ((i : Int) - 1) ∧ qb = .int .u32 b ∧ qo = .int .u32 (stn j (a / 2 ^ i * 2 ^ i) : Nat) ∧ Hid (0 < i → b = stn j (2 ^ (i - 1)))) (fun _ _ qi => (intOf qi + 1).toNat)
  case atStart =>
    refine ⟨32, b0, by omega, hb0, rfl, rfl, ?_, fun _ => HB0.out⟩
    rw [Nat.div_eq_of_lt (by simpa using ha), Nat.zero_mul, stn_zero]; rfl
  case round =>
    obtain ⟨i, b, hi, hb, rfl, rfl, rfl, HB⟩ := hrel
    by_cases hlt : 0 < i
    · obtain ⟨k, rfl⟩ : ∃ k, i = k + 1 := ⟨i - 1, by omega⟩
      have e1 : ((k + 1 : Nat) : Int) - 1 = (k : Int) := by omega
      rw [e1]
      have hbk : b = stn j (2 ^ k) := HB.out hlt
      have hd : a / 2 ^ k < 4294967296 := Nat.lt_of_le_of_lt (Nat.div_le_self _ _) ha
      have ec : (a : Int) / 2 ^ k = ((a / 2 ^ k : Nat) : Int) := by rw [Int.natCast_ediv, Int.natCast_pow]; rfl
      have HNB : Hid (0 < k → st b = stn j (2 ^ (k - 1))) := by
        intro hk
        obtain ⟨q, rfl⟩ : ∃ q, k = q + 1 := ⟨k - 1, by omega⟩
        rw [hbk, st_stn, st_pow]; rfl
      clear e1
      by_cases hbit : a / 2 ^ k % 2 = 1
      · have h1 := and_bit hd hbit
        rw [← ec] at h1
        have h2 := u32_xor_nat _ _ (stn_lt j (div_mul_lt (k := k + 1) ha)) hb
        have h3 : stn j (a / 2 ^ (k + 1) * 2 ^ (k + 1)) ^^^ b = stn j (a / 2 ^ k * 2 ^ k) := by rw [hbk, ← stn_xor, ← hi_on hbit]
        rw [h3] at h2
        clear ec hd hbit h3 hbk HB
        generalize stn j (a / 2 ^ (k + 1) * 2 ^ (k + 1)) = t at *
        have HT : Hid (∃ u : Nat, u = stn j (a / 2 ^ k * 2 ^ k)) := ⟨_, rfl⟩
        obtain ⟨u, HT⟩ := HT.out
        rw [← HT] at h2
        have HT := hide HT
        go_wp2_with (go_at_call 39; refine keep (rstep_any _ _ hb) ?_)
        go_round
        case rel => exact ⟨k, st b, by omega, st_lt hb, by go_num, rfl, by rw [← HT.out], HNB⟩
        case measure => simp [intOf]
      · have h1 := and_nobit hd hbit
        rw [← ec] at h1
        have HE : Hid (stn j (a / 2 ^ (k + 1) * 2 ^ (k + 1)) = stn j (a / 2 ^ k * 2 ^ k)) := by
          show _ = _
          rw [← hi_off hbit]
        clear ec hd hbit hbk HB
        generalize stn j (a / 2 ^ (k + 1) * 2 ^ (k + 1)) = t at *
        go_wp2_with (go_at_call 39; refine keep (rstep_any _ _ hb) ?_)
        go_round
        case rel => exact ⟨k, st b, by omega, st_lt hb, by go_num, rfl, by rw [HE.out], HNB⟩
        case measure => simp [intOf]
    · obtain rfl : i = 0 := by omega
      have e : a / 2 ^ 0 * 2 ^ 0 = a := by simp
      rw [e]
      clear e
      go_wp2
      go_ret
      exact ⟨rfl, rfl⟩

set_option maxHeartbeats 800000 in
theorem rjoin_any (a b n : Nat) (w : World) (ha : a < 4294967296) (hb : b < 4294967296) (hn : n ≤ 9223372036854775807) :
    Calls Try.prog 20 #[.int .u32 a, .int .u32 b, .int .i64 n] w fun e w' => e = .returned (.tuple #[.int .u32 (joinOf a b n : Nat), .int .i64 0]) ∧ w' = w := by
  have HJ : Hid (joinOf a b n = stn (8 * n) a ^^^ b) := rfl
  go_enter Try.func20, Try.ntmps20
  go_wp2
  go_loop [0, 2, 8] (fun qa qn qx => ∃ s m x K : Nat, s < 4294967296 ∧ m ≤ n ∧ qa = .int .u32 s ∧ qn = .int .i64 m ∧ qx = .int .u32 x ∧ Hid (x = stn K 2147483648) ∧ Hid (stn (8 * n) a = stn (K * m) s)) (fun _ qn _ => (intOf qn).toNat)
  case atStart => exact ⟨a, n, 8388608, 8, ha, Nat.le_refl _, rfl, rfl, rfl, by show _ = _; decide +kernel, rfl⟩
  case round =>
    obtain ⟨s, m, x, K, hs, hm, rfl, rfl, rfl, HX, HS⟩ := hrel
    by_cases hlt : 0 < m
    · have hx : x < 4294967296 := by rw [HX.out]; exact stn_lt K (by decide)
      have HXX : Hid (stn K x = stn (K + K) 2147483648) := by
        show _ = _
        rw [stn_add, ← HX.out]
      have hx2 := stn_lt K hx
      have H1 := hide (times_any s K x w hs HX.out)
      have H2 := hide (times_any x K x w hx HX.out)
      by_cases hodd : m % 2 = 1
      · have hd := mod2_one hodd
        have HN := hide (skip_odd (K := K) (s := s) hodd)
        have hs2 := stn_lt K hs
        clear hodd
        generalize stn K x = y at *
        generalize stn K s = t at *
        go_wp2_with fail
        refine keep H1.out ?_
        go_wp2_with fail
        refine keep H2.out ?_
        go_wp2_with fail
        go_round
        case rel => exact ⟨t, m / 2, y, K + K, hs2, by omega, rfl, by go_num, rfl, HXX, by show _ = _; rw [HS.out, HN.out]⟩
        case measure => simp [intOf]; omega
      · have hd := mod2_not hodd
        have HN := hide (skip_even (K := K) (s := s) hodd)
        clear hodd
        generalize stn K x = y at *
        go_wp2_with fail
        refine keep H2.out ?_
        go_wp2_with fail
        go_round
        case rel => exact ⟨s, m / 2, y, K + K, hs, by omega, rfl, by go_num, rfl, HXX, by show _ = _; rw [HS.out, HN.out]⟩
        case measure => simp [intOf]; omega
    · obtain rfl : m = 0 := by omega
      have HE : Hid (joinOf a b n = s ^^^ b) := by
        show _ = _
        rw [HJ.out, HS.out, Nat.mul_zero]; rfl
      have hx := u32_xor_nat _ _ hs hb
      obtain ⟨j, hj⟩ : ∃ j, j = joinOf a b n := ⟨_, rfl⟩
      rw [← HE.out, ← hj] at hx
      have HJ2 := hide hj
      clear hj HE HJ
      go_wp2
      go_ret2
      exact ⟨by rw [← HJ2.out]; rfl, rfl⟩

set_option maxHeartbeats 400000 in
theorem rjoin_neg (a b n : Int) (w : World) (hn : n < 0) :
    Calls Try.prog 20 #[.int .u32 a, .int .u32 b, .int .i64 n] w fun e w' => e = .returned (.tuple #[.int .u32 0, .int .i64 1]) ∧ w' = w := by
  go_enter Try.func20, Try.ntmps20
  go_wp2
  go_ret2
  exact ⟨rfl, rfl⟩

/-- What Join answers at any number. -/
def jv (a b : Nat) (n : Int) : Nat := if n < 0 then 0 else joinOf a b n.toNat
def je (n : Int) : Int := if n < 0 then 1 else 0
theorem join_all (a b : Nat) (n : Int) (w : World) (ha : a < 4294967296) (hb : b < 4294967296) (hn : n ≤ 9223372036854775807) :
    Calls Try.prog 11 #[.int .u32 a, .int .u32 b, .int .i64 n] w fun e w' => e = .returned (.tuple #[.int .u32 (jv a b n : Nat), .int .i64 (je n)]) ∧ Below w.heap.size w w' := by
  unfold jv je
  by_cases h : n < 0
  · rw [if_pos h, if_pos h]
    exact (join_neg a b n w h).mono fun e w' ⟨h1, h2⟩ => ⟨h1, by rw [h2]; exact Below.refl _ _⟩
  · rw [if_neg h, if_neg h]
    obtain ⟨m, rfl⟩ := Int.eq_ofNat_of_zero_le (show 0 ≤ n by omega)
    exact join_any a b m w ha hb (by omega)
theorem rjoin_all (a b : Nat) (n : Int) (w : World) (ha : a < 4294967296) (hb : b < 4294967296) (hn : n ≤ 9223372036854775807) :
    Calls Try.prog 20 #[.int .u32 a, .int .u32 b, .int .i64 n] w fun e w' => e = .returned (.tuple #[.int .u32 (jv a b n : Nat), .int .i64 (je n)]) ∧ w' = w := by
  unfold jv je
  by_cases h : n < 0
  · rw [if_pos h, if_pos h]
    exact rjoin_neg a b n w h
  · rw [if_neg h, if_neg h]
    obtain ⟨m, rfl⟩ := Int.eq_ofNat_of_zero_le (show 0 ≤ n by omega)
    exact rjoin_any a b m w ha hb (by omega)

set_option maxHeartbeats 1600000 in
theorem crcJoins_some (a b b2 o2 len cap : Nat) (ps : List Int) (w : World) (ha : a < 4294967296) (hb : b < 4294967296) (hm : len ≤ maxLen) (hb2 : b2 < w.heap.size) (hc : ∀ i, i < len → w.cell? ⟨b2, o2 + i, none⟩ = some (.int .i64 (ps.getD i 0))) (hp : ∀ i, ps.getD i 0 ≤ 9223372036854775807) :
    Calls Try.prog 5 #[.int .u32 a, .int .u32 b, .slice (some ⟨b2, o2, none⟩) len cap] w fun e w' => e = .returned (.bool true) ∧ Below w.heap.size w w' := by
  unfold maxLen at hm
  have HC := hide hc
  clear hc
  go_enter Try.func5, Try.ntmps5
  go_wp2_with (first
    | (go_at_call 9; refine (lives_any _).mono ?_; rintro e w1 ⟨rfl, hb1⟩))
  go_loopw [0, 1, 8] (fun qa qb qi wr => ∃ x y k : Nat, x < 4294967296 ∧ y < 4294967296 ∧ k ≤ len ∧ qa = .int .u32 x ∧ qb = .int .u32 y ∧ qi = .int .i64 k ∧ Below w.heap.size w wr) (fun _ _ qi _ => len - (intOf qi).toNat)
  case atStart => exact ⟨a, b, 0, ha, hb, by omega, rfl, rfl, rfl, hb1⟩
  case round =>
    obtain ⟨x, y, k, hx, hy, hk, rfl, rfl, rfl, hbel⟩ := hrel
    by_cases hlt : k < len
    · have hcell : wr.cell? ⟨b2, o2 + k, none⟩ = some (.int .i64 (ps.getD k 0)) := (hbel.cell (p := ⟨b2, o2 + k, none⟩) hb2).trans (HC.out k hlt)
      have hpk := hp k
      clear hp
      generalize ps.getD k 0 = p at *
      have H1 := hide (join_all x y p wr hx hy hpk)
      have H2 : Hid (∀ W, Calls Try.prog 20 #[.int .u32 x, .int .u32 y, .int .i64 p] W fun e w' => e = .returned (.tuple #[.int .u32 (jv x y p : Nat), .int .i64 (je p)]) ∧ w' = W) := fun W => rjoin_all x y p W hx hy hpk
      generalize jv x y p = v at *
      generalize je p = e at *
      have hsz := hbel.size
      have hxr : bits .xor .u32 (x : Int) ((k : Int) % 4294967296) = ((x ^^^ k % 4294967296 : Nat) : Int) := by
        rw [← u32_xor_nat x (k % 4294967296) hx (Nat.mod_lt _ (by decide))]; rfl
      have hlx : x ^^^ k % 4294967296 < 4294967296 := xor_lt hx (Nat.mod_lt _ (by decide))
      generalize x ^^^ k % 4294967296 = z at *
      go_wp2_with fail
      refine H1.out.mono ?_
      rintro e w3 ⟨rfl, hb3⟩
      have hbel3 := hbel.trans (hb3.mono hsz)
      have hcell3 := (hb3.cell (p := ⟨b2, o2 + k, none⟩) (by show b2 < _; omega)).trans hcell
      clear hcell hb3 hbel
      go_wp2_with fail
      refine keep (H2.out _) ?_
      go_wp2_with fail
      go_roundw
      case rel => exact ⟨y, z, k + 1, hy, hlx, by omega, rfl, rfl, by go_num, hbel3⟩
      case measure => simp [intOf]; omega
    · have hge : ¬ (k : Int) < (len : Int) := by omega
      go_wp2_with fail
      go_ret
      exact ⟨rfl, hbel⟩

set_option maxHeartbeats 400000 in
theorem crcJoins_none (a b : Int) (a2 : Option Addr) (cap : Nat) (w : World) :
    Calls Try.prog 5 #[.int .u32 a, .int .u32 b, .slice a2 0 cap] w fun e w' => e = .returned (.bool true) ∧ Below w.heap.size w w' := by
  go_enter Try.func5, Try.ntmps5
  go_wp2_with (first
    | (go_at_call 9; refine (lives_any _).mono ?_; rintro e w1 ⟨rfl, hb1⟩))
  refine wp_loop_rounds 1 ?_
  rw [rounds_succ]
  go_wp2_with fail
  go_ret
  exact ⟨rfl, hb1⟩

theorem crcJoins_any (a b : Nat) (a2 : Option Addr) (len cap : Nat) (ps : List Int) (w : World) (ha : a < 4294967296) (hb : b < 4294967296) (hl : ps.length = len) (hm : len ≤ maxLen) (hr : Row w .i64 a2 ps) (hp : ∀ i, ps.getD i 0 ≤ 9223372036854775807) :
    Calls Try.prog 5 #[.int .u32 a, .int .u32 b, .slice a2 len cap] w fun e w' => e = .returned (.bool true) ∧ Below w.heap.size w w' := by
  by_cases h0 : len = 0
  · subst h0; exact crcJoins_none a b a2 cap w
  · obtain ⟨b2, o2, rfl, hb2, hc2⟩ := hr.cons (by omega)
    exact crcJoins_some a b b2 o2 len cap ps w ha hb hm hb2 (by rw [← hl]; exact hc2) hp

end Go.Proofs.Ytbjlpeophklmlaa
