/- What steps and goIn do. -/
import Derived.Test.YtbjlpeophklmlaaCReg
import Derived.Test.YtbjlpeophklmlaaSame
namespace Go.Proofs.Ytbjlpeophklmlaa
open Go.RowKit

theorem and_one (s : Nat) (h : s < 4294967296) : bits .and .u32 (s : Int) 1 = ((s % 2 : Nat) : Int) := by
  rw [show (1 : Int) = ((1 : Nat) : Int) from rfl, u32_and_nat s 1 h (by decide), Nat.and_one_is_mod]
theorem and_bit {s : Nat} (h : s < 4294967296) (hb : s % 2 = 1) : (bits .and .u32 (s : Int) 1 == 1) = true := by
  rw [and_one s h, hb]; rfl
theorem and_nobit {s : Nat} (h : s < 4294967296) (hb : ¬ s % 2 = 1) : (bits .and .u32 (s : Int) 1 == 1) = false := by
  rw [and_one s h, show s % 2 = 0 by omega]; rfl
theorem half_poly {s : Nat} (h : s < 4294967296) : bits .xor .u32 ((s : Int) / 2) 3988292384 = ((s / 2 ^^^ poly : Nat) : Int) := by
  rw [show (s : Int) / 2 = ((s / 2 : Nat) : Int) by omega, show (3988292384 : Int) = ((poly : Nat) : Int) from rfl, u32_xor_nat _ _ (by omega) (by decide)]
theorem mod2_one {s : Nat} (hb : s % 2 = 1) : ((s : Int) % 2 == 1) = true := by
  rw [show (s : Int) % 2 = 1 by omega]; rfl
theorem mod2_not {s : Nat} (hb : ¬ s % 2 = 1) : ((s : Int) % 2 == 1) = false := by
  rw [show (s : Int) % 2 = 0 by omega]; rfl
theorem st_odd {s : Nat} (hb : s % 2 = 1) : st s = s / 2 ^^^ poly := by unfold st; rw [if_pos hb]
theorem st_even {s : Nat} (hb : ¬ s % 2 = 1) : st s = s / 2 := by unfold st; rw [if_neg hb]

set_option maxHeartbeats 400000 in
theorem steps_any (r k : Nat) (w : World) (hr : r < 4294967296) (hk : k ≤ 100) :
    Calls Try.prog 42 #[.int .u32 r, .int .i64 k] w fun e w' => e = .returned (.int .u32 (stn k r : Nat)) ∧ w' = w := by
  go_enter Try.func42, Try.ntmps42
  go_wp2
  go_loop [0, 7] (fun q i => ∃ j s : Nat, j ≤ k ∧ s < 4294967296 ∧ i = .int .i64 j ∧ q = .int .u32 s ∧ Hid (stn k r = stn (k - j) s)) (fun _ i => k - (intOf i).toNat)
  case atStart => exact ⟨0, r, by omega, hr, rfl, rfl, rfl⟩
  case round =>
    obtain ⟨j, s, hj, hs, rfl, rfl, HS⟩ := hrel
    by_cases hlt : j < k
    · have HN : Hid (stn k r = stn (k - (j + 1)) (st s)) := by
        show _ = _
        rw [HS.out, show k - j = (k - (j + 1)) + 1 by omega]; rfl
      by_cases hb : s % 2 = 1
      · have h1 := and_bit hs hb
        have h2 := half_poly hs
        have HE := hide (st_odd hb)
        clear hb
        go_wp2
        go_round
        case rel => exact ⟨j + 1, st s, by omega, st_lt hs, by go_num, by rw [HE.out], HN⟩
        case measure => simp [intOf]; omega
      · have h1 := and_nobit hs hb
        have HE := hide (st_even hb)
        clear hb
        go_wp2
        go_round
        case rel => exact ⟨j + 1, st s, by omega, st_lt hs, by go_num, by rw [HE.out]; rfl, HN⟩
        case measure => simp [intOf]; omega
    · go_wp2
      go_ret
      exact ⟨ret_int (by rw [HS.out, show k - j = 0 by omega]; rfl), rfl⟩

theorem xor_byte {r : Nat} {c : Int} (hr : r < 4294967296) (h0 : 0 ≤ c) (h1 : c ≤ 255) : bits .xor .u32 (r : Int) c = ((r ^^^ c.toNat : Nat) : Int) := by
  obtain ⟨n, rfl⟩ := Int.eq_ofNat_of_zero_le h0
  rw [u32_xor_nat _ _ hr (by omega)]; rfl

set_option maxHeartbeats 400000 in
theorem goIn_some (r b off len cap : Nat) (zs : List Int) (w : World) (hr : r < 4294967296) (hl : zs.length = len) (hm : len ≤ maxLen)
    (hc : ∀ i, i < len → w.cell? ⟨b, off + i, none⟩ = some (.int .u8 (zs.getD i 0))) (h8 : B8 zs) :
    Calls Try.prog 31 #[.int .u32 r, .slice (some ⟨b, off, none⟩) len cap] w fun e w' => e = .returned (.int .u32 (goR r zs : Nat)) ∧ w' = w := by
  unfold maxLen at hm
  have HC := hide hc
  clear hc
  go_enter Try.func31, Try.ntmps31
  go_wp2
  go_loop [0, 9] (fun q i => ∃ j s : Nat, j ≤ len ∧ s < 4294967296 ∧ i = .int .i64 j ∧ q = .int .u32 s ∧ Hid (goR r zs = goR s (zs.drop j))) (fun _ i => len - (intOf i).toNat)
  case atStart => exact ⟨0, r, by omega, hr, rfl, rfl, rfl⟩
  case round =>
    obtain ⟨j, s, hj, hs, rfl, rfl, HS⟩ := hrel
    by_cases hlt : j < len
    · have hcell := HC.out j hlt
      have hdr := getD_drop zs j (by omega)
      have hb := h8 (zs.getD j 0) (by rw [List.getD_eq_getElem?_getD, List.getElem?_eq_getElem (by omega)]; exact List.getElem_mem _)
      generalize zs.getD j 0 = c at *
      have HN : Hid (goR r zs = goR (stn 8 (s ^^^ c.toNat)) (zs.drop (j + 1))) := by
        show _ = _
        rw [HS.out, hdr, goR_cons]
      clear hdr
      have hx := xor_byte hs hb.1 hb.2
      have hlx : s ^^^ c.toNat < 4294967296 := xor_lt hs (by omega)
      have HST := hide (steps_any (s ^^^ c.toNat) 8 w hlx (by omega))
      have hln := stn_lt 8 hlx
      generalize s ^^^ c.toNat = x at *
      go_wp2_with (go_at_call 42; refine (unhide HST).mono ?_; rintro e w' ⟨rfl, rfl⟩)
      go_round
      case rel => exact ⟨j + 1, stn 8 x, by omega, hln, by go_num, rfl, HN⟩
      case measure => simp [intOf]; omega
    · go_wp2
      go_ret
      exact ⟨ret_int (by rw [HS.out, List.drop_of_length_le (by omega), goR_nil]), rfl⟩

set_option maxHeartbeats 400000 in
theorem goIn_none (r : Nat) (a : Option Addr) (cap : Nat) (w : World) :
    Calls Try.prog 31 #[.int .u32 r, .slice a 0 cap] w fun e w' => e = .returned (.int .u32 r) ∧ w' = w := by
  go_enter Try.func31, Try.ntmps31
  go_wp2
  refine wp_loop_rounds 1 ?_
  rw [rounds_succ]
  go_wp2
  go_ret
  exact ⟨rfl, rfl⟩

theorem goIn_any (r : Nat) (a : Option Addr) (len cap : Nat) (zs : List Int) (w : World) (hr : r < 4294967296) (hl : zs.length = len) (hm : len ≤ maxLen) (hrow : Row w .u8 a zs) (h8 : B8 zs) :
    Calls Try.prog 31 #[.int .u32 r, .slice a len cap] w fun e w' => e = .returned (.int .u32 (goR r zs : Nat)) ∧ w' = w := by
  by_cases h0 : len = 0
  · subst h0
    obtain rfl : zs = [] := List.eq_nil_of_length_eq_zero hl
    exact goIn_none r a cap w
  · obtain ⟨b, off, rfl, _, hc⟩ := hrow.cons (by omega)
    exact goIn_some r b off len cap zs w hr hl hm (by rw [← hl]; exact hc) h8

theorem not32 {r : Nat} (h : r < 4294967296) : bits .xor .u32 IntKind.u32.max (r : Int) = ((4294967295 - r : Nat) : Int) := by
  rw [show IntKind.u32.max = ((4294967295 : Nat) : Int) from rfl, u32_xor_nat _ _ (by decide) h, flip_xor h, Nat.xor_comm]

set_option maxHeartbeats 400000 in
theorem sum_any (a : Option Addr) (len cap : Nat) (zs : List Int) (w : World) (hl : zs.length = len) (hm : len ≤ maxLen) (hrow : Row w .u8 a zs) (h8 : B8 zs) :
    Calls Try.prog 10 #[.slice a len cap] w fun e w' => e = .returned (.int .u32 (sumOf zs : Nat)) ∧ w' = w := by
  have HG := hide (goIn_any 4294967295 a len cap zs w (by decide) hl hm hrow h8)
  have hlt := goR_lt zs (show 4294967295 < 4294967296 by decide) h8
  have e : sumOf zs = 4294967295 - goR 4294967295 zs := rfl
  rw [e]
  clear e
  generalize goR 4294967295 zs = g at *
  have hn := not32 hlt
  go_enter Try.func10, Try.ntmps10
  go_wp2_with (go_at_call 31; refine (unhide HG).mono ?_; rintro e w' ⟨rfl, rfl⟩)
  go_ret
  exact ⟨rfl, rfl⟩

set_option maxHeartbeats 400000 in
theorem more_any (s : Nat) (a : Option Addr) (len cap : Nat) (zs : List Int) (w : World) (hs : s < 4294967296) (hl : zs.length = len) (hm : len ≤ maxLen) (hrow : Row w .u8 a zs) (h8 : B8 zs) :
    Calls Try.prog 16 #[.int .u32 s, .slice a len cap] w fun e w' => e = .returned (.int .u32 (moreOf s zs : Nat)) ∧ w' = w := by
  have hns := not32 hs
  have e : moreOf s zs = 4294967295 - goR (4294967295 - s) zs := rfl
  rw [e]
  clear e
  have ht : 4294967295 - s < 4294967296 := by omega
  revert hns ht
  generalize 4294967295 - s = t
  intro hns ht
  have HG := hide (goIn_any t a len cap zs w ht hl hm hrow h8)
  have hlt := goR_lt zs ht h8
  generalize goR t zs = g at *
  have hn := not32 hlt
  go_enter Try.func16, Try.ntmps16
  go_wp2_with fail
  refine (unhide HG).mono ?_
  rintro e w' ⟨rfl, rfl⟩
  clear h
  go_wp2_with fail
  go_ret
  exact ⟨rfl, rfl⟩

end Go.Proofs.Ytbjlpeophklmlaa
