/- What the document's answers step, More and Sum are. -/
import Derived.Test.YtbjlpeophklmlaaCLives
namespace Go.Proofs.Ytbjlpeophklmlaa
open Go.RowKit


set_option maxHeartbeats 400000 in
theorem rstep_any (s : Nat) (w : World) (hs : s < 4294967296) :
    Calls Try.prog 39 #[.int .u32 s] w fun e w' => e = .returned (.int .u32 (st s : Nat)) ∧ w' = w := by
  by_cases hb : s % 2 = 1
  · have h1 := mod2_one hb
    have h2 := half_poly hs
    rw [st_odd hb]
    clear hb
    go_enter Try.func39, Try.ntmps39
    go_wp2
    go_ret
    exact ⟨rfl, rfl⟩
  · have h1 := mod2_not hb
    rw [st_even hb]
    clear hb
    go_enter Try.func39, Try.ntmps39
    go_wp2
    go_ret
    exact ⟨rfl, rfl⟩

set_option maxHeartbeats 800000 in
theorem rmore_some (s b off len cap : Nat) (zs : List Int) (w : World) (hs : s < 4294967296) (hl : zs.length = len) (hm : len ≤ maxLen)
    (hc : ∀ i, i < len → w.cell? ⟨b, off + i, none⟩ = some (.int .u8 (zs.getD i 0))) (h8 : B8 zs) :
    Calls Try.prog 19 #[.int .u32 s, .slice (some ⟨b, off, none⟩) len cap] w fun e w' => e = .returned (.int .u32 (moreOf s zs : Nat)) ∧ w' = w := by
  unfold maxLen at hm
  have HC := hide hc
  have HM : Hid (moreOf s zs = 4294967295 - goR (4294967295 - s) zs) := rfl
  clear hc
  go_enter Try.func19, Try.ntmps19
  go_wp2
  go_loop [0, 5, 6] (fun q i x => ∃ j t : Nat, j ≤ len ∧ t < 4294967296 ∧ i = .int .i64 j ∧ q = .int .u32 t ∧ Hid (goR (4294967295 - s) zs = goR t (zs.drop j))) (fun _ i _ => len - (intOf i).toNat)
  case atStart => exact ⟨0, 4294967295 - s, by omega, by omega, rfl, by go_num, rfl⟩
  case round =>
    obtain ⟨j, t, hj, ht, rfl, rfl, HS⟩ := hrel
    by_cases hlt : j < len
    · have hcell := HC.out j hlt
      have hdr := getD_drop zs j (by omega)
      have hb := h8 (zs.getD j 0) (by rw [List.getD_eq_getElem?_getD, List.getElem?_eq_getElem (by omega)]; exact List.getElem_mem _)
      generalize zs.getD j 0 = c at *
      have HN : Hid (goR (4294967295 - s) zs = goR (stn 8 (t ^^^ c.toNat)) (zs.drop (j + 1))) := by
        show _ = _
        rw [HS.out, hdr, goR_cons]
      clear hdr
      have hx := xor_byte ht hb.1 hb.2
      have hlx : t ^^^ c.toNat < 4294967296 := xor_lt ht (by omega)
      generalize t ^^^ c.toNat = x at *
      go_wp2
      go_loop [0, 6] (fun q i => ∃ k u : Nat, k ≤ 8 ∧ u < 4294967296 ∧ i = .int .i64 k ∧ q = .int .u32 u ∧ Hid (stn 8 x = stn (8 - k) u)) (fun _ i => 8 - (intOf i).toNat)
      case atStart => exact ⟨0, x, by omega, hlx, rfl, rfl, rfl⟩
      case round =>
        obtain ⟨k, u, hk, hu, rfl, rfl, HU⟩ := hrel
        by_cases hk8 : k < 8
        · have HV : Hid (stn 8 x = stn (8 - (k + 1)) (st u)) := by
            show _ = _
            rw [HU.out, show 8 - k = (8 - (k + 1)) + 1 by omega, stn]
          go_wp2_with (go_at_call 39; refine (rstep_any _ _ hu).mono ?_; rintro e w' ⟨rfl, rfl⟩)
          go_round
          case rel => exact ⟨k + 1, st u, by omega, st_lt hu, by go_num, rfl, HV⟩
          case measure => simp [intOf]; omega
        · have HV : Hid (u = stn 8 x) := by
            show _ = _
            rw [HU.out, show 8 - k = 0 by omega, stn]
          go_wp2
          go_round
          case rel => exact ⟨j + 1, u, by omega, hu, by go_num, rfl, by rw [HV.out]; exact HN⟩
          case measure => simp [intOf]; omega
    · have HE : Hid (4294967295 - t = moreOf s zs) := by
        show _ = _
        rw [HM.out, HS.out, List.drop_of_length_le (by omega), goR_nil]
      go_wp2
      go_ret
      exact ⟨ret_int (by rw [← HE.out]; omega), rfl⟩

set_option maxHeartbeats 400000 in
theorem rmore_none (s : Nat) (a : Option Addr) (cap : Nat) (w : World) (hs : s < 4294967296) :
    Calls Try.prog 19 #[.int .u32 s, .slice a 0 cap] w fun e w' => e = .returned (.int .u32 s) ∧ w' = w := by
  go_enter Try.func19, Try.ntmps19
  go_wp2
  refine wp_loop_rounds 1 ?_
  rw [rounds_succ]
  go_wp2
  go_ret
  exact ⟨ret_int (by omega), rfl⟩

theorem rmore_any (s : Nat) (a : Option Addr) (len cap : Nat) (zs : List Int) (w : World) (hs : s < 4294967296) (hl : zs.length = len) (hm : len ≤ maxLen) (hrow : Row w .u8 a zs) (h8 : B8 zs) :
    Calls Try.prog 19 #[.int .u32 s, .slice a len cap] w fun e w' => e = .returned (.int .u32 (moreOf s zs : Nat)) ∧ w' = w := by
  by_cases h0 : len = 0
  · subst h0
    obtain rfl : zs = [] := List.eq_nil_of_length_eq_zero hl
    have e : moreOf s [] = s := by unfold moreOf; rw [goR_nil]; omega
    rw [e]
    exact rmore_none s a cap w hs
  · obtain ⟨b, off, rfl, _, hc⟩ := hrow.cons (by omega)
    exact rmore_some s b off len cap zs w hs hl hm (by rw [← hl]; exact hc) h8

set_option maxHeartbeats 400000 in
theorem rsum_any (a : Option Addr) (len cap : Nat) (zs : List Int) (w : World) (hl : zs.length = len) (hm : len ≤ maxLen) (hrow : Row w .u8 a zs) (h8 : B8 zs) :
    Calls Try.prog 18 #[.slice a len cap] w fun e w' => e = .returned (.int .u32 (sumOf zs : Nat)) ∧ w' = w := by
  have HG := hide (rmore_any 0 a len cap zs w (by decide) hl hm hrow h8)
  rw [moreOf_zero] at HG
  go_enter Try.func18, Try.ntmps18
  go_wp2_with (go_at_call 19; refine (unhide HG).mono ?_; rintro e w' ⟨rfl, rfl⟩)
  go_ret
  exact ⟨rfl, rfl⟩

end Go.Proofs.Ytbjlpeophklmlaa
