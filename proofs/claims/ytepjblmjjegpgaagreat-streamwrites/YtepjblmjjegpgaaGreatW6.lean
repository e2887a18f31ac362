/- What Read does: it answers what 'scan' says, and turns nothing that was there. -/
import Derived.Test.YtepjblmjjegpgaaGreatW4
import Derived.Deep.LoopGhost
namespace Go.Proofs.YtepjblmjjegpgaaGreat
open Go.RowKit
set_option maxRecDepth 100000

set_option maxHeartbeats 400000 in
theorem read_bad (a : Option Addr) (len cap : Nat) (p : Int) (w : World) (h : p < 0 ∨ (len : Int) < p) :
    Calls Tryz.prog 183 #[.slice a len cap, .int .i64 p] w fun e w' => e = .returned (.tuple #[.int .u64 0, .int .i64 0, .int .i64 1]) ∧ w' = w := by
  by_cases h1 : p < 0
  · go_enter Tryz.func183, Tryz.ntmps183
    go_wp2
    go_step3
    go_wp2
    rw [Exit.noGoto_ret]
    go_ret3
    exact ⟨rfl, rfl⟩
  · have h2 : (len : Int) < p := by omega
    have h1' : 0 ≤ p := by omega
    clear h h1
    go_enter Tryz.func183, Tryz.ntmps183
    go_wp2
    go_step3
    go_wp2
    rw [Exit.noGoto_ret]
    go_ret3
    exact ⟨rfl, rfl⟩

set_option maxHeartbeats 400000 in
theorem read_some (b off len cap p : Nat) (zs : List Int) (w : World) (hl : zs.length = len) (hm : len ≤ maxLen) (hp : p ≤ len) (hb : b < w.heap.size)
    (hc : ∀ i, i < len → w.cell? ⟨b, off + i, none⟩ = some (.int .u8 (zs.getD i 0))) (h8 : Fits8 zs) :
    Calls Tryz.prog 183 #[.slice (some ⟨b, off, none⟩) len cap, .int .i64 p] w fun e w' =>
      e = .returned (.tuple #[.int .u64 (scan 0 0 (zs.drop p)).1, .int .i64 (p + (scan 0 0 (zs.drop p)).2.1), .int .i64 (scan 0 0 (zs.drop p)).2.2]) ∧ Below w.heap.size w w' := by
  unfold maxLen at hm
  have hp0 : decide ((p : Int) < 0) = false := by simp
  go_enter Tryz.func183, Tryz.ntmps183
  go_wp2
  go_step3
  go_wp2_with (go_at_call 169; refine (new_any _).mono ?_; rintro e w1 ⟨rfl, hT1, hsz1, hb1⟩)
  go_step3
  go_wp2_with fail
  go_loopw [7, 8] (fun q r wr => ∃ (k : Nat) (n : Int), p + k ≤ len ∧ k ≤ 9 ∧ q = .int .i64 ((p + k : Nat) : Int) ∧ r = .int .i64 11 ∧ IsT wr w.heap.size n k false false ∧ 0 ≤ n ∧ n < 128 ^ k ∧ Below w.heap.size w wr ∧ Hid (scan 0 0 (zs.drop p) = scan k n (zs.drop (p + k)))) (fun q _ _ => len - (intOf q).toNat)
  case atStart => exact ⟨0, 0, by omega, by omega, rfl, rfl, hT1, by omega, by decide, hb1, rfl⟩
  case round =>
    obtain ⟨k, n, hk, hk9, rfl, rfl, hT, hn0, hn, hbel, HS⟩ := hrel
    by_cases hlt : p + k < len
    · have hcell : wr.cell? ⟨b, off + (p + k), none⟩ = some (.int .u8 (zs.getD (p + k) 0)) := (hbel.cell (p := ⟨b, off + (p + k), none⟩) hb).trans (hc (p + k) hlt)
      have h8k := h8 (p + k)
      have hdr := getD_drop zs (p + k) (by omega)
      generalize zs.getD (p + k) 0 = c at *
      have HD : Hid (zs.drop (p + k) = c :: zs.drop (p + k + 1)) := hdr
      clear hdr
      by_cases hf : faultOf k c = 0
      · have hB := step_bound n c k hn0 hn
        by_cases hc128 : c < 128
        · have HE : Hid (scan 0 0 (zs.drop p) = (n + c % 128 * 128 ^ k, k + 1, 0)) := by
            show scan 0 0 (zs.drop p) = _
            rw [HS.out, HD.out]; simp [scan, hf, hc128]
          have hd : decide (c < 128) = true := by simp [hc128]
          have hct := take_right w.heap.size k c n wr hT hk9 h8k.1 h8k.2 hn0 hn hf
          rw [hd] at hct
          have HC := hide hct
          clear hct hB hf hd hc128 hn hn0
          go_wp2_with (first | (go_at_call 170; refine (unhide HC).mono ?_; rintro e w2 ⟨rfl, hT2, hsz2, hg2⟩) | (go_at_call 172; refine (number_any _ _ _ _ _ _ hT2).mono ?_; rintro e w3 ⟨rfl, rfl⟩))
          rw [Exit.noGoto_ret]
          go_ret3
          rw [HE.out]
          exact ⟨by simp; omega, hbel.trans (grownBy.below hg2 (Nat.le_refl _) (by have := hbel.size; omega))⟩
        · have HE : Hid (scan 0 0 (zs.drop p) = scan (k + 1) (n + c % 128 * 128 ^ k) (zs.drop (p + (k + 1)))) := by
            show scan 0 0 (zs.drop p) = _
            rw [HS.out, HD.out]; simp [scan, hf, hc128, Nat.add_assoc]
          have hk8 : k ≤ 8 := by
            rcases faultOf_le8 k c hf hk9 with h | ⟨_, h⟩ <;> omega
          have hd : decide (c < 128) = false := by simp [hc128]
          have hct := take_right w.heap.size k c n wr hT hk9 h8k.1 h8k.2 hn0 hn hf
          rw [hd] at hct
          have HC := hide hct
          have HB := hide hB
          clear hct hB hf hd hc128 hn hn0
          go_wp2_with (first | (go_at_call 170; refine (unhide HC).mono ?_; rintro e w2 ⟨rfl, hT2, hsz2, hg2⟩))
          go_roundw
          case rel => exact ⟨k + 1, _, by omega, by omega, by go_num, rfl, hT2, (unhide HB).1, (unhide HB).2, hbel.trans (grownBy.below hg2 (Nat.le_refl _) (by have := hbel.size; omega)), HE⟩
          case measure => simp [intOf]; omega
      · have hfb : (faultOf k c != 0) = true := by simpa using hf
        have HE : Hid (scan 0 0 (zs.drop p) = (0, k, faultOf k c)) := by
          show scan 0 0 (zs.drop p) = _
          rw [HS.out, HD.out]; simp [scan, hf]
        go_wp2_with (first | (go_at_call 170; refine (take_wrong w.heap.size k c n _ hT hk9 hf).mono ?_; rintro e w2 ⟨rfl, hT2, hsz2, hg2⟩) | (go_at_call 172; refine (number_any _ _ _ _ _ _ hT2).mono ?_; rintro e w3 ⟨rfl, rfl⟩))
        rw [Exit.noGoto_ret]
        go_ret3
        rw [HE.out]
        exact ⟨by simp, hbel.trans (grownBy.below hg2 (Nat.le_refl _) (by have := hbel.size; omega))⟩
    · have HE : Hid (scan 0 0 (zs.drop p) = (0, k, 11)) := by
        show scan 0 0 (zs.drop p) = _
        rw [HS.out, List.drop_eq_nil_of_le (by omega)]; simp [scan]
      have hge : ¬ (((p : Int) + (k : Int)) < (len : Int)) := by omega
      go_wp2_with (first | (go_at_call 172; refine (number_any _ _ _ _ _ _ hT).mono ?_; rintro e w3 ⟨rfl, rfl⟩))
      rw [Exit.noGoto_ret]
      go_ret3
      rw [HE.out]
      exact ⟨by simp, hbel⟩

set_option maxHeartbeats 400000 in
theorem read_nothing (a : Option Addr) (cap : Nat) (w : World) :
    Calls Tryz.prog 183 #[.slice a 0 cap, .int .i64 0] w fun e w' => e = .returned (.tuple #[.int .u64 0, .int .i64 0, .int .i64 11]) ∧ Below w.heap.size w w' := by
  go_enter Tryz.func183, Tryz.ntmps183
  go_wp2
  go_step3
  go_wp2_with (go_at_call 169; refine (new_any _).mono ?_; rintro e w1 ⟨rfl, hT1, hsz1, hb1⟩)
  go_step3
  go_wp2_with fail
  refine wp_loop_rounds 1 ?_
  rw [rounds_succ]
  go_wp2_with (first | (go_at_call 172; refine (number_any _ _ _ _ _ _ hT1).mono ?_; rintro e w3 ⟨rfl, rfl⟩))
  rw [Exit.noGoto_ret]
  go_ret3
  exact ⟨by simp, hb1⟩

/-- Read at any place of any bytes. -/
theorem read_any (a : Option Addr) (len cap : Nat) (p : Int) (zs : List Int) (w : World) (hl : zs.length = len) (hm : len ≤ maxLen) (hr : Row w .u8 a zs) (h8 : Fits8 zs) :
    Calls Tryz.prog 183 #[.slice a len cap, .int .i64 p] w fun e w' =>
      e = .returned (.tuple #[.int .u64 (rdNum zs p), .int .i64 (rdEnd zs p), .int .i64 (rdErr zs p)]) ∧ Below w.heap.size w w' := by
  by_cases hp : p < 0 ∨ (len : Int) < p
  · refine (read_bad a len cap p w hp).mono ?_
    rintro e w' ⟨rfl, rfl⟩
    subst hl
    exact ⟨by simp [rdNum, rdEnd, rdErr, hp], Below.refl _ _⟩
  · obtain ⟨q, rfl⟩ := Int.eq_ofNat_of_zero_le (show 0 ≤ p by omega)
    have e1 : rdNum zs q = (scan 0 0 (zs.drop q)).1 := by subst hl; simp [rdNum]; omega
    have e2 : rdEnd zs q = q + (scan 0 0 (zs.drop q)).2.1 := by subst hl; simp [rdEnd]; omega
    have e3 : rdErr zs q = (scan 0 0 (zs.drop q)).2.2 := by subst hl; simp [rdErr]; omega
    rw [e1, e2, e3]
    by_cases h0 : len = 0
    · subst h0
      have hz : zs = [] := List.eq_nil_of_length_eq_zero hl
      subst hz
      obtain rfl : q = 0 := by omega
      refine (read_nothing a cap w).mono ?_
      rintro e w' ⟨rfl, hb⟩
      exact ⟨by simp [scan], hb⟩
    · obtain ⟨b, off, rfl, hb, hc⟩ := hr.cons (by omega)
      exact read_some b off len cap q zs w hl hm (by omega) hb (by rw [← hl]; exact hc) h8

end Go.Proofs.YtepjblmjjegpgaaGreat
