/- VintPieces: the walk. -/
import Derived.Test.YtlphpcacngimhabLives
namespace Go.Proofs.Ytlphpcacngimhab
open Go.RowKit

theorem read_zero (b off len cap : Nat) (zs : List Int) (w : World) (hl : zs.length = len) (hm : len ≤ maxLen) (hb : b < w.heap.size)
    (hc : ∀ i, i < len → w.cell? ⟨b, off + i, none⟩ = some (.int .u8 (zs.getD i 0))) (h8 : Fits8 zs) (N : Int) (M : Nat) (E : Int) (hs : Hid (scan 0 0 zs = (N, M, E))) :
    Calls Try.prog 7 #[.slice (some ⟨b, off, none⟩) len cap, .int .i64 0] w fun e w' =>
      e = .returned (.tuple #[.int .u64 N, .int .i64 M, .int .i64 E]) ∧ Below w.heap.size w w' := by
  have h := read_some b off len cap 0 zs w hl hm (by omega) hb hc h8
  rw [List.drop_zero, hs.out] at h
  simpa using h

set_option maxHeartbeats 800000 in
theorem pieces_some (b off len cap : Nat) (zs : List Int) (w : World) (hl : zs.length = len) (hm : len ≤ maxLen) (hb : b < w.heap.size)
    (hc : ∀ i, i < len → w.cell? ⟨b, off + i, none⟩ = some (.int .u8 (zs.getD i 0))) (h8 : Fits8 zs) :
    Calls Try.prog 4 #[.slice (some ⟨b, off, none⟩) len cap] w fun e w' => e = .returned (.bool true) ∧ Below w.heap.size w w' := by
  have hm' := hm
  unfold maxLen at hm'
  obtain ⟨N, M, E, HS⟩ : ∃ N M E, Hid (scan 0 0 zs = (N, M, E)) := ⟨_, _, _, rfl⟩
  go_enter Try.func4, Try.ntmps4
  go_wp2_with (first
    | (go_at_call 5; refine (lives_any _).mono ?_; rintro e w1 ⟨rfl, hb1⟩)
    | (go_at_call 9; refine (new_any _).mono ?_; rintro e w2 ⟨rfl, hT2, hsz2, hb2⟩))
  have hz1 := hb1.size
  have hb02 : Below w.heap.size w w2 := hb1.trans (hb2.mono hz1)
  refine (read_zero b off len cap zs w2 hl hm (by omega) (fun i hi => (hb02.cell (p := ⟨b, off + i, none⟩) hb).trans (hc i hi)) h8 N M E HS).mono ?_
  rintro e w3 ⟨rfl, hb3⟩
  have hT3 := hT2.below hb3 (by omega)
  have hb03 : Below w.heap.size w w3 := hb02.trans (hb3.mono (by omega))
  have hz3 := hb3.size
  generalize w1.heap.size = B at *
  clear hT2 hb2 hb1 hb02 hb3
  go_wp2_with fail
  go_loopw [8] (fun q wr => ∃ (k : Nat) (n : Int), k ≤ len ∧ k ≤ 9 ∧ q = .int .i64 (k : Int) ∧ IsT wr B n k false false ∧ 0 ≤ n ∧ n < 128 ^ k ∧ Below w.heap.size w wr ∧ Hid (scan k n (zs.drop k) = (N, M, E))) (fun q _ => len - (intOf q).toNat)
  case atStart => exact ⟨0, 0, by omega, by omega, rfl, hT3, by omega, by decide, hb03, HS⟩
  case round =>
    obtain ⟨k, n, hk, hk9, rfl, hT, hn0, hn, hbel, HS⟩ := hrel
    by_cases hlt : k < len
    · have hcell : wr.cell? ⟨b, off + k, none⟩ = some (.int .u8 (zs.getD k 0)) := (hbel.cell (p := ⟨b, off + k, none⟩) hb).trans (hc k hlt)
      have h8k := h8 k
      have hdr := getD_drop zs k (by omega)
      generalize zs.getD k 0 = c at *
      have HD : Hid (zs.drop k = c :: zs.drop (k + 1)) := hdr
      clear hdr
      by_cases hf : faultOf k c = 0
      · have hB := step_bound n c k hn0 hn
        by_cases hc128 : c < 128
        · have hE : (n + c % 128 * 128 ^ k, k + 1, 0) = (N, M, E) := by
            rw [← HS.out, HD.out]; simp [scan, hf, hc128]
          simp only [Prod.mk.injEq] at hE
          obtain ⟨rfl, rfl, rfl⟩ := hE
          have hd : decide (c < 128) = true := by simp [hc128]
          have hct := take_right B k c n wr hT hk9 h8k.1 h8k.2 hn0 hn hf
          rw [hd] at hct
          have HC := hide hct
          clear hct hB hf hd hc128 hn hn0 hT3
          go_wp2_with (first
            | (go_at_call 10; refine (unhide HC).mono ?_; rintro e w4 ⟨rfl, hT4, hsz4, hg4⟩)
            | (go_at_call 11; refine (taken_any _ _ _ _ _ _ hT4).mono ?_; rintro e w5 ⟨rfl, rfl⟩)
            | (go_at_call 12; refine (number_any _ _ _ _ _ _ hT4).mono ?_; rintro e w5 ⟨rfl, rfl⟩))
          go_ret
          exact ⟨by simp, hbel.trans (grownBy.below hg4 (by omega) (by have := hbel.size; omega))⟩
        · have HE : Hid (scan (k + 1) (n + c % 128 * 128 ^ k) (zs.drop (k + 1)) = (N, M, E)) := by
            show _ = _
            rw [← HS.out, HD.out]; simp [scan, hf, hc128]
          have hk8 : k ≤ 8 := by
            rcases faultOf_le8 k c hf hk9 with h | ⟨_, h⟩ <;> omega
          have hd : decide (c < 128) = false := by simp [hc128]
          have hct := take_right B k c n wr hT hk9 h8k.1 h8k.2 hn0 hn hf
          rw [hd] at hct
          have HC := hide hct
          have HB := hide hB
          clear hct hB hf hd hc128 hn hn0 hT3
          go_wp2_with (first
            | (go_at_call 10; refine (unhide HC).mono ?_; rintro e w4 ⟨rfl, hT4, hsz4, hg4⟩)
            | (go_at_call 11; refine (taken_any _ _ _ _ _ _ hT4).mono ?_; rintro e w5 ⟨rfl, rfl⟩)
            | (go_at_call 12; refine (number_any _ _ _ _ _ _ hT4).mono ?_; rintro e w5 ⟨rfl, rfl⟩))
          go_roundw
          case rel => exact ⟨k + 1, _, by omega, by omega, by go_num, hT4, (unhide HB).1, (unhide HB).2, hbel.trans (grownBy.below hg4 (by omega) (by have := hbel.size; omega)), HE⟩
          case measure => simp [intOf]; omega
      · have hE : (0, k, faultOf k c) = (N, M, E) := by
          rw [← HS.out, HD.out]; simp [scan, hf]
        simp only [Prod.mk.injEq] at hE
        obtain ⟨rfl, rfl, rfl⟩ := hE
        have HC := hide (take_wrong B k c n wr hT hk9 hf)
        have hfb : (faultOf k c != 0) = true := by simpa using hf
        generalize faultOf k c = F at *
        clear hf hn hn0 hT3
        go_wp2_with (first
          | (go_at_call 10; refine (unhide HC).mono ?_; rintro e w4 ⟨rfl, hT4, hsz4, hg4⟩)
          | (go_at_call 11; refine (taken_any _ _ _ _ _ _ hT4).mono ?_; rintro e w5 ⟨rfl, rfl⟩)
          | (go_at_call 12; refine (number_any _ _ _ _ _ _ hT4).mono ?_; rintro e w5 ⟨rfl, rfl⟩))
        go_ret
        exact ⟨by simp, hbel.trans (grownBy.below hg4 (by omega) (by have := hbel.size; omega))⟩
    · have hE : (0, k, 11) = (N, M, E) := by
        rw [← HS.out, List.drop_eq_nil_of_le (by omega)]; simp [scan]
      simp only [Prod.mk.injEq] at hE
      obtain ⟨rfl, rfl, rfl⟩ := hE
      have hkl : k = len := by omega
      have hge : ¬ ((k : Int) < (len : Int)) := by omega
      have heq : ((k : Int) == (len : Int)) = true := by simp [hkl]
      go_wp2_with fail
      go_ret
      exact ⟨by simp, hbel⟩

set_option maxHeartbeats 800000 in
theorem pieces_nothing (a : Option Addr) (cap : Nat) (w : World) :
    Calls Try.prog 4 #[.slice a 0 cap] w fun e w' => e = .returned (.bool true) ∧ Below w.heap.size w w' := by
  go_enter Try.func4, Try.ntmps4
  go_wp2_with (first
    | (go_at_call 5; refine (lives_any _).mono ?_; rintro e w1 ⟨rfl, hb1⟩)
    | (go_at_call 9; refine (new_any _).mono ?_; rintro e w2 ⟨rfl, hT2, hsz2, hb2⟩)
    | (go_at_call 7; refine (read_nothing _ _ _).mono ?_; rintro e w3 ⟨rfl, hb3⟩))
  refine wp_loop_rounds 1 ?_
  rw [rounds_succ]
  go_wp2_with fail
  go_ret
  have hz1 := hb1.size
  exact ⟨rfl, (hb1.trans (hb2.mono hz1)).trans (hb3.mono (by omega))⟩

theorem pieces_any (a : Option Addr) (len cap : Nat) (zs : List Int) (w : World) (hl : zs.length = len) (hm : len ≤ maxLen) (hr : Row w .u8 a zs) (h8 : Fits8 zs) :
    Calls Try.prog 4 #[.slice a len cap] w fun e w' => e = .returned (.bool true) ∧ Below w.heap.size w w' := by
  by_cases h0 : len = 0
  · subst h0; exact pieces_nothing a cap w
  · obtain ⟨b, off, rfl, hb, hc⟩ := hr.cons (by omega)
    exact pieces_some b off len cap zs w hl hm hb (by rw [← hl]; exact hc) h8

end Go.Proofs.Ytlphpcacngimhab
