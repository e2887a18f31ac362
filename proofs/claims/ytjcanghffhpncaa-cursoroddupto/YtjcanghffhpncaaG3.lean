/- What the document's own Read answers: what 'scan' says; it only reads. -/
import Derived.Test.YtjcanghffhpncaaRows
import Derived.Test.YtjcanghffhpncaaG1
import Derived.WalkKit
import Derived.WalkSpells
import Derived.WalkLawsBesides
namespace Go.Proofs.Ytjcanghffhpncaa
open Go.RowKit

/-- The number of the first k bytes from place p on. -/
def pre (zs : List Int) (p : Nat) : Nat → Int
  | 0 => 0
  | k + 1 => pre zs p k + zs.getD (p + k) 0 % 128 * 128 ^ k

theorem pre_bound (zs : List Int) (p k : Nat) : 0 ≤ pre zs p k ∧ pre zs p k < 128 ^ k := by
  induction k with
  | zero => simp [pre]
  | succ k ih => exact step_bound _ _ k ih.1 ih.2

theorem pre_u64 (zs : List Int) (p k : Nat) (hk : k ≤ 9) (h9 : k = 9 → zs.getD (p + 9) 0 ≤ 1) (h8 : Fits8 zs) : pre zs p (k + 1) ≤ 18446744073709551615 := by
  have hb := pre_bound zs p k
  by_cases e : k = 9
  · subst e
    have h1 := h9 rfl
    have h0 := (h8 (p + 9)).1
    have hm : zs.getD (p + 9) 0 % 128 ≤ 1 := by omega
    have hc : (128 : Int) ^ 9 = 9223372036854775808 := by decide
    show pre zs p 9 + zs.getD (p + 9) 0 % 128 * 128 ^ 9 ≤ _
    rw [hc] at *
    omega
  · have hb' := pre_bound zs p (k + 1)
    have hle : (128 : Int) ^ (k + 1) ≤ 128 ^ 9 := by
      rw [pow128i, pow128i]
      have := Nat.pow_le_pow_right (show 0 < 128 by decide) (show k + 1 ≤ 9 by omega)
      omega
    have hc : (128 : Int) ^ 9 = 9223372036854775808 := by decide
    omega

theorem hor_step (zs : List Int) (p j : Nat) (v T : Int) (h : v * 128 ^ (j + 1) + pre zs p (j + 1) = T) : (v * 128 + zs.getD (p + j) 0 % 128) * 128 ^ j + pre zs p j = T := by
  rw [pre, pow128_succ] at h
  rw [Int.add_mul, Int.mul_assoc, Int.mul_comm 128 (128 ^ j)]
  omega

theorem hor_le (v T : Int) (j : Nat) (q : Int) (hv : 0 ≤ v) (hq : 0 ≤ q) (h : v * 128 ^ j + q = T) : v ≤ T := by
  have hp := pow128_pos j
  have := Int.mul_le_mul_of_nonneg_left (show 1 ≤ (128 : Int) ^ j by omega) hv
  omega

theorem scan_done (zs : List Int) (p k : Nat) (hlt : p + k < zs.length) (hf : faultOf k (zs.getD (p + k) 0) = 0) (hc : zs.getD (p + k) 0 < 128) (hs : scan 0 0 (zs.drop p) = scan k (pre zs p k) (zs.drop (p + k))) :
    scan 0 0 (zs.drop p) = (pre zs p (k + 1), k + 1, 0) := by
  rw [hs, getD_drop zs (p + k) hlt, scan, if_neg (by rw [hf]; simp), if_pos hc, pre]
theorem scan_more (zs : List Int) (p k : Nat) (hlt : p + k < zs.length) (hf : faultOf k (zs.getD (p + k) 0) = 0) (hc : ¬ zs.getD (p + k) 0 < 128) (hs : scan 0 0 (zs.drop p) = scan k (pre zs p k) (zs.drop (p + k))) :
    scan 0 0 (zs.drop p) = scan (k + 1) (pre zs p (k + 1)) (zs.drop (p + (k + 1))) := by
  rw [hs, getD_drop zs (p + k) hlt, scan, if_neg (by rw [hf]; simp), if_neg hc, pre]
  rfl
theorem scan_wrong (zs : List Int) (p k : Nat) (hlt : p + k < zs.length) (hf : faultOf k (zs.getD (p + k) 0) ≠ 0) (hs : scan 0 0 (zs.drop p) = scan k (pre zs p k) (zs.drop (p + k))) :
    scan 0 0 (zs.drop p) = (0, k, faultOf k (zs.getD (p + k) 0)) := by
  rw [hs, getD_drop zs (p + k) hlt, scan, if_pos hf]
theorem scan_short (zs : List Int) (p k : Nat) (hge : zs.length ≤ p + k) (hs : scan 0 0 (zs.drop p) = scan k (pre zs p k) (zs.drop (p + k))) :
    scan 0 0 (zs.drop p) = (0, k, 11) := by
  rw [hs, List.drop_eq_nil_of_le hge, scan]

set_option maxHeartbeats 400000 in
theorem rread_bad (a : Option Addr) (len cap : Nat) (p : Int) (w : World) (h : p < 0 ∨ (len : Int) < p) :
    Calls Try.prog 62 #[.slice a len cap, .int .i64 p] w fun e w' => e = .returned (.tuple #[.int .u64 0, .int .i64 0, .int .i64 1]) ∧ w' = w := by
  by_cases h1 : p < 0
  · go_enter Try.func62, Try.ntmps62
    go_wp2
    go_ret3
    exact ⟨rfl, rfl⟩
  · have h2 : (len : Int) < p := by omega
    have h1' : 0 ≤ p := by omega
    clear h h1
    go_enter Try.func62, Try.ntmps62
    go_wp2
    go_ret3
    exact ⟨rfl, rfl⟩

set_option maxHeartbeats 800000 in
theorem rread_some (b off len cap p : Nat) (zs : List Int) (w : World) (hl : zs.length = len) (hm : len ≤ maxLen) (hp : p ≤ len)
    (hc : ∀ i, i < len → w.cell? ⟨b, off + i, none⟩ = some (.int .u8 (zs.getD i 0))) (h8 : Fits8 zs) :
    Calls Try.prog 62 #[.slice (some ⟨b, off, none⟩) len cap, .int .i64 p] w fun e w' =>
      e = .returned (.tuple #[.int .u64 (scan 0 0 (zs.drop p)).1, .int .i64 (p + (scan 0 0 (zs.drop p)).2.1), .int .i64 (scan 0 0 (zs.drop p)).2.2]) ∧ w' = w := by
  unfold maxLen at hm
  have HCL := hide hc
  clear hc
  have hp0 : decide ((p : Int) < 0) = false := by simp
  go_enter Try.func62, Try.ntmps62
  go_wp2
  go_loop [7, 8] (fun q c => ∃ k : Nat, p + k ≤ len ∧ k ≤ 9 ∧ q = .int .i64 (k : Int) ∧ Hid (scan 0 0 (zs.drop p) = scan k (pre zs p k) (zs.drop (p + k)))) (fun q _ => len - (intOf q).toNat)
  case atStart => exact ⟨0, by omega, by omega, rfl, rfl⟩
  case round =>
    obtain ⟨k, hk, hk9, rfl, HS⟩ := hrel
    by_cases hlt : p + k < len
    · have hcell := HCL.out (p + k) hlt
      have h8k := h8 (p + k)
      have hne : ((k : Int) == (len : Int) - (p : Int)) = false := beq_eq_false_iff_ne.2 (by omega)
      by_cases hf : faultOf k (zs.getD (p + k) 0) = 0
      · have hT := faultOf_le8 k _ hf hk9
        by_cases hc128 : zs.getD (p + k) 0 < 128
        · have HE := hide (scan_done zs p k (by omega) hf hc128 HS.out)
          have hU : pre zs p (k + 1) ≤ 18446744073709551615 := pre_u64 zs p k hk9 (fun e => by subst e; omega) h8
          generalize hg : zs.getD (p + k) 0 = c at *
          clear hg
          have h0b : ¬ (0 : Int) < (k : Int) ∨ ((0 : Int) < (k : Int) ∧ (c == 0) = false) := by
            by_cases e : k = 0
            · exact .inl (by omega)
            · refine .inr ⟨by omega, beq_eq_false_iff_ne.2 fun h => ?_⟩
              rw [h] at hf
              unfold faultOf at hf
              rw [if_neg (by omega), if_pos ⟨by omega, rfl⟩] at hf
              exact absurd hf (by decide)
          have h9b : ((k : Int) == 9) = false ∨ (((k : Int) == 9) = true ∧ c ≤ 1) := by
            rcases hT with h | h
            · exact .inl (beq_eq_false_iff_ne.2 (by omega))
            · exact .inr ⟨beq_iff_eq.2 (by omega), h.2⟩
          clear hf hT
          rcases h9b with h9 | ⟨h9, h91⟩
          all_goals rcases h0b with h0 | ⟨h0, h01⟩
          all_goals go_wp2
          all_goals
            go_loop [9, 10] (fun v i => ∃ (j : Nat) (V : Int), j ≤ k + 1 ∧ v = .int .u64 V ∧ 0 ≤ V ∧ i = .int .i64 ((p : Int) + (j : Int) - 1) ∧ Hid (V * 128 ^ j + pre zs p j = pre zs p (k + 1))) (fun _ i => (intOf i - (p : Int) + 1).toNat)
            case atStart => exact ⟨k + 1, 0, by omega, rfl, by omega, by go_num, by show _ = _; simp⟩
            case round =>
              obtain ⟨j, V, hj, rfl, hV, hi, HV⟩ := hrel
              cases j with
              | zero =>
                have hVT : V = pre zs p (k + 1) := by have := HV.out; simp [pre] at this; exact this
                have HVT := hide hVT
                clear hVT
                subst hi
                have hge : ¬ (p : Int) ≤ (p : Int) + ((0 : Nat) : Int) - 1 := by omega
                go_wp2
                go_ret3
                rw [HE.out, ← HVT.out]
                exact ⟨by simp, rfl⟩
              | succ j =>
                have hst := hor_step zs p j V _ HV.out
                have hcj := HCL.out (p + j) (by omega)
                have h8j := h8 (p + j)
                have hpj := pre_bound zs p j
                generalize zs.getD (p + j) 0 = d at *
                have hle := hor_le (V * 128 + d % 128) _ j _ (by omega) hpj.1 hst
                have hup : V * 128 + d % 128 ≤ 18446744073709551615 := by omega
                have HST := hide hst
                clear hst hle hpj hU
                rw [show (p : Int) + ((j + 1 : Nat) : Int) - 1 = ((p + j : Nat) : Int) from by omega] at hi
                subst hi
                go_wp2
                go_round
                case rel => exact ⟨j, V * 128 + d % 128, by omega, by go_num, by omega, by go_num, HST⟩
                case measure => simp [intOf]; omega
        · have HE := hide (scan_more zs p k (by omega) hf hc128 HS.out)
          have hk8 : k ≤ 8 := by omega
          have hk9' : ((k : Int) == 9) = false := beq_eq_false_iff_ne.2 (by omega)
          have hcz : (zs.getD (p + k) 0 == 0) = false := beq_eq_false_iff_ne.2 (by omega)
          generalize zs.getD (p + k) 0 = c at *
          clear hf hT
          rcases Nat.eq_zero_or_pos k with hk0 | hk0
          · have hk0' : ¬ (0 : Int) < (k : Int) := by omega
            clear hk0
            go_wp2
            go_round
            case rel =>
              refine ⟨_, _, _, _, ⟨k + 1, by omega, by omega, ?_, HE⟩, rfl, rfl, rfl, rfl⟩
              go_num
            case measure => simp [intOf]; omega
          · have hk0' : (0 : Int) < (k : Int) := by omega
            clear hk0
            go_wp2
            go_round
            case rel =>
              refine ⟨_, _, _, _, ⟨k + 1, by omega, by omega, ?_, HE⟩, rfl, rfl, rfl, rfl⟩
              go_num
            case measure => simp [intOf]; omega
      · have HE := hide (scan_wrong zs p k (by omega) hf HS.out)
        generalize zs.getD (p + k) 0 = c at *
        by_cases h9 : k = 9 ∧ 1 < c
        · obtain ⟨rfl, h1⟩ := h9
          have hF : faultOf ((9 : Nat) : Int) c = 12 := by unfold faultOf; rw [if_pos ⟨rfl, h1⟩]
          rw [hF] at HE
          clear hf hF
          go_wp2
          go_ret3
          rw [HE.out]
          exact ⟨by simp, rfl⟩
        · by_cases h0 : 0 < k ∧ c = 0
          · obtain ⟨hk0, rfl⟩ := h0
            have hF : faultOf (k : Int) 0 = 13 := by unfold faultOf; rw [if_neg (by omega), if_pos ⟨by omega, rfl⟩]
            rw [hF] at HE
            have hk0' : (0 : Int) < (k : Int) := by omega
            clear hf hF hk0 h9
            by_cases hk9' : k = 9
            · have h9b : ((k : Int) == 9) = true := beq_iff_eq.2 (by omega)
              clear hk9'
              go_wp2
              go_ret3
              rw [HE.out]
              exact ⟨by simp, rfl⟩
            · have h9b : ((k : Int) == 9) = false := beq_eq_false_iff_ne.2 (by omega)
              clear hk9'
              go_wp2
              go_ret3
              rw [HE.out]
              exact ⟨by simp, rfl⟩
          · exfalso
            apply hf
            unfold faultOf
            rw [if_neg (by omega), if_neg (by omega)]
    · have HE := hide (scan_short zs p k (by omega) HS.out)
      have heq : ((k : Int) == (len : Int) - (p : Int)) = true := beq_iff_eq.2 (by omega)
      go_wp2
      go_ret3
      rw [HE.out]
      exact ⟨by simp; omega, rfl⟩

set_option maxHeartbeats 400000 in
theorem rread_nothing (a : Option Addr) (cap : Nat) (w : World) :
    Calls Try.prog 62 #[.slice a 0 cap, .int .i64 0] w fun e w' => e = .returned (.tuple #[.int .u64 0, .int .i64 0, .int .i64 11]) ∧ w' = w := by
  go_enter Try.func62, Try.ntmps62
  go_wp2
  refine wp_loop_rounds 1 ?_
  rw [rounds_succ]
  go_wp2
  go_ret3
  exact ⟨rfl, rfl⟩

/-- The document's Read at any place of any bytes. -/
theorem rread_any (a : Option Addr) (len cap : Nat) (p : Int) (zs : List Int) (w : World) (hl : zs.length = len) (hm : len ≤ maxLen) (hr : Row w .u8 a zs) (h8 : Fits8 zs) :
    Calls Try.prog 62 #[.slice a len cap, .int .i64 p] w fun e w' =>
      e = .returned (.tuple #[.int .u64 (rdNum zs p), .int .i64 (rdEnd zs p), .int .i64 (rdErr zs p)]) ∧ w' = w := by
  by_cases hp : p < 0 ∨ (len : Int) < p
  · refine (rread_bad a len cap p w hp).mono ?_
    rintro e w' ⟨rfl, rfl⟩
    subst hl
    exact ⟨by simp [rdNum, rdEnd, rdErr, hp], rfl⟩
  · obtain ⟨q, rfl⟩ := Int.eq_ofNat_of_zero_le (show 0 ≤ p by omega)
    have e1 : rdNum zs q = (scan 0 0 (zs.drop q)).1 := by subst hl; simp [rdNum]; omega
    have e2 : rdEnd zs q = q + (scan 0 0 (zs.drop q)).2.1 := by subst hl; simp [rdEnd]; omega
    have e3 : rdErr zs q = (scan 0 0 (zs.drop q)).2.2 := by subst hl; simp [rdErr]; omega
    rw [e1, e2, e3]
    by_cases h0 : len = 0
    · subst h0
      have hz : zs = [] := List.eq_nil_of_length_eq_zero hl
      subst hz
      obtain rfl : q = 0 := by omega
      refine (rread_nothing a cap w).mono ?_
      rintro e w' ⟨rfl, rfl⟩
      exact ⟨by simp [scan], rfl⟩
    · obtain ⟨b, off, rfl, hb, hc⟩ := hr.cons (by omega)
      exact rread_some b off len cap q zs w hl hm (by omega) (by rw [← hl]; exact hc) h8

end Go.Proofs.Ytjcanghffhpncaa
