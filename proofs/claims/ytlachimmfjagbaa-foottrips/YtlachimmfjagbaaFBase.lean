/- foot: numbers' bytes, of both sides. -/
import Derived.Test.YtlachimmfjagbaaKJoin
import Derived.Test.YtlachimmfjagbaaKClone
import Derived.Test.YtlachimmfjagbaaKRef
import Derived.Test.YtlachimmfjagbaaPUpd
import Derived.Test.YtlachimmfjagbaaFApp
namespace Go.Proofs.Ytlachimmfjagbaa
open Go.RowKit

set_option maxHeartbeats 400000 in
theorem vbytes_any (n : Nat) (w : World) (hn : n ≤ 18446744073709551615) :
    Calls Try.prog 29 #[.int .u64 (n : Int)] w fun e w' => e = .returned (.slice (some ⟨w.heap.size + 1, 0, none⟩) (enc n).length (enc n).length) ∧ OwnB w' w.heap.size 5 (.slice (some ⟨w.heap.size + 1, 0, none⟩) (enc n).length (enc n).length) (enc n) ∧ Below w.heap.size w w' := by
  have hrow : Row (w.alloc (.cells #[.int .u64 (n : Int)] 53)) .u64 (some ⟨w.heap.size, 0, none⟩) [(n : Int)] := by
    intro i hi
    refine ⟨w.heap.size, 0, rfl, ?_⟩
    rw [Nat.zero_add, cell_of_row _ _ _ _ _ _ (heap_alloc_new w _)]
    match i, hi with
    | 0, _ => rfl
  have h64 : Fits64 [(n : Int)] := by
    intro i
    match i with
    | 0 => simp; omega
    | i + 1 => simp
  have HJ := hide (join_any (some ⟨w.heap.size, 0, none⟩) 1 1 [(n : Int)] (w.alloc (.cells #[.int .u64 (n : Int)] 53)) rfl (by omega) hrow h64)
  rw [encs_one, Int.toNat_natCast, World.size_alloc] at HJ
  clear hrow h64
  go_enter Try.func29, Try.ntmps29
  go_wp2_with fail
  refine HJ.out.mono ?_
  rintro e w1 ⟨rfl, ho, hb⟩
  replace ho := hide ((ownB_full ho rfl).mono (Nat.le_succ _))
  replace hb := hide hb
  go_wp2_with fail
  go_ret
  exact ⟨rfl, ho.out, ((Below.refl _ _).alloc (Nat.le_refl _) _).trans (hb.out.mono (by omega))⟩

theorem row_byte (w : World) (c : Int) (T : TypeId) : Row (w.alloc (.cells #[.int .u8 c] T)) .u8 (some ⟨w.heap.size, 0, none⟩) [c] := by
  intro i hi
  obtain rfl : i = 0 := by simp at hi; omega
  exact ⟨_, 0, rfl, by rw [cell_of_row _ _ _ _ _ _ (heap_alloc_new w _)]; rfl⟩

set_option maxHeartbeats 800000 in
theorem rnum_any (n : Nat) (w : World) (hn : n ≤ 18446744073709551615) :
    Calls Try.prog 40 #[.int .u64 (n : Int)] w fun e w' => ∃ v, e = .returned v ∧ OwnB w' w.heap.size 5 v (enc n) ∧ Below w.heap.size w w' := by
  obtain ⟨i0, hi, hz0, hz1, hz2⟩ := info_parts infoByte'
  go_enter Try.func40, Try.ntmps40
  go_wp2
  go_loopw [0, 3] (fun m s wr => ∃ (j M : Nat) (ys : List Int) (v : Value), j ≤ 9 ∧ ys.length = j ∧ M ≤ 18446744073709551615 ∧ s = v ∧ m = .int .u64 (M : Int) ∧ Hid (M = n / 128 ^ j ∧ ys ++ encF (9 - j) M = enc n) ∧
      OwnB wr w.heap.size 5 v ys ∧ Below w.heap.size w wr) (fun m _ _ => (intOf m).toNat)
  case atStart => exact ⟨0, n, [], _, by omega, rfl, hn, rfl, rfl, ⟨by simp, rfl⟩, OwnB.nil _ _ _, Below.refl _ _⟩
  case round =>
    obtain ⟨j, M, ys, v, hj, hys, hM64, rfl, rfl, HM, hownr, hbel⟩ := hrel
    have hsz := hbel.size
    by_cases hge : 128 ≤ M
    · have hst := enc_step n j M ys hn HM.out.1 hj hge HM.out.2
      have hj8 := hst.1
      have HST := hide hst
      clear hst
      have hgeI : (128 : Int) ≤ (M : Int) := by omega
      have hMI : (M : Int) ≤ 18446744073709551615 := by omega
      have HO := hide hownr
      clear hownr
      go_wp2_with (first
        | (at_builtin; refine append_b rfl (.tmp 6) (.tmp 11) 25 rfl w.heap.size 5 i0 Try.underlying25 hi hz0 hz1 hz2 _ ys rfl (HO.out.below ((Below.refl _ _).alloc (Nat.le_refl _) _)) (some ⟨wr.heap.size, 0, none⟩) 1 1 [(M : Int) % 128 + 128] rfl rfl (by intro h; cases h) (row_byte _ _ _) (by omega) (by simp; omega) ?_; intro v1 w1 hown1 hg1))
      go_roundw
      case rel =>
        refine ⟨j + 1, M / 128, ys ++ [((M % 128 + 128 : Nat) : Int)], _, by omega, by simp [hys], by omega, rfl, by go_num, ⟨HST.out.2.1, HST.out.2.2⟩, ?_, (hbel.alloc hsz _).grown hg1 (by simp; omega) (fun k h => (HO.out.owns.lt k h).1)⟩
        have e : ((M % 128 + 128 : Nat) : Int) = (M : Int) % 128 + 128 := by omega
        rw [e]
        exact hown1
      case measure => simp [intOf]; omega
    · have he : enc n = ys ++ [(M : Int)] := by rw [← HM.out.2, encF_lt _ _ (by omega)]
      have HE := hide he
      clear he
      have hgeI : ¬ (128 : Int) ≤ (M : Int) := by omega
      have HO := hide hownr
      clear hownr
      go_wp2_with (first
        | (at_builtin; refine append_b rfl (.tmp 15) (.tmp 18) 25 rfl w.heap.size 5 i0 Try.underlying25 hi hz0 hz1 hz2 _ ys rfl (HO.out.below ((Below.refl _ _).alloc (Nat.le_refl _) _)) (some ⟨wr.heap.size, 0, none⟩) 1 1 [(M : Int)] rfl rfl (by intro h; cases h) (row_byte _ _ _) (by omega) (by simp; omega) ?_; intro v1 w1 hown1 hg1))
      go_ret
      rw [HE.out]
      exact ⟨v1, rfl, hown1, (hbel.alloc hsz _).grown hg1 (by simp; omega) (fun k h => (HO.out.owns.lt k h).1)⟩

end Go.Proofs.Ytlachimmfjagbaa
