/- What the document's Bytes, 'spoil' and 'sameNumbers' do. -/
import Derived.Test.YtlphpcacngimhaaJoin
import Derived.Test.YtlphpcacngimhaaRTake
namespace Go.Proofs.Ytlphpcacngimhaa
open Go.RowKit

set_option maxHeartbeats 800000 in
theorem rbytes_any (n : Nat) (w : World) (hn : n ≤ 18446744073709551615) :
    Calls Try.prog 14 #[.int .u64 (n : Int)] w fun e w' => ∃ g cap, e = .returned (.slice (some ⟨g, 0, none⟩) (enc n).length cap) ∧
      w'.ownsRow w.heap.size 5 1 (.slice (some ⟨g, 0, none⟩) (enc n).length cap) (enc n).length ((enc n).map (Value.int .u8)) ∧ Below w.heap.size w w' := by
  obtain ⟨i0, hi, hz0, hz1, hz2⟩ := info_parts infoB
  go_enter Try.func14, Try.ntmps14
  go_wp2
  go_loopw [0, 3] (fun m s wr => ∃ (j M : Nat) (ys : List Int) (v : Value), j ≤ 9 ∧ ys.length = j ∧ M ≤ 18446744073709551615 ∧ s = v ∧ m = .int .u64 (M : Int) ∧ Hid (M = n / 128 ^ j ∧ ys ++ encF (9 - j) M = enc n) ∧
      wr.ownsRow w.heap.size 5 1 v j (ys.map (Value.int .u8)) ∧ Below w.heap.size w wr) (fun m _ _ => (intOf m).toNat)
  case atStart => exact ⟨0, n, [], _, by omega, rfl, hn, rfl, rfl, ⟨by simp, rfl⟩, World.ownsRow_nil _ _ _ _, Below.refl _ _⟩
  case round =>
    obtain ⟨j, M, ys, v, hj, hys, hM64, rfl, rfl, HM, hownr, hbel⟩ := hrel
    have hsz := hbel.size
    by_cases hge : 128 ≤ M
    · have hst := enc_step n j M ys hn HM.out.1 hj hge HM.out.2
      have hj8 := hst.1
      have HST := hide hst
      clear hst
      have hgeI : (128 : Int) ≤ (M : Int) := by omega
      have hMI : (M : Int) ≤ 18446744073709551615 := by omega
      go_wp2_with (first
        | (at_builtin; refine append_mine rfl (.tmp 6) (.tmp 11) 23 rfl w.heap.size 5 i0 (.int .u8 0) 1 Try.underlying23 hi hz0 hz1 hz2 rfl _ j _ rfl (hownr.alloc _) ⟨wr.heap.size, 0, none⟩ 1 1 [.int .u8 ((M : Int) % 128 + 128)] rfl rfl (cell_one_new _ _ _) (by intro u hu; simp at hu; subst hu; rfl) (by omega) (by unfold maxLen; omega) (by omega) (by simp; omega) ?_; intro g' cap' w1 hown1 hg1 hor))
      go_roundw
      case rel =>
        refine ⟨j + 1, M / 128, ys ++ [((M % 128 + 128 : Nat) : Int)], _, by omega, by simp [hys], by omega, rfl, by go_num, ⟨HST.out.2.1, HST.out.2.2⟩, ?_, (hbel.alloc hsz _).grown hg1 (by simp; omega) (fun k h => (hownr.lt k h).1)⟩
        have e : ((M % 128 + 128 : Nat) : Int) = (M : Int) % 128 + 128 := by omega
        rw [e, ← map_snoc]
        exact hown1
      case measure => simp [intOf]; omega
    · have he : enc n = ys ++ [(M : Int)] := by rw [← HM.out.2, encF_lt _ _ (by omega)]
      have hlen : (enc n).length = j + 1 := by rw [he]; simp [hys]
      have HE := hide he
      have HL := hide hlen
      clear he hlen
      have hgeI : ¬ (128 : Int) ≤ (M : Int) := by omega
      go_wp2_with (first
        | (at_builtin; refine append_mine rfl (.tmp 15) (.tmp 18) 23 rfl w.heap.size 5 i0 (.int .u8 0) 1 Try.underlying23 hi hz0 hz1 hz2 rfl _ j _ rfl (hownr.alloc _) ⟨wr.heap.size, 0, none⟩ 1 1 [.int .u8 (M : Int)] rfl rfl (cell_one_new _ _ _) (by intro u hu; simp at hu; subst hu; rfl) (by omega) (by unfold maxLen; omega) (by omega) (by simp; omega) ?_; intro g' cap' w1 hown1 hg1 hor))
      go_ret
      rw [map_snoc] at hown1
      rw [HL.out, HE.out]
      exact ⟨g', cap', rfl, hown1, (hbel.alloc hsz _).grown hg1 (by simp; omega) (fun k h => (hownr.lt k h).1)⟩

set_option maxHeartbeats 800000 in
theorem spoil_any (g len cap : Nat) (w : World) (hm : len ≤ maxLen) (hc : ∀ i, i < len → ∃ x, w.cell? ⟨g, i, none⟩ = some (.int .u8 x)) (hf : ∀ i, w.frozen? ⟨g, i, none⟩ = false) :
    Calls Try.prog 16 #[.slice (some ⟨g, 0, none⟩) len cap] w fun e w' => e = .returned (.tuple #[]) ∧ w.grownBy w' (some g) := by
  unfold maxLen at hm
  have HC := hide hc
  clear hc
  go_enter Try.func16, Try.ntmps16
  go_wp2
  go_loopw [2] (fun q wr => ∃ k : Nat, k ≤ len ∧ q = .int .i64 (k : Int) ∧ Hid (∀ i, i < len → ∃ x, wr.cell? ⟨g, i, none⟩ = some (.int .u8 x)) ∧ (∀ i, wr.frozen? ⟨g, i, none⟩ = false) ∧ w.grownBy wr (some g)) (fun q _ => len - (intOf q).toNat)
  case atStart => exact ⟨0, by omega, rfl, HC, hf, grownBy_refl _ _⟩
  case round =>
    obtain ⟨k, hk, rfl, HK, hfr, hgr⟩ := hrel
    by_cases hlt : k < len
    · obtain ⟨x, hx⟩ := HK.out k hlt
      have hfk := hfr k
      have HF := hide hfr
      clear hfr hf
      go_wp2
      go_roundw
      case rel =>
        refine ⟨k + 1, by omega, by go_num, fun i hi => ?_, fun i => by rw [World.frozen?_setCell]; exact HF.out i, grownBy_setCell hgr _ _⟩
        by_cases e : i = k
        · subst e
          exact ⟨_, World.cell?_setCell_same _ _ _ hx⟩
        · obtain ⟨y, hy⟩ := HK.out i hi
          exact ⟨y, (World.cell?_setCell_other _ _ _ _ (by intro h; apply e; cases h; rfl)).trans hy⟩
      case measure => simp [intOf]; omega
    · have hge : ¬ (k : Int) < (len : Int) := by omega
      go_wp2
      go_end0
      exact ⟨rfl, hgr⟩

set_option maxHeartbeats 400000 in
theorem nsame_some (b1 o1 c1 b2 o2 c2 l : Nat) (xs : List Int) (w : World) (hl : l ≤ maxLen)
    (k1 : ∀ i, i < l → w.cell? ⟨b1, o1 + i, none⟩ = some (.int .u64 (xs.getD i 0))) (k2 : ∀ i, i < l → w.cell? ⟨b2, o2 + i, none⟩ = some (.int .u64 (xs.getD i 0))) :
    Calls Try.prog 18 #[.slice (some ⟨b1, o1, none⟩) l c1, .slice (some ⟨b2, o2, none⟩) l c2] w fun e w' => e = .returned (.bool true) ∧ Still w w' := by
  unfold maxLen at hl
  have K1 := hide k1
  have K2 := hide k2
  clear k1 k2
  go_enter Try.func18, Try.ntmps18
  go_wp2
  go_loopw [5] (fun q wr => ∃ k : Nat, k ≤ l ∧ q = .int .i64 (k : Int) ∧ Still w wr) (fun q _ => l - (intOf q).toNat)
  case atStart => exact ⟨0, by omega, rfl, Still.refl _⟩
  case round =>
    obtain ⟨k, hk, rfl, hst⟩ := hrel
    by_cases hlt : k < l
    · have g1 : wr.cell? ⟨b1, o1 + k, none⟩ = some (.int .u64 (xs.getD k 0)) := (hst.cell _).trans (K1.out k hlt)
      have g2 : wr.cell? ⟨b2, o2 + k, none⟩ = some (.int .u64 (xs.getD k 0)) := (hst.cell _).trans (K2.out k hlt)
      have hi : (k : Int) < (l : Int) := by omega
      generalize xs.getD k 0 = c at *
      go_wp2
      go_quiet (fail)
      go_wp2
      go_roundw
      case rel => exact ⟨k + 1, by omega, by go_num, hst.drewN _⟩
      case measure => simp [intOf]; omega
    · have hge : ¬ (k : Int) < (l : Int) := by omega
      go_wp2
      go_ret
      exact ⟨rfl, hst⟩

set_option maxHeartbeats 400000 in
theorem nsame_nothing (a b : Option Addr) (c1 c2 : Nat) (w : World) :
    Calls Try.prog 18 #[.slice a 0 c1, .slice b 0 c2] w fun e w' => e = .returned (.bool true) ∧ w' = w := by
  go_enter Try.func18, Try.ntmps18
  go_wp2
  refine wp_loop_rounds 1 ?_
  rw [rounds_succ]
  go_wp2
  go_ret
  exact ⟨rfl, rfl⟩

/-- Two rows of the same numbers. -/
theorem nsame_any (a b : Option Addr) (l c1 c2 : Nat) (xs : List Int) (w : World) (hl : l ≤ maxLen) (h1 : xs.length = l) (r1 : Row w .u64 a xs) (r2 : Row w .u64 b xs) :
    Calls Try.prog 18 #[.slice a l c1, .slice b l c2] w fun e w' => e = .returned (.bool true) ∧ Still w w' := by
  by_cases h0 : l = 0
  · subst h0
    refine (nsame_nothing a b c1 c2 w).mono ?_
    rintro e w' ⟨rfl, rfl⟩
    exact ⟨rfl, Still.refl _⟩
  · obtain ⟨b1, o1, rfl, _, k1⟩ := r1.cons (by omega)
    obtain ⟨b2, o2, rfl, _, k2⟩ := r2.cons (by omega)
    exact nsame_some b1 o1 c1 b2 o2 c2 l xs w hl (by rw [← h1]; exact k1) (by rw [← h1]; exact k2)

end Go.Proofs.Ytlphpcacngimhaa
