/- ArenaFills: the walk. -/
import Derived.Test.YtfpogjgbmibmcaaAHeld
import Derived.Test.YtfpogjgbmibmcaaAPick
namespace Go.Proofs.Ytfpogjgbmibmcaa
open Go.RowKit

/-- Behind i Allocs. -/
def FI (w wr : World) (A : Nat) (nodes : Int) (i : Nat) : Prop :=
  ∃ M L, PA wr A M Noth nodes 1 L ∧ (∀ k, M k → w.heap.size ≤ k) ∧ Below w.heap.size w wr ∧ L.map (·.w) = 0 :: List.replicate i 1
theorem fi_len {i : Nat} {L : List Sl} (h : L.map (·.w) = 0 :: List.replicate i 1) : L.length = i + 1 := by
  have := congrArg List.length h
  simpa using this
theorem held_fill (i : Nat) : (heldL (0 :: List.replicate i 1)).length = i := by
  have H : ∀ j, j ≤ i → (heldN (0 :: List.replicate i 1) (j + 1)).length = j := by
    intro j
    induction j with
    | zero => intro _; rfl
    | succ j ih =>
      intro hj
      rw [heldN_succ, List.length_append, ih (by omega), show (0 :: List.replicate i 1).getD (j + 1) 0 = 1 by simp [show j < i by omega]]
      rfl
  unfold heldL
  rw [show (0 :: List.replicate i 1).length = i + 1 by simp]
  exact H i (Nat.le_refl _)

set_option maxRecDepth 100000 in
set_option maxHeartbeats 3200000 in
theorem arenaFills_any (nodes many : Int) (w : World) (h1 : -9223372036854775808 ≤ many) (h2 : many ≤ 9223372036854775807) :
    Calls Try.prog 4 #[.int .i64 nodes, .int .i64 many] w fun e w' => e = .returned (.bool true) ∧ Below w.heap.size w w' := by
  have HPK : Hid (∀ W, Calls Try.prog 13 #[.int .i64 many, .int .i64 300] W fun e w' => e = .returned (.int .i64 (pickN many 300 : Nat)) ∧ w' = W) := fun W => pick_any many 300 W (by decide) (by decide) h1 h2
  have hm := pickN_lt many 300 (by decide)
  generalize pickN many 300 = most at *
  clear h1 h2
  by_cases hc : 1 ≤ nodes ∧ nodes ≤ 65536
  · obtain ⟨c1, c2⟩ := hc
    go_enter Try.func4, Try.ntmps4
    go_wp2_with fail
    refine (new_good nodes w c1 c2).mono ?_
    rintro e w1 ⟨A, b, M, rfl, hP, hM, hB⟩
    have H1 : Hid (FI w w1 A nodes 0) := ⟨M, _, hP, hM, hB, rfl⟩
    clear hP hM hB
    go_wp2_with fail
    refine keep (HPK.out w1) ?_
    go_wp2_with fail
    go_loopw [8] (fun q8 wr => ∃ i : Nat, i ≤ most ∧ q8 = .int .i64 (i : Int) ∧ Hid (FI w wr A nodes i)) (fun q8 _ => most - (intOf q8).toNat)
    case atStart => exact ⟨0, Nat.zero_le _, rfl, H1⟩
    case round =>
      obtain ⟨i, hi, rfl, HF⟩ := hrel
      rename World => wr
      obtain ⟨M2, L, hP, hM, hB, hL⟩ := HF.out
      have hlen := fi_len hL
      have HU := hide (used_any hP)
      rw [hlen] at HU
      have HP := hide hP
      have HM := hide hM
      have HBB := hide hB
      have HL := hide hL
      have HLEN := hide hlen
      clear hP hM hB hL hlen HF H1
      by_cases hlt : i < most
      · have j1 : (i : Int) < (most : Int) := by omega
        go_wp2_with fail
        refine keep HU.out ?_
        by_cases hfull : ((i + 1 : Nat) : Int) = nodes
        · go_wp2_with fail
          refine (alloc_full HP.out (by rw [HLEN.out]; exact hfull)).mono ?_
          rintro e w3 ⟨rfl, k, hk⟩
          have HL3 := hide (left_any (HP.out.drewN k))
          rw [← hk, HLEN.out, show nodes - ((i + 1 : Nat) : Int) = 0 by omega] at HL3
          have B3 : Hid (Below w.heap.size w w3) := by show Below _ _ _; rw [hk]; exact below_drewN HBB.out k
          clear hk
          have j3 : (((i + 1 : Nat) : Int) == nodes) = true := by simpa using hfull
          go_wp2_with fail
          refine HL3.out.mono ?_
          rintro e w4 ⟨rfl, k4, hk4⟩
          have B4 : Hid (Below w.heap.size w w4) := by show Below _ _ _; rw [hk4]; exact below_drewN B3.out k4
          clear hk4
          go_wp2_with fail
          go_ret
          exact ⟨rfl, B4.out⟩
        · have hle := HP.out.le
          rw [HLEN.out] at hle
          have hnz := HP.out.nz
          have hlt2 : ((i + 1 : Nat) : Int) < nodes := by omega
          go_wp2_with fail
          refine (alloc_any HP.out (by rw [HLEN.out]; exact hlt2)).mono ?_
          rintro e w3 ⟨M3, b3, rfl, hP3, hM3, hU3⟩
          have B3 := hide (HBB.out.trans (hU3.below HBB.out.size (fun k hk e => by have := HM.out k e; omega)))
          have hl3 : (L ++ [(⟨b3, 1, Nd.zero⟩ : Sl)]).length = i + 1 + 1 := by simp [HLEN.out]
          have HW3 := hide (word_any hP3 (i + 1) (by omega))
          rw [show (L ++ [(⟨b3, 1, Nd.zero⟩ : Sl)])[i + 1]'(by omega) = ⟨b3, 1, Nd.zero⟩ by rw [List.getElem_append_right (by rw [HLEN.out]; exact Nat.le_refl _)]; simp [HLEN.out]] at HW3
          have HU3 := hide (used_any hP3)
          rw [hl3, show ((i + 1 + 1 : Nat) : Int) = ((i + 1 : Nat) : Int) + 1 by omega] at HU3
          have HL3 := hide (left_any hP3)
          rw [hl3, show nodes - ((i + 1 + 1 : Nat) : Int) = nodes - ((i + 1 : Nat) : Int) - 1 by omega] at HL3
          have HF3 : Hid (∀ k, FI w (w3.drewN k) A nodes (i + 1)) := by
            intro k
            refine ⟨M3, _, hP3.drewN k, fun k hk => ?_, below_drewN B3.out k, ?_⟩
            · rcases hM3 k hk with h | h
              · exact HM.out k h
              · have := HBB.out.size; omega
            · rw [List.map_append, HL.out]
              show _ = 0 :: List.replicate (i + 1) 1
              rw [List.replicate_succ']; rfl
          rw [HLEN.out]
          clear hP3 hM3 hU3 hl3 B3
          have j3 := hfull
          obtain ⟨u, hu⟩ : ∃ u, u = (i : Int) + 1 := ⟨_, rfl⟩
          have hcu : ((i + 1 : Nat) : Int) = u := by omega
          have hu0 : 0 ≤ u := by omega
          have hu1 : u ≤ 300 := by omega
          have hu2 : u < nodes := by omega
          rw [hcu] at HW3 HU3 HL3 j3 ⊢
          rw [← hu]
          clear hcu
          clear hu hlt2 hle hfull
          simp only [Int.natCast_one] at HW3
          go_wp2_with fail
          refine keep HW3.out ?_
          go_wp2_with fail
          refine keep HU3.out ?_
          go_wp2_with fail
          refine HL3.out.mono ?_
          rintro e w4 ⟨rfl, k4, hk4⟩
          have HF4 := hide (HF3.out k4)
          rw [← hk4] at HF4
          clear hk4
          go_wp2_with fail
          go_roundw
          case rel => exact ⟨i + 1, by omega, by go_num, HF4⟩
          case measure => simp [intOf]; omega
      · have j1 : ¬ (i : Int) < (most : Int) := by omega
        obtain rfl : i = most := by omega
        have HH := hide (held_any HP.out)
        rw [HL.out] at HH
        have HR : Hid (∀ W, Below wr.heap.size wr W → Calls Try.prog 19 #[.pointer (some ⟨A, 0, none⟩)] W fun e w' => e = .returned (.int .i64 1) ∧ w' = W) := fun W h => root_any (HP.out.below h)
        have HU2 : Hid (∀ W, Below wr.heap.size wr W → Calls Try.prog 14 #[.pointer (some ⟨A, 0, none⟩)] W fun e w' => e = .returned (.int .i64 ((i : Int) + 1)) ∧ w' = W) := fun W h => by have := used_any (HP.out.below h); rw [HLEN.out] at this; exact this
        have HFL := hide (held_fill i)
        generalize heldL (0 :: List.replicate i 1) = hs at *
        go_wp2_with fail
        refine HH.out.mono ?_
        rintro e w3 ⟨v, rfl, hown, b3⟩
        rw [HFL.out] at hown
        obtain ⟨va, vc, rfl, _, _⟩ := vok_of_owns hown
        have B3 := hide (HBB.out.trans (b3.mono HBB.out.size))
        have HU3 := hide (HU2.out w3 b3)
        have HR3 := hide (HR.out w3 b3)
        clear hown b3
        have j5 : (i : Int) + 1 - 1 = (i : Int) := by omega
        go_wp2_with fail
        refine keep HU3.out ?_
        go_wp2_with fail
        refine keep HR3.out ?_
        go_wp2_with fail
        go_ret
        exact ⟨by simp, B3.out⟩
  · have HNB := hide (new_bad nodes w hc)
    go_enter Try.func4, Try.ntmps4
    go_wp2_with fail
    refine keep HNB.out ?_
    by_cases h1 : nodes < 1
    · clear hc
      go_wp2_with fail
      go_ret
      exact ⟨rfl, Below.refl _ _⟩
    · have h2 : 65536 < nodes := by omega
      clear hc
      go_wp2_with fail
      go_ret
      exact ⟨rfl, Below.refl _ _⟩

end Go.Proofs.Ytfpogjgbmibmcaa
