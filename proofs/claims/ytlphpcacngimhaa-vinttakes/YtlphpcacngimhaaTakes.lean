/- VintTakes: the walk, with bytes and a list of choices that is not empty. -/
import Derived.Test.YtlphpcacngimhaaTInv
namespace Go.Proofs.Ytlphpcacngimhaa
open Go.RowKit

set_option maxRecDepth 100000 in
set_option maxHeartbeats 1600000 in
theorem takes_some (b1 o1 l1 c1 : Nat) (zs : List Int) (b2 o2 l2 c2 : Nat) (bs : List Bool) (w : World) (hl1 : zs.length = l1) (hm1 : l1 ≤ maxLen) (hb1 : b1 < w.heap.size) (hb2 : b2 < w.heap.size) (h8 : Fits8 zs)
    (hc1 : ∀ i, i < l1 → w.cell? ⟨b1, o1 + i, none⟩ = some (.int .u8 (zs.getD i 0))) (hc2 : ∀ i, i < l2 → w.cell? ⟨b2, o2 + i, none⟩ = some (.bool (bs.getD i false))) :
    Calls Try.prog 7 #[.slice (some ⟨b1, o1, none⟩) l1 c1, .slice (some ⟨b2, o2, none⟩) l2 c2] w fun e w' => e = .returned (.bool true) ∧ Below w.heap.size w w' := by
  unfold maxLen at hm1
  have HC := hide hc1
  have HC2 := hide hc2
  clear hc1 hc2
  go_enter Try.func7, Try.ntmps7
  go_wp2_with (first
    | (go_at_call 9; refine (lives_any _).mono ?_; rintro e w1 ⟨rfl, hbe1⟩))
  refine (new_any w1).mono ?_
  rintro e w2 ⟨rfl, hT2, hs2, hbe2⟩
  go_wp2_with fail
  refine (new_any w2).mono ?_
  rintro e w3 ⟨rfl, hT3, hs3, hbe3⟩
  go_wp2_with fail
  have TI0 := ti_start w w1 w2 w3 hT2 hs2 hT3 hs3 hbe1 hbe2 hbe3
  generalize w1.heap.size = B at *
  clear hT2 hT3 hbe1 hbe2 hbe3
  go_loopw [8] (fun q wr => ∃ (k : Nat) (z0 z1 : List Int) (s0 s1 : Nat) (v0 v1 : Value), k ≤ l1 ∧ q = .int .i64 (k : Int) ∧ TI w wr B z0 s0 z1 s1 z0 s0 z1 s1 v0 v1) (fun q _ => l1 - (intOf q).toNat)
  case atStart => exact ⟨0, [], [], 0, 0, _, _, by omega, rfl, TI0⟩
  case round =>
    obtain ⟨k, z0, z1, s0, s1, v0, v1, hk, rfl, hI⟩ := hrel
    clear TI0
    by_cases hlt : k < l1
    · have hcell : wr.cell? ⟨b1, o1 + k, none⟩ = some (.int .u8 (zs.getD k 0)) := (hI.bel.cell (p := ⟨b1, o1 + k, none⟩) hb1).trans (HC.out k hlt)
      have h8k := h8 k
      have hck := HC.out k hlt
      generalize zs.getD k 0 = c at *
      have HCk := hide hck
      clear hck
      have x0 := hI.x.cell (o := 0) rfl
      have x1 := hI.x.cell (o := 1) rfl
      have hltI : (k : Int) < (l1 : Int) := by omega
      by_cases hk2 : k < l2
      · have hcell2 : wr.cell? ⟨b2, o2 + k, none⟩ = some (.bool (bs.getD k false)) := (hI.bel.cell (p := ⟨b2, o2 + k, none⟩) hb2).trans (HC2.out k hk2)
        have hk2I : (k : Int) < (l2 : Int) := by omega
        generalize bs.getD k false = tf at *
        cases tf
        · go_wp2_with fail
          go_cut [10, 11] from 41 to 124 (fun s10 s11 wx => s10 = .bool (stepDone z0 s0 c) ∧ s11 = .int .i64 (stepErr z0 s0 c) ∧ TI w wx B (stepZs z0 s0 c) (stepSt z0 s0 c) z1 s1 z0 s0 z1 s1 v0 v1)
          case first =>
            go_region_with (go_at_call 25; refine (vtake B z0 s0 c wr.drew hI.drew.t0 hI.g0 h8k.1 h8k.2).mono ?_; rintro e w4 ⟨rfl, hV4, hs4, hg4⟩)
            all_goals (try go_wp2_with fail)
            all_goals go_meet
            all_goals exact ⟨rfl, rfl, hI.drew.v0step hg4 hV4⟩
          case rest =>
            obtain ⟨rfl, rfl, hJ⟩ := hcut
            have hcellJ : wc.cell? ⟨b1, o1 + k, none⟩ = some (.int .u8 c) := (hJ.bel.cell (p := ⟨b1, o1 + k, none⟩) hb1).trans (HCk.out)
            clear hcell x0 x1
            go_wp2_with fail
            go_cut [12, 13] from 41 to 124 (fun s12 s13 wx => s12 = .bool (stepDone z0 s0 c) ∧ s13 = .int .i64 (stepErr z0 s0 c) ∧ ∃ v', TI w wx B (stepZs z0 s0 c) (stepSt z0 s0 c) z1 s1 (stepZs z0 s0 c) (stepSt z0 s0 c) z1 s1 v' v1)
            case first =>
              go_region_with (go_at_call 26; refine (rtake (B + 3) 0 51 _ v0 z0 s0 c wc.drew hJ.g0 h8k.1 h8k.2 hJ.drew.y rfl rfl hJ.drew.r0).mono ?_; rintro e w5 ⟨rfl, v', hy5, hr5, ho5, hg5⟩)
              all_goals (try go_wp2_with fail)
              all_goals go_meet
              all_goals exact ⟨rfl, rfl, v', hJ.drew.r0step h8k.1 h8k.2 hy5 hr5 ho5 hg5⟩
            case rest =>
              obtain ⟨rfl, rfl, v', hL⟩ := hcut
              obtain ⟨a', cap', rfl, _⟩ := row_of_owns' hL.r0
              have x0 := hL.x.cell (o := 0) rfl
              have x1 := hL.x.cell (o := 1) rfl
              have y0 := hL.y.cell (o := 0) rfl
              have N1 := hide (vnumber B (stepZs z0 s0 c) (stepSt z0 s0 c) _ hL.t0)
              have N2 := hide (rnumber (B + 3) 0 51 _ _ (stepZs z0 s0 c) (stepSt z0 s0 c) _ hL.g0 hL.y rfl rfl hL.r0)
              have N3 := hide (vtaken B (stepZs z0 s0 c) (stepSt z0 s0 c) _ hL.t0)
              have HL := hide hL
              clear hL hJ hI hcellJ
              generalize stepDone z0 s0 c = D1 at *
              generalize stepErr z0 s0 c = D2 at *
              generalize hD3 : stepZs z0 s0 c = D3 at *
              generalize hD4 : stepSt z0 s0 c = D4 at *
              generalize tellNum D3 D4 = D5 at *
              generalize (D4 == 1) = D6 at *
              clear hD3 hD4
              go_wp2_with (first
                | (go_at_call 27; refine N1.out.mono ?_; rintro e w6 ⟨rfl, rfl⟩)
                | (go_at_call 28; refine N2.out.mono ?_; rintro e w6 ⟨rfl, rfl⟩)
                | (go_at_call 29; refine N3.out.mono ?_; rintro e w6 ⟨rfl, rfl⟩))
              go_roundw
              case rel => first | exact ⟨k + 1, D3, z1, D4, s1, _, v1, by omega, by go_num, HL.out⟩ | ((repeat apply Exists.intro); exact ⟨⟨k + 1, D3, z1, D4, s1, _, v1, by omega, by go_num, HL.out⟩, rfl⟩)
              case measure => simp [intOf]; omega
        · go_wp2_with fail
          go_cut [10, 11] from 41 to 124 (fun s10 s11 wx => s10 = .bool (stepDone z1 s1 c) ∧ s11 = .int .i64 (stepErr z1 s1 c) ∧ TI w wx B z0 s0 (stepZs z1 s1 c) (stepSt z1 s1 c) z0 s0 z1 s1 v0 v1)
          case first =>
            go_region_with (go_at_call 25; refine (vtake (B + 1) z1 s1 c wr.drew hI.drew.t1 hI.g1 h8k.1 h8k.2).mono ?_; rintro e w4 ⟨rfl, hV4, hs4, hg4⟩)
            all_goals (try go_wp2_with fail)
            all_goals go_meet
            all_goals exact ⟨rfl, rfl, hI.drew.v1step hg4 hV4⟩
          case rest =>
            obtain ⟨rfl, rfl, hJ⟩ := hcut
            have hcellJ : wc.cell? ⟨b1, o1 + k, none⟩ = some (.int .u8 c) := (hJ.bel.cell (p := ⟨b1, o1 + k, none⟩) hb1).trans (HCk.out)
            clear hcell x0 x1
            go_wp2_with fail
            go_cut [12, 13] from 41 to 124 (fun s12 s13 wx => s12 = .bool (stepDone z1 s1 c) ∧ s13 = .int .i64 (stepErr z1 s1 c) ∧ ∃ v', TI w wx B z0 s0 (stepZs z1 s1 c) (stepSt z1 s1 c) z0 s0 (stepZs z1 s1 c) (stepSt z1 s1 c) v0 v')
            case first =>
              go_region_with (go_at_call 26; refine (rtake (B + 3) 2 51 _ v1 z1 s1 c wc.drew hJ.g1 h8k.1 h8k.2 hJ.drew.y rfl rfl hJ.drew.r1).mono ?_; rintro e w5 ⟨rfl, v', hy5, hr5, ho5, hg5⟩)
              all_goals (try go_wp2_with fail)
              all_goals go_meet
              all_goals exact ⟨rfl, rfl, v', hJ.drew.r1step h8k.1 h8k.2 hy5 hr5 ho5 hg5⟩
            case rest =>
              obtain ⟨rfl, rfl, v', hL⟩ := hcut
              obtain ⟨a', cap', rfl, _⟩ := row_of_owns' hL.r1
              have x0 := hL.x.cell (o := 0) rfl
              have x1 := hL.x.cell (o := 1) rfl
              have y0 := hL.y.cell (o := 2) rfl
              have N1 := hide (vnumber (B + 1) (stepZs z1 s1 c) (stepSt z1 s1 c) _ hL.t1)
              have N2 := hide (rnumber (B + 3) 2 51 _ _ (stepZs z1 s1 c) (stepSt z1 s1 c) _ hL.g1 hL.y rfl rfl hL.r1)
              have N3 := hide (vtaken (B + 1) (stepZs z1 s1 c) (stepSt z1 s1 c) _ hL.t1)
              have HL := hide hL
              clear hL hJ hI hcellJ
              generalize stepDone z1 s1 c = D1 at *
              generalize stepErr z1 s1 c = D2 at *
              generalize hD3 : stepZs z1 s1 c = D3 at *
              generalize hD4 : stepSt z1 s1 c = D4 at *
              generalize tellNum D3 D4 = D5 at *
              generalize (D4 == 1) = D6 at *
              clear hD3 hD4
              go_wp2_with (first
                | (go_at_call 27; refine N1.out.mono ?_; rintro e w6 ⟨rfl, rfl⟩)
                | (go_at_call 28; refine N2.out.mono ?_; rintro e w6 ⟨rfl, rfl⟩)
                | (go_at_call 29; refine N3.out.mono ?_; rintro e w6 ⟨rfl, rfl⟩))
              go_roundw
              case rel => first | exact ⟨k + 1, z0, D3, s0, D4, v0, _, by omega, by go_num, HL.out⟩ | ((repeat apply Exists.intro); exact ⟨⟨k + 1, z0, D3, s0, D4, v0, _, by omega, by go_num, HL.out⟩, rfl⟩)
              case measure => simp [intOf]; omega
      · have hk2I : ¬ (k : Int) < (l2 : Int) := by omega
        go_wp2_with fail
        go_cut [10, 11] from 41 to 124 (fun s10 s11 wx => s10 = .bool (stepDone z0 s0 c) ∧ s11 = .int .i64 (stepErr z0 s0 c) ∧ TI w wx B (stepZs z0 s0 c) (stepSt z0 s0 c) z1 s1 z0 s0 z1 s1 v0 v1)
        case first =>
          go_region_with (go_at_call 25; refine (vtake B z0 s0 c wr.drew hI.drew.t0 hI.g0 h8k.1 h8k.2).mono ?_; rintro e w4 ⟨rfl, hV4, hs4, hg4⟩)
          all_goals (try go_wp2_with fail)
          all_goals go_meet
          all_goals exact ⟨rfl, rfl, hI.drew.v0step hg4 hV4⟩
        case rest =>
          obtain ⟨rfl, rfl, hJ⟩ := hcut
          have hcellJ : wc.cell? ⟨b1, o1 + k, none⟩ = some (.int .u8 c) := (hJ.bel.cell (p := ⟨b1, o1 + k, none⟩) hb1).trans (HCk.out)
          clear hcell x0 x1
          go_wp2_with fail
          go_cut [12, 13] from 41 to 124 (fun s12 s13 wx => s12 = .bool (stepDone z0 s0 c) ∧ s13 = .int .i64 (stepErr z0 s0 c) ∧ ∃ v', TI w wx B (stepZs z0 s0 c) (stepSt z0 s0 c) z1 s1 (stepZs z0 s0 c) (stepSt z0 s0 c) z1 s1 v' v1)
          case first =>
            go_region_with (go_at_call 26; refine (rtake (B + 3) 0 51 _ v0 z0 s0 c wc.drew hJ.g0 h8k.1 h8k.2 hJ.drew.y rfl rfl hJ.drew.r0).mono ?_; rintro e w5 ⟨rfl, v', hy5, hr5, ho5, hg5⟩)
            all_goals (try go_wp2_with fail)
            all_goals go_meet
            all_goals exact ⟨rfl, rfl, v', hJ.drew.r0step h8k.1 h8k.2 hy5 hr5 ho5 hg5⟩
          case rest =>
            obtain ⟨rfl, rfl, v', hL⟩ := hcut
            obtain ⟨a', cap', rfl, _⟩ := row_of_owns' hL.r0
            have x0 := hL.x.cell (o := 0) rfl
            have x1 := hL.x.cell (o := 1) rfl
            have y0 := hL.y.cell (o := 0) rfl
            have N1 := hide (vnumber B (stepZs z0 s0 c) (stepSt z0 s0 c) _ hL.t0)
            have N2 := hide (rnumber (B + 3) 0 51 _ _ (stepZs z0 s0 c) (stepSt z0 s0 c) _ hL.g0 hL.y rfl rfl hL.r0)
            have N3 := hide (vtaken B (stepZs z0 s0 c) (stepSt z0 s0 c) _ hL.t0)
            have HL := hide hL
            clear hL hJ hI hcellJ
            generalize stepDone z0 s0 c = D1 at *
            generalize stepErr z0 s0 c = D2 at *
            generalize hD3 : stepZs z0 s0 c = D3 at *
            generalize hD4 : stepSt z0 s0 c = D4 at *
            generalize tellNum D3 D4 = D5 at *
            generalize (D4 == 1) = D6 at *
            clear hD3 hD4
            go_wp2_with (first
              | (go_at_call 27; refine N1.out.mono ?_; rintro e w6 ⟨rfl, rfl⟩)
              | (go_at_call 28; refine N2.out.mono ?_; rintro e w6 ⟨rfl, rfl⟩)
              | (go_at_call 29; refine N3.out.mono ?_; rintro e w6 ⟨rfl, rfl⟩))
            go_roundw
            case rel => first | exact ⟨k + 1, D3, z1, D4, s1, _, v1, by omega, by go_num, HL.out⟩ | ((repeat apply Exists.intro); exact ⟨⟨k + 1, D3, z1, D4, s1, _, v1, by omega, by go_num, HL.out⟩, rfl⟩)
            case measure => simp [intOf]; omega
    · have x1 := hI.x.cell (o := 1) rfl
      have hge : ¬ (k : Int) < (l1 : Int) := by omega
      have N1 := hide (vnumber (B + 1) z1 s1 _ hI.t1)
      have N2 := hide (rnumber (B + 3) 2 51 _ v1 z1 s1 _ hI.g1 hI.y rfl rfl hI.r1)
      have hbel := hI.bel
      clear hI
      generalize tellNum z1 s1 = D5 at *
      generalize (s1 == 1) = D6 at *
      go_wp2_with (first
        | (go_at_call 27; refine N1.out.mono ?_; rintro e w6 ⟨rfl, rfl⟩)
        | (go_at_call 28; refine N2.out.mono ?_; rintro e w6 ⟨rfl, rfl⟩))
      go_ret
      exact ⟨by simp, hbel⟩

end Go.Proofs.Ytlphpcacngimhaa
