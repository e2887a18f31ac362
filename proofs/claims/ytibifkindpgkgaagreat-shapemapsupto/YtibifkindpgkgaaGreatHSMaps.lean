/- ShapeMaps: the walk. -/
import Derived.Test.YtibifkindpgkgaaGreatHSMapA
import Derived.Test.YtibifkindpgkgaaGreatHSRMap
import Derived.Test.YtibifkindpgkgaaGreatHSSpE
import Derived.Test.YtibifkindpgkgaaGreatG47
namespace Go.Proofs.YtibifkindpgkgaaGreat
open Go.RowKit
set_option maxRecDepth 100000

theorem two_treeM {W : World} {b : Nat} {x0 x1 x2 x3 x4 x5 : Value} {T : TypeId} (h : W.heap[b]? = some (.cells #[x0, x1, x2, x3, x4, x5] T (0, 0))) : W.cell? ⟨b, 1, none⟩ = some x1 ∧ W.cell? ⟨b, 2, none⟩ = some x2 ∧ W.cell? ⟨b, 3, none⟩ = some x3 ∧ W.cell? ⟨b, 4, none⟩ = some x4 ∧ W.cell? ⟨b, 5, none⟩ = some x5 := by
  obtain ⟨_, h1, h2, h3, h4, h5⟩ := Six.of h
  exact ⟨h1, h2, h3, h4, h5⟩
set_option maxRecDepth 100000 in
set_option maxHeartbeats 12800000 in
theorem shapeMaps_any (aS : Option Addr) (lS cS : Nat) (nd lf inn fl bk : Int) (L : List AOp) (w : World)
    (hL : L.length = lS) (hO : Ops (fun k => k < w.heap.size) w aS L) (hlS : lS * 152 ≤ 140737488355328) (hks : ∀ o ∈ L, o.n.ks.L.length ≤ 1048576) :
    Calls Tryz.prog 3 #[.agg #[.slice aS lS cS, .int .i64 nd, .int .i64 lf, .int .i64 inn, .int .i64 fl, .int .i64 bk]] w fun e w' => e = .returned (.bool true) ∧ Below w.heap.size w w' := by
  obtain ⟨w0, hw0⟩ : ∃ x, x = w.alloc (.cells #[.slice aS lS cS, .int .i64 nd, .int .i64 lf, .int .i64 inn, .int .i64 fl, .int .i64 bk] 26) := ⟨_, rfl⟩
  have b0 : Below w.heap.size w w0 := by rw [hw0]; exact (Below.refl _ _).alloc (Nat.le_refl _) _
  have G0 : Hid (w0.heap[w.heap.size]? = some (.cells #[.slice aS lS cS, .int .i64 nd, .int .i64 lf, .int .i64 inn, .int .i64 fl, .int .i64 bk] 26 (0, 0))) := by show _ = _; rw [hw0]; exact heap_alloc_new w _
  have HW0 : Hid (w.alloc (.cells #[.slice aS lS cS, .int .i64 nd, .int .i64 lf, .int .i64 inn, .int .i64 fl, .int .i64 bk] 26) = w0) := hw0.symm
  have HHD := hide (head11_any w0)
  have B0 := hide b0
  clear hw0 b0
  go_enter Tryz.func3, Tryz.ntmps3
  go_upto_region 1 with fail
  rw [HW0.out]
  go_wp2_with fail
  refine HHD.out.mono ?_
  rintro e w1 ⟨rfl, hb1⟩
  have B1 := hide (B0.out.trans (hb1.mono B0.out.size))
  have G1 : Hid (w1.heap[w.heap.size]? = some (.cells #[.slice aS lS cS, .int .i64 nd, .int .i64 lf, .int .i64 inn, .int .i64 fl, .int .i64 bk] 26 (0, 0))) := (hb1.block _ (lt_of_block G0.out)).trans G0.out
  have hO1 : Ops (fun k => k < w1.heap.size) w1 aS L := (hO.kept ⟨B1.out.os, B1.out.tape, B1.out.output, B1.out.size, fun k _ hk => B1.out.block k (Decidable.byContradiction fun hc => hk hc)⟩).mono (fun k hk => by have := B1.out.size; omega)
  have HLD := hide (laid_any aS lS cS nd lf inn fl bk L w1 hL hO1 hlS)
  obtain ⟨q0, q1, q2, q3, q4, q5⟩ := Six.of G1.out
  clear hb1 hO hO1 hL hlS
  go_wp2_with fail
  refine HLD.out.mono ?_
  rintro e w2 ⟨P, AX, AY, rfl, hA, hb2⟩
  obtain ⟨s, hs⟩ : ∃ s, s = (AS.new 40).run L := ⟨_, rfl⟩
  rw [← hs] at hA
  obtain ⟨K, hK⟩ : ∃ K : Nat → Prop, K = fun k => k < w1.heap.size ∨ k = P := ⟨_, rfl⟩
  rw [← hK] at hA
  have HKW : Hid (∀ k, k < w1.heap.size → K k) := fun k hk => by rw [hK]; exact .inl hk
  have HA := hide hA
  have G2 : Hid (w2.heap[w.heap.size]? = some (.cells #[.slice aS lS cS, .int .i64 nd, .int .i64 lf, .int .i64 inn, .int .i64 fl, .int .i64 bk] 26 (0, 0))) := (hb2.block _ (lt_of_block G1.out)).trans G1.out
  have B2 := hide (B1.out.trans (hb2.mono B1.out.size))
  have hlP : P < w2.heap.size := World.block_lt_of_cell? w2 ⟨P, 0, none⟩ hA.cells.1
  have HCL : Hid (∀ Y, Below w2.heap.size w2 Y → Y.cell? ⟨P, 0, none⟩ = some (.pointer (some ⟨AX, 0, none⟩)) ∧ Y.cell? ⟨P, 1, none⟩ = some (.pointer (some ⟨AY, 0, none⟩)) ∧ Y.cell? ⟨w.heap.size, 1, none⟩ = some (.int .i64 nd) ∧ Y.cell? ⟨w.heap.size, 2, none⟩ = some (.int .i64 lf) ∧ Y.cell? ⟨w.heap.size, 3, none⟩ = some (.int .i64 inn) ∧ Y.cell? ⟨w.heap.size, 4, none⟩ = some (.int .i64 fl) ∧ Y.cell? ⟨w.heap.size, 5, none⟩ = some (.int .i64 bk) ∧ P < Y.heap.size ∧ w.heap.size < Y.heap.size) := fun Y hb => by
    obtain ⟨e0, e1⟩ := (HA.out.below hb).cells
    have g := (hb.block _ (lt_of_block G2.out)).trans G2.out
    obtain ⟨h1, h2, h3, h4, h5⟩ := two_treeM g
    exact ⟨e0, e1, h1, h2, h3, h4, h5, World.block_lt_of_cell? Y ⟨P, 0, none⟩ e0, lt_of_block g⟩
  have HKS : Hid (∀ id, s.inn id → (s.n id).ks.length ≤ 1048576) := fun id _ => by rw [hs]; exact ksb_run L (AS.new 40) (ksb_new _ _) hks id
  have HMX : Hid (Calls Tryz.prog 10 #[.pointer (some ⟨AX, 0, none⟩)] w2 (MpP w2 s.map)) := by
    obtain ⟨F, hp⟩ := HA.out.px
    exact smap_any hp (fun _ => True) trivial (fun _ _ _ _ => trivial) (fun _ _ _ _ => trivial) (fun id _ hi => HKS.out id hi)
  have HMY : Hid (∀ Y, Below w2.heap.size w2 Y → Calls Tryz.prog 11 #[.pointer (some ⟨AY, 0, none⟩)] Y (MpP Y s.map)) := fun Y hb => by
    obtain ⟨F, hp⟩ := (HA.out.below hb).rx
    exact rmap_any hp HKS.out
  have HAB : Hid (∀ Y, Below w2.heap.size w2 Y → AW K Y P AX AY s s ∧ Below w.heap.size w Y) := fun Y hb => ⟨HA.out.below hb, B2.out.trans (hb.mono B2.out.size)⟩
  clear hA hb2 hs hK HLD q0 q1 q2 q3 q4 q5
  go_upto_region 5 with fail
  have c0 := (HCL.out w2 (Below.refl _ _)).1
  go_wp2_with fail
  refine HMX.out.mono ?_
  rintro e w3 ⟨E, v, rfl, hrow, hown, hE, hb3⟩
  obtain ⟨nE, hnE⟩ : ∃ x, E.length = x := ⟨_, rfl⟩
  obtain ⟨oa, oc, hv⟩ : ∃ a c, v = .slice a nE c := by
    rcases hrow.2 with ⟨q1, q2⟩ | ⟨g, cap, cur, q1, _⟩
    · exact ⟨none, 0, by rw [q1, ← hnE, q2]⟩
    · exact ⟨_, _, by rw [q1, hnE]⟩
  subst hv
  have hnz : (nE : Int) ≤ 9223372036854775807 := by
    rcases hrow.2 with ⟨q1, q2⟩ | ⟨g, cap, cur, q1, q2, q3, q4, q5, q6⟩
    · omega
    · unfold maxLen at q5; omega
  have HOX : Hid (w3.ownsRow w2.heap.size 41 2 (.slice oa nE oc) E.length (E.flatMap EnC) ∧ EnO w3 w2.heap.size E) := ⟨hrow, hown⟩
  have HEX := hide hE
  have HNX := hide hnE
  have B3 := hide hb3
  have HMY3 := hide (HMY.out w3 hb3)
  have c1 := (HCL.out w3 hb3).2.1
  clear hrow hown hE hb3 hnE c0 HMX HMY
  go_wp2_with fail
  refine HMY3.out.mono ?_
  rintro e w4 ⟨D, v, rfl, hrow, hown, hD, hb4⟩
  have hnD : D.length = nE := by
    have h1 := congrArg List.length hD
    have h2 := congrArg List.length HEX.out
    rw [List.length_map] at h1 h2
    rw [h1, ← h2, HNX.out]
  obtain ⟨ob, od, hv⟩ : ∃ a c, v = .slice a nE c := by
    rcases hrow.2 with ⟨q1, q2⟩ | ⟨g, cap, cur, q1, _⟩
    · exact ⟨none, 0, by rw [q1, ← hnD, q2]⟩
    · exact ⟨_, _, by rw [q1, hnD]⟩
  subst hv
  have HOX4 : Hid (w4.ownsRow w2.heap.size 41 2 (.slice oa nE oc) E.length (E.flatMap EnC) ∧ EnO w4 w2.heap.size E) := ⟨owns_belowN HOX.out.1 hb4, fun x hx => ⟨(HOX.out.2 x hx).1.below hb4, (HOX.out.2 x hx).2.below hb4⟩⟩
  have B4 := hide (B3.out.trans (hb4.mono B3.out.size))
  have HSE := hide (sameEntries_any oa ob nE oc od E D w4 HNX.out hnD hnz (EnRd.of HOX4.out.1 HOX4.out.2) (EnRd.of hrow hown) (by rw [HEX.out, hD]))
  clear hrow hown hD hb4 hnD c1 HMY3 HOX HEX B3
  go_wp2_with fail
  refine HSE.out.mono ?_
  rintro e w5 ⟨rfl, hm5⟩
  have b5 : Below w4.heap.size w4 w5 := by obtain ⟨m, hm⟩ := hm5; rw [hm]; exact below_drewN (Below.refl _ _) m
  have B5 := hide (B4.out.trans (b5.mono B4.out.size))
  have HNN : Hid (w2.heap.size ≤ w5.heap.size) := B5.out.size
  have HS0 : Hid (Upd (fun b => w2.heap.size ≤ b) w5 w5 ∧ (0 < nE → ∃ g cur, oa = some ⟨g, 0, none⟩ ∧ SpE w5 w5 w2.heap.size w5.heap.size g cur E)) := ⟨Upd.refl _ _, fun h0 => SpE.of (owns_belowN HOX4.out.1 b5) (fun x hx => ⟨(HOX4.out.2 x hx).1.below b5, (HOX4.out.2 x hx).2.below b5⟩) (by rw [HNX.out]; exact h0)⟩
  have HEND : Hid (∀ Y, Upd (fun b => w2.heap.size ≤ b) w5 Y → AW K Y P AX AY s s ∧ Below w.heap.size w Y) := fun Y hu => HAB.out Y (B5.out.trans (hu.below HNN.out (fun k hk e => by omega)))
  generalize w5.heap.size = M5 at *
  clear hm5 b5 HSE HOX4 B4 B5 HAB HCL HA
  go_wp2_with fail
  go_loopw [9] (fun q9 wr => ∃ i : Nat, i ≤ nE ∧ q9 = .int .i64 (i : Int) ∧ Hid (Upd (fun b => w2.heap.size ≤ b) w5 wr ∧ (0 < nE → ∃ g cur, oa = some ⟨g, 0, none⟩ ∧ SpE w5 wr w2.heap.size M5 g cur E))) (fun q9 _ => nE - (intOf q9).toNat)
  case atStart => exact ⟨0, Nat.zero_le _, rfl, HS0⟩
  case round =>
    clear HS0
    obtain ⟨i, hi, rfl, HI⟩ := hrel
    rename World => wr
    by_cases hlt : i < nE
    · have j1 : (i : Int) < (nE : Int) := by omega
      have hiE : i < E.length := by rw [HNX.out]; exact hlt
      obtain ⟨g, cur, hoa, hsp⟩ := HI.out.2 (by omega)
      subst hoa
      have hcu := hsp.cur i hiE
      have hbk0 := hsp.bk i hiE
      have HPK : Hid (∀ Y, SpE w5 Y w2.heap.size M5 g cur E → (Bk Y w2.heap.size M5 E[i].1.a E[i].1.s.length ∧ Bk Y w2.heap.size M5 E[i].2.a E[i].2.s.length)) := fun Y h => h.bk i hiE
      generalize E[i] = x at *
      obtain ⟨⟨ka, kc, kz⟩, ⟨va, vc, vz⟩⟩ := x
      simp only [Tx.v] at hcu HPK hbk0
      obtain ⟨kl, hkl⟩ : ∃ z, kz.length = z := ⟨_, rfl⟩
      obtain ⟨vl, hvl⟩ : ∃ z, vz.length = z := ⟨_, rfl⟩
      rw [hkl, hvl] at hcu HPK hbk0
      have hkz : kl ≤ 140737488355328 := hbk0.1.1
      have hvz : vl ≤ 140737488355328 := hbk0.2.1
      have HCU : Hid (∀ Y, SpE w5 Y w2.heap.size M5 g cur E → Y.cell? ⟨g, i * 2, none⟩ = some (.slice ka kl kc) ∧ Y.cell? ⟨g, i * 2 + 1, none⟩ = some (.slice va vl vc)) := fun Y h => ⟨by rw [cell_of_row _ _ _ _ _ _ h.blk]; exact hcu.1, by rw [cell_of_row _ _ _ _ _ _ h.blk]; exact hcu.2⟩
      have HS1 := hide hsp
      clear hcu hbk0 hkl hvl hsp HI
      go_wp2_with fail
      go_loopw [10] (fun q10 wt => ∃ k : Nat, k ≤ kl ∧ q10 = .int .i64 (k : Int) ∧ Hid (SpE w5 wt w2.heap.size M5 g cur E)) (fun q10 _ => kl - (intOf q10).toNat)
      case atStart => exact ⟨0, Nat.zero_le _, rfl, HS1⟩
      case round =>
        clear HS1
        obtain ⟨k, hk, rfl, HK⟩ := hrel
        rename World => wt
        obtain ⟨d0, d1⟩ := HCU.out wt HK.out
        by_cases hlt2 : k < kl
        · have j2 : (k : Int) < (kl : Int) := by omega
          obtain ⟨g2, cur2, x, hta, hq1, hq2, hq3, hq4⟩ := bk_at (HPK.out wt HK.out).1 hlt2
          subst hta
          have fz := frozen_of hq2 k
          have HG := hide (And.intro hq1 (And.intro hq2 hq3))
          clear hq1 hq2 hq3
          go_wp2_with fail
          go_roundw
          case rel => exact ⟨k + 1, by omega, by go_num, HK.out.byte HG.out.1 HG.out.2.1 HG.out.2.2 _⟩
          case measure => simp [intOf]; omega
        · have j2 : ¬ (k : Int) < (kl : Int) := by omega
          have HS2 := hide HK.out
          go_wp2_with fail
          clear d0 d1 HK
          go_loopw [11] (fun q11 wu => ∃ k2 : Nat, k2 ≤ vl ∧ q11 = .int .i64 (k2 : Int) ∧ Hid (SpE w5 wu w2.heap.size M5 g cur E)) (fun q11 _ => vl - (intOf q11).toNat)
          case atStart => exact ⟨0, Nat.zero_le _, rfl, HS2⟩
          case round =>
            clear HS2
            obtain ⟨k2, hk2, rfl, HK⟩ := hrel
            rename World => wu
            obtain ⟨d0, d1⟩ := HCU.out wu HK.out
            by_cases hlt3 : k2 < vl
            · have j3 : (k2 : Int) < (vl : Int) := by omega
              obtain ⟨g2, cur2, x, hta, hq1, hq2, hq3, hq4⟩ := bk_at (HPK.out wu HK.out).2 hlt3
              subst hta
              have fz := frozen_of hq2 k2
              have HG := hide (And.intro hq1 (And.intro hq2 hq3))
              clear hq1 hq2 hq3
              go_wp2_with fail
              go_roundw
              case rel => exact ⟨k2 + 1, by omega, by go_num, HK.out.byte HG.out.1 HG.out.2.1 HG.out.2.2 _⟩
              case measure => simp [intOf]; omega
            · have j3 : ¬ (k2 : Int) < (vl : Int) := by omega
              have HNI : Hid (Upd (fun b => w2.heap.size ≤ b) w5 wu ∧ (0 < nE → ∃ g' cur', some (⟨g, 0, none⟩ : Addr) = some ⟨g', 0, none⟩ ∧ SpE w5 wu w2.heap.size M5 g' cur' E)) := ⟨HK.out.up, fun _ => ⟨g, cur, rfl, HK.out⟩⟩
              go_wp2_with fail
              go_roundw
              case rel => exact ⟨i + 1, by omega, by go_num, HNI⟩
              case measure => simp [intOf]; omega
    · have j1 : ¬ (i : Int) < (nE : Int) := by omega
      obtain ⟨ha, hbw⟩ := HEND.out wr HI.out.1
      have HSM := hide (wsameB_any ha)
      have HBW := hide hbw
      clear ha hbw
      go_wp2_with fail
      refine HSM.out.mono ?_
      rintro e w9 ⟨rfl, hb9⟩
      have HFIN := hide (HBW.out.trans (hb9.mono HBW.out.size))
      clear hb9
      go_wp2_with fail
      go_ret
      exact ⟨rfl, HFIN.out⟩
end Go.Proofs.YtibifkindpgkgaaGreat
