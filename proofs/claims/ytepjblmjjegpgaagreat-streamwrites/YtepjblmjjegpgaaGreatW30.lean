/- foot: fault. -/
import Derived.Test.YtepjblmjjegpgaaGreatW25
import Derived.Deep.RegionHeld3
import Derived.Laws.EntriesVeiled
import Derived.Deep.RegionLaw
import Derived.Deep.CutBlock
import Derived.Deep.DeepCutAuto
import Derived.Test.YtepjblmjjegpgaaGreatW17
import Derived.Test.YtepjblmjjegpgaaGreatW0
namespace Go.Proofs.YtepjblmjjegpgaaGreat
open Go.RowKit
set_option maxRecDepth 100000

theorem below_of_drewNF {B : Nat} {a w : World} (h : Below B a w) (n : Nat) : Below B a (w.drewN n) := ⟨h.os, h.tape, h.output, h.size, h.block⟩
/-- What rule k asks of a row whose place must be pos. -/
def rlK (pos : Int) (r : FRow) (k : Nat) : Prop := match k with
  | 0 => r.p = pos
  | 1 => 1 ≤ r.l ∧ r.l ≤ 131072
  | _ => 1 ≤ r.n ∧ r.n ≤ 64
/-- The key may be. -/
def KeyOk (pk : List Int) (r : FRow) : Prop := keyE r.k.length = 0 ∧ cmpI pk r.k < 0
theorem flt_key {pk : List Int} {pos : Int} {r : FRow} (h : keyE r.k.length ≠ 0 ∨ ¬ cmpI pk r.k < 0) : flt pk pos r = 72 := by unfold flt; rw [if_pos h]
theorem flt_rule {pk : List Int} {pos : Int} {r : FRow} (hK : KeyOk pk r) (k : Nat) (hk : k < 3) (hb : ∀ j, j < k → rlK pos r j) (hn : ¬ rlK pos r k) : flt pk pos r = 73 + k := by
  have h : ¬ (keyE r.k.length ≠ 0 ∨ ¬ cmpI pk r.k < 0) := fun q => q.elim (fun q => q hK.1) (fun q => q hK.2)
  unfold flt
  rw [if_neg h]
  match k, hk with
  | 0, _ => rw [if_pos (show r.p ≠ pos from hn)]; rfl
  | 1, _ => rw [if_neg (fun q => q (hb 0 (by omega))), if_pos (show ¬ (1 ≤ r.l ∧ r.l ≤ 131072) from hn)]; rfl
  | 2, _ => rw [if_neg (fun q => q (hb 0 (by omega))), if_neg (fun q => q (hb 1 (by omega))), if_pos (show ¬ (1 ≤ r.n ∧ r.n ≤ 64) from hn)]; rfl
theorem flt_good {pk : List Int} {pos : Int} {r : FRow} (hK : KeyOk pk r) (hb : ∀ j, j < 3 → rlK pos r j) : flt pk pos r = 0 := by
  have h : ¬ (keyE r.k.length ≠ 0 ∨ ¬ cmpI pk r.k < 0) := fun q => q.elim (fun q => q hK.1) (fun q => q hK.2)
  unfold flt
  rw [if_neg h, if_neg (fun q => q (hb 0 (by omega))), if_neg (fun q => q (hb 1 (by omega))), if_neg (fun q => q (hb 2 (by omega)))]

set_option maxRecDepth 100000 in
set_option maxHeartbeats 1600000 in
theorem ffault_any {w : World} {gt g2 g3 : Nat} (T : Tab w gt g2 g3) (aa : Option Addr) (la ca p q : Nat) (z : Int) (pk : List Int) (b o : Nat) (s : Spn) (ok : s.Ok w) (hs : Sp4 w b o s) (hr : Row w .u8 aa pk) (hl : pk.length = la) (p8 : B8 pk) (hp : p ≤ 2305843009213693952) (hq : q ≤ 2305843009213693952) :
    Calls Tryz.prog 139 #[.slice (some ⟨gt, 0, none⟩) 3 3, .agg #[.slice aa la ca, .int .i64 (p : Int), .int .i64 (q : Int), .int .i64 z], .pointer (some ⟨b, o, none⟩)] w fun e w' => e = .returned (.int .i64 (flt pk ((p + q : Nat) : Int) s.row)) ∧ Below w.heap.size w w' := by
  obtain ⟨wA, hwA⟩ : ∃ wA, wA = w.alloc (.cells #[.slice aa la ca, .int .i64 (p : Int), .int .i64 (q : Int), .int .i64 z] 97) := ⟨_, rfl⟩
  have bA : Below w.heap.size w wA := by rw [hwA]; exact (Below.refl _ _).alloc (Nat.le_refl _) _
  have hbx : wA.heap[w.heap.size]? = some (.cells #[.slice aa la ca, .int .i64 (p : Int), .int .i64 (q : Int), .int .i64 z] 97 (0, 0)) := by rw [hwA]; exact heap_alloc_new w _
  obtain ⟨g4, hg4⟩ : ∃ g4, g4 = w.heap.size := ⟨_, rfl⟩
  rw [← hg4] at hbx
  have TA := hide (T.below bA)
  have SA := hide (hs.below bA)
  have OA := hide (ok.below bA)
  have RA := hide (hr.below2 bA)
  have x0 : wA.cell? ⟨g4, 0, none⟩ = some (.slice aa la ca) := by rw [cell_of_row _ _ _ _ _ _ hbx]; rfl
  have x1 : wA.cell? ⟨g4, 1, none⟩ = some (.int .i64 (p : Int)) := by rw [cell_of_row _ _ _ _ _ _ hbx]; rfl
  have x2 : wA.cell? ⟨g4, 2, none⟩ = some (.int .i64 (q : Int)) := by rw [cell_of_row _ _ _ _ _ _ hbx]; rfl
  have x3 : wA.cell? ⟨g4, 3, none⟩ = some (.int .i64 z) := by rw [cell_of_row _ _ _ _ _ _ hbx]; rfl
  have HBX := hide hbx
  have BA := hide bA
  have s0 := hs.below bA |>.c0
  unfold Spn.kv at s0
  obtain ⟨nk, hnk⟩ : ∃ nk, s.ks.length = nk := ⟨_, rfl⟩
  rw [hnk] at s0
  have hg4' : g4 < wA.heap.size := lt_of_block hbx
  have hbA : b < wA.heap.size := SA.out.lt
  obtain ⟨fe, hfe⟩ : ∃ fe, fe = flt pk ((p + q : Nat) : Int) s.row := ⟨_, rfl⟩
  rw [← hfe]
  have HFE := hide hfe
  clear T hs ok hr bA hbx hfe
  have HKEY := hide (key_any s.ka nk s.kc)
  obtain ⟨ek, hek⟩ : ∃ ek, ek = keyE nk := ⟨_, rfl⟩
  rw [← hek] at HKEY
  obtain ⟨cc, hcc⟩ : ∃ cc : Bool, cc = decide (cmpI pk s.ks < 0) := ⟨_, rfl⟩
  have HRI : Hid (∀ W, Below wA.heap.size wA W → Calls Tryz.prog 156 #[.agg #[.slice aa la ca, .int .i64 (p : Int), .int .i64 (q : Int), .int .i64 z], .slice s.ka nk s.kc] W fun e w' => e = .returned (.bool cc) ∧ Below W.heap.size W w') := fun W hW => by
    rw [hcc]
    exact rises_any aa s.ka la ca nk s.kc _ _ _ pk s.ks W hl hnk (RA.out.below2 hW) (OA.out.k.below2 hW) p8 OA.out.k8
  replace hek := hide hek
  replace hcc := hide hcc
  go_enter Tryz.func139, Tryz.ntmps139
  go_wp2_with fail
  rw [← hg4, ← hwA]
  clear hwA
  replace hg4 := hide hg4
  by_cases hk0 : ek = 0
  · subst hk0
    cases cc with
    | false =>
      obtain rfl : fe = 72 := by rw [HFE.out]; exact flt_key (.inr (of_decide_eq_false hcc.out.symm))
      go_wp2_with fail
      go_region_held3 (fun W => W.cell? ⟨b, o, none⟩ = some (.slice s.ka nk s.kc) ∧ W.cell? ⟨g4, 0, none⟩ = some (.slice aa la ca) ∧ W.cell? ⟨g4, 1, none⟩ = some (.int .i64 (p : Int)) ∧ W.cell? ⟨g4, 2, none⟩ = some (.int .i64 (q : Int)) ∧ W.cell? ⟨g4, 3, none⟩ = some (.int .i64 z)) (go_keep) (first
        | (go_at_call 156; refine (HRI.out w2 B2.out).mono ?_; rintro e w3 ⟨rfl, hb3⟩; have B3 : Hid (Below wA.heap.size wA w3) := B2.out.trans (hb3.mono B2.out.size); have f0 := (B3.out.cell (p := ⟨b, o, none⟩) hbA).trans s0; have f1 := (B3.out.cell (p := ⟨g4, 0, none⟩) hg4').trans x0; have f2 := (B3.out.cell (p := ⟨g4, 1, none⟩) hg4').trans x1; have f3 := (B3.out.cell (p := ⟨g4, 2, none⟩) hg4').trans x2; have f4 := (B3.out.cell (p := ⟨g4, 3, none⟩) hg4').trans x3; clear hb3)
        | (go_at_call 119; refine (HKEY.out _).mono ?_; rintro e w2 ⟨rfl, hw2⟩; have B2 : Hid (Below wA.heap.size wA w2) := (by rw [hw2]; exact ⟨rfl, rfl, rfl, Nat.le_refl _, fun _ _ => rfl⟩); have d0 := (B2.out.cell (p := ⟨b, o, none⟩) hbA).trans s0; have d1 := (B2.out.cell (p := ⟨g4, 0, none⟩) hg4').trans x0; have d2 := (B2.out.cell (p := ⟨g4, 1, none⟩) hg4').trans x1; have d3 := (B2.out.cell (p := ⟨g4, 2, none⟩) hg4').trans x2; have d4 := (B2.out.cell (p := ⟨g4, 3, none⟩) hg4').trans x3; clear hw2)
        | fail)
      go_wp2_with fail
      go_ret
      exact ⟨rfl, BA.out.trans (B3.out.mono BA.out.size)⟩
    | true =>
      have hgood : Hid (KeyOk pk s.row) := ⟨by show keyE s.ks.length = 0; rw [hnk]; exact hek.out.symm, of_decide_eq_true hcc.out.symm⟩
      go_wp2_with fail
      go_region_held3 (fun W => W.cell? ⟨b, o, none⟩ = some (.slice s.ka nk s.kc) ∧ W.cell? ⟨g4, 0, none⟩ = some (.slice aa la ca) ∧ W.cell? ⟨g4, 1, none⟩ = some (.int .i64 (p : Int)) ∧ W.cell? ⟨g4, 2, none⟩ = some (.int .i64 (q : Int)) ∧ W.cell? ⟨g4, 3, none⟩ = some (.int .i64 z)) (go_keep) (first
        | (go_at_call 156; refine (HRI.out w2 B2.out).mono ?_; rintro e w3 ⟨rfl, hb3⟩; have B3 : Hid (Below wA.heap.size wA w3) := B2.out.trans (hb3.mono B2.out.size); have f0 := (B3.out.cell (p := ⟨b, o, none⟩) hbA).trans s0; have f1 := (B3.out.cell (p := ⟨g4, 0, none⟩) hg4').trans x0; have f2 := (B3.out.cell (p := ⟨g4, 1, none⟩) hg4').trans x1; have f3 := (B3.out.cell (p := ⟨g4, 2, none⟩) hg4').trans x2; have f4 := (B3.out.cell (p := ⟨g4, 3, none⟩) hg4').trans x3; clear hb3)
        | (go_at_call 119; refine (HKEY.out _).mono ?_; rintro e w2 ⟨rfl, hw2⟩; have B2 : Hid (Below wA.heap.size wA w2) := (by rw [hw2]; exact ⟨rfl, rfl, rfl, Nat.le_refl _, fun _ _ => rfl⟩); have d0 := (B2.out.cell (p := ⟨b, o, none⟩) hbA).trans s0; have d1 := (B2.out.cell (p := ⟨g4, 0, none⟩) hg4').trans x0; have d2 := (B2.out.cell (p := ⟨g4, 1, none⟩) hg4').trans x1; have d3 := (B2.out.cell (p := ⟨g4, 2, none⟩) hg4').trans x2; have d4 := (B2.out.cell (p := ⟨g4, 3, none⟩) hg4').trans x3; clear hw2)
        | fail)
      have X0 := hide x0
      have X1 := hide x1
      have X2 := hide x2
      have X3 := hide x3
      clear x0 x1 x2 x3 s0
      go_wp2_with fail
      go_loopw [26] (fun x wr => ∃ k : Nat, k ≤ 3 ∧ x = .int .i64 (k : Int) ∧ Hid (Below wA.heap.size wA wr) ∧ Hid (∀ j, j < k → rlK ((p + q : Nat) : Int) s.row j)) (fun x _ => 3 - (intOf x).toNat)
      case atStart => exact ⟨0, by omega, rfl, B3, fun j hj => absurd hj (Nat.not_lt_zero j)⟩
      case round =>
        clear B3 f0 f1 f2 f3 f4
        obtain ⟨k, hk3, rfl, HBR, HRU⟩ := hrel
        rename World => wr
        have HT := hide (TA.out.below HBR.out).t
        have hkc : k = 0 ∨ k = 1 ∨ k = 2 ∨ k = 3 := by omega
        rcases hkc with rfl | rfl | rfl | rfl
        ·
          obtain ⟨an, han, han2, han3⟩ := u64_nat s.pl OA.out.rp
          obtain ⟨bb, hbb⟩ : ∃ bb : Bool, bb = decide (an = p + q) := ⟨_, rfl⟩
          have HRL : Hid (bb = true ↔ rlK ((p + q : Nat) : Int) s.row 0) := by
            show bb = true ↔ s.pl = ((p + q : Nat) : Int)
            rw [hbb, decide_eq_true_iff]
            omega
          have HMAY : Hid (∀ W, Below wA.heap.size wA W → Calls Tryz.prog 143 #[.int .u64 (an : Int), .int .u64 ((p + q : Nat) : Int)] W fun e w' => e = .returned (.bool bb) ∧ w' = W) := fun W hW => by
            rw [hbb]
            exact place_any an (p + q) W
          have e0 : wr.cell? ⟨gt, 0, none⟩ = some (.func (.func 142) #[] #[]) := by rw [cell_of_row _ _ _ _ _ _ HT.out]; rfl
          have e1 : wr.cell? ⟨gt, 1, none⟩ = some (.func (.func 143) #[] #[]) := by rw [cell_of_row _ _ _ _ _ _ HT.out]; rfl
          have e2 : wr.cell? ⟨gt, 2, none⟩ = some (.int .i64 73) := by rw [cell_of_row _ _ _ _ _ _ HT.out]; rfl
          obtain ⟨w1, hw1⟩ : ∃ w1, w1 = wr.alloc (.cells #[.func (.func 142) #[] #[], .func (.func 143) #[] #[], .int .i64 73] 170) := ⟨_, rfl⟩
          have bb1 : Below wr.heap.size wr w1 := by rw [hw1]; exact (Below.refl _ _).alloc (Nat.le_refl _) _
          have hbr : w1.heap[wr.heap.size]? = some (.cells #[.func (.func 142) #[] #[], .func (.func 143) #[] #[], .int .i64 73] 170 (0, 0)) := by rw [hw1]; exact heap_alloc_new wr _
          have B1 : Hid (Below wA.heap.size wA w1) := HBR.out.trans (bb1.mono HBR.out.size)
          replace hbb := hide hbb
          clear bb1
          go_upto_region 6 with fail
          rw [← hw1]
          clear hw1 e0 e1 e2
          generalize wr.heap.size = gr at *
          have r0 : w1.cell? ⟨gr, 0, none⟩ = some (.func (.func 142) #[] #[]) := by rw [cell_of_row _ _ _ _ _ _ hbr]; rfl
          have r1 : w1.cell? ⟨gr, 1, none⟩ = some (.func (.func 143) #[] #[]) := by rw [cell_of_row _ _ _ _ _ _ hbr]; rfl
          have hgr : gr < w1.heap.size := lt_of_block hbr
          have HBR1 := hide hbr
          clear hbr
          have y0 := (B1.out.cell (p := ⟨g4, 0, none⟩) hg4').trans X0.out
          have y1 := (B1.out.cell (p := ⟨g4, 1, none⟩) hg4').trans X1.out
          have y2 := (B1.out.cell (p := ⟨g4, 2, none⟩) hg4').trans X2.out
          have y3 := (B1.out.cell (p := ⟨g4, 3, none⟩) hg4').trans X3.out
          have y4 : w1.cell? ⟨b, o + 1, none⟩ = some (.int .i64 s.pl) := (SA.out.below B1.out).c1
          have hz1 := B1.out.size
          go_region_held3 (fun W => W.cell? ⟨gr, 0, none⟩ = some (.func (.func 142) #[] #[]) ∧ W.cell? ⟨gr, 1, none⟩ = some (.func (.func 143) #[] #[]) ∧ W.cell? ⟨b, o + 1, none⟩ = some (.int .i64 s.pl) ∧ W.cell? ⟨g4, 0, none⟩ = some (.slice aa la ca) ∧ W.cell? ⟨g4, 1, none⟩ = some (.int .i64 (p : Int)) ∧ W.cell? ⟨g4, 2, none⟩ = some (.int .i64 (q : Int)) ∧ W.cell? ⟨g4, 3, none⟩ = some (.int .i64 z)) (go_keep) (first
            | (go_at_call 143; refine (HMAY.out v2 (B1.out.trans (BV2.out.mono B1.out.size))).mono ?_; rintro e v3 ⟨rfl, hv3⟩; have BV3 : Hid (Below w1.heap.size w1 v3) := (by rw [hv3]; exact BV2.out); have m0 := (BV3.out.cell (p := ⟨gr, 0, none⟩) hgr).trans r0; have m1 := (BV3.out.cell (p := ⟨gr, 1, none⟩) hgr).trans r1; have m2 := (BV3.out.cell (p := ⟨b, o + 1, none⟩) (Nat.lt_of_lt_of_le hbA hz1)).trans y4; have m3 := (BV3.out.cell (p := ⟨g4, 0, none⟩) (Nat.lt_of_lt_of_le hg4' hz1)).trans y0; have m4 := (BV3.out.cell (p := ⟨g4, 1, none⟩) (Nat.lt_of_lt_of_le hg4' hz1)).trans y1; have m5 := (BV3.out.cell (p := ⟨g4, 2, none⟩) (Nat.lt_of_lt_of_le hg4' hz1)).trans y2; have m6 := (BV3.out.cell (p := ⟨g4, 3, none⟩) (Nat.lt_of_lt_of_le hg4' hz1)).trans y3; clear hv3)
            | (go_at_call 157; refine (behind_any _ p q z v1 hp hq).mono ?_; rintro e v2 ⟨rfl, hv2⟩; have BV2 : Hid (Below w1.heap.size w1 v2) := BV1.out.trans (hv2.mono BV1.out.size); have l0 := (BV2.out.cell (p := ⟨gr, 0, none⟩) hgr).trans r0; have l1 := (BV2.out.cell (p := ⟨gr, 1, none⟩) hgr).trans r1; have l2 := (BV2.out.cell (p := ⟨b, o + 1, none⟩) (Nat.lt_of_lt_of_le hbA hz1)).trans y4; have l3 := (BV2.out.cell (p := ⟨g4, 0, none⟩) (Nat.lt_of_lt_of_le hg4' hz1)).trans y0; have l4 := (BV2.out.cell (p := ⟨g4, 1, none⟩) (Nat.lt_of_lt_of_le hg4' hz1)).trans y1; have l5 := (BV2.out.cell (p := ⟨g4, 2, none⟩) (Nat.lt_of_lt_of_le hg4' hz1)).trans y2; have l6 := (BV2.out.cell (p := ⟨g4, 3, none⟩) (Nat.lt_of_lt_of_le hg4' hz1)).trans y3; clear hv2)
            | (go_at_call 142; refine (in1_any b o _).mono ?_; rintro e v1 ⟨rfl, hv1⟩; have BV1 : Hid (Below w1.heap.size w1 v1) := (by rw [hv1]; exact ⟨rfl, rfl, rfl, Nat.le_refl _, fun _ _ => rfl⟩); have k0 := (BV1.out.cell (p := ⟨gr, 0, none⟩) hgr).trans r0; have k1 := (BV1.out.cell (p := ⟨gr, 1, none⟩) hgr).trans r1; have k2 := (BV1.out.cell (p := ⟨b, o + 1, none⟩) (Nat.lt_of_lt_of_le hbA hz1)).trans y4; have k3 := (BV1.out.cell (p := ⟨g4, 0, none⟩) (Nat.lt_of_lt_of_le hg4' hz1)).trans y0; have k4 := (BV1.out.cell (p := ⟨g4, 1, none⟩) (Nat.lt_of_lt_of_le hg4' hz1)).trans y1; have k5 := (BV1.out.cell (p := ⟨g4, 2, none⟩) (Nat.lt_of_lt_of_le hg4' hz1)).trans y2; have k6 := (BV1.out.cell (p := ⟨g4, 3, none⟩) (Nat.lt_of_lt_of_le hg4' hz1)).trans y3; clear hv1)
            | fail)
          have BF : Hid (Below wA.heap.size wA v3) := B1.out.trans (BV3.out.mono B1.out.size)
          cases bb with
          | true =>
            have HN : Hid (∀ j, j < 0 + 1 → rlK ((p + q : Nat) : Int) s.row j) := fun j hj => by
              by_cases h : j < 0
              · exact HRU.out j h
              · obtain rfl : j = 0 := by omega
                exact HRL.out.1 rfl
            go_wp2_with fail
            go_roundw
            case rel => exact ⟨0 + 1, by omega, by go_num, BF, HN⟩
            case measure => simp [intOf]
          | false =>
            obtain rfl : fe = 73 := by rw [HFE.out, flt_rule hgood.out 0 (by omega) HRU.out (fun h => by have := HRL.out.2 h; cases this)]; rfl
            have r2 : v3.cell? ⟨gr, 2, none⟩ = some (.int .i64 73) := (BV3.out.cell (p := ⟨gr, 2, none⟩) hgr).trans (by rw [cell_of_row _ _ _ _ _ _ HBR1.out]; rfl)
            go_wp2_with fail
            go_ret
            exact ⟨rfl, BA.out.trans (BF.out.mono BA.out.size)⟩
        ·
          obtain ⟨an, han, han2, han3⟩ := u64_nat s.ln OA.out.rl
          obtain ⟨bb, hbb⟩ : ∃ bb : Bool, bb = decide (1 ≤ an ∧ an ≤ 131072) := ⟨_, rfl⟩
          have HRL : Hid (bb = true ↔ rlK ((p + q : Nat) : Int) s.row 1) := by
            show bb = true ↔ 1 ≤ s.ln ∧ s.ln ≤ 131072
            rw [hbb, decide_eq_true_iff]
            omega
          have HMAY : Hid (∀ W, Below wA.heap.size wA W → Calls Tryz.prog 141 #[.int .u64 (an : Int), .int .u64 ((p + q : Nat) : Int), .pointer (some ⟨g2, 0, none⟩)] W fun e w' => e = .returned (.bool bb) ∧ w' = W) := fun W hW => by
            rw [hbb]
            exact upto_any an 131072 g2 _ W han2 (TA.out.below hW).b2
          have e0 : wr.cell? ⟨gt, 3, none⟩ = some (.func (.func 144) #[] #[]) := by rw [cell_of_row _ _ _ _ _ _ HT.out]; rfl
          have e1 : wr.cell? ⟨gt, 4, none⟩ = some (.func (.func 141) #[] #[.pointer (some ⟨g2, 0, none⟩)]) := by rw [cell_of_row _ _ _ _ _ _ HT.out]; rfl
          have e2 : wr.cell? ⟨gt, 5, none⟩ = some (.int .i64 74) := by rw [cell_of_row _ _ _ _ _ _ HT.out]; rfl
          obtain ⟨w1, hw1⟩ : ∃ w1, w1 = wr.alloc (.cells #[.func (.func 144) #[] #[], .func (.func 141) #[] #[.pointer (some ⟨g2, 0, none⟩)], .int .i64 74] 170) := ⟨_, rfl⟩
          have bb1 : Below wr.heap.size wr w1 := by rw [hw1]; exact (Below.refl _ _).alloc (Nat.le_refl _) _
          have hbr : w1.heap[wr.heap.size]? = some (.cells #[.func (.func 144) #[] #[], .func (.func 141) #[] #[.pointer (some ⟨g2, 0, none⟩)], .int .i64 74] 170 (0, 0)) := by rw [hw1]; exact heap_alloc_new wr _
          have B1 : Hid (Below wA.heap.size wA w1) := HBR.out.trans (bb1.mono HBR.out.size)
          replace hbb := hide hbb
          clear bb1
          go_upto_region 6 with fail
          rw [← hw1]
          clear hw1 e0 e1 e2
          generalize wr.heap.size = gr at *
          have r0 : w1.cell? ⟨gr, 0, none⟩ = some (.func (.func 144) #[] #[]) := by rw [cell_of_row _ _ _ _ _ _ hbr]; rfl
          have r1 : w1.cell? ⟨gr, 1, none⟩ = some (.func (.func 141) #[] #[.pointer (some ⟨g2, 0, none⟩)]) := by rw [cell_of_row _ _ _ _ _ _ hbr]; rfl
          have hgr : gr < w1.heap.size := lt_of_block hbr
          have HBR1 := hide hbr
          clear hbr
          have y0 := (B1.out.cell (p := ⟨g4, 0, none⟩) hg4').trans X0.out
          have y1 := (B1.out.cell (p := ⟨g4, 1, none⟩) hg4').trans X1.out
          have y2 := (B1.out.cell (p := ⟨g4, 2, none⟩) hg4').trans X2.out
          have y3 := (B1.out.cell (p := ⟨g4, 3, none⟩) hg4').trans X3.out
          have y4 : w1.cell? ⟨b, o + 2, none⟩ = some (.int .i64 s.ln) := (SA.out.below B1.out).c2
          have hz1 := B1.out.size
          go_region_held3 (fun W => W.cell? ⟨gr, 0, none⟩ = some (.func (.func 144) #[] #[]) ∧ W.cell? ⟨gr, 1, none⟩ = some (.func (.func 141) #[] #[.pointer (some ⟨g2, 0, none⟩)]) ∧ W.cell? ⟨b, o + 2, none⟩ = some (.int .i64 s.ln) ∧ W.cell? ⟨g4, 0, none⟩ = some (.slice aa la ca) ∧ W.cell? ⟨g4, 1, none⟩ = some (.int .i64 (p : Int)) ∧ W.cell? ⟨g4, 2, none⟩ = some (.int .i64 (q : Int)) ∧ W.cell? ⟨g4, 3, none⟩ = some (.int .i64 z)) (go_keep) (first
            | (go_at_call 141; refine (HMAY.out v2 (B1.out.trans (BV2.out.mono B1.out.size))).mono ?_; rintro e v3 ⟨rfl, hv3⟩; have BV3 : Hid (Below w1.heap.size w1 v3) := (by rw [hv3]; exact BV2.out); have m0 := (BV3.out.cell (p := ⟨gr, 0, none⟩) hgr).trans r0; have m1 := (BV3.out.cell (p := ⟨gr, 1, none⟩) hgr).trans r1; have m2 := (BV3.out.cell (p := ⟨b, o + 2, none⟩) (Nat.lt_of_lt_of_le hbA hz1)).trans y4; have m3 := (BV3.out.cell (p := ⟨g4, 0, none⟩) (Nat.lt_of_lt_of_le hg4' hz1)).trans y0; have m4 := (BV3.out.cell (p := ⟨g4, 1, none⟩) (Nat.lt_of_lt_of_le hg4' hz1)).trans y1; have m5 := (BV3.out.cell (p := ⟨g4, 2, none⟩) (Nat.lt_of_lt_of_le hg4' hz1)).trans y2; have m6 := (BV3.out.cell (p := ⟨g4, 3, none⟩) (Nat.lt_of_lt_of_le hg4' hz1)).trans y3; clear hv3)
            | (go_at_call 157; refine (behind_any _ p q z v1 hp hq).mono ?_; rintro e v2 ⟨rfl, hv2⟩; have BV2 : Hid (Below w1.heap.size w1 v2) := BV1.out.trans (hv2.mono BV1.out.size); have l0 := (BV2.out.cell (p := ⟨gr, 0, none⟩) hgr).trans r0; have l1 := (BV2.out.cell (p := ⟨gr, 1, none⟩) hgr).trans r1; have l2 := (BV2.out.cell (p := ⟨b, o + 2, none⟩) (Nat.lt_of_lt_of_le hbA hz1)).trans y4; have l3 := (BV2.out.cell (p := ⟨g4, 0, none⟩) (Nat.lt_of_lt_of_le hg4' hz1)).trans y0; have l4 := (BV2.out.cell (p := ⟨g4, 1, none⟩) (Nat.lt_of_lt_of_le hg4' hz1)).trans y1; have l5 := (BV2.out.cell (p := ⟨g4, 2, none⟩) (Nat.lt_of_lt_of_le hg4' hz1)).trans y2; have l6 := (BV2.out.cell (p := ⟨g4, 3, none⟩) (Nat.lt_of_lt_of_le hg4' hz1)).trans y3; clear hv2)
            | (go_at_call 144; refine (in2_any b o _).mono ?_; rintro e v1 ⟨rfl, hv1⟩; have BV1 : Hid (Below w1.heap.size w1 v1) := (by rw [hv1]; exact ⟨rfl, rfl, rfl, Nat.le_refl _, fun _ _ => rfl⟩); have k0 := (BV1.out.cell (p := ⟨gr, 0, none⟩) hgr).trans r0; have k1 := (BV1.out.cell (p := ⟨gr, 1, none⟩) hgr).trans r1; have k2 := (BV1.out.cell (p := ⟨b, o + 2, none⟩) (Nat.lt_of_lt_of_le hbA hz1)).trans y4; have k3 := (BV1.out.cell (p := ⟨g4, 0, none⟩) (Nat.lt_of_lt_of_le hg4' hz1)).trans y0; have k4 := (BV1.out.cell (p := ⟨g4, 1, none⟩) (Nat.lt_of_lt_of_le hg4' hz1)).trans y1; have k5 := (BV1.out.cell (p := ⟨g4, 2, none⟩) (Nat.lt_of_lt_of_le hg4' hz1)).trans y2; have k6 := (BV1.out.cell (p := ⟨g4, 3, none⟩) (Nat.lt_of_lt_of_le hg4' hz1)).trans y3; clear hv1)
            | fail)
          have BF : Hid (Below wA.heap.size wA v3) := B1.out.trans (BV3.out.mono B1.out.size)
          cases bb with
          | true =>
            have HN : Hid (∀ j, j < 1 + 1 → rlK ((p + q : Nat) : Int) s.row j) := fun j hj => by
              by_cases h : j < 1
              · exact HRU.out j h
              · obtain rfl : j = 1 := by omega
                exact HRL.out.1 rfl
            go_wp2_with fail
            go_roundw
            case rel => exact ⟨1 + 1, by omega, by go_num, BF, HN⟩
            case measure => simp [intOf]
          | false =>
            obtain rfl : fe = 74 := by rw [HFE.out, flt_rule hgood.out 1 (by omega) HRU.out (fun h => by have := HRL.out.2 h; cases this)]; rfl
            have r2 : v3.cell? ⟨gr, 2, none⟩ = some (.int .i64 74) := (BV3.out.cell (p := ⟨gr, 2, none⟩) hgr).trans (by rw [cell_of_row _ _ _ _ _ _ HBR1.out]; rfl)
            go_wp2_with fail
            go_ret
            exact ⟨rfl, BA.out.trans (BF.out.mono BA.out.size)⟩
        ·
          obtain ⟨an, han, han2, han3⟩ := u64_nat s.n OA.out.rn
          obtain ⟨bb, hbb⟩ : ∃ bb : Bool, bb = decide (1 ≤ an ∧ an ≤ 64) := ⟨_, rfl⟩
          have HRL : Hid (bb = true ↔ rlK ((p + q : Nat) : Int) s.row 2) := by
            show bb = true ↔ 1 ≤ s.n ∧ s.n ≤ 64
            rw [hbb, decide_eq_true_iff]
            omega
          have HMAY : Hid (∀ W, Below wA.heap.size wA W → Calls Tryz.prog 141 #[.int .u64 (an : Int), .int .u64 ((p + q : Nat) : Int), .pointer (some ⟨g3, 0, none⟩)] W fun e w' => e = .returned (.bool bb) ∧ w' = W) := fun W hW => by
            rw [hbb]
            exact upto_any an 64 g3 _ W han2 (TA.out.below hW).b3
          have e0 : wr.cell? ⟨gt, 6, none⟩ = some (.func (.func 145) #[] #[]) := by rw [cell_of_row _ _ _ _ _ _ HT.out]; rfl
          have e1 : wr.cell? ⟨gt, 7, none⟩ = some (.func (.func 141) #[] #[.pointer (some ⟨g3, 0, none⟩)]) := by rw [cell_of_row _ _ _ _ _ _ HT.out]; rfl
          have e2 : wr.cell? ⟨gt, 8, none⟩ = some (.int .i64 75) := by rw [cell_of_row _ _ _ _ _ _ HT.out]; rfl
          obtain ⟨w1, hw1⟩ : ∃ w1, w1 = wr.alloc (.cells #[.func (.func 145) #[] #[], .func (.func 141) #[] #[.pointer (some ⟨g3, 0, none⟩)], .int .i64 75] 170) := ⟨_, rfl⟩
          have bb1 : Below wr.heap.size wr w1 := by rw [hw1]; exact (Below.refl _ _).alloc (Nat.le_refl _) _
          have hbr : w1.heap[wr.heap.size]? = some (.cells #[.func (.func 145) #[] #[], .func (.func 141) #[] #[.pointer (some ⟨g3, 0, none⟩)], .int .i64 75] 170 (0, 0)) := by rw [hw1]; exact heap_alloc_new wr _
          have B1 : Hid (Below wA.heap.size wA w1) := HBR.out.trans (bb1.mono HBR.out.size)
          replace hbb := hide hbb
          clear bb1
          go_upto_region 6 with fail
          rw [← hw1]
          clear hw1 e0 e1 e2
          generalize wr.heap.size = gr at *
          have r0 : w1.cell? ⟨gr, 0, none⟩ = some (.func (.func 145) #[] #[]) := by rw [cell_of_row _ _ _ _ _ _ hbr]; rfl
          have r1 : w1.cell? ⟨gr, 1, none⟩ = some (.func (.func 141) #[] #[.pointer (some ⟨g3, 0, none⟩)]) := by rw [cell_of_row _ _ _ _ _ _ hbr]; rfl
          have hgr : gr < w1.heap.size := lt_of_block hbr
          have HBR1 := hide hbr
          clear hbr
          have y0 := (B1.out.cell (p := ⟨g4, 0, none⟩) hg4').trans X0.out
          have y1 := (B1.out.cell (p := ⟨g4, 1, none⟩) hg4').trans X1.out
          have y2 := (B1.out.cell (p := ⟨g4, 2, none⟩) hg4').trans X2.out
          have y3 := (B1.out.cell (p := ⟨g4, 3, none⟩) hg4').trans X3.out
          have y4 : w1.cell? ⟨b, o + 3, none⟩ = some (.int .i64 s.n) := (SA.out.below B1.out).c3
          have hz1 := B1.out.size
          go_region_held3 (fun W => W.cell? ⟨gr, 0, none⟩ = some (.func (.func 145) #[] #[]) ∧ W.cell? ⟨gr, 1, none⟩ = some (.func (.func 141) #[] #[.pointer (some ⟨g3, 0, none⟩)]) ∧ W.cell? ⟨b, o + 3, none⟩ = some (.int .i64 s.n) ∧ W.cell? ⟨g4, 0, none⟩ = some (.slice aa la ca) ∧ W.cell? ⟨g4, 1, none⟩ = some (.int .i64 (p : Int)) ∧ W.cell? ⟨g4, 2, none⟩ = some (.int .i64 (q : Int)) ∧ W.cell? ⟨g4, 3, none⟩ = some (.int .i64 z)) (go_keep) (first
            | (go_at_call 141; refine (HMAY.out v2 (B1.out.trans (BV2.out.mono B1.out.size))).mono ?_; rintro e v3 ⟨rfl, hv3⟩; have BV3 : Hid (Below w1.heap.size w1 v3) := (by rw [hv3]; exact BV2.out); have m0 := (BV3.out.cell (p := ⟨gr, 0, none⟩) hgr).trans r0; have m1 := (BV3.out.cell (p := ⟨gr, 1, none⟩) hgr).trans r1; have m2 := (BV3.out.cell (p := ⟨b, o + 3, none⟩) (Nat.lt_of_lt_of_le hbA hz1)).trans y4; have m3 := (BV3.out.cell (p := ⟨g4, 0, none⟩) (Nat.lt_of_lt_of_le hg4' hz1)).trans y0; have m4 := (BV3.out.cell (p := ⟨g4, 1, none⟩) (Nat.lt_of_lt_of_le hg4' hz1)).trans y1; have m5 := (BV3.out.cell (p := ⟨g4, 2, none⟩) (Nat.lt_of_lt_of_le hg4' hz1)).trans y2; have m6 := (BV3.out.cell (p := ⟨g4, 3, none⟩) (Nat.lt_of_lt_of_le hg4' hz1)).trans y3; clear hv3)
            | (go_at_call 157; refine (behind_any _ p q z v1 hp hq).mono ?_; rintro e v2 ⟨rfl, hv2⟩; have BV2 : Hid (Below w1.heap.size w1 v2) := BV1.out.trans (hv2.mono BV1.out.size); have l0 := (BV2.out.cell (p := ⟨gr, 0, none⟩) hgr).trans r0; have l1 := (BV2.out.cell (p := ⟨gr, 1, none⟩) hgr).trans r1; have l2 := (BV2.out.cell (p := ⟨b, o + 3, none⟩) (Nat.lt_of_lt_of_le hbA hz1)).trans y4; have l3 := (BV2.out.cell (p := ⟨g4, 0, none⟩) (Nat.lt_of_lt_of_le hg4' hz1)).trans y0; have l4 := (BV2.out.cell (p := ⟨g4, 1, none⟩) (Nat.lt_of_lt_of_le hg4' hz1)).trans y1; have l5 := (BV2.out.cell (p := ⟨g4, 2, none⟩) (Nat.lt_of_lt_of_le hg4' hz1)).trans y2; have l6 := (BV2.out.cell (p := ⟨g4, 3, none⟩) (Nat.lt_of_lt_of_le hg4' hz1)).trans y3; clear hv2)
            | (go_at_call 145; refine (in3_any b o _).mono ?_; rintro e v1 ⟨rfl, hv1⟩; have BV1 : Hid (Below w1.heap.size w1 v1) := (by rw [hv1]; exact ⟨rfl, rfl, rfl, Nat.le_refl _, fun _ _ => rfl⟩); have k0 := (BV1.out.cell (p := ⟨gr, 0, none⟩) hgr).trans r0; have k1 := (BV1.out.cell (p := ⟨gr, 1, none⟩) hgr).trans r1; have k2 := (BV1.out.cell (p := ⟨b, o + 3, none⟩) (Nat.lt_of_lt_of_le hbA hz1)).trans y4; have k3 := (BV1.out.cell (p := ⟨g4, 0, none⟩) (Nat.lt_of_lt_of_le hg4' hz1)).trans y0; have k4 := (BV1.out.cell (p := ⟨g4, 1, none⟩) (Nat.lt_of_lt_of_le hg4' hz1)).trans y1; have k5 := (BV1.out.cell (p := ⟨g4, 2, none⟩) (Nat.lt_of_lt_of_le hg4' hz1)).trans y2; have k6 := (BV1.out.cell (p := ⟨g4, 3, none⟩) (Nat.lt_of_lt_of_le hg4' hz1)).trans y3; clear hv1)
            | fail)
          have BF : Hid (Below wA.heap.size wA v3) := B1.out.trans (BV3.out.mono B1.out.size)
          cases bb with
          | true =>
            have HN : Hid (∀ j, j < 2 + 1 → rlK ((p + q : Nat) : Int) s.row j) := fun j hj => by
              by_cases h : j < 2
              · exact HRU.out j h
              · obtain rfl : j = 2 := by omega
                exact HRL.out.1 rfl
            go_wp2_with fail
            go_roundw
            case rel => exact ⟨2 + 1, by omega, by go_num, BF, HN⟩
            case measure => simp [intOf]
          | false =>
            obtain rfl : fe = 75 := by rw [HFE.out, flt_rule hgood.out 2 (by omega) HRU.out (fun h => by have := HRL.out.2 h; cases this)]; rfl
            have r2 : v3.cell? ⟨gr, 2, none⟩ = some (.int .i64 75) := (BV3.out.cell (p := ⟨gr, 2, none⟩) hgr).trans (by rw [cell_of_row _ _ _ _ _ _ HBR1.out]; rfl)
            go_wp2_with fail
            go_ret
            exact ⟨rfl, BA.out.trans (BF.out.mono BA.out.size)⟩
        · obtain rfl : fe = 0 := by rw [HFE.out]; exact flt_good hgood.out HRU.out
          go_wp2_with fail
          go_ret
          exact ⟨rfl, BA.out.trans (HBR.out.mono BA.out.size)⟩
  · obtain rfl : fe = 72 := by rw [HFE.out]; exact flt_key (.inl (by show keyE s.ks.length ≠ 0; rw [hnk, ← hek.out]; exact hk0))
    obtain rfl : ek = 3 := by have := hek.out; rcases keyE_cases nk with h | h <;> omega
    have HKQ : Hid (∀ m, Calls Tryz.prog 119 #[.slice s.ka nk s.kc] (wA.drewN m) fun e w' => e = .returned (.int .i64 3) ∧ ∃ m, w' = wA.drewN m) := fun m => (HKEY.out (wA.drewN m)).mono fun e w' ⟨h1, h2⟩ => ⟨h1, m, h2⟩
    go_wp2_with fail
    go_quiet ((go_at_call 119; with_reducible exact HKQ.out _))
    go_wp2_with fail
    go_ret
    exact ⟨rfl, below_of_drewNF BA.out _⟩

end Go.Proofs.YtepjblmjjegpgaaGreat

namespace Go.Proofs.YtepjblmjjegpgaaGreat
open Go.RowKit
set_option maxRecDepth 100000

def kAt (l : List FRow) (i : Nat) : List Int := if i = 0 then [] else (l.getD (i - 1) default).k
def pAt (l : List FRow) (i : Nat) : Int := if i = 0 then 8 else (l.getD (i - 1) default).p + (l.getD (i - 1) default).l
def fAt (l : List FRow) (i : Nat) : Int := flt (kAt l i) (pAt l i) (l.getD i default)
/-- The first i rows may be. -/
def Gd (l : List FRow) (i : Nat) : Prop := ∀ j, j < i → fAt l j = 0
def IsChk (l : List FRow) (n : Nat) (e : Int) : Prop :=
  (8388608 < l.length ∧ n = 0 ∧ e = 71) ∨ (l.length ≤ 8388608 ∧ ((n < l.length ∧ Gd l n ∧ fAt l n = e ∧ e ≠ 0) ∨ (Gd l l.length ∧ n = 0 ∧ e = 0)))
theorem IsChk.uniq {l : List FRow} {n m : Nat} {e f : Int} (h : IsChk l n e) (k : IsChk l m f) : n = m ∧ e = f := by
  rcases h with ⟨h1, h2, h3⟩ | ⟨h1, ⟨h2, h3, h4, h5⟩ | ⟨h2, h3, h4⟩⟩ <;> rcases k with ⟨k1, k2, k3⟩ | ⟨k1, ⟨k2, k3, k4, k5⟩ | ⟨k2, k3, k4⟩⟩
  · omega
  · omega
  · omega
  · omega
  · by_cases q : n < m
    · exact absurd (k3 n q) (by rw [h4]; exact h5)
    · by_cases q' : m < n
      · exact absurd (h3 m q') (by rw [k4]; exact k5)
      · obtain rfl : n = m := by omega
        exact ⟨rfl, by rw [← h4, ← k4]⟩
  · exact absurd (k2 n h2) (by rw [h4]; exact h5)
  · omega
  · exact absurd (h2 m k2) (by rw [k4]; exact k5)
  · omega
theorem IsChk.ok {l : List FRow} {n : Nat} {e : Int} (h : IsChk l n e) (he : e = 0) : l.length ≤ 8388608 ∧ Gd l l.length ∧ n = 0 := by
  rcases h with ⟨h1, h2, h3⟩ | ⟨h1, ⟨h2, h3, h4, h5⟩ | ⟨h2, h3, h4⟩⟩
  · omega
  · exact absurd he h5
  · exact ⟨h1, h2, h3⟩
theorem flt_zero {pk : List Int} {pos : Int} {r : FRow} (h : flt pk pos r = 0) : (1 ≤ r.k.length ∧ r.k.length ≤ 64) ∧ cmpI pk r.k < 0 ∧ r.p = pos ∧ (1 ≤ r.l ∧ r.l ≤ 131072) ∧ (1 ≤ r.n ∧ r.n ≤ 64) := by
  unfold flt at h
  split at h
  · omega
  · rename_i h1
    split at h
    · omega
    · split at h
      · omega
      · split at h
        · omega
        · rename_i h2 h3 h4
          have e1 : keyE r.k.length = 0 := Decidable.not_not.1 fun q => h1 (.inl q)
          have e2 : cmpI pk r.k < 0 := Decidable.not_not.1 fun q => h1 (.inr q)
          refine ⟨?_, e2, Decidable.not_not.1 h2, Decidable.not_not.1 h3, Decidable.not_not.1 h4⟩
          rcases keyE_cases r.k.length with q | q <;> omega
theorem Gd.mono {l : List FRow} {i j : Nat} (h : Gd l i) (hj : j ≤ i) : Gd l j := fun k hk => h k (by omega)
theorem Gd.succ {l : List FRow} {i : Nat} (h : Gd l i) (hi : fAt l i = 0) : Gd l (i + 1) := fun j hj => by
  by_cases q : j < i
  · exact h j q
  · obtain rfl : j = i := by omega
    exact hi
theorem Gd.row {l : List FRow} {i : Nat} (h : Gd l i) (j : Nat) (hj : j < i) : (1 ≤ (l.getD j default).k.length ∧ (l.getD j default).k.length ≤ 64) ∧ cmpI (kAt l j) (l.getD j default).k < 0 ∧ (l.getD j default).p = pAt l j ∧ (1 ≤ (l.getD j default).l ∧ (l.getD j default).l ≤ 131072) ∧ (1 ≤ (l.getD j default).n ∧ (l.getD j default).n ≤ 64) := flt_zero (h j hj)
theorem Gd.pos {l : List FRow} : ∀ {i : Nat}, Gd l i → 8 ≤ pAt l i ∧ pAt l i ≤ 8 + 131072 * (i : Int)
  | 0, _ => by unfold pAt; simp
  | i + 1, h => by
    have q := Gd.pos (h.mono (Nat.le_succ i))
    have r := h.row i (Nat.lt_succ_self i)
    have e : pAt l (i + 1) = (l.getD i default).p + (l.getD i default).l := by unfold pAt; rw [if_neg (by omega), Nat.add_sub_cancel]
    rw [e, r.2.2.1]
    omega
theorem kAt_succ (l : List FRow) (i : Nat) : kAt l (i + 1) = (l.getD i default).k := by unfold kAt; rw [if_neg (by omega), Nat.add_sub_cancel]
theorem pAt_succ (l : List FRow) (i : Nat) : pAt l (i + 1) = (l.getD i default).p + (l.getD i default).l := by unfold pAt; rw [if_neg (by omega), Nat.add_sub_cancel]

def rws (L : List Spn) : List FRow := L.map Spn.row
theorem rws_len (L : List Spn) : (rws L).length = L.length := by simp [rws]
theorem rws_at (L : List Spn) (i : Nat) (h : i < L.length) : (rws L).getD i default = L[i].row := by
  simp [rws, List.getD, List.getElem?_map, List.getElem?_eq_getElem h]

end Go.Proofs.YtepjblmjjegpgaaGreat

namespace Go.Proofs.YtepjblmjjegpgaaGreat
open Go.RowKit
set_option maxRecDepth 100000

/-- The row ahead, in its variable. -/
structure Ahd (W : World) (g : Nat) (aa : Option Addr) (la ca p q : Nat) (z : Int) (pk : List Int) : Prop where
  b : W.heap[g]? = some (.cells #[.slice aa la ca, .int .i64 (p : Int), .int .i64 (q : Int), .int .i64 z] 97 (0, 0))
  r : Row W .u8 aa pk
  l : pk.length = la
  k8 : B8 pk
theorem Ahd.cells {W : World} {g : Nat} {aa : Option Addr} {la ca p q : Nat} {z : Int} {pk : List Int} (h : Ahd W g aa la ca p q z pk) : W.cell? ⟨g, 0, none⟩ = some (.slice aa la ca) ∧ W.cell? ⟨g, 1, none⟩ = some (.int .i64 (p : Int)) ∧ W.cell? ⟨g, 2, none⟩ = some (.int .i64 (q : Int)) ∧ W.cell? ⟨g, 3, none⟩ = some (.int .i64 z) ∧ (∀ j, W.frozen? ⟨g, j, none⟩ = false) :=
  ⟨by rw [cell_of_row _ _ _ _ _ _ h.b]; rfl, by rw [cell_of_row _ _ _ _ _ _ h.b]; rfl, by rw [cell_of_row _ _ _ _ _ _ h.b]; rfl, by rw [cell_of_row _ _ _ _ _ _ h.b]; rfl, fun j => by simp [World.frozen?, h.b]⟩
/-- Between two rounds of Check. -/
structure CkI (w wr : World) (g gt g2 g3 : Nat) (L : List Spn) (i : Nat) : Prop where
  tab : Tab wr gt g2 g3
  ah : ∃ aa la ca p q z pk, Ahd wr g aa la ca p q z pk ∧ pk = kAt (rws L) i ∧ ((p + q : Nat) : Int) = pAt (rws L) i
  gd : Gd (rws L) i
  bel : Below w.heap.size w wr

theorem i64_keep {x : Int} (h : 0 ≤ x) : ((x.toNat : Nat) : Int) = x := Int.toNat_of_nonneg h

theorem CkI.next {w W : World} {g gt g2 g3 b o : Nat} {L : List Spn} {i : Nat} {aa : Option Addr} {la ca p q : Nat} {z : Int} {pk : List Int} (T : Tab W gt g2 g3) (A : Ahd W g aa la ca p q z pk) (gd : Gd (rws L) i) (bel : Below w.heap.size w W) (hi : i < L.length) (hS : Sps w b o L) (hg : w.heap.size ≤ g) (h1 : gt ≠ g) (h2 : g2 ≠ g) (h3 : g3 ≠ g) (hf : fAt (rws L) i = 0) :
    CkI w ((((W.setCell ⟨g, 0, none⟩ L[i].kv).setCell ⟨g, 1, none⟩ (.int .i64 L[i].pl)).setCell ⟨g, 2, none⟩ (.int .i64 L[i].ln)).setCell ⟨g, 3, none⟩ (.int .i64 L[i].n)) g gt g2 g3 L (i + 1) := by
  have hu : Upd (fun k => k = g) W ((((W.setCell ⟨g, 0, none⟩ L[i].kv).setCell ⟨g, 1, none⟩ (.int .i64 L[i].pl)).setCell ⟨g, 2, none⟩ (.int .i64 L[i].ln)).setCell ⟨g, 3, none⟩ (.int .i64 L[i].n)) := (((((Upd.refl (fun k => k = g) W).setCell ⟨g, 0, none⟩ L[i].kv (fun _ => rfl)).setCell ⟨g, 1, none⟩ (.int .i64 L[i].pl) (fun _ => rfl)).setCell ⟨g, 2, none⟩ (.int .i64 L[i].ln) (fun _ => rfl)).setCell ⟨g, 3, none⟩ (.int .i64 L[i].n) (fun _ => rfl))
  have hb' : Below w.heap.size w ((((W.setCell ⟨g, 0, none⟩ L[i].kv).setCell ⟨g, 1, none⟩ (.int .i64 L[i].pl)).setCell ⟨g, 2, none⟩ (.int .i64 L[i].ln)).setCell ⟨g, 3, none⟩ (.int .i64 L[i].n)) := bel.trans ((hu.below bel.size (fun k hk e => by omega)))
  have gd' := gd.succ hf
  have r := gd'.row i (Nat.lt_succ_self i)
  rw [rws_at L i hi] at r
  have hp := gd.pos
  have ok := (hS.below hb').ok i hi
  refine ⟨T.upd hu h1 h2 h3, ⟨L[i].ka, L[i].ks.length, L[i].kc, L[i].pl.toNat, L[i].ln.toNat, L[i].n, L[i].ks, ⟨?_, ok.k, rfl, ok.k8⟩, ?_, ?_⟩, gd', hb'⟩
  · have e1 : L[i].pl = L[i].row.p := rfl
    have e2 : L[i].ln = L[i].row.l := rfl
    rw [i64_keep (by rw [e1, r.2.2.1]; omega), i64_keep (by rw [e2]; omega)]
    exact block_setCell (block_setCell (block_setCell (block_setCell A.b 0 _) 1 _) 2 _) 3 _
  · rw [kAt_succ, rws_at L i hi]; rfl
  · rw [pAt_succ, rws_at L i hi, Int.natCast_add, i64_keep (by have : L[i].pl = L[i].row.p := rfl; rw [this, r.2.2.1]; omega), i64_keep (by have : L[i].ln = L[i].row.l := rfl; rw [this]; omega)]
    rfl

set_option maxRecDepth 100000 in
set_option maxHeartbeats 1600000 in
theorem fcheck_any (a : Option Addr) (b o n c : Nat) (L : List Spn) (w : World) (hl : L.length = n) (hm : n ≤ 140737488351232) (ha : 0 < n → a = some ⟨b, o, none⟩) (hS : Sps w b o L) :
    Calls Tryz.prog 116 #[.slice a n c] w fun e w' => ∃ (m : Nat) (er : Int), e = .returned (.tuple #[.int .i64 (m : Int), .int .i64 er]) ∧ IsChk (rws L) m er ∧ Below w.heap.size w w' := by
  have HS := hide hS
  have HA := hide ha
  clear hS ha
  have HL : Hid ((rws L).length = n) := (rws_len L).trans hl
  go_enter Tryz.func116, Tryz.ntmps116
  by_cases hbig : 8388608 < n
  · have i1 : (8388608 : Int) < (n : Int) := by omega
    have HF : Hid (IsChk (rws L) 0 71) := .inl ⟨by rw [HL.out]; exact hbig, rfl, rfl⟩
    go_wp2_with fail
    go_ret2
    exact ⟨0, 71, rfl, HF.out, Below.refl _ _⟩
  · have i1 : ¬ (8388608 : Int) < (n : Int) := by omega
    go_wp2_with fail
    refine (rules_any w).mono ?_
    rintro e w1 ⟨rfl, T1, b1⟩
    have HT1 := hide T1
    have B1 := hide b1
    have hlt1 : w.heap.size + 2 < w1.heap.size := lt_of_block T1.t
    clear T1 b1
    generalize hgt : w.heap.size + 2 = gt at *
    generalize hg2 : w.heap.size = g2 at *
    generalize hg3 : g2 + 1 = g3 at *
    go_wp2_with fail
    refine (head_any w1).mono ?_
    rintro e w2 ⟨rfl, b2⟩
    have B2 := hide b2
    clear b2
    have hz2 := B2.out.size
    obtain ⟨w3, hw3⟩ : ∃ w3, w3 = w2.alloc (.cells #[.slice none 0 0, .int .i64 0, .int .i64 8, .int .i64 0] 97) := ⟨_, rfl⟩
    have hb3 : w3.heap[w2.heap.size]? = some (.cells #[.slice none 0 0, .int .i64 0, .int .i64 8, .int .i64 0] 97 (0, 0)) := by rw [hw3]; exact heap_alloc_new w2 _
    have B3 : Hid (Below w1.heap.size w1 w3) := B2.out.trans ((by rw [hw3]; exact (Below.refl _ _).alloc (Nat.le_refl _) _ : Below w2.heap.size w2 w3).mono hz2)
    obtain ⟨g, hg⟩ : ∃ g, g = w2.heap.size := ⟨_, rfl⟩
    have H0 : Hid (CkI w w3 g gt g2 g3 L 0) := ⟨HT1.out.below B3.out, ⟨none, 0, 0, 0, 8, 0, [], ⟨by rw [hg]; exact hb3, row_nil _ _ _, rfl, fun _ h => by simp at h⟩, rfl, rfl⟩, fun _ h => absurd h (Nat.not_lt_zero _), by rw [hg2]; exact B1.out.trans (B3.out.mono (by have := B1.out.size; omega))⟩
    have hgw : g2 ≤ g ∧ gt ≠ g ∧ g2 ≠ g ∧ g3 ≠ g := by omega
    clear hb3 HT1
    go_wp2_with fail
    rw [← hg, ← hw3]
    clear hg hw3 hz2 hlt1
    replace hgt := hide hgt
    replace hg2 := hide hg2
    replace hg3 := hide hg3
    go_loopw [15] (fun x wr => ∃ i : Nat, i ≤ n ∧ x = .int .i64 (i : Int) ∧ Hid (CkI w wr g gt g2 g3 L i)) (fun x _ => n - (intOf x).toNat)
    case atStart => exact ⟨0, Nat.zero_le _, rfl, H0⟩
    case round =>
      clear H0 B1 B2 B3
      obtain ⟨i, hi, rfl, HI⟩ := hrel
      rename World => wr
      by_cases hlt : i < n
      · have j1 : (i : Int) < (n : Int) := by omega
        have j2 : (0 : Int) ≤ (i : Int) := by omega
        obtain rfl := HA.out (by omega)
        have hiL : i < L.length := by omega
        obtain ⟨aa, la, ca, p, q, z, pk, A, hpk, hpq⟩ := HI.out.ah
        have hpb := HI.out.gd.pos
        have hp8 : p + q ≤ 8 + 131072 * 8388608 := by omega
        have AH := hide A
        obtain ⟨c0, c1, c2, c3, _⟩ := A.cells
        have hbel := HI.out.bel
        have SR := hide ((HS.out.below hbel).c i hiL)
        have OR := hide ((HS.out.below hbel).ok i hiL)
        have HFA : Hid (∀ W, Below wr.heap.size wr W → Calls Tryz.prog 139 #[.slice (some ⟨gt, 0, none⟩) 3 3, .agg #[.slice aa la ca, .int .i64 (p : Int), .int .i64 (q : Int), .int .i64 z], .pointer (some ⟨b, o + i * 4, none⟩)] W fun e w' => e = .returned (.int .i64 (fAt (rws L) i)) ∧ Below W.heap.size W w') := fun W hW => by
          have h := ffault_any (HI.out.tab.below hW) aa la ca p q z pk b (o + i * 4) L[i] (OR.out.below hW) (SR.out.below hW) (AH.out.r.below2 hW) AH.out.l AH.out.k8 (by omega) (by omega)
          rw [hpk, hpq] at h
          unfold fAt
          rw [rws_at L i hiL]
          exact h
        obtain ⟨fe, hfe⟩ : ∃ fe, fe = fAt (rws L) i := ⟨_, rfl⟩
        rw [← hfe] at HFA
        have HFE := hide hfe
        have hgl : g < wr.heap.size := lt_of_block A.b
        clear A hpk hpq hbel hfe hpb
        go_upto_region 8 with fail
        go_region_held3 (fun W => W.cell? ⟨g, 0, none⟩ = some (.slice aa la ca) ∧ W.cell? ⟨g, 1, none⟩ = some (.int .i64 (p : Int)) ∧ W.cell? ⟨g, 2, none⟩ = some (.int .i64 (q : Int)) ∧ W.cell? ⟨g, 3, none⟩ = some (.int .i64 z)) (go_keep) (first
          | (go_at_call 139; refine (HFA.out wr.drew ⟨rfl, rfl, rfl, Nat.le_refl _, fun _ _ => rfl⟩).mono ?_; rintro e v1 ⟨rfl, hv1⟩; have BV : Hid (Below wr.heap.size wr v1) := (⟨hv1.os, hv1.tape, hv1.output, hv1.size, hv1.block⟩); have d0 := (BV.out.cell (p := ⟨g, 0, none⟩) hgl).trans c0; have d1 := (BV.out.cell (p := ⟨g, 1, none⟩) hgl).trans c1; have d2 := (BV.out.cell (p := ⟨g, 2, none⟩) hgl).trans c2; have d3 := (BV.out.cell (p := ⟨g, 3, none⟩) hgl).trans c3; clear hv1)
          | fail)
        by_cases hf0 : fe = 0
        · subst hf0
          have AV : Hid (Ahd v1 g aa la ca p q z pk) := ⟨(BV.out.block g hgl).trans AH.out.b, AH.out.r.below2 BV.out, AH.out.l, AH.out.k8⟩
          obtain ⟨_, _, _, _, hfz⟩ := AV.out.cells
          have z0 := hfz 0
          have z1 := hfz 1
          have z2 := hfz 2
          have z3 := hfz 3
          have SV := SR.out.below BV.out
          have s0 := SV.c0
          have s1 := SV.c1
          have s2 := SV.c2
          have s3 := SV.c3
          have HN := hide (CkI.next (b := b) (o := o) (HI.out.tab.below BV.out) AV.out HI.out.gd (HI.out.bel.trans (BV.out.mono HI.out.bel.size)) hiL HS.out (by rw [hg2.out]; exact hgw.1) hgw.2.1 hgw.2.2.1 hgw.2.2.2 HFE.out.symm)
          unfold Spn.kv at s0 HN
          obtain ⟨nk, hnk⟩ : ∃ nk, L[i].ks.length = nk := ⟨_, rfl⟩
          rw [hnk] at s0 HN
          clear SV hfz
          go_wp2_with fail
          go_roundw
          case rel => exact ⟨i + 1, by omega, by go_num, HN⟩
          case measure => simp [intOf]; omega
        · have hf1 : (fe != 0) = true := by simp [hf0]
          have HF : Hid (IsChk (rws L) i fe) := .inr ⟨by rw [HL.out]; omega, .inl ⟨by rw [HL.out]; exact hlt, HI.out.gd, HFE.out.symm, hf0⟩⟩
          have HB := hide (HI.out.bel.trans (BV.out.mono HI.out.bel.size))
          go_wp2_with fail
          go_ret2
          exact ⟨i, fe, rfl, HF.out, HB.out⟩
      · have j1 : ¬ (i : Int) < (n : Int) := by omega
        obtain rfl : i = n := by omega
        have HF : Hid (IsChk (rws L) 0 0) := .inr ⟨by rw [HL.out]; omega, .inr ⟨by rw [HL.out]; exact HI.out.gd, rfl, rfl⟩⟩
        have HB := hide HI.out.bel
        go_wp2_with fail
        go_ret2
        exact ⟨0, 0, rfl, HF.out, HB.out⟩

end Go.Proofs.YtepjblmjjegpgaaGreat

namespace Go.Proofs.YtepjblmjjegpgaaGreat
open Go.RowKit
set_option maxRecDepth 100000

def totW (l : List FRow) : Nat → Int
  | 0 => 0
  | i + 1 => IntKind.i64.wrap (totW l i + (l.getD i default).n)
def totN (l : List FRow) : Nat → Nat
  | 0 => 0
  | i + 1 => totN l i + (l.getD i default).n.toNat
theorem totN_le {l : List FRow} : ∀ {i : Nat}, Gd l i → totN l i ≤ 64 * i
  | 0, _ => by simp [totN]
  | i + 1, h => by
    have r := (h.row i (Nat.lt_succ_self i)).2.2.2.2
    have := totN_le (h.mono (Nat.le_succ i))
    unfold totN
    omega
theorem tot_good {l : List FRow} : ∀ {i : Nat}, Gd l i → i ≤ 8388608 → totW l i = (totN l i : Int)
  | 0, _, _ => rfl
  | i + 1, h, hi => by
    have r := (h.row i (Nat.lt_succ_self i)).2.2.2.2
    have e := tot_good (h.mono (Nat.le_succ i)) (by omega)
    have q := totN_le (h.mono (Nat.le_succ i))
    unfold totW totN
    rw [e, IntKind.wrap_i64]
    omega
theorem totW_i64 (l : List FRow) (i : Nat) : I64 (totW l i) := by
  unfold I64
  cases i with
  | zero => unfold totW; omega
  | succ i => unfold totW; rw [IntKind.wrap_i64]; omega

set_option maxRecDepth 100000 in
set_option maxHeartbeats 800000 in
theorem total_any (a : Option Addr) (b o n c : Nat) (L : List Spn) (w : World) (hl : L.length = n) (hm : n ≤ 140737488351232) (ha : 0 < n → a = some ⟨b, o, none⟩) (hS : Sps w b o L) :
    Calls Tryz.prog 118 #[.slice a n c] w fun e w' => e = .returned (.int .i64 (totW (rws L) n)) ∧ Below w.heap.size w w' := by
  have HS := hide hS
  have HA := hide ha
  clear hS ha
  go_enter Tryz.func118, Tryz.ntmps118
  go_wp2_with fail
  go_loopw [3, 8] (fun y x wr => ∃ i : Nat, i ≤ n ∧ x = .int .i64 (i : Int) ∧ y = .int .i64 (totW (rws L) i) ∧ Hid (Below w.heap.size w wr)) (fun _ x _ => n - (intOf x).toNat)
  case atStart => exact ⟨0, Nat.zero_le _, rfl, rfl, Below.refl _ _⟩
  case round =>
    obtain ⟨i, hi, rfl, rfl, HB⟩ := hrel
    rename World => wr
    by_cases hlt : i < n
    · have j1 : (i : Int) < (n : Int) := by omega
      have j2 : (0 : Int) ≤ (i : Int) := by omega
      obtain rfl := HA.out (by omega)
      have hiL : i < L.length := by omega
      have SV := (HS.out.below HB.out).c i hiL
      have s0 := SV.c0
      have s1 := SV.c1
      have s2 := SV.c2
      have s3 := SV.c3
      unfold Spn.kv at s0
      have ht : totW (rws L) (i + 1) = IntKind.i64.wrap (totW (rws L) i + L[i].n) := by show IntKind.i64.wrap _ = _; rw [rws_at L i hiL]; rfl
      have HN : Hid (∀ o, Below w.heap.size w (wr.alloc o)) := fun o => HB.out.alloc HB.out.size o
      have HTT := hide ht
      clear SV ht
      generalize totW (rws L) i = tt at *
      go_wp2_with fail
      go_roundw
      case rel => exact ⟨i + 1, by omega, by go_num, by rw [HTT.out, IntKind.wrap_i64]; unfold wrap64; rfl, HN.out _⟩
      case measure => simp [intOf]; omega
    · have j1 : ¬ (i : Int) < (n : Int) := by omega
      obtain rfl : i = n := by omega
      go_wp2_with fail
      go_ret
      exact ⟨rfl, HB.out⟩

set_option maxRecDepth 100000 in
set_option maxHeartbeats 800000 in
theorem rtotal_any (a : Option Addr) (b o n c : Nat) (L : List Spn) (w : World) (hl : L.length = n) (hm : n ≤ 140737488351232) (ha : 0 < n → a = some ⟨b, o, none⟩) (hS : Sps w b o L) :
    Calls Tryz.prog 108 #[.slice a n c] w fun e w' => e = .returned (.int .i64 (totW (rws L) n)) ∧ Below w.heap.size w w' := by
  have HS := hide hS
  have HA := hide ha
  clear hS ha
  go_enter Tryz.func108, Tryz.ntmps108
  go_wp2_with fail
  go_loopw [3, 4] (fun y x wr => ∃ i : Nat, i ≤ n ∧ x = .int .i64 (i : Int) ∧ y = .int .i64 (totW (rws L) i) ∧ Hid (Below w.heap.size w wr)) (fun _ x _ => n - (intOf x).toNat)
  case atStart => exact ⟨0, Nat.zero_le _, rfl, rfl, Below.refl _ _⟩
  case round =>
    obtain ⟨i, hi, rfl, rfl, HB⟩ := hrel
    rename World => wr
    by_cases hlt : i < n
    · have j1 : (i : Int) < (n : Int) := by omega
      have j2 : (0 : Int) ≤ (i : Int) := by omega
      obtain rfl := HA.out (by omega)
      have hiL : i < L.length := by omega
      have s3 := ((HS.out.below HB.out).c i hiL).c3
      have ht : totW (rws L) (i + 1) = IntKind.i64.wrap (totW (rws L) i + L[i].n) := by show IntKind.i64.wrap _ = _; rw [rws_at L i hiL]; rfl
      have HTT := hide ht
      clear ht
      generalize totW (rws L) i = tt at *
      go_wp2_with fail
      go_roundw
      case rel => exact ⟨i + 1, by omega, by go_num, by rw [HTT.out, IntKind.wrap_i64]; unfold wrap64; rfl, HB⟩
      case measure => simp [intOf]; omega
    · have j1 : ¬ (i : Int) < (n : Int) := by omega
      obtain rfl : i = n := by omega
      go_wp2_with fail
      go_ret
      exact ⟨rfl, HB.out⟩

end Go.Proofs.YtepjblmjjegpgaaGreat

namespace Go.Proofs.YtepjblmjjegpgaaGreat
open Go.RowKit
set_option maxRecDepth 100000

def rnum (r : FRow) (k : Nat) : Nat := match k with
  | 0 => r.p.toNat
  | 1 => r.l.toNat
  | _ => r.n.toNat
def fmid (r : FRow) : Nat → List Int
  | 0 => []
  | k + 1 => fmid r k ++ enc (rnum r k)
def fbody (r : FRow) : List Int := enc r.k.length ++ r.k ++ fmid r 3
def fpre (l : List FRow) : Nat → List Int
  | 0 => enc l.length
  | i + 1 => fpre l i ++ fbody (l.getD i default)
def footB (l : List FRow) : List Int := fpre l l.length ++ enc (totN l l.length)

theorem rnum_le {l : List FRow} {i : Nat} (h : Gd l (i + 1)) (hi : i < 8388608) (k : Nat) : rnum (l.getD i default) k ≤ 1099511627784 := by
  have r := h.row i (Nat.lt_succ_self i)
  have p := (h.mono (Nat.le_succ i)).pos
  unfold rnum
  split
  · rw [r.2.2.1]; omega
  · omega
  · omega
theorem fmid_len {l : List FRow} {i : Nat} (h : Gd l (i + 1)) (hi : i < 8388608) : ∀ k, (fmid (l.getD i default) k).length ≤ 10 * k
  | 0 => by simp [fmid]
  | k + 1 => by
    have := fmid_len h hi k
    have q := (enc_len_le (rnum (l.getD i default) k) (by have := rnum_le h hi k; omega)).2
    rw [fmid, List.length_append]
    omega
theorem fbody_len {l : List FRow} {i : Nat} (h : Gd l (i + 1)) (hi : i < 8388608) : (fbody (l.getD i default)).length ≤ 104 := by
  have r := h.row i (Nat.lt_succ_self i)
  have := fmid_len h hi 3
  have q := (enc_len_le (l.getD i default).k.length (by omega)).2
  unfold fbody
  rw [List.length_append, List.length_append]
  omega
theorem fpre_len {l : List FRow} : ∀ {i : Nat}, Gd l i → i ≤ 8388608 → l.length ≤ 8388608 → (fpre l i).length ≤ 10 + 104 * i
  | 0, _, _, hl => by have := (enc_len_le l.length (by omega)).2; rw [fpre]; omega
  | i + 1, h, hi, hl => by
    have := fpre_len (h.mono (Nat.le_succ i)) (by omega) hl
    have := fbody_len h (by omega)
    rw [fpre, List.length_append]
    omega

end Go.Proofs.YtepjblmjjegpgaaGreat

namespace Go.Proofs.YtepjblmjjegpgaaGreat
open Go.RowKit
set_option maxRecDepth 100000

theorem cmp_nilF {ks : List Int} (h : 1 ≤ ks.length) : cmpI [] ks < 0 := by
  cases ks with
  | nil => simp at h
  | cons x xs => show (-1 : Int) < 0; omega
/-- Between two rounds of the document's Check. -/
def Sp1 (W : World) (g : Nat) (s : Spn) (nk : Nat) : Prop := W.heap[g]? = some (.cells #[.slice s.ka nk s.kc, .int .i64 s.pl, .int .i64 s.ln, .int .i64 s.n] 97 (0, 0))

theorem drewN_drewNF (w : World) (q m : Nat) : (w.drewN q).drewN m = w.drewN (q + m) := by simp [World.drewN, Nat.add_assoc]

set_option maxRecDepth 100000 in
set_option maxHeartbeats 1600000 in
theorem rfcheck_any (a : Option Addr) (b o n c : Nat) (L : List Spn) (w : World) (hl : L.length = n) (hm : n ≤ 140737488351232) (ha : 0 < n → a = some ⟨b, o, none⟩) (hS : Sps w b o L) :
    Calls Tryz.prog 106 #[.slice a n c] w fun e w' => ∃ (m : Nat) (er : Int), e = .returned (.tuple #[.int .i64 (m : Int), .int .i64 er]) ∧ IsChk (rws L) m er ∧ Below w.heap.size w w' := by
  have HS := hide hS
  have HA := hide ha
  clear hS ha
  have HL : Hid ((rws L).length = n) := (rws_len L).trans hl
  go_enter Tryz.func106, Tryz.ntmps106
  by_cases hbig : 8388608 < n
  · have i1 : (8388608 : Int) < (n : Int) := by omega
    have HF : Hid (IsChk (rws L) 0 71) := .inl ⟨by rw [HL.out]; exact hbig, rfl, rfl⟩
    go_wp2_with fail
    go_ret2
    exact ⟨0, 71, rfl, HF.out, Below.refl _ _⟩
  · have i1 : ¬ (8388608 : Int) < (n : Int) := by omega
    go_wp2_with fail
    go_loopw [4, 5] (fun y x wr => ∃ i : Nat, i ≤ n ∧ x = .int .i64 (i : Int) ∧ y = .int .i64 (pAt (rws L) i) ∧ Hid (Gd (rws L) i) ∧ Hid (Below w.heap.size w wr)) (fun _ x _ => n - (intOf x).toNat)
    case atStart => exact ⟨0, Nat.zero_le _, rfl, rfl, fun _ h => absurd h (Nat.not_lt_zero _), Below.refl _ _⟩
    case round =>
      obtain ⟨i, hi, rfl, rfl, HG, HB⟩ := hrel
      rename World => wr
      by_cases hlt : i < n
      · have j1 : (i : Int) < (n : Int) := by omega
        have j2 : (0 : Int) ≤ (i : Int) := by omega
        obtain rfl := HA.out (by omega)
        have hiL : i < L.length := by omega
        have SV := (HS.out.below HB.out).c i hiL
        have OK := hide ((HS.out.below HB.out).ok i hiL)
        have s0 := SV.c0
        have s1 := SV.c1
        have s2 := SV.c2
        have s3 := SV.c3
        unfold Spn.kv at s0
        have hpb := HG.out.pos
        have hrow := rws_at L i hiL
        have HPREV : Hid (∀ m (h : m < L.length), i = m + 1 → wr.cell? ⟨b, o + m * 4, none⟩ = some (.slice L[m].ka L[m].ks.length L[m].kc) ∧ Row wr .u8 L[m].ka L[m].ks ∧ kAt (rws L) i = L[m].ks ∧ L[m].ks.length ≤ 140737488351232) := fun m h e => by
          have q := (HS.out.below HB.out).c m h
          have k := (HS.out.below HB.out).ok m h
          exact ⟨q.c0, k.k, by rw [e, kAt_succ, rws_at L m h]; rfl, k.zk⟩
        have HFA : Hid (fAt (rws L) i = flt (kAt (rws L) i) (pAt (rws L) i) L[i].row) := by show fAt _ _ = _; unfold fAt; rw [hrow]
        have HPS : Hid (pAt (rws L) (i + 1) = L[i].pl + L[i].ln) := by rw [pAt_succ, hrow]; rfl
        obtain ⟨ps, hps⟩ : ∃ ps, pAt (rws L) i = ps := ⟨_, rfl⟩
        rw [hps] at HFA hpb ⊢
        obtain ⟨kp, hkp⟩ : ∃ kp, kAt (rws L) i = kp := ⟨_, rfl⟩
        rw [hkp] at HFA HPREV
        have hk0 : i = 0 → kp = [] := fun e => by rw [← hkp, e]; rfl
        replace hk0 := hide hk0
        replace hps := hide hps
        clear SV hrow hkp
        generalize L[i] = s at *
        obtain ⟨nk, hnk⟩ : ∃ nk, s.ks.length = nk := ⟨_, rfl⟩
        rw [hnk] at s0
        obtain ⟨w1, hw1⟩ : ∃ w1, w1 = wr.alloc (.cells #[.slice s.ka nk s.kc, .int .i64 s.pl, .int .i64 s.ln, .int .i64 s.n] 97) := ⟨_, rfl⟩
        have bl : w1.heap[wr.heap.size]? = some (.cells #[.slice s.ka nk s.kc, .int .i64 s.pl, .int .i64 s.ln, .int .i64 s.n] 97 (0, 0)) := by rw [hw1]; exact heap_alloc_new wr _
        have b1 : Below wr.heap.size wr w1 := by rw [hw1]; exact (Below.refl _ _).alloc (Nat.le_refl _) _
        have HB1 := hide b1
        have BL := hide bl
        have HKEY := hide (rkey_any s.ka nk s.kc w1)
        obtain ⟨ek, hek⟩ : ∃ ek, ek = keyE nk := ⟨_, rfl⟩
        rw [← hek] at HKEY
        replace hek := hide hek
        have x0 : w1.cell? ⟨wr.heap.size, 0, none⟩ = some (.slice s.ka nk s.kc) := by rw [cell_of_row _ _ _ _ _ _ bl]; rfl
        clear bl b1
        go_upto_region 8 with fail
        rw [← hw1]
        clear hw1
        generalize hgr : wr.heap.size = gr at *
        replace hgr := hide hgr
        go_wp2_with fail
        refine keep HKEY.out ?_
        obtain ⟨bb, hbb⟩ : ∃ bb : Bool, bb = decide (¬ (ek = 0 ∧ cmpI kp s.ks < 0)) := ⟨_, rfl⟩
        replace hbb := hide hbb
        go_upto_region 9 with fail
        go_cut [24] (fun s24 wx => s24 = .bool bb ∧ Hid (Below w1.heap.size w1 wx))
        case first =>
          by_cases hk : ek = 0
          · subst hk
            by_cases hi0 : i = 0
            · subst hi0
              obtain rfl : bb = false := by
                rw [hbb.out, decide_eq_false_iff_not, Decidable.not_not, hk0.out rfl]
                refine ⟨rfl, cmp_nilF ?_⟩
                have := hek.out
                rcases keyE_cases nk with h | h <;> omega
              rw [show ((0 : Nat) : Int) = 0 from rfl] at *
              go_quiet (fail)
              go_wp2_with fail
              go_meet
              exact ⟨rfl, below_of_drewNF (Below.refl _ _) _⟩
            · obtain ⟨m, hm1⟩ : ∃ m, i = m + 1 := ⟨i - 1, by omega⟩
              obtain ⟨p0, p1, p2, p3⟩ := HPREV.out m (by omega) hm1
              have y0 : w1.cell? ⟨b, o + m * 4, none⟩ = some (.slice L[m].ka L[m].ks.length L[m].kc) := (HB1.out.cell (p := ⟨b, o + m * 4, none⟩) (by have := World.block_lt_of_cell? wr ⟨b, o + m * 4, none⟩ p0; have h2 := hgr.out; show b < gr; change b < wr.heap.size at this; omega)).trans p0
              have hz : wr.heap.size ≤ w1.heap.size := HB1.out.size
              obtain ⟨cv, hcv⟩ : ∃ cv, cv = cmpI kp s.ks := ⟨_, rfl⟩
              have hcr := cmpI_fits kp s.ks
              rw [← hcv] at hcr
              have HCM : Hid (∀ q, Calls Tryz.prog 55 #[.slice L[m].ka L[m].ks.length L[m].kc, .slice s.ka nk s.kc] (w1.drewN q) fun e w' => e = .returned (.int .i64 cv) ∧ ∃ m, w' = w1.drewN m) := fun q => by
                rw [hcv, p2]
                refine (rcompare_any L[m].ka s.ka L[m].ks.length L[m].kc nk s.kc L[m].ks s.ks (w1.drewN q) (by unfold maxLen; omega) (by have := OK.out.zk; unfold maxLen; omega) rfl hnk (show Row w1 .u8 _ _ from p1.below2 (by rw [hgr.out]; exact HB1.out)) (show Row w1 .u8 _ _ from OK.out.k.below2 (by rw [hgr.out]; exact HB1.out))).mono ?_
                rintro e w' ⟨rfl, m, rfl⟩
                exact ⟨rfl, _, drewN_drewNF w1 q m⟩
              have q1 : IntKind.i64.wrap ((i : Int) - 1) = (m : Int) := by rw [IntKind.wrap_i64]; omega
              have q3 : (m : Int) < (n : Int) := by omega
              have q4 : (0 : Int) < (i : Int) := by omega
              have q5 : (0 : Int) ≤ (m : Int) := by omega
              have q6 : 0 < i := by omega
              obtain rfl : bb = decide (0 ≤ cv) := by
                rw [hbb.out, hcv, decide_eq_decide]
                constructor
                · intro h
                  have : ¬ cmpI kp s.ks < 0 := fun q => h ⟨rfl, q⟩
                  omega
                · rintro h ⟨_, q⟩
                  omega
              generalize L[m].ka = pa at *
              generalize L[m].ks.length = pn at *
              generalize L[m].kc = pc at *
              clear hm1 p0 p1 p2 p3 hcv hz
              go_quiet ((go_at_call 55; with_reducible exact HCM.out _))
              go_wp2_with fail
              go_meet
              exact ⟨rfl, below_of_drewNF (Below.refl _ _) _⟩
          · obtain rfl : ek = 3 := by have := hek.out; rcases keyE_cases nk with h | h <;> omega
            obtain rfl : bb = true := by rw [hbb.out, decide_eq_true_iff]; exact fun h => hk h.1
            go_quiet (fail)
            go_wp2_with fail
            go_meet
            exact ⟨rfl, below_of_drewNF (Below.refl _ _) _⟩
        case rest =>
        obtain ⟨rfl, HBX⟩ := hcut
        rename World => w2
        have HB2 : Hid (Below w.heap.size w w2) := HB.out.trans ((HB1.out.mono (by rw [← hgr.out]; exact HB.out.size)).trans (HBX.out.mono (by have := HB.out.size; have := HB1.out.size; omega)))
        have BL2 := hide ((HBX.out.block gr (lt_of_block BL.out)).trans BL.out)
        have y1 : w2.cell? ⟨gr, 1, none⟩ = some (.int .i64 s.pl) := by rw [cell_of_row _ _ _ _ _ _ BL2.out]; rfl
        have y2 : w2.cell? ⟨gr, 2, none⟩ = some (.int .i64 s.ln) := by rw [cell_of_row _ _ _ _ _ _ BL2.out]; rfl
        have y3 : w2.cell? ⟨gr, 3, none⟩ = some (.int .i64 s.n) := by rw [cell_of_row _ _ _ _ _ _ BL2.out]; rfl
        have HEND : Hid (∀ er : Int, er ≠ 0 → flt kp ps s.row = er → IsChk (rws L) i er) := fun er h0 h => .inr ⟨by rw [HL.out]; omega, .inl ⟨by rw [HL.out]; exact hlt, HG.out, HFA.out.trans h, h0⟩⟩
        have rp := OK.out.rp
        have rl := OK.out.rl
        have rn := OK.out.rn
        unfold I64 at rp rl rn
        cases bb with
        | true =>
          have HF := hide (HEND.out 72 (by decide) (flt_key (by
            have h := of_decide_eq_true hbb.out.symm
            by_cases q : keyE s.row.k.length = 0
            · exact .inr (fun q2 => h ⟨by rw [hek.out, ← hnk]; exact q, q2⟩)
            · exact .inl q)))
          go_wp2_with fail
          go_ret2
          exact ⟨i, 72, rfl, HF.out, HB2.out⟩
        | false =>
          have HK : Hid (KeyOk kp s.row) := by
            have h := Decidable.not_not.1 (of_decide_eq_false hbb.out.symm)
            exact ⟨by show keyE s.ks.length = 0; rw [hnk, ← hek.out]; exact h.1, h.2⟩
          by_cases hp : s.pl = ps
          · by_cases hln : 1 ≤ s.ln ∧ s.ln ≤ 131072
            · by_cases hnn : 1 ≤ s.n ∧ s.n ≤ 64
              · have HN : Hid (Gd (rws L) (i + 1)) := HG.out.succ (HFA.out.trans (flt_good HK.out (fun j hj => by
                  match j, hj with
                  | 0, _ => exact hp
                  | 1, _ => exact hln
                  | 2, _ => exact hnn)))
                have l1 : ¬ s.ln < 1 := by omega
                have l2 : ¬ 131072 < s.ln := by omega
                have n1 : ¬ s.n < 1 := by omega
                have n2 : ¬ 64 < s.n := by omega
                have HQ : Hid (pAt (rws L) (i + 1) = ps + s.ln) := by rw [← hp]; exact HPS.out
                have q9 : IntKind.i64.wrap (ps + s.ln) = ps + s.ln := by rw [IntKind.wrap_i64]; omega
                have hpe : (s.pl != ps) = false := by simp [hp]
                go_wp2_with fail
                go_roundw
                case rel => exact ⟨i + 1, by omega, by go_num, by rw [HQ.out], HN, HB2⟩
                case measure => simp [intOf]; omega
              · have HF := hide (HEND.out 75 (by decide) (flt_rule HK.out 2 (by omega) (fun j hj => by
                  match j, hj with
                  | 0, _ => exact hp
                  | 1, _ => exact hln) hnn))
                have l1 : ¬ s.ln < 1 := by omega
                have l2 : ¬ 131072 < s.ln := by omega
                have hpe : (s.pl != ps) = false := by simp [hp]
                by_cases n1 : s.n < 1
                · go_wp2_with fail
                  go_ret2
                  exact ⟨i, 75, rfl, HF.out, HB2.out⟩
                · have n2 : 64 < s.n := by omega
                  go_wp2_with fail
                  go_ret2
                  exact ⟨i, 75, rfl, HF.out, HB2.out⟩
            · have HF := hide (HEND.out 74 (by decide) (flt_rule HK.out 1 (by omega) (fun j hj => by
                match j, hj with
                | 0, _ => exact hp) hln))
              have hpe : (s.pl != ps) = false := by simp [hp]
              by_cases l1 : s.ln < 1
              · go_wp2_with fail
                go_ret2
                exact ⟨i, 74, rfl, HF.out, HB2.out⟩
              · have l2 : 131072 < s.ln := by omega
                go_wp2_with fail
                go_ret2
                exact ⟨i, 74, rfl, HF.out, HB2.out⟩
          · have HF := hide (HEND.out 73 (by decide) (flt_rule HK.out 0 (by omega) (fun j hj => absurd hj (Nat.not_lt_zero j)) hp))
            have hpe : (s.pl != ps) = true := by simp [hp]
            go_wp2_with fail
            go_ret2
            exact ⟨i, 73, rfl, HF.out, HB2.out⟩
      · have j1 : ¬ (i : Int) < (n : Int) := by omega
        obtain rfl : i = n := by omega
        have HF : Hid (IsChk (rws L) 0 0) := .inr ⟨by rw [HL.out]; omega, .inr ⟨by rw [HL.out]; exact HG.out, rfl, rfl⟩⟩
        go_wp2_with fail
        go_ret2
        exact ⟨0, 0, rfl, HF.out, HB.out⟩

end Go.Proofs.YtepjblmjjegpgaaGreat

namespace Go.Proofs.YtepjblmjjegpgaaGreat
open Go.RowKit
set_option maxRecDepth 100000

/-- A row of bytes in making. -/
structure FbS (w wr : World) (v : Value) (zs : List Int) : Prop where
  o : OwnB wr w.heap.size 5 v zs
  b : Below w.heap.size w wr
theorem FbS.below {w wr w1 : World} {v : Value} {zs : List Int} (h : FbS w wr v zs) (hb : Below wr.heap.size wr w1) : FbS w w1 v zs := ⟨h.o.below hb, h.b.trans (hb.mono h.b.size)⟩
theorem FbS.app {w w1 w2 : World} {v v' : Value} {zs zs' : List Int} (h : FbS w w1 v zs) (ho : OwnB w2 w.heap.size 5 v' zs') (hg : w1.grownBy w2 v.ownBlock) : FbS w w2 v' zs' :=
  ⟨ho, h.b.grown hg h.b.size (fun k hk => (h.o.owns.lt k hk).1)⟩
/-- What Bytes answers. -/
def FByPost (w : World) (l : List FRow) (e : Ending) (w' : World) : Prop :=
  ∃ (m : Nat) (er : Int), IsChk l m er ∧ ((er ≠ 0 ∧ e = .returned (.tuple #[.slice none 0 0, .int .i64 er, .int .i64 (m : Int)])) ∨ (er = 0 ∧ ∃ v, e = .returned (.tuple #[v, .int .i64 0, .int .i64 0]) ∧ OwnB w' w.heap.size 5 v (footB l))) ∧ Below w.heap.size w w'

set_option maxRecDepth 100000 in
set_option maxHeartbeats 1600000 in
theorem rfbytes_any (a : Option Addr) (b o n c : Nat) (L : List Spn) (w : World) (hl : L.length = n) (hm : n ≤ 140737488351232) (ha : 0 < n → a = some ⟨b, o, none⟩) (hS : Sps w b o L) :
    Calls Tryz.prog 71 #[.slice a n c] w (FByPost w (rws L)) := by
  have HCK := hide (rfcheck_any a b o n c L w hl hm ha hS)
  have HTO := hide (fun W (h : Below w.heap.size w W) => rtotal_any a b o n c L W hl hm ha (hS.below h))
  have HP : Hid (∀ e w', FByPost w (rws L) e w' ↔ ∃ (m : Nat) (er : Int), IsChk (rws L) m er ∧ ((er ≠ 0 ∧ e = .returned (.tuple #[.slice none 0 0, .int .i64 er, .int .i64 (m : Int)])) ∨ (er = 0 ∧ ∃ v, e = .returned (.tuple #[v, .int .i64 0, .int .i64 0]) ∧ OwnB w' w.heap.size 5 v (footB (rws L)))) ∧ Below w.heap.size w w') := fun _ _ => Iff.rfl
  have HS := hide hS
  have HA := hide ha
  clear hS ha
  have HL : Hid ((rws L).length = n) := (rws_len L).trans hl
  obtain ⟨i0, hi, hz0, hz1, hz2⟩ := info_parts infoByte'
  have HRN : Hid (∀ (W : World) (N : Nat) (x : Int), N ≤ 18446744073709551615 → x = (N : Int) → Calls Tryz.prog 107 #[.int .u64 x] W fun e w' => ∃ ua uc, e = .returned (.slice ua (enc N).length uc) ∧ OwnB w' W.heap.size 5 (.slice ua (enc N).length uc) (enc N) ∧ (ua = none → (enc N).length = 0 ∧ uc = 0) ∧ Below W.heap.size W w') := fun W N x hN hx => by
    subst hx
    refine (frnum_any N W hN).mono ?_
    rintro e w' ⟨v, rfl, ho, hb⟩
    obtain ⟨ua, uc, rfl, h1, _⟩ := ho.sliceN rfl
    exact ⟨ua, uc, rfl, ho, h1, hb⟩
  go_enter Tryz.func71, Tryz.ntmps71
  go_wp2_with fail
  refine HCK.out.mono ?_
  rintro e w1 ⟨m, er, rfl, hck, b1⟩
  have CK := hide hck
  have B1 := hide b1
  clear hck b1 HCK
  by_cases he : er = 0
  · subst he
    obtain ⟨hn8, hgd, rfl⟩ := CK.out.ok rfl
    rw [HL.out] at hn8 hgd
    have GD := hide hgd
    clear hgd
    have hne : (n : Int) = ((n : Nat) : Int) := rfl
    go_wp2_with fail
    refine (HRN.out w1 n _ (by omega) (by first | rfl | (rw [IntKind.wrap_u64]; omega))).mono ?_
    rintro e w2 ⟨ua, uc, rfl, hr2, hn2, b2⟩
    have F0 : Hid (FbS w w2 (.slice ua (enc n).length uc) (fpre (rws L) 0)) := by
      have h : fpre (rws L) 0 = enc n := by rw [fpre, HL.out]
      show FbS _ _ _ _
      rw [h]
      exact ⟨hr2.mono B1.out.size, B1.out.trans (b2.mono B1.out.size)⟩
    clear hr2 hn2 b2
    have HL0 : Hid ((enc n).length = (fpre (rws L) 0).length) := by show _ = _; rw [fpre, HL.out]
    go_wp2_with fail
    go_loopw [7, 8] (fun y x wr => ∃ (i : Nat) (ua : Option Addr) (ln uc : Nat), i ≤ n ∧ x = .int .i64 (i : Int) ∧ y = .slice ua ln uc ∧ Hid (FbS w wr (.slice ua ln uc) (fpre (rws L) i))) (fun _ x _ => n - (intOf x).toNat)
    case atStart => exact ⟨0, ua, _, uc, Nat.zero_le _, rfl, rfl, F0⟩
    case round =>
      clear F0 HL0
      obtain ⟨i, ua, ln, uc, hi', rfl, rfl, HF⟩ := hrel
      rename World => wr
      by_cases hlt : i < n
      · have j1 : (i : Int) < (n : Int) := by omega
        have j2 : (0 : Int) ≤ (i : Int) := by omega
        obtain rfl := HA.out (by omega)
        have hiL : i < L.length := by omega
        have GI := GD.out.mono (show i + 1 ≤ n by omega)
        have hrow := GI.row i (Nat.lt_succ_self i)
        have hpos := (GI.mono (Nat.le_succ i)).pos
        have hZ0 := fpre_len (GI.mono (Nat.le_succ i)) (by omega) (by rw [HL.out]; exact hn8)
        have HFP : Hid (fpre (rws L) (i + 1) = fpre (rws L) i ++ (enc L[i].ks.length ++ L[i].ks ++ ((([] ++ enc L[i].pl.toNat) ++ enc L[i].ln.toNat) ++ enc L[i].n.toNat))) := by
          show fpre _ _ = _
          rw [fpre, rws_at L i hiL]
          rfl
        rw [rws_at L i hiL] at hrow
        obtain ⟨hk64, _, hp, hlr, hnr⟩ := hrow
        have SC := hide (fun W (h : Below w.heap.size w W) => (HS.out.below h).c i hiL)
        have OK := hide (fun W (h : Below w.heap.size w W) => (HS.out.below h).ok i hiL)
        replace hp : L[i].pl = pAt (rws L) i := hp
        replace hlr : 1 ≤ L[i].ln ∧ L[i].ln ≤ 131072 := hlr
        replace hnr : 1 ≤ L[i].n ∧ L[i].n ≤ 64 := hnr
        replace hk64 : 1 ≤ L[i].ks.length ∧ L[i].ks.length ≤ 64 := hk64
        generalize L[i] = s at *
        obtain ⟨pN, hpN⟩ : ∃ pN : Nat, s.pl = (pN : Int) := ⟨s.pl.toNat, by omega⟩
        obtain ⟨lN, hlN⟩ : ∃ lN : Nat, s.ln = (lN : Int) := ⟨s.ln.toNat, by omega⟩
        obtain ⟨nN, hnN⟩ : ∃ nN : Nat, s.n = (nN : Int) := ⟨s.n.toNat, by omega⟩
        have hpB : pN ≤ 1099511627784 := by omega
        have hlB : lN ≤ 131072 := by omega
        have hnB : nN ≤ 64 := by omega
        obtain ⟨nk, hnk⟩ : ∃ nk, s.ks.length = nk := ⟨_, rfl⟩
        rw [hpN, hlN, hnN, hnk, Int.toNat_natCast, Int.toNat_natCast, Int.toNat_natCast, List.nil_append] at HFP
        rw [hnk] at hk64
        have HC0 : Hid (∀ W, Below w.heap.size w W → W.cell? ⟨b, o + i * 4, none⟩ = some (.slice s.ka nk s.kc)) := fun W h => by have := (SC.out W h).c0; unfold Spn.kv at this; rw [hnk] at this; exact this
        have HC1 : Hid (∀ W, Below w.heap.size w W → W.cell? ⟨b, o + i * 4 + 1, none⟩ = some (.int .i64 (pN : Int))) := fun W h => by rw [← hpN]; exact (SC.out W h).c1
        have HC2 : Hid (∀ W, Below w.heap.size w W → W.cell? ⟨b, o + i * 4 + 2, none⟩ = some (.int .i64 (lN : Int))) := fun W h => by rw [← hlN]; exact (SC.out W h).c2
        have HC3 : Hid (∀ W, Below w.heap.size w W → W.cell? ⟨b, o + i * 4 + 3, none⟩ = some (.int .i64 (nN : Int))) := fun W h => by rw [← hnN]; exact (SC.out W h).c3
        have e1 := (enc_len_le nk (by omega)).2
        have e2 := (enc_len_le pN (by omega)).2
        have e3 := (enc_len_le lN (by omega)).2
        have e4 := (enc_len_le nN (by omega)).2
        replace hnk := hide hnk
        clear hp hlr hnr hpN hlN hnN hpos GI SC
        generalize fpre (rws L) i = Z at *
        obtain ⟨E1, hE1⟩ : ∃ E, E = enc nk := ⟨_, rfl⟩
        obtain ⟨E2, hE2⟩ : ∃ E, E = enc pN := ⟨_, rfl⟩
        obtain ⟨E3, hE3⟩ : ∃ E, E = enc lN := ⟨_, rfl⟩
        obtain ⟨E4, hE4⟩ : ∃ E, E = enc nN := ⟨_, rfl⟩
        have N1 := hide (fun W x hx => HRN.out W nk x (by omega) hx)
        have N2 := hide (fun W x hx => HRN.out W pN x (by omega) hx)
        have N3 := hide (fun W x hx => HRN.out W lN x (by omega) hx)
        have N4 := hide (fun W x hx => HRN.out W nN x (by omega) hx)
        rw [← hE1] at N1 e1 HFP
        rw [← hE2] at N2 e2 HFP
        rw [← hE3] at N3 e3 HFP
        rw [← hE4] at N4 e4 HFP
        have hks : s.ks.length ≤ 64 := by rw [hnk.out]; omega
        clear hE1 hE2 hE3 hE4
        have s0 := HC0.out wr HF.out.b
        go_wp2_with fail
        refine (N1.out wr _ (by first | rfl | (rw [IntKind.wrap_u64]; omega))).mono ?_
        rintro e w2 ⟨u1, c1, rfl, ho1, hn1, b2⟩
        have F1 := hide (HF.out.below b2)
        have R1 := hide ho1.row
        clear ho1 b2 s0
        go_upto_region 9 with (first | (at_builtin; refine append_b rfl (.tmp 28) (.tmp 36) 23 rfl w.heap.size 5 i0 Tryz.underlying23 hi hz0 hz1 hz2 _ (Z) rfl F1.out.o u1 _ c1 (E1) rfl rfl hn1 R1.out (by (try simp only [List.length_append]); omega) F1.out.b.size ?_; intro v3 w3 ho3 hg3))
        have F2 := hide (F1.out.app ho3 hg3)
        obtain ⟨n3, hn3⟩ : ∃ m, (Z ++ E1).length = m := ⟨_, rfl⟩
        obtain ⟨a3, q3, rfl, _⟩ := ho3.sliceN hn3
        replace hn3 := hide hn3
        have s0 := HC0.out w3 F2.out.b
        have K2 := hide (OK.out w3 F2.out.b)
        clear ho3 hg3 F1 R1 hn1 HF
        go_upto_region 10 with (first | (at_builtin; refine append_b rfl (.tmp 38) (.tmp 43) 23 rfl w.heap.size 5 i0 Tryz.underlying23 hi hz0 hz1 hz2 _ (Z ++ E1) rfl F2.out.o s.ka _ s.kc (s.ks) rfl hnk.out (by have := K2.out.nk; rw [hnk.out] at this; exact this) K2.out.k (by (try simp only [List.length_append]); omega) F2.out.b.size ?_; intro v4 w4 ho4 hg4))
        have F3 := hide (F2.out.app ho4 hg4)
        obtain ⟨n4, hn4⟩ : ∃ m, (Z ++ E1 ++ s.ks).length = m := ⟨_, rfl⟩
        obtain ⟨a4, q4, rfl, _⟩ := ho4.sliceN hn4
        replace hn4 := hide hn4
        have s1 := HC1.out w4 F3.out.b
        clear ho4 hg4 F2 K2 s0
        go_wp2_with fail
        refine (N2.out w4 _ (by first | rfl | (rw [IntKind.wrap_u64]; omega))).mono ?_
        rintro e w5 ⟨u1, c1, rfl, ho1, hn1, b2⟩
        have F4 := hide (F3.out.below b2)
        have R1 := hide ho1.row
        clear ho1 b2 s1 F3
        go_upto_region 11 with (first | (at_builtin; refine append_b rfl (.tmp 45) (.tmp 52) 23 rfl w.heap.size 5 i0 Tryz.underlying23 hi hz0 hz1 hz2 _ (Z ++ E1 ++ s.ks) rfl F4.out.o u1 _ c1 (E2) rfl rfl hn1 R1.out (by (try simp only [List.length_append]); omega) F4.out.b.size ?_; intro v6 w6 ho6 hg6))
        have F5 := hide (F4.out.app ho6 hg6)
        obtain ⟨n6, hn6⟩ : ∃ m, (Z ++ E1 ++ s.ks ++ E2).length = m := ⟨_, rfl⟩
        obtain ⟨a6, q6, rfl, _⟩ := ho6.sliceN hn6
        replace hn6 := hide hn6
        have s2 := HC2.out w6 F5.out.b
        clear ho6 hg6 F4 R1 hn1
        go_wp2_with fail
        refine (N3.out w6 _ (by first | rfl | (rw [IntKind.wrap_u64]; omega))).mono ?_
        rintro e w7 ⟨u1, c1, rfl, ho1, hn1, b2⟩
        have F6 := hide (F5.out.below b2)
        have R1 := hide ho1.row
        clear ho1 b2 s2 F5
        go_upto_region 12 with (first | (at_builtin; refine append_b rfl (.tmp 54) (.tmp 61) 23 rfl w.heap.size 5 i0 Tryz.underlying23 hi hz0 hz1 hz2 _ (Z ++ E1 ++ s.ks ++ E2) rfl F6.out.o u1 _ c1 (E3) rfl rfl hn1 R1.out (by (try simp only [List.length_append]); omega) F6.out.b.size ?_; intro v8 w8 ho8 hg8))
        have F7 := hide (F6.out.app ho8 hg8)
        obtain ⟨n8, hn8⟩ : ∃ m, (Z ++ E1 ++ s.ks ++ E2 ++ E3).length = m := ⟨_, rfl⟩
        obtain ⟨a8, q8, rfl, _⟩ := ho8.sliceN hn8
        replace hn8 := hide hn8
        have s3 := HC3.out w8 F7.out.b
        clear ho8 hg8 F6 R1 hn1
        go_wp2_with fail
        refine (N4.out w8 _ (by first | rfl | (rw [IntKind.wrap_u64]; omega))).mono ?_
        rintro e w9 ⟨u1, c1, rfl, ho1, hn1, b2⟩
        have F8 := hide (F7.out.below b2)
        have R1 := hide ho1.row
        clear ho1 b2 s3 F7
        go_wp2_with (first | (at_builtin; refine append_b rfl (.tmp 63) (.tmp 70) 23 rfl w.heap.size 5 i0 Tryz.underlying23 hi hz0 hz1 hz2 _ (Z ++ E1 ++ s.ks ++ E2 ++ E3) rfl F8.out.o u1 _ c1 (E4) rfl rfl hn1 R1.out (by (try simp only [List.length_append]); omega) F8.out.b.size ?_; intro v10 w10 ho10 hg10))
        have F9 := F8.out.app ho10 hg10
        obtain ⟨n10, hn10⟩ : ∃ m, (Z ++ E1 ++ s.ks ++ E2 ++ E3 ++ E4).length = m := ⟨_, rfl⟩
        obtain ⟨a10, q10, rfl, _⟩ := ho10.sliceN hn10
        replace hn10 := hide hn10
        have F10 : Hid (FbS w w10 (.slice a10 n10 q10) (fpre (rws L) (i + 1))) := by
          show FbS _ _ _ _
          rw [HFP.out]
          have e : Z ++ (E1 ++ s.ks ++ (E2 ++ E3 ++ E4)) = Z ++ E1 ++ s.ks ++ E2 ++ E3 ++ E4 := by simp only [List.append_assoc]
          rw [e]
          exact F9
        clear F9 ho10 hg10
        go_roundw
        case rel => exact ⟨i + 1, a10, _, q10, by omega, by go_num, rfl, F10⟩
        case measure => simp [intOf]; omega
      · have j1 : ¬ (i : Int) < (n : Int) := by omega
        obtain rfl : i = n := by omega
        have hZ0 := fpre_len GD.out hn8 (by rw [HL.out]; exact hn8)
        have ht := totN_le GD.out
        have HT := hide (HTO.out wr HF.out.b)
        rw [tot_good GD.out hn8] at HT
        have HFB : Hid (footB (rws L) = fpre (rws L) i ++ enc (totN (rws L) i)) := by show footB _ = _; unfold footB; rw [HL.out]
        generalize totN (rws L) i = tN at *
        have e1 := (enc_len_le tN (by omega)).2
        generalize fpre (rws L) i = Z at *
        go_wp2_with fail
        refine HT.out.mono ?_
        rintro e w2 ⟨rfl, b2⟩
        have F1 := hide (HF.out.below b2)
        clear b2 HT
        go_wp2_with fail
        refine (HRN.out w2 tN _ (by omega) (by first | rfl | (rw [IntKind.wrap_u64]; omega))).mono ?_
        rintro e w3 ⟨u1, c1, rfl, ho1, hn1, b3⟩
        have F2 := hide (F1.out.below b3)
        have R1 := hide ho1.row
        clear ho1 b3 F1
        go_wp2_with (first | (at_builtin; refine append_b rfl (.tmp 72) (.tmp 76) 23 rfl w.heap.size 5 i0 Tryz.underlying23 hi hz0 hz1 hz2 _ Z rfl F2.out.o u1 _ c1 (enc tN) rfl rfl hn1 R1.out (by omega) F2.out.b.size ?_; intro v4 w4 ho4 hg4))
        have F3 := F2.out.app ho4 hg4
        have HFin : Hid (FByPost w (rws L) (.returned (.tuple #[v4, .int .i64 0, .int .i64 0])) w4) := (HP.out _ _).2 ⟨0, 0, CK.out, .inr ⟨rfl, v4, rfl, by rw [HFB.out]; exact F3.o⟩, F3.b⟩
        clear F3 ho4 hg4
        go_ret3
        exact HFin.out
  · have he' : (er != 0) = true := by simp [he]
    have HF : Hid (FByPost w (rws L) (.returned (.tuple #[.slice none 0 0, .int .i64 er, .int .i64 (m : Int)])) w1) := ⟨m, er, CK.out, .inl ⟨he, rfl⟩, B1.out⟩
    go_wp2_with fail
    go_ret3
    exact HF.out

end Go.Proofs.YtepjblmjjegpgaaGreat

namespace Go.Proofs.YtepjblmjjegpgaaGreat
open Go.RowKit
set_option maxRecDepth 100000

set_option maxRecDepth 100000 in
set_option maxHeartbeats 3200000 in
theorem fbytes_any (a : Option Addr) (b o n c : Nat) (L : List Spn) (w : World) (hl : L.length = n) (hm : n ≤ 140737488351232) (ha : 0 < n → a = some ⟨b, o, none⟩) (hS : Sps w b o L) :
    Calls Tryz.prog 86 #[.slice a n c] w (FByPost w (rws L)) := by
  have HCK := hide (fcheck_any a b o n c L w hl hm ha hS)
  have HTO := hide (fun W (h : Below w.heap.size w W) => total_any a b o n c L W hl hm ha (hS.below h))
  have HP : Hid (∀ e w', FByPost w (rws L) e w' ↔ ∃ (m : Nat) (er : Int), IsChk (rws L) m er ∧ ((er ≠ 0 ∧ e = .returned (.tuple #[.slice none 0 0, .int .i64 er, .int .i64 (m : Int)])) ∨ (er = 0 ∧ ∃ v, e = .returned (.tuple #[v, .int .i64 0, .int .i64 0]) ∧ OwnB w' w.heap.size 5 v (footB (rws L)))) ∧ Below w.heap.size w w') := fun _ _ => Iff.rfl
  have HS := hide hS
  have HA := hide ha
  clear hS ha
  have HL : Hid ((rws L).length = n) := (rws_len L).trans hl
  obtain ⟨i0, hi, hz0, hz1, hz2⟩ := info_parts infoByte'
  have HRN : Hid (∀ (W : World) (N : Nat) (x : Int), N ≤ 18446744073709551615 → x = (N : Int) → Calls Tryz.prog 84 #[.int .u64 x] W fun e w' => ∃ ua uc, e = .returned (.slice ua (enc N).length uc) ∧ OwnB w' W.heap.size 5 (.slice ua (enc N).length uc) (enc N) ∧ (ua = none → (enc N).length = 0 ∧ uc = 0) ∧ Below W.heap.size W w') := fun W N x hN hx => by
    subst hx
    refine (fvbytes_any N W hN).mono ?_
    rintro e w' ⟨rfl, ho, hb⟩
    exact ⟨_, _, rfl, ho, (fun h => by cases h), hb⟩
  go_enter Tryz.func86, Tryz.ntmps86
  go_wp2_with fail
  refine HCK.out.mono ?_
  rintro e w1 ⟨m, er, rfl, hck, b1⟩
  have CK := hide hck
  have B1 := hide b1
  clear hck b1 HCK
  by_cases he : er = 0
  · subst he
    obtain ⟨hn8, hgd, rfl⟩ := CK.out.ok rfl
    rw [HL.out] at hn8 hgd
    have GD := hide hgd
    clear hgd
    go_wp2_with fail
    refine (rules_any w1).mono ?_
    rintro e w2 ⟨rfl, t2, b2⟩
    have T2 := hide t2
    have B2 : Hid (Below w.heap.size w w2) := B1.out.trans (b2.mono B1.out.size)
    generalize w1.heap.size + 2 = gt at *
    generalize w1.heap.size = g2 at *
    generalize g2 + 1 = g3 at *
    clear t2 b2
    go_wp2_with fail
    refine (HRN.out w2 n _ (by omega) (by first | rfl | (rw [IntKind.wrap_u64]; omega))).mono ?_
    rintro e w3 ⟨ua, uc, rfl, hr2, hn2, b3⟩
    have F0 : Hid (FbS w2 w3 (.slice ua (enc n).length uc) (fpre (rws L) 0)) := by
      have h : fpre (rws L) 0 = enc n := by rw [fpre, HL.out]
      show FbS _ _ _ _
      rw [h]
      exact ⟨hr2, b3⟩
    clear hr2 hn2 b3
    go_wp2_with fail
    go_loopw [8, 28] (fun y x wr => ∃ (i : Nat) (ua : Option Addr) (ln uc : Nat), i ≤ n ∧ x = .int .i64 (i : Int) ∧ y = .slice ua ln uc ∧ Hid (FbS w2 wr (.slice ua ln uc) (fpre (rws L) i))) (fun _ x _ => n - (intOf x).toNat)
    case atStart => exact ⟨0, ua, _, uc, Nat.zero_le _, rfl, rfl, F0⟩
    case round =>
      clear F0
      obtain ⟨i, ua, ln, uc, hi', rfl, rfl, HF⟩ := hrel
      rename World => wr
      by_cases hlt : i < n
      · have j1 : (i : Int) < (n : Int) := by omega
        have j2 : (0 : Int) ≤ (i : Int) := by omega
        obtain rfl := HA.out (by omega)
        have hiL : i < L.length := by omega
        have GI := GD.out.mono (show i + 1 ≤ n by omega)
        have hrow := GI.row i (Nat.lt_succ_self i)
        have hpos := (GI.mono (Nat.le_succ i)).pos
        have hZ0 := fpre_len (GI.mono (Nat.le_succ i)) (by omega) (by rw [HL.out]; exact hn8)
        have HFP : Hid (fpre (rws L) (i + 1) = fpre (rws L) i ++ (enc L[i].ks.length ++ L[i].ks ++ ((([] ++ enc L[i].pl.toNat) ++ enc L[i].ln.toNat) ++ enc L[i].n.toNat))) := by
          show fpre _ _ = _
          rw [fpre, rws_at L i hiL]
          rfl
        rw [rws_at L i hiL] at hrow
        obtain ⟨hk64, _, hp, hlr, hnr⟩ := hrow
        have HBW : Hid (∀ W, Below w2.heap.size w2 W → Below w.heap.size w W) := fun W h => B2.out.trans (h.mono B2.out.size)
        have SC := hide (fun W (h : Below w2.heap.size w2 W) => (HS.out.below (HBW.out W h)).c i hiL)
        have OK := hide (fun W (h : Below w2.heap.size w2 W) => (HS.out.below (HBW.out W h)).ok i hiL)
        have HBO : Hid (b < w2.heap.size) := ((HS.out.below B2.out).c i hiL).lt
        replace hp : L[i].pl = pAt (rws L) i := hp
        replace hlr : 1 ≤ L[i].ln ∧ L[i].ln ≤ 131072 := hlr
        replace hnr : 1 ≤ L[i].n ∧ L[i].n ≤ 64 := hnr
        replace hk64 : 1 ≤ L[i].ks.length ∧ L[i].ks.length ≤ 64 := hk64
        generalize L[i] = s at *
        obtain ⟨pN, hpN⟩ : ∃ pN : Nat, s.pl = (pN : Int) := ⟨s.pl.toNat, by omega⟩
        obtain ⟨lN, hlN⟩ : ∃ lN : Nat, s.ln = (lN : Int) := ⟨s.ln.toNat, by omega⟩
        obtain ⟨nN, hnN⟩ : ∃ nN : Nat, s.n = (nN : Int) := ⟨s.n.toNat, by omega⟩
        have hpB : pN ≤ 1099511627784 := by omega
        have hlB : lN ≤ 131072 := by omega
        have hnB : nN ≤ 64 := by omega
        obtain ⟨nk, hnk⟩ : ∃ nk, s.ks.length = nk := ⟨_, rfl⟩
        rw [hpN, hlN, hnN, hnk, Int.toNat_natCast, Int.toNat_natCast, Int.toNat_natCast] at HFP
        rw [hnk] at hk64
        have HC0 : Hid (∀ W, Below w2.heap.size w2 W → W.cell? ⟨b, o + i * 4, none⟩ = some (.slice s.ka nk s.kc)) := fun W h => by have := (SC.out W h).c0; unfold Spn.kv at this; rw [hnk] at this; exact this
        have HC1 : Hid (∀ W, Below w2.heap.size w2 W → W.cell? ⟨b, o + i * 4 + 1, none⟩ = some (.int .i64 (pN : Int))) := fun W h => by rw [← hpN]; exact (SC.out W h).c1
        have HC2 : Hid (∀ W, Below w2.heap.size w2 W → W.cell? ⟨b, o + i * 4 + 2, none⟩ = some (.int .i64 (lN : Int))) := fun W h => by rw [← hlN]; exact (SC.out W h).c2
        have HC3 : Hid (∀ W, Below w2.heap.size w2 W → W.cell? ⟨b, o + i * 4 + 3, none⟩ = some (.int .i64 (nN : Int))) := fun W h => by rw [← hnN]; exact (SC.out W h).c3
        have e1 := (enc_len_le nk (by omega)).2
        have e2 := (enc_len_le pN (by omega)).2
        have e3 := (enc_len_le lN (by omega)).2
        have e4 := (enc_len_le nN (by omega)).2
        replace hnk := hide hnk
        clear hp hlr hnr hpN hlN hnN hpos GI SC
        generalize fpre (rws L) i = Z at *
        obtain ⟨E1, hE1⟩ : ∃ E, E = enc nk := ⟨_, rfl⟩
        obtain ⟨E2, hE2⟩ : ∃ E, E = enc pN := ⟨_, rfl⟩
        obtain ⟨E3, hE3⟩ : ∃ E, E = enc lN := ⟨_, rfl⟩
        obtain ⟨E4, hE4⟩ : ∃ E, E = enc nN := ⟨_, rfl⟩
        have N1 := hide (fun W x hx => HRN.out W nk x (by omega) hx)
        have N2 := hide (fun W x hx => HRN.out W pN x (by omega) hx)
        have N3 := hide (fun W x hx => HRN.out W lN x (by omega) hx)
        have N4 := hide (fun W x hx => HRN.out W nN x (by omega) hx)
        rw [← hE1] at N1 e1 HFP
        rw [← hE2] at N2 e2 HFP
        rw [← hE3] at N3 e3 HFP
        rw [← hE4] at N4 e4 HFP
        have hks : s.ks.length ≤ 64 := by rw [hnk.out]; omega
        clear hE1 hE2 hE3 hE4
        have s0 := HC0.out wr HF.out.b
        go_wp2_with fail
        refine (N1.out wr _ (by first | rfl | (rw [IntKind.wrap_u64]; omega))).mono ?_
        rintro e y2 ⟨u1, c1, rfl, ho1, hn1, b2⟩
        have F1 := hide (HF.out.below b2)
        have R1 := hide ho1.row
        clear ho1 b2 s0
        go_upto_region 10 with (first | (at_builtin; refine append_b rfl (.tmp 31) (.tmp 39) 23 rfl w2.heap.size 5 i0 Tryz.underlying23 hi hz0 hz1 hz2 _ (Z) rfl F1.out.o u1 _ c1 (E1) rfl rfl hn1 R1.out (by (try simp only [List.length_append]); omega) F1.out.b.size ?_; intro v3 y3 ho3 hg3))
        have F2 := hide (F1.out.app ho3 hg3)
        obtain ⟨n3, hn3⟩ : ∃ m, (Z ++ E1).length = m := ⟨_, rfl⟩
        obtain ⟨a3, q3, rfl, _⟩ := ho3.sliceN hn3
        replace hn3 := hide hn3
        have s0 := HC0.out y3 F2.out.b
        have K2 := hide (OK.out y3 F2.out.b)
        clear ho3 hg3 F1 R1 hn1 HF
        go_upto_region 11 with (first | (at_builtin; refine append_b rfl (.tmp 41) (.tmp 46) 23 rfl w2.heap.size 5 i0 Tryz.underlying23 hi hz0 hz1 hz2 _ (Z ++ E1) rfl F2.out.o s.ka _ s.kc (s.ks) rfl hnk.out (by have := K2.out.nk; rw [hnk.out] at this; exact this) K2.out.k (by (try simp only [List.length_append]); omega) F2.out.b.size ?_; intro v4 y4 ho4 hg4))
        have F3 := hide (F2.out.app ho4 hg4)
        obtain ⟨n4, hn4⟩ : ∃ m, (Z ++ E1 ++ s.ks).length = m := ⟨_, rfl⟩
        obtain ⟨a4, q4, rfl, _⟩ := ho4.sliceN hn4
        have hZ2 : n4 ≤ 900000000 := by rw [← hn4]; simp only [List.length_append]; omega
        clear ho4 hg4 F2 K2 s0
        have HFP2 : Hid (fpre (rws L) (i + 1) = Z ++ E1 ++ s.ks ++ ([] ++ E2 ++ E3 ++ E4)) := by show fpre _ _ = _; rw [HFP.out]; simp only [List.append_assoc]
        generalize Z ++ E1 ++ s.ks = Z2 at *
        clear hks
        obtain ⟨fm, hfm⟩ : ∃ fm : Nat → List Int, fm = fun k => match k with | 0 => [] | 1 => [] ++ E2 | 2 => [] ++ E2 ++ E3 | _ => [] ++ E2 ++ E3 ++ E4 := ⟨_, rfl⟩
        have HFM : Hid (∀ k, k ≤ 3 → fm k = match k with | 0 => [] | 1 => [] ++ E2 | 2 => [] ++ E2 ++ E3 | _ => [] ++ E2 ++ E3 ++ E4) := fun k _ => by rw [hfm]
        have F4 : Hid (FbS w2 y4 (.slice a4 n4 q4) (Z2 ++ fm 0)) := by show FbS _ _ _ _; rw [hfm]; show FbS _ _ _ (Z2 ++ []); rw [List.append_nil]; exact F3.out
        clear hfm F3 HFP
        go_wp2_with fail
        go_loopw [8, 50] (fun y x vr => ∃ (k : Nat) (ua : Option Addr) (ln uc : Nat), k ≤ 3 ∧ x = .int .i64 (k : Int) ∧ y = .slice ua ln uc ∧ Hid (FbS w2 vr (.slice ua ln uc) (Z2 ++ fm k))) (fun _ x _ => 3 - (intOf x).toNat)
        case atStart => exact ⟨0, a4, n4, q4, by omega, rfl, rfl, F4⟩
        case round =>
          clear F4
          obtain ⟨k, ua, ln, uc, hk3, rfl, rfl, HV⟩ := hrel
          rename World => vr
          have hkc : k = 0 ∨ k = 1 ∨ k = 2 ∨ k = 3 := by omega
          rcases hkc with rfl | rfl | rfl | rfl
          ·
            have FV0 : Hid (FbS w2 vr (.slice ua ln uc) (Z2 ++ [])) := by
              have h := HV.out
              rw [HFM.out 0 (by omega)] at h
              exact h
            have HTb := hide (T2.out.below FV0.out.b).t
            have e0 : vr.cell? ⟨gt, 0, none⟩ = some (.func (.func 142) #[] #[]) := by rw [cell_of_row _ _ _ _ _ _ HTb.out]; rfl
            have e1' : vr.cell? ⟨gt, 1, none⟩ = some (.func (.func 143) #[] #[]) := by rw [cell_of_row _ _ _ _ _ _ HTb.out]; rfl
            have e2' : vr.cell? ⟨gt, 2, none⟩ = some (.int .i64 73) := by rw [cell_of_row _ _ _ _ _ _ HTb.out]; rfl
            obtain ⟨y1, hy1⟩ : ∃ y1, y1 = vr.alloc (.cells #[.func (.func 142) #[] #[], .func (.func 143) #[] #[], .int .i64 73] 170) := ⟨_, rfl⟩
            have by1 : Below vr.heap.size vr y1 := by rw [hy1]; exact (Below.refl _ _).alloc (Nat.le_refl _) _
            have hbr : y1.heap[vr.heap.size]? = some (.cells #[.func (.func 142) #[] #[], .func (.func 143) #[] #[], .int .i64 73] 170 (0, 0)) := by rw [hy1]; exact heap_alloc_new vr _
            have FV := hide (FV0.out.below by1)
            have HNE : Hid (∀ q, (Value.slice ua ln uc).ownBlock = some q → w2.heap.size ≤ q ∧ q < vr.heap.size) := fun q hq => FV0.out.o.owns.lt q hq
            clear by1
            go_upto_region 14 with fail
            rw [← hy1]
            clear hy1 e0 e1' e2' HTb FV0 HV
            generalize vr.heap.size = gr at *
            have r0 : y1.cell? ⟨gr, 0, none⟩ = some (.func (.func 142) #[] #[]) := by rw [cell_of_row _ _ _ _ _ _ hbr]; rfl
            have hgr : gr < y1.heap.size := lt_of_block hbr
            clear hbr
            have x4 := HC1.out y1 FV.out.b
            have hbl : b < y1.heap.size := World.block_lt_of_cell? y1 ⟨b, _, none⟩ x4
            go_region_held3 (fun W => W.cell? ⟨gr, 0, none⟩ = some (.func (.func 142) #[] #[]) ∧ W.cell? ⟨b, o + i * 4 + 1, none⟩ = some (.int .i64 (pN : Int))) (go_keep) (first
              | (refine step_appB rfl (.tmp 54) (.tmp 64) 23 rfl w2.heap.size 5 i0 Tryz.underlying23 hi hz0 hz1 hz2 (.slice ua ln uc) (Z2 ++ []) (by simp [Act.eval]) F5.out.o u1 E2.length c1 E2 (by simp [Act.eval]) rfl hn1 R1.out (by (try simp only [List.length_append, List.length_nil]); omega) F5.out.b.size ?_; intro v6 w6 ho6 hg6; have F6 := hide (F5.out.app ho6 hg6); have m0 := hg6.cell l0 (fun e => by have := (HNE.out gr e.symm).2; omega); have m1 := hg6.cell l1 (fun e => by have := (HNE.out b e.symm).1; have := HBO.out; omega); have OF := hide ho6; clear ho6 hg6)
              | (go_at_call 84; refine (N2.out v4 _ (by first | rfl | (rw [IntKind.wrap_u64]; omega))).mono ?_; rintro e v5 ⟨u1, c1, rfl, ho1, hn1, b5⟩; have F5 := hide ((FV.out.below BV4.out).below b5); have R1 := hide ho1.row; have l0 := (b5.cell (p := ⟨gr, 0, none⟩) (Nat.lt_of_lt_of_le hgr BV4.out.size)).trans k0; have l1 := (b5.cell (p := ⟨b, o + i * 4 + 1, none⟩) (Nat.lt_of_lt_of_le hbl BV4.out.size)).trans k1; clear ho1 b5)
              | (go_at_call 142; refine (in1_any b (o + i * 4) _).mono ?_; rintro e v4 ⟨rfl, hv4⟩; have BV4 : Hid (Below y1.heap.size y1 v4) := (by rw [hv4]; exact ⟨rfl, rfl, rfl, Nat.le_refl _, fun _ _ => rfl⟩); have k0 := (BV4.out.cell (p := ⟨gr, 0, none⟩) hgr).trans r0; have k1 := (BV4.out.cell (p := ⟨b, o + i * 4 + 1, none⟩) hbl).trans x4; clear hv4)
              | fail)
            obtain ⟨n6, hn6⟩ : ∃ m, (Z2 ++ [] ++ E2).length = m := ⟨_, rfl⟩
            obtain ⟨a6, q6, rfl, _⟩ := OF.out.sliceN hn6
            replace hn6 := hide hn6
            have HN : Hid (FbS w2 w6 (.slice a6 n6 q6) (Z2 ++ fm (0 + 1))) := by
              show FbS _ _ _ _
              rw [HFM.out (0 + 1) (by omega)]
              have e : Z2 ++ ([] ++ E2) = Z2 ++ [] ++ E2 := by simp only [List.nil_append, List.append_nil]
              show FbS _ _ _ (Z2 ++ ([] ++ E2))
              rw [e]
              exact F6.out
            clear OF F6 F5 R1 hn1
            go_wp2_with fail
            go_roundw
            case rel => exact ⟨0 + 1, a6, n6, q6, by omega, by go_num, rfl, HN⟩
            case measure => simp [intOf]
          ·
            have FV0 : Hid (FbS w2 vr (.slice ua ln uc) (Z2 ++ ([] ++ E2))) := by
              have h := HV.out
              rw [HFM.out 1 (by omega)] at h
              exact h
            have HTb := hide (T2.out.below FV0.out.b).t
            have e0 : vr.cell? ⟨gt, 3, none⟩ = some (.func (.func 144) #[] #[]) := by rw [cell_of_row _ _ _ _ _ _ HTb.out]; rfl
            have e1' : vr.cell? ⟨gt, 4, none⟩ = some (.func (.func 141) #[] #[.pointer (some ⟨g2, 0, none⟩)]) := by rw [cell_of_row _ _ _ _ _ _ HTb.out]; rfl
            have e2' : vr.cell? ⟨gt, 5, none⟩ = some (.int .i64 74) := by rw [cell_of_row _ _ _ _ _ _ HTb.out]; rfl
            obtain ⟨y1, hy1⟩ : ∃ y1, y1 = vr.alloc (.cells #[.func (.func 144) #[] #[], .func (.func 141) #[] #[.pointer (some ⟨g2, 0, none⟩)], .int .i64 74] 170) := ⟨_, rfl⟩
            have by1 : Below vr.heap.size vr y1 := by rw [hy1]; exact (Below.refl _ _).alloc (Nat.le_refl _) _
            have hbr : y1.heap[vr.heap.size]? = some (.cells #[.func (.func 144) #[] #[], .func (.func 141) #[] #[.pointer (some ⟨g2, 0, none⟩)], .int .i64 74] 170 (0, 0)) := by rw [hy1]; exact heap_alloc_new vr _
            have FV := hide (FV0.out.below by1)
            have HNE : Hid (∀ q, (Value.slice ua ln uc).ownBlock = some q → w2.heap.size ≤ q ∧ q < vr.heap.size) := fun q hq => FV0.out.o.owns.lt q hq
            clear by1
            go_upto_region 14 with fail
            rw [← hy1]
            clear hy1 e0 e1' e2' HTb FV0 HV
            generalize vr.heap.size = gr at *
            have r0 : y1.cell? ⟨gr, 0, none⟩ = some (.func (.func 144) #[] #[]) := by rw [cell_of_row _ _ _ _ _ _ hbr]; rfl
            have hgr : gr < y1.heap.size := lt_of_block hbr
            clear hbr
            have x4 := HC2.out y1 FV.out.b
            have hbl : b < y1.heap.size := World.block_lt_of_cell? y1 ⟨b, _, none⟩ x4
            go_region_held3 (fun W => W.cell? ⟨gr, 0, none⟩ = some (.func (.func 144) #[] #[]) ∧ W.cell? ⟨b, o + i * 4 + 2, none⟩ = some (.int .i64 (lN : Int))) (go_keep) (first
              | (refine step_appB rfl (.tmp 54) (.tmp 64) 23 rfl w2.heap.size 5 i0 Tryz.underlying23 hi hz0 hz1 hz2 (.slice ua ln uc) (Z2 ++ ([] ++ E2)) (by simp [Act.eval]) F5.out.o u1 E3.length c1 E3 (by simp [Act.eval]) rfl hn1 R1.out (by (try simp only [List.length_append, List.length_nil]); omega) F5.out.b.size ?_; intro v6 w6 ho6 hg6; have F6 := hide (F5.out.app ho6 hg6); have m0 := hg6.cell l0 (fun e => by have := (HNE.out gr e.symm).2; omega); have m1 := hg6.cell l1 (fun e => by have := (HNE.out b e.symm).1; have := HBO.out; omega); have OF := hide ho6; clear ho6 hg6)
              | (go_at_call 84; refine (N3.out v4 _ (by first | rfl | (rw [IntKind.wrap_u64]; omega))).mono ?_; rintro e v5 ⟨u1, c1, rfl, ho1, hn1, b5⟩; have F5 := hide ((FV.out.below BV4.out).below b5); have R1 := hide ho1.row; have l0 := (b5.cell (p := ⟨gr, 0, none⟩) (Nat.lt_of_lt_of_le hgr BV4.out.size)).trans k0; have l1 := (b5.cell (p := ⟨b, o + i * 4 + 2, none⟩) (Nat.lt_of_lt_of_le hbl BV4.out.size)).trans k1; clear ho1 b5)
              | (go_at_call 144; refine (in2_any b (o + i * 4) _).mono ?_; rintro e v4 ⟨rfl, hv4⟩; have BV4 : Hid (Below y1.heap.size y1 v4) := (by rw [hv4]; exact ⟨rfl, rfl, rfl, Nat.le_refl _, fun _ _ => rfl⟩); have k0 := (BV4.out.cell (p := ⟨gr, 0, none⟩) hgr).trans r0; have k1 := (BV4.out.cell (p := ⟨b, o + i * 4 + 2, none⟩) hbl).trans x4; clear hv4)
              | fail)
            obtain ⟨n6, hn6⟩ : ∃ m, (Z2 ++ ([] ++ E2) ++ E3).length = m := ⟨_, rfl⟩
            obtain ⟨a6, q6, rfl, _⟩ := OF.out.sliceN hn6
            replace hn6 := hide hn6
            have HN : Hid (FbS w2 w6 (.slice a6 n6 q6) (Z2 ++ fm (1 + 1))) := by
              show FbS _ _ _ _
              rw [HFM.out (1 + 1) (by omega)]
              have e : Z2 ++ ([] ++ E2 ++ E3) = Z2 ++ ([] ++ E2) ++ E3 := by simp only [List.append_assoc, List.nil_append]
              show FbS _ _ _ (Z2 ++ ([] ++ E2 ++ E3))
              rw [e]
              exact F6.out
            clear OF F6 F5 R1 hn1
            go_wp2_with fail
            go_roundw
            case rel => exact ⟨1 + 1, a6, n6, q6, by omega, by go_num, rfl, HN⟩
            case measure => simp [intOf]
          ·
            have FV0 : Hid (FbS w2 vr (.slice ua ln uc) (Z2 ++ ([] ++ E2 ++ E3))) := by
              have h := HV.out
              rw [HFM.out 2 (by omega)] at h
              exact h
            have HTb := hide (T2.out.below FV0.out.b).t
            have e0 : vr.cell? ⟨gt, 6, none⟩ = some (.func (.func 145) #[] #[]) := by rw [cell_of_row _ _ _ _ _ _ HTb.out]; rfl
            have e1' : vr.cell? ⟨gt, 7, none⟩ = some (.func (.func 141) #[] #[.pointer (some ⟨g3, 0, none⟩)]) := by rw [cell_of_row _ _ _ _ _ _ HTb.out]; rfl
            have e2' : vr.cell? ⟨gt, 8, none⟩ = some (.int .i64 75) := by rw [cell_of_row _ _ _ _ _ _ HTb.out]; rfl
            obtain ⟨y1, hy1⟩ : ∃ y1, y1 = vr.alloc (.cells #[.func (.func 145) #[] #[], .func (.func 141) #[] #[.pointer (some ⟨g3, 0, none⟩)], .int .i64 75] 170) := ⟨_, rfl⟩
            have by1 : Below vr.heap.size vr y1 := by rw [hy1]; exact (Below.refl _ _).alloc (Nat.le_refl _) _
            have hbr : y1.heap[vr.heap.size]? = some (.cells #[.func (.func 145) #[] #[], .func (.func 141) #[] #[.pointer (some ⟨g3, 0, none⟩)], .int .i64 75] 170 (0, 0)) := by rw [hy1]; exact heap_alloc_new vr _
            have FV := hide (FV0.out.below by1)
            have HNE : Hid (∀ q, (Value.slice ua ln uc).ownBlock = some q → w2.heap.size ≤ q ∧ q < vr.heap.size) := fun q hq => FV0.out.o.owns.lt q hq
            clear by1
            go_upto_region 14 with fail
            rw [← hy1]
            clear hy1 e0 e1' e2' HTb FV0 HV
            generalize vr.heap.size = gr at *
            have r0 : y1.cell? ⟨gr, 0, none⟩ = some (.func (.func 145) #[] #[]) := by rw [cell_of_row _ _ _ _ _ _ hbr]; rfl
            have hgr : gr < y1.heap.size := lt_of_block hbr
            clear hbr
            have x4 := HC3.out y1 FV.out.b
            have hbl : b < y1.heap.size := World.block_lt_of_cell? y1 ⟨b, _, none⟩ x4
            go_region_held3 (fun W => W.cell? ⟨gr, 0, none⟩ = some (.func (.func 145) #[] #[]) ∧ W.cell? ⟨b, o + i * 4 + 3, none⟩ = some (.int .i64 (nN : Int))) (go_keep) (first
              | (refine step_appB rfl (.tmp 54) (.tmp 64) 23 rfl w2.heap.size 5 i0 Tryz.underlying23 hi hz0 hz1 hz2 (.slice ua ln uc) (Z2 ++ ([] ++ E2 ++ E3)) (by simp [Act.eval]) F5.out.o u1 E4.length c1 E4 (by simp [Act.eval]) rfl hn1 R1.out (by (try simp only [List.length_append, List.length_nil]); omega) F5.out.b.size ?_; intro v6 w6 ho6 hg6; have F6 := hide (F5.out.app ho6 hg6); have m0 := hg6.cell l0 (fun e => by have := (HNE.out gr e.symm).2; omega); have m1 := hg6.cell l1 (fun e => by have := (HNE.out b e.symm).1; have := HBO.out; omega); have OF := hide ho6; clear ho6 hg6)
              | (go_at_call 84; refine (N4.out v4 _ (by first | rfl | (rw [IntKind.wrap_u64]; omega))).mono ?_; rintro e v5 ⟨u1, c1, rfl, ho1, hn1, b5⟩; have F5 := hide ((FV.out.below BV4.out).below b5); have R1 := hide ho1.row; have l0 := (b5.cell (p := ⟨gr, 0, none⟩) (Nat.lt_of_lt_of_le hgr BV4.out.size)).trans k0; have l1 := (b5.cell (p := ⟨b, o + i * 4 + 3, none⟩) (Nat.lt_of_lt_of_le hbl BV4.out.size)).trans k1; clear ho1 b5)
              | (go_at_call 145; refine (in3_any b (o + i * 4) _).mono ?_; rintro e v4 ⟨rfl, hv4⟩; have BV4 : Hid (Below y1.heap.size y1 v4) := (by rw [hv4]; exact ⟨rfl, rfl, rfl, Nat.le_refl _, fun _ _ => rfl⟩); have k0 := (BV4.out.cell (p := ⟨gr, 0, none⟩) hgr).trans r0; have k1 := (BV4.out.cell (p := ⟨b, o + i * 4 + 3, none⟩) hbl).trans x4; clear hv4)
              | fail)
            obtain ⟨n6, hn6⟩ : ∃ m, (Z2 ++ ([] ++ E2 ++ E3) ++ E4).length = m := ⟨_, rfl⟩
            obtain ⟨a6, q6, rfl, _⟩ := OF.out.sliceN hn6
            replace hn6 := hide hn6
            have HN : Hid (FbS w2 w6 (.slice a6 n6 q6) (Z2 ++ fm (2 + 1))) := by
              show FbS _ _ _ _
              rw [HFM.out (2 + 1) (by omega)]
              have e : Z2 ++ ([] ++ E2 ++ E3 ++ E4) = Z2 ++ ([] ++ E2 ++ E3) ++ E4 := by simp only [List.append_assoc, List.nil_append]
              show FbS _ _ _ (Z2 ++ ([] ++ E2 ++ E3 ++ E4))
              rw [e]
              exact F6.out
            clear OF F6 F5 R1 hn1
            go_wp2_with fail
            go_roundw
            case rel => exact ⟨2 + 1, a6, n6, q6, by omega, by go_num, rfl, HN⟩
            case measure => simp [intOf]
          · have F10 : Hid (FbS w2 vr (.slice ua ln uc) (fpre (rws L) (i + 1))) := by
              show FbS _ _ _ _
              rw [HFP2.out]
              have h := HV.out
              rw [HFM.out 3 (by omega)] at h
              exact h
            clear HV
            go_wp2_with fail
            go_roundw
            case rel => exact ⟨i + 1, ua, ln, uc, by omega, by go_num, rfl, F10⟩
            case measure => simp [intOf]; omega
      · have j1 : ¬ (i : Int) < (n : Int) := by omega
        obtain rfl : i = n := by omega
        have hZ0 := fpre_len GD.out hn8 (by rw [HL.out]; exact hn8)
        have ht := totN_le GD.out
        have HT := hide (HTO.out wr (B2.out.trans (HF.out.b.mono B2.out.size)))
        rw [tot_good GD.out hn8] at HT
        have HFB : Hid (footB (rws L) = fpre (rws L) i ++ enc (totN (rws L) i)) := by show footB _ = _; unfold footB; rw [HL.out]
        generalize totN (rws L) i = tN at *
        have e1 := (enc_len_le tN (by omega)).2
        generalize fpre (rws L) i = Z at *
        go_wp2_with fail
        refine HT.out.mono ?_
        rintro e y2 ⟨rfl, b2⟩
        have F1 := hide (HF.out.below b2)
        clear b2 HT
        go_wp2_with fail
        refine (HRN.out y2 tN _ (by omega) (by first | rfl | (rw [IntKind.wrap_u64]; omega))).mono ?_
        rintro e y3 ⟨u1, c1, rfl, ho1, hn1, b3⟩
        have F2 := hide (F1.out.below b3)
        have R1 := hide ho1.row
        clear ho1 b3 F1
        go_wp2_with (first | (at_builtin; refine append_b rfl (.tmp 68) (.tmp 72) 23 rfl w2.heap.size 5 i0 Tryz.underlying23 hi hz0 hz1 hz2 _ Z rfl F2.out.o u1 _ c1 (enc tN) rfl rfl hn1 R1.out (by omega) F2.out.b.size ?_; intro v4 w4 ho4 hg4))
        have F3 := F2.out.app ho4 hg4
        have HFin : Hid (FByPost w (rws L) (.returned (.tuple #[v4, .int .i64 0, .int .i64 0])) w4) := (HP.out _ _).2 ⟨0, 0, CK.out, .inr ⟨rfl, v4, rfl, by rw [HFB.out]; exact F3.o.mono B2.out.size⟩, B2.out.trans (F3.b.mono B2.out.size)⟩
        clear F3 ho4 hg4
        go_ret3
        exact HFin.out
  · have he' : (er != 0) = true := by simp [he]
    have HF : Hid (FByPost w (rws L) (.returned (.tuple #[.slice none 0 0, .int .i64 er, .int .i64 (m : Int)])) w1) := ⟨m, er, CK.out, .inl ⟨he, rfl⟩, B1.out⟩
    go_wp2_with fail
    go_ret3
    exact HF.out

end Go.Proofs.YtepjblmjjegpgaaGreat

namespace Go.Proofs.YtepjblmjjegpgaaGreat
open Go.RowKit
set_option maxRecDepth 100000

/-- A frame. -/
def frm (k : Int) (b : List Int) : List Int := k :: (enc b.length ++ (b ++ spell (sumOf b)))
def blkF (l : List KV) : List Int := frm 66 (blk l)
/-- Rows of blocks that stand one behind the other. -/
def rwsF : Nat → List (List KV) → List FRow
  | _, [] => []
  | p, l :: L => ⟨ahd l, (p : Int), ((blkF l).length : Int), (l.length : Int)⟩ :: rwsF (p + (blkF l).length) L
def byts (L : List (List KV)) : List Int := (L.map blkF).flatten
def behP (L : List (List KV)) : Nat := 8 + (byts L).length
def rowsOf (L : List (List KV)) : List FRow := rwsF 8 L
def lastK (L : List (List KV)) : List Int := kAt (rowsOf L) L.length
theorem byts_snoc (L : List (List KV)) (l : List KV) : byts (L ++ [l]) = byts L ++ blkF l := by simp [byts]
theorem behP_snoc (L : List (List KV)) (l : List KV) : behP (L ++ [l]) = behP L + (blkF l).length := by unfold behP; rw [byts_snoc, List.length_append]; omega
theorem rwsF_snoc : ∀ (p : Nat) (L : List (List KV)) (l : List KV), rwsF p (L ++ [l]) = rwsF p L ++ [⟨ahd l, ((p + (byts L).length : Nat) : Int), ((blkF l).length : Int), (l.length : Int)⟩]
  | p, [], l => by simp [rwsF, byts]
  | p, x :: L, l => by
    rw [List.cons_append, rwsF, rwsF_snoc (p + (blkF x).length) L l, rwsF, List.cons_append]
    have e : (byts (x :: L)).length = (blkF x).length + (byts L).length := by simp [byts]
    rw [e, Nat.add_assoc]
theorem rowsOf_snoc (L : List (List KV)) (l : List KV) : rowsOf (L ++ [l]) = rowsOf L ++ [⟨ahd l, (behP L : Int), ((blkF l).length : Int), (l.length : Int)⟩] := rwsF_snoc 8 L l
theorem rwsF_len : ∀ (p : Nat) (L : List (List KV)), (rwsF p L).length = L.length
  | _, [] => rfl
  | p, l :: L => by rw [rwsF, List.length_cons, rwsF_len, List.length_cons]
theorem rowsOf_len (L : List (List KV)) : (rowsOf L).length = L.length := rwsF_len 8 L
theorem getD_snoc {α : Type} (l : List α) (x d : α) : (l ++ [x]).getD l.length d = x := by simp [List.getD]
theorem getD_app {α : Type} (l m : List α) (d : α) (i : Nat) (h : i < l.length) : (l ++ m).getD i d = l.getD i d := by simp [List.getD, List.getElem?_append_left h]
theorem kAt_app (l m : List FRow) (i : Nat) (h : i ≤ l.length) : kAt (l ++ m) i = kAt l i := by
  unfold kAt
  split
  · rfl
  · rw [getD_app _ _ _ _ (by omega)]
theorem pAt_app (l m : List FRow) (i : Nat) (h : i ≤ l.length) : pAt (l ++ m) i = pAt l i := by
  unfold pAt
  split
  · rfl
  · rw [getD_app _ _ _ _ (by omega)]
theorem fAt_app (l m : List FRow) (i : Nat) (h : i < l.length) : fAt (l ++ m) i = fAt l i := by
  unfold fAt
  rw [kAt_app _ _ _ (by omega), pAt_app _ _ _ (by omega), getD_app _ _ _ _ h]
theorem lastK_nil : lastK [] = [] := rfl
theorem lastK_snoc (L : List (List KV)) (l : List KV) : lastK (L ++ [l]) = ahd l := by
  have := getD_snoc (rowsOf L) ⟨ahd l, (behP L : Int), ((blkF l).length : Int), (l.length : Int)⟩ default
  rw [rowsOf_len] at this
  unfold lastK
  rw [List.length_append, List.length_singleton, kAt_succ, rowsOf_snoc, this]
theorem pAt_rows : ∀ L : List (List KV), pAt (rowsOf L) L.length = (behP L : Int) := by
  intro L
  rcases List.eq_nil_or_concat L with rfl | ⟨L', l, rfl⟩
  · rfl
  · rw [List.concat_eq_append]
    have := getD_snoc (rowsOf L') ⟨ahd l, (behP L' : Int), ((blkF l).length : Int), (l.length : Int)⟩ default
    rw [rowsOf_len] at this
    rw [List.length_append, List.length_singleton, pAt_succ, rowsOf_snoc, this, behP_snoc]
    simp

theorem spell_length (n : Nat) : (spell n).length = 4 := rfl
theorem frm_len (k : Int) (b : List Int) (h : b.length ≤ 1000000000) : b.length + 6 ≤ (frm k b).length ∧ (frm k b).length ≤ b.length + 15 := by
  have h1 := enc_len_le b.length (by omega)
  unfold frm
  simp only [List.length_cons, List.length_append, spell_length]
  omega
theorem blk_le {l : List KV} (h : Good l) : (blk l).length ≤ 30000 := by
  have := bod_len h l.length (Nat.le_refl _)
  have := tab_len l l.length
  have := h.n64
  have := (enc_len_le l.length (by omega)).2
  unfold blk
  split
  · simp
  · simp only [List.length_append]; omega

theorem wfits_key {k v : Nat} (h : chkE k v = 0) : (1 ≤ k ∧ k ≤ 64) ∧ v ≤ 256 := by
  unfold chkE at h
  rcases keyE_cases k with ⟨h1, _⟩ | ⟨h1, h2, h3⟩
  · rw [h1] at h; simp at h
  · rw [h1] at h
    rcases valE_cases v with ⟨h4, _⟩ | ⟨h4, h5⟩
    · rw [h4] at h; simp at h
    · exact ⟨⟨h2, h3⟩, h5⟩
/-- What a writer has: blocks that are ended, the one that is being made. -/
structure St where
  L : List (List KV)
  now : List KV
def aheadK (s : St) : List Int := if s.now.length = 0 then lastK s.L else ahd s.now
def sErr (s : St) (k v : List Int) : Int := if chkE k.length v.length ≠ 0 then chkE k.length v.length else if ¬ cmpI (aheadK s) k < 0 then 51 else if s.now.length = 0 ∧ s.L.length = 8388608 then 71 else 0
def sCut (s : St) : St := if s.now.length = 0 then s else ⟨s.L ++ [s.now], []⟩
def sPut (m : Nat) (s : St) (k v : List Int) : St := if s.now.length + 1 = m then ⟨s.L ++ [s.now ++ [(k, v)]], []⟩ else ⟨s.L, s.now ++ [(k, v)]⟩
def sAdd (m : Nat) (s : St) (k v : List Int) : St := if sErr s k v = 0 then sPut m s k v else s
structure SG (s : St) : Prop where
  each : ∀ l, l ∈ s.L → Good l ∧ 0 < l.length
  gd : Gd (rowsOf s.L) s.L.length
  now : Good s.now
  many : s.L.length ≤ 8388608
  few : 0 < s.now.length → s.L.length < 8388608
  abv : 0 < s.now.length → cmpI (lastK s.L) (ahd s.now) < 0
theorem SG.nil : SG ⟨[], []⟩ := ⟨fun _ h => (by cases h), (fun j hj => absurd hj (Nat.not_lt_zero _)), Good.nil, Nat.zero_le _, (fun h => absurd h (Nat.lt_irrefl _)), (fun h => absurd h (Nat.lt_irrefl _))⟩
theorem SG.ended {L : List (List KV)} {l : List KV} (h : SG ⟨L, l⟩) (h0 : 0 < l.length) : SG ⟨L ++ [l], []⟩ := by
  have hf : L.length < 8388608 := h.few h0
  have hg : Good l := h.now
  refine ⟨fun x hx => ?_, ?_, Good.nil, ?_, (fun h => absurd h (Nat.lt_irrefl _)), (fun h => absurd h (Nat.lt_irrefl _))⟩
  · rcases List.mem_append.1 hx with h1 | h1
    · exact h.each x h1
    · rw [List.mem_singleton.1 h1]; exact ⟨hg, h0⟩
  · show Gd (rowsOf (L ++ [l])) (L ++ [l]).length
    rw [List.length_append, List.length_singleton, rowsOf_snoc]
    refine Gd.succ (fun j hj => ?_) ?_
    · rw [fAt_app _ _ _ (by rw [rowsOf_len]; exact hj)]
      exact h.gd j hj
    · have q := getD_snoc (rowsOf L) ⟨ahd l, (behP L : Int), ((blkF l).length : Int), (l.length : Int)⟩ default
      rw [rowsOf_len] at q
      have hb := blk_le hg
      have hfl := frm_len 66 (blk l) (by omega)
      have hk := hg.k1 (l.length - 1) (by omega)
      have h64 := hg.n64
      have habv : cmpI (lastK L) (ahd l) < 0 := h.abv h0
      unfold fAt
      rw [q, kAt_app _ _ _ (by rw [rowsOf_len]; exact Nat.le_refl _), pAt_app _ _ _ (by rw [rowsOf_len]; exact Nat.le_refl _), pAt_rows]
      unfold flt
      have e1 : keyE (ahd l).length = 0 := by
        rcases keyE_cases (ahd l).length with q | q
        · unfold ahd at q; omega
        · exact q.1
      rw [if_neg, if_neg, if_neg, if_neg]
      · show ¬ ¬ (1 ≤ (l.length : Int) ∧ (l.length : Int) ≤ 64)
        omega
      · show ¬ ¬ (1 ≤ ((blkF l).length : Int) ∧ ((blkF l).length : Int) ≤ 131072)
        unfold blkF
        omega
      · exact fun h => h rfl
      · rintro (q | q)
        · exact q e1
        · exact q habv
  · show (L ++ [l]).length ≤ 8388608
    rw [List.length_append, List.length_singleton]
    exact hf
theorem SG.cut {s : St} (h : SG s) : SG (sCut s) := by
  unfold sCut
  split
  · exact h
  · rename_i h0
    exact SG.ended (L := s.L) (l := s.now) h (by omega)
theorem sErr_ok {s : St} {k v : List Int} (h : sErr s k v = 0) : chkE k.length v.length = 0 ∧ cmpI (aheadK s) k < 0 ∧ ¬ (s.now.length = 0 ∧ s.L.length = 8388608) := by
  unfold sErr at h
  split at h
  · rename_i q; exact absurd h q
  · rename_i q
    split at h
    · omega
    · rename_i q2
      split at h
      · omega
      · rename_i q3
        exact ⟨Decidable.not_not.1 q, Decidable.not_not.1 q2, q3⟩
theorem SG.more {s : St} {k v : List Int} (h : SG s) (he : sErr s k v = 0) (h64 : s.now.length < 64) (k8 : B8 k) (v8 : B8 v) : SG ⟨s.L, s.now ++ [(k, v)]⟩ := by
  obtain ⟨h1, h2, h3⟩ := sErr_ok he
  obtain ⟨f1, f3⟩ := wfits_key h1
  unfold aheadK at h2
  refine ⟨h.each, h.gd, h.now.snoc k v h64 f1 f3 k8 v8 (fun h0 => by rw [if_neg (by omega)] at h2; exact h2), h.many, fun _ => ?_, fun _ => ?_⟩
  · show s.L.length < 8388608
    have := h.many
    by_cases h0 : s.now.length = 0
    · omega
    · exact h.few (by omega)
  · show cmpI (lastK s.L) (ahd (s.now ++ [(k, v)])) < 0
    rw [ahd_snoc]
    by_cases h0 : s.now.length = 0
    · rw [if_pos h0] at h2; exact h2
    · rw [if_neg h0] at h2
      exact (cmpI_trans _ _ _ (Int.le_of_lt (h.abv (by omega))) (Int.le_of_lt h2)).2 (h.abv (by omega))
theorem SG.put {s : St} {k v : List Int} {m : Nat} (h : SG s) (he : sErr s k v = 0) (h64 : s.now.length < 64) (k8 : B8 k) (v8 : B8 v) : SG (sPut m s k v) := by
  have h1 := h.more he h64 k8 v8
  unfold sPut
  split
  · exact h1.ended (by simp)
  · exact h1
/-- The whole stream. -/
def hd8 : List Int := [99, 111, 112, 112, 105, 99, 101, 1]
def plc (n : Nat) : List Int := [((n % 256 : Nat) : Int), ((n / 256 % 256 : Nat) : Int), ((n / 65536 % 256 : Nat) : Int), ((n / 16777216 % 256 : Nat) : Int), ((n / 4294967296 % 256 : Nat) : Int), ((n / 1099511627776 % 256 : Nat) : Int), ((n / 281474976710656 % 256 : Nat) : Int), ((n / 72057594037927936 % 256 : Nat) : Int)]
def endB (L : List (List KV)) : List Int := frm 70 (footB (rowsOf L)) ++ (plc (behP L) ++ [101, 110, 100, 46])
def wholeB (L : List (List KV)) : List Int := hd8 ++ byts L ++ endB L

theorem wmid_b8 {l : List FRow} {i : Nat} (h : Gd l (i + 1)) (hi : i < 8388608) : ∀ k, B8 (fmid (l.getD i default) k)
  | 0 => fun u hu => by simp [fmid] at hu
  | k + 1 => (wmid_b8 h hi k).append (enc_mem8 _ (by have := rnum_le h hi k; omega))
theorem wpre_b8 {l : List FRow} (hk : ∀ j, j < l.length → B8 (l.getD j default).k) : ∀ {i : Nat}, Gd l i → i ≤ l.length → l.length ≤ 8388608 → B8 (fpre l i)
  | 0, _, _, hl => enc_mem8 _ (by omega)
  | i + 1, h, hi, hl => by
    have r := h.row i (Nat.lt_succ_self i)
    have e : B8 (enc (l.getD i default).k.length) := enc_mem8 _ (by omega)
    exact (wpre_b8 hk (h.mono (Nat.le_succ i)) (by omega) hl).append ((e.append (hk i (by omega))).append (wmid_b8 h (by omega) 3))
theorem rwsF_k8 : ∀ (p : Nat) (L : List (List KV)), (∀ l, l ∈ L → Good l) → ∀ r, r ∈ rwsF p L → B8 r.k
  | _, [], _, r, h => by cases h
  | p, l :: L, hg, r, h => by
    rw [rwsF] at h
    rcases List.mem_cons.1 h with h | h
    · rw [h]; exact (hg l (List.mem_cons_self ..)).ahd8
    · exact rwsF_k8 _ L (fun x hx => hg x (List.mem_cons_of_mem _ hx)) r h
theorem SG.foot8 {s : St} (h : SG s) : B8 (footB (rowsOf s.L)) := by
  have hl := h.many
  have hg := h.gd
  have e := rowsOf_len s.L
  rw [← e] at hg hl
  refine (wpre_b8 (fun j hj => ?_) hg (Nat.le_refl _) hl).append (enc_mem8 _ (by have := totN_le hg; omega))
  have : (rowsOf s.L).getD j default ∈ rowsOf s.L := by
    rw [List.getD, List.getElem?_eq_getElem hj]
    exact List.getElem_mem hj
  exact rwsF_k8 8 s.L (fun l hl => (h.each l hl).1) _ this
theorem SG.footl {s : St} (h : SG s) : (footB (rowsOf s.L)).length ≤ 1000000000 := by
  have hl := h.many
  have hg := h.gd
  rw [← rowsOf_len s.L] at hg hl
  have := fpre_len hg hl hl
  have := totN_le hg
  have := (enc_len_le (totN (rowsOf s.L) (rowsOf s.L).length) (by omega)).2
  unfold footB
  rw [List.length_append]
  omega
theorem SG.chk {s : St} (h : SG s) : IsChk (rowsOf s.L) 0 0 := by
  have hl := h.many
  have hg := h.gd
  rw [← rowsOf_len s.L] at hg hl
  exact .inr ⟨hl, .inr ⟨hg, rfl, rfl⟩⟩
theorem SG.beh {s : St} (h : SG s) : behP s.L ≤ 1099511627784 := by
  have h1 := h.gd.pos
  rw [pAt_rows] at h1
  have := h.many
  omega
theorem blkF_len {l : List KV} (h : Good l) : (blkF l).length ≤ 30015 := by
  have := blk_le h
  have := frm_len 66 (blk l) (by omega)
  unfold blkF
  omega

theorem SG.last8 {s : St} (h : SG s) : B8 (lastK s.L) ∧ (lastK s.L).length ≤ 64 := by
  rcases List.eq_nil_or_concat s.L with q | ⟨L, l, q⟩
  · rw [q]; exact ⟨B8.nil, by simp [lastK, kAt]⟩
  · rw [List.concat_eq_append] at q
    have hg := (h.each l (by rw [q]; simp)).1
    rw [q, lastK_snoc]
    exact ⟨hg.ahd8, hg.ahdl⟩

end Go.Proofs.YtepjblmjjegpgaaGreat
