/- foot: fault. -/
import Derived.Test.YtlachimmfjagbaaFSpan
import Derived.Deep.RegionHeld3
import Derived.Laws.EntriesVeiled
import Derived.Deep.RegionLaw
import Derived.Deep.CutBlock
import Derived.Deep.DeepCutAuto
namespace Go.Proofs.Ytlachimmfjagbaa
open Go.RowKit

theorem below_of_drewNF {B : Nat} {a w : World} (h : Below B a w) (n : Nat) : Below B a (w.drewN n) := ⟨h.os, h.tape, h.output, h.size, h.block⟩
/-- What rule k asks of a row whose place must be pos. -/
def rlK (pos : Int) (r : FRow) (k : Nat) : Prop := match k with
  | 0 => r.p = pos
  | 1 => 1 ≤ r.l ∧ r.l ≤ 131072
  | _ => 1 ≤ r.n ∧ r.n ≤ 64
/-- The key may be. -/
def KeyOk (pk : List Int) (r : FRow) : Prop := keyE r.k.length = 0 ∧ cmpI pk r.k < 0
theorem flt_key {pk : List Int} {pos : Int} {r : FRow} (h : keyE r.k.length ≠ 0 ∨ ¬ cmpI pk r.k < 0) : flt pk pos r = 72 := by unfold flt; rw [if_pos h]
theorem flt_rule {pk : List Int} {pos : Int} {r : FRow} (hK : KeyOk pk r) (k : Nat) (hk : k < 3) (hb : ∀ j, j < k → rlK pos r j) (hn : ¬ rlK pos r k) : flt pk pos r = 73 + k := by
  have h : ¬ (keyE r.k.length ≠ 0 ∨ ¬ cmpI pk r.k < 0) := fun q => q.elim (fun q => q hK.1) (fun q => q hK.2)
  unfold flt
  rw [if_neg h]
  match k, hk with
  | 0, _ => rw [if_pos (show r.p ≠ pos from hn)]; rfl
  | 1, _ => rw [if_neg (fun q => q (hb 0 (by omega))), if_pos (show ¬ (1 ≤ r.l ∧ r.l ≤ 131072) from hn)]; rfl
  | 2, _ => rw [if_neg (fun q => q (hb 0 (by omega))), if_neg (fun q => q (hb 1 (by omega))), if_pos (show ¬ (1 ≤ r.n ∧ r.n ≤ 64) from hn)]; rfl
theorem flt_good {pk : List Int} {pos : Int} {r : FRow} (hK : KeyOk pk r) (hb : ∀ j, j < 3 → rlK pos r j) : flt pk pos r = 0 := by
  have h : ¬ (keyE r.k.length ≠ 0 ∨ ¬ cmpI pk r.k < 0) := fun q => q.elim (fun q => q hK.1) (fun q => q hK.2)
  unfold flt
  rw [if_neg h, if_neg (fun q => q (hb 0 (by omega))), if_neg (fun q => q (hb 1 (by omega))), if_neg (fun q => q (hb 2 (by omega)))]

set_option maxRecDepth 100000 in
set_option maxHeartbeats 1600000 in
theorem ffault_any {w : World} {gt g2 g3 : Nat} (T : Tab w gt g2 g3) (aa : Option Addr) (la ca p q : Nat) (z : Int) (pk : List Int) (b o : Nat) (s : Spn) (ok : s.Ok w) (hs : Sp4 w b o s) (hr : Row w .u8 aa pk) (hl : pk.length = la) (p8 : B8 pk) (hp : p ≤ 2305843009213693952) (hq : q ≤ 2305843009213693952) :
    Calls Try.prog 34 #[.slice (some ⟨gt, 0, none⟩) 3 3, .agg #[.slice aa la ca, .int .i64 (p : Int), .int .i64 (q : Int), .int .i64 z], .pointer (some ⟨b, o, none⟩)] w fun e w' => e = .returned (.int .i64 (flt pk ((p + q : Nat) : Int) s.row)) ∧ Below w.heap.size w w' := by
  obtain ⟨wA, hwA⟩ : ∃ wA, wA = w.alloc (.cells #[.slice aa la ca, .int .i64 (p : Int), .int .i64 (q : Int), .int .i64 z] 33) := ⟨_, rfl⟩
  have bA : Below w.heap.size w wA := by rw [hwA]; exact (Below.refl _ _).alloc (Nat.le_refl _) _
  have hbx : wA.heap[w.heap.size]? = some (.cells #[.slice aa la ca, .int .i64 (p : Int), .int .i64 (q : Int), .int .i64 z] 33 (0, 0)) := by rw [hwA]; exact heap_alloc_new w _
  obtain ⟨g4, hg4⟩ : ∃ g4, g4 = w.heap.size := ⟨_, rfl⟩
  rw [← hg4] at hbx
  have TA := hide (T.below bA)
  have SA := hide (hs.below bA)
  have OA := hide (ok.below bA)
  have RA := hide (hr.below2 bA)
  have x0 : wA.cell? ⟨g4, 0, none⟩ = some (.slice aa la ca) := by rw [cell_of_row _ _ _ _ _ _ hbx]; rfl
  have x1 : wA.cell? ⟨g4, 1, none⟩ = some (.int .i64 (p : Int)) := by rw [cell_of_row _ _ _ _ _ _ hbx]; rfl
  have x2 : wA.cell? ⟨g4, 2, none⟩ = some (.int .i64 (q : Int)) := by rw [cell_of_row _ _ _ _ _ _ hbx]; rfl
  have x3 : wA.cell? ⟨g4, 3, none⟩ = some (.int .i64 z) := by rw [cell_of_row _ _ _ _ _ _ hbx]; rfl
  have HBX := hide hbx
  have BA := hide bA
  have s0 := hs.below bA |>.c0
  unfold Spn.kv at s0
  obtain ⟨nk, hnk⟩ : ∃ nk, s.ks.length = nk := ⟨_, rfl⟩
  rw [hnk] at s0
  have hg4' : g4 < wA.heap.size := lt_of_block hbx
  have hbA : b < wA.heap.size := SA.out.lt
  obtain ⟨fe, hfe⟩ : ∃ fe, fe = flt pk ((p + q : Nat) : Int) s.row := ⟨_, rfl⟩
  rw [← hfe]
  have HFE := hide hfe
  clear T hs ok hr bA hbx hfe
  have HKEY := hide (key_any s.ka nk s.kc)
  obtain ⟨ek, hek⟩ : ∃ ek, ek = keyE nk := ⟨_, rfl⟩
  rw [← hek] at HKEY
  obtain ⟨cc, hcc⟩ : ∃ cc : Bool, cc = decide (cmpI pk s.ks < 0) := ⟨_, rfl⟩
  have HRI : Hid (∀ W, Below wA.heap.size wA W → Calls Try.prog 55 #[.agg #[.slice aa la ca, .int .i64 (p : Int), .int .i64 (q : Int), .int .i64 z], .slice s.ka nk s.kc] W fun e w' => e = .returned (.bool cc) ∧ Below W.heap.size W w') := fun W hW => by
    rw [hcc]
    exact rises_any aa s.ka la ca nk s.kc _ _ _ pk s.ks W hl hnk (RA.out.below2 hW) (OA.out.k.below2 hW) p8 OA.out.k8
  replace hek := hide hek
  replace hcc := hide hcc
  go_enter Try.func34, Try.ntmps34
  go_wp2_with fail
  rw [← hg4, ← hwA]
  clear hwA
  replace hg4 := hide hg4
  by_cases hk0 : ek = 0
  · subst hk0
    cases cc with
    | false =>
      obtain rfl : fe = 72 := by rw [HFE.out]; exact flt_key (.inr (of_decide_eq_false hcc.out.symm))
      go_wp2_with fail
      go_region_held3 (fun W => W.cell? ⟨b, o, none⟩ = some (.slice s.ka nk s.kc) ∧ W.cell? ⟨g4, 0, none⟩ = some (.slice aa la ca) ∧ W.cell? ⟨g4, 1, none⟩ = some (.int .i64 (p : Int)) ∧ W.cell? ⟨g4, 2, none⟩ = some (.int .i64 (q : Int)) ∧ W.cell? ⟨g4, 3, none⟩ = some (.int .i64 z)) (go_keep) (first
        | (go_at_call 55; refine (HRI.out w2 B2.out).mono ?_; rintro e w3 ⟨rfl, hb3⟩; have B3 : Hid (Below wA.heap.size wA w3) := B2.out.trans (hb3.mono B2.out.size); have f0 := (B3.out.cell (p := ⟨b, o, none⟩) hbA).trans s0; have f1 := (B3.out.cell (p := ⟨g4, 0, none⟩) hg4').trans x0; have f2 := (B3.out.cell (p := ⟨g4, 1, none⟩) hg4').trans x1; have f3 := (B3.out.cell (p := ⟨g4, 2, none⟩) hg4').trans x2; have f4 := (B3.out.cell (p := ⟨g4, 3, none⟩) hg4').trans x3; clear hb3)
        | (go_at_call 54; refine (HKEY.out _).mono ?_; rintro e w2 ⟨rfl, hw2⟩; have B2 : Hid (Below wA.heap.size wA w2) := (by rw [hw2]; exact ⟨rfl, rfl, rfl, Nat.le_refl _, fun _ _ => rfl⟩); have d0 := (B2.out.cell (p := ⟨b, o, none⟩) hbA).trans s0; have d1 := (B2.out.cell (p := ⟨g4, 0, none⟩) hg4').trans x0; have d2 := (B2.out.cell (p := ⟨g4, 1, none⟩) hg4').trans x1; have d3 := (B2.out.cell (p := ⟨g4, 2, none⟩) hg4').trans x2; have d4 := (B2.out.cell (p := ⟨g4, 3, none⟩) hg4').trans x3; clear hw2)
        | fail)
      go_wp2_with fail
      go_ret
      exact ⟨rfl, BA.out.trans (B3.out.mono BA.out.size)⟩
    | true =>
      have hgood : Hid (KeyOk pk s.row) := ⟨by show keyE s.ks.length = 0; rw [hnk]; exact hek.out.symm, of_decide_eq_true hcc.out.symm⟩
      go_wp2_with fail
      go_region_held3 (fun W => W.cell? ⟨b, o, none⟩ = some (.slice s.ka nk s.kc) ∧ W.cell? ⟨g4, 0, none⟩ = some (.slice aa la ca) ∧ W.cell? ⟨g4, 1, none⟩ = some (.int .i64 (p : Int)) ∧ W.cell? ⟨g4, 2, none⟩ = some (.int .i64 (q : Int)) ∧ W.cell? ⟨g4, 3, none⟩ = some (.int .i64 z)) (go_keep) (first
        | (go_at_call 55; refine (HRI.out w2 B2.out).mono ?_; rintro e w3 ⟨rfl, hb3⟩; have B3 : Hid (Below wA.heap.size wA w3) := B2.out.trans (hb3.mono B2.out.size); have f0 := (B3.out.cell (p := ⟨b, o, none⟩) hbA).trans s0; have f1 := (B3.out.cell (p := ⟨g4, 0, none⟩) hg4').trans x0; have f2 := (B3.out.cell (p := ⟨g4, 1, none⟩) hg4').trans x1; have f3 := (B3.out.cell (p := ⟨g4, 2, none⟩) hg4').trans x2; have f4 := (B3.out.cell (p := ⟨g4, 3, none⟩) hg4').trans x3; clear hb3)
        | (go_at_call 54; refine (HKEY.out _).mono ?_; rintro e w2 ⟨rfl, hw2⟩; have B2 : Hid (Below wA.heap.size wA w2) := (by rw [hw2]; exact ⟨rfl, rfl, rfl, Nat.le_refl _, fun _ _ => rfl⟩); have d0 := (B2.out.cell (p := ⟨b, o, none⟩) hbA).trans s0; have d1 := (B2.out.cell (p := ⟨g4, 0, none⟩) hg4').trans x0; have d2 := (B2.out.cell (p := ⟨g4, 1, none⟩) hg4').trans x1; have d3 := (B2.out.cell (p := ⟨g4, 2, none⟩) hg4').trans x2; have d4 := (B2.out.cell (p := ⟨g4, 3, none⟩) hg4').trans x3; clear hw2)
        | fail)
      have X0 := hide x0
      have X1 := hide x1
      have X2 := hide x2
      have X3 := hide x3
      clear x0 x1 x2 x3 s0
      go_wp2_with fail
      go_loopw [26] (fun x wr => ∃ k : Nat, k ≤ 3 ∧ x = .int .i64 (k : Int) ∧ Hid (Below wA.heap.size wA wr) ∧ Hid (∀ j, j < k → rlK ((p + q : Nat) : Int) s.row j)) (fun x _ => 3 - (intOf x).toNat)
      case atStart => exact ⟨0, by omega, rfl, B3, fun j hj => absurd hj (Nat.not_lt_zero j)⟩
      case round =>
        clear B3 f0 f1 f2 f3 f4
        obtain ⟨k, hk3, rfl, HBR, HRU⟩ := hrel
        rename World => wr
        have HT := hide (TA.out.below HBR.out).t
        have hkc : k = 0 ∨ k = 1 ∨ k = 2 ∨ k = 3 := by omega
        rcases hkc with rfl | rfl | rfl | rfl
        ·
          obtain ⟨an, han, han2, han3⟩ := u64_nat s.pl OA.out.rp
          obtain ⟨bb, hbb⟩ : ∃ bb : Bool, bb = decide (an = p + q) := ⟨_, rfl⟩
          have HRL : Hid (bb = true ↔ rlK ((p + q : Nat) : Int) s.row 0) := by
            show bb = true ↔ s.pl = ((p + q : Nat) : Int)
            rw [hbb, decide_eq_true_iff]
            omega
          have HMAY : Hid (∀ W, Below wA.heap.size wA W → Calls Try.prog 45 #[.int .u64 (an : Int), .int .u64 ((p + q : Nat) : Int)] W fun e w' => e = .returned (.bool bb) ∧ w' = W) := fun W hW => by
            rw [hbb]
            exact place_any an (p + q) W
          have e0 : wr.cell? ⟨gt, 0, none⟩ = some (.func (.func 44) #[] #[]) := by rw [cell_of_row _ _ _ _ _ _ HT.out]; rfl
          have e1 : wr.cell? ⟨gt, 1, none⟩ = some (.func (.func 45) #[] #[]) := by rw [cell_of_row _ _ _ _ _ _ HT.out]; rfl
          have e2 : wr.cell? ⟨gt, 2, none⟩ = some (.int .i64 73) := by rw [cell_of_row _ _ _ _ _ _ HT.out]; rfl
          obtain ⟨w1, hw1⟩ : ∃ w1, w1 = wr.alloc (.cells #[.func (.func 44) #[] #[], .func (.func 45) #[] #[], .int .i64 73] 57) := ⟨_, rfl⟩
          have bb1 : Below wr.heap.size wr w1 := by rw [hw1]; exact (Below.refl _ _).alloc (Nat.le_refl _) _
          have hbr : w1.heap[wr.heap.size]? = some (.cells #[.func (.func 44) #[] #[], .func (.func 45) #[] #[], .int .i64 73] 57 (0, 0)) := by rw [hw1]; exact heap_alloc_new wr _
          have B1 : Hid (Below wA.heap.size wA w1) := HBR.out.trans (bb1.mono HBR.out.size)
          replace hbb := hide hbb
          clear bb1
          go_upto_region 6 with fail
          rw [← hw1]
          clear hw1 e0 e1 e2
          generalize wr.heap.size = gr at *
          have r0 : w1.cell? ⟨gr, 0, none⟩ = some (.func (.func 44) #[] #[]) := by rw [cell_of_row _ _ _ _ _ _ hbr]; rfl
          have r1 : w1.cell? ⟨gr, 1, none⟩ = some (.func (.func 45) #[] #[]) := by rw [cell_of_row _ _ _ _ _ _ hbr]; rfl
          have hgr : gr < w1.heap.size := lt_of_block hbr
          have HBR1 := hide hbr
          clear hbr
          have y0 := (B1.out.cell (p := ⟨g4, 0, none⟩) hg4').trans X0.out
          have y1 := (B1.out.cell (p := ⟨g4, 1, none⟩) hg4').trans X1.out
          have y2 := (B1.out.cell (p := ⟨g4, 2, none⟩) hg4').trans X2.out
          have y3 := (B1.out.cell (p := ⟨g4, 3, none⟩) hg4').trans X3.out
          have y4 : w1.cell? ⟨b, o + 1, none⟩ = some (.int .i64 s.pl) := (SA.out.below B1.out).c1
          have hz1 := B1.out.size
          go_region_held3 (fun W => W.cell? ⟨gr, 0, none⟩ = some (.func (.func 44) #[] #[]) ∧ W.cell? ⟨gr, 1, none⟩ = some (.func (.func 45) #[] #[]) ∧ W.cell? ⟨b, o + 1, none⟩ = some (.int .i64 s.pl) ∧ W.cell? ⟨g4, 0, none⟩ = some (.slice aa la ca) ∧ W.cell? ⟨g4, 1, none⟩ = some (.int .i64 (p : Int)) ∧ W.cell? ⟨g4, 2, none⟩ = some (.int .i64 (q : Int)) ∧ W.cell? ⟨g4, 3, none⟩ = some (.int .i64 z)) (go_keep) (first
            | (go_at_call 45; refine (HMAY.out v2 (B1.out.trans (BV2.out.mono B1.out.size))).mono ?_; rintro e v3 ⟨rfl, hv3⟩; have BV3 : Hid (Below w1.heap.size w1 v3) := (by rw [hv3]; exact BV2.out); have m0 := (BV3.out.cell (p := ⟨gr, 0, none⟩) hgr).trans r0; have m1 := (BV3.out.cell (p := ⟨gr, 1, none⟩) hgr).trans r1; have m2 := (BV3.out.cell (p := ⟨b, o + 1, none⟩) (Nat.lt_of_lt_of_le hbA hz1)).trans y4; have m3 := (BV3.out.cell (p := ⟨g4, 0, none⟩) (Nat.lt_of_lt_of_le hg4' hz1)).trans y0; have m4 := (BV3.out.cell (p := ⟨g4, 1, none⟩) (Nat.lt_of_lt_of_le hg4' hz1)).trans y1; have m5 := (BV3.out.cell (p := ⟨g4, 2, none⟩) (Nat.lt_of_lt_of_le hg4' hz1)).trans y2; have m6 := (BV3.out.cell (p := ⟨g4, 3, none⟩) (Nat.lt_of_lt_of_le hg4' hz1)).trans y3; clear hv3)
            | (go_at_call 53; refine (behind_any _ p q z v1 hp hq).mono ?_; rintro e v2 ⟨rfl, hv2⟩; have BV2 : Hid (Below w1.heap.size w1 v2) := BV1.out.trans (hv2.mono BV1.out.size); have l0 := (BV2.out.cell (p := ⟨gr, 0, none⟩) hgr).trans r0; have l1 := (BV2.out.cell (p := ⟨gr, 1, none⟩) hgr).trans r1; have l2 := (BV2.out.cell (p := ⟨b, o + 1, none⟩) (Nat.lt_of_lt_of_le hbA hz1)).trans y4; have l3 := (BV2.out.cell (p := ⟨g4, 0, none⟩) (Nat.lt_of_lt_of_le hg4' hz1)).trans y0; have l4 := (BV2.out.cell (p := ⟨g4, 1, none⟩) (Nat.lt_of_lt_of_le hg4' hz1)).trans y1; have l5 := (BV2.out.cell (p := ⟨g4, 2, none⟩) (Nat.lt_of_lt_of_le hg4' hz1)).trans y2; have l6 := (BV2.out.cell (p := ⟨g4, 3, none⟩) (Nat.lt_of_lt_of_le hg4' hz1)).trans y3; clear hv2)
            | (go_at_call 44; refine (in1_any b o _).mono ?_; rintro e v1 ⟨rfl, hv1⟩; have BV1 : Hid (Below w1.heap.size w1 v1) := (by rw [hv1]; exact ⟨rfl, rfl, rfl, Nat.le_refl _, fun _ _ => rfl⟩); have k0 := (BV1.out.cell (p := ⟨gr, 0, none⟩) hgr).trans r0; have k1 := (BV1.out.cell (p := ⟨gr, 1, none⟩) hgr).trans r1; have k2 := (BV1.out.cell (p := ⟨b, o + 1, none⟩) (Nat.lt_of_lt_of_le hbA hz1)).trans y4; have k3 := (BV1.out.cell (p := ⟨g4, 0, none⟩) (Nat.lt_of_lt_of_le hg4' hz1)).trans y0; have k4 := (BV1.out.cell (p := ⟨g4, 1, none⟩) (Nat.lt_of_lt_of_le hg4' hz1)).trans y1; have k5 := (BV1.out.cell (p := ⟨g4, 2, none⟩) (Nat.lt_of_lt_of_le hg4' hz1)).trans y2; have k6 := (BV1.out.cell (p := ⟨g4, 3, none⟩) (Nat.lt_of_lt_of_le hg4' hz1)).trans y3; clear hv1)
            | fail)
          have BF : Hid (Below wA.heap.size wA v3) := B1.out.trans (BV3.out.mono B1.out.size)
          cases bb with
          | true =>
            have HN : Hid (∀ j, j < 0 + 1 → rlK ((p + q : Nat) : Int) s.row j) := fun j hj => by
              by_cases h : j < 0
              · exact HRU.out j h
              · obtain rfl : j = 0 := by omega
                exact HRL.out.1 rfl
            go_wp2_with fail
            go_roundw
            case rel => exact ⟨0 + 1, by omega, by go_num, BF, HN⟩
            case measure => simp [intOf]
          | false =>
            obtain rfl : fe = 73 := by rw [HFE.out, flt_rule hgood.out 0 (by omega) HRU.out (fun h => by have := HRL.out.2 h; cases this)]; rfl
            have r2 : v3.cell? ⟨gr, 2, none⟩ = some (.int .i64 73) := (BV3.out.cell (p := ⟨gr, 2, none⟩) hgr).trans (by rw [cell_of_row _ _ _ _ _ _ HBR1.out]; rfl)
            go_wp2_with fail
            go_ret
            exact ⟨rfl, BA.out.trans (BF.out.mono BA.out.size)⟩
        ·
          obtain ⟨an, han, han2, han3⟩ := u64_nat s.ln OA.out.rl
          obtain ⟨bb, hbb⟩ : ∃ bb : Bool, bb = decide (1 ≤ an ∧ an ≤ 131072) := ⟨_, rfl⟩
          have HRL : Hid (bb = true ↔ rlK ((p + q : Nat) : Int) s.row 1) := by
            show bb = true ↔ 1 ≤ s.ln ∧ s.ln ≤ 131072
            rw [hbb, decide_eq_true_iff]
            omega
          have HMAY : Hid (∀ W, Below wA.heap.size wA W → Calls Try.prog 43 #[.int .u64 (an : Int), .int .u64 ((p + q : Nat) : Int), .pointer (some ⟨g2, 0, none⟩)] W fun e w' => e = .returned (.bool bb) ∧ w' = W) := fun W hW => by
            rw [hbb]
            exact upto_any an 131072 g2 _ W han2 (TA.out.below hW).b2
          have e0 : wr.cell? ⟨gt, 3, none⟩ = some (.func (.func 46) #[] #[]) := by rw [cell_of_row _ _ _ _ _ _ HT.out]; rfl
          have e1 : wr.cell? ⟨gt, 4, none⟩ = some (.func (.func 43) #[] #[.pointer (some ⟨g2, 0, none⟩)]) := by rw [cell_of_row _ _ _ _ _ _ HT.out]; rfl
          have e2 : wr.cell? ⟨gt, 5, none⟩ = some (.int .i64 74) := by rw [cell_of_row _ _ _ _ _ _ HT.out]; rfl
          obtain ⟨w1, hw1⟩ : ∃ w1, w1 = wr.alloc (.cells #[.func (.func 46) #[] #[], .func (.func 43) #[] #[.pointer (some ⟨g2, 0, none⟩)], .int .i64 74] 57) := ⟨_, rfl⟩
          have bb1 : Below wr.heap.size wr w1 := by rw [hw1]; exact (Below.refl _ _).alloc (Nat.le_refl _) _
          have hbr : w1.heap[wr.heap.size]? = some (.cells #[.func (.func 46) #[] #[], .func (.func 43) #[] #[.pointer (some ⟨g2, 0, none⟩)], .int .i64 74] 57 (0, 0)) := by rw [hw1]; exact heap_alloc_new wr _
          have B1 : Hid (Below wA.heap.size wA w1) := HBR.out.trans (bb1.mono HBR.out.size)
          replace hbb := hide hbb
          clear bb1
          go_upto_region 6 with fail
          rw [← hw1]
          clear hw1 e0 e1 e2
          generalize wr.heap.size = gr at *
          have r0 : w1.cell? ⟨gr, 0, none⟩ = some (.func (.func 46) #[] #[]) := by rw [cell_of_row _ _ _ _ _ _ hbr]; rfl
          have r1 : w1.cell? ⟨gr, 1, none⟩ = some (.func (.func 43) #[] #[.pointer (some ⟨g2, 0, none⟩)]) := by rw [cell_of_row _ _ _ _ _ _ hbr]; rfl
          have hgr : gr < w1.heap.size := lt_of_block hbr
          have HBR1 := hide hbr
          clear hbr
          have y0 := (B1.out.cell (p := ⟨g4, 0, none⟩) hg4').trans X0.out
          have y1 := (B1.out.cell (p := ⟨g4, 1, none⟩) hg4').trans X1.out
          have y2 := (B1.out.cell (p := ⟨g4, 2, none⟩) hg4').trans X2.out
          have y3 := (B1.out.cell (p := ⟨g4, 3, none⟩) hg4').trans X3.out
          have y4 : w1.cell? ⟨b, o + 2, none⟩ = some (.int .i64 s.ln) := (SA.out.below B1.out).c2
          have hz1 := B1.out.size
          go_region_held3 (fun W => W.cell? ⟨gr, 0, none⟩ = some (.func (.func 46) #[] #[]) ∧ W.cell? ⟨gr, 1, none⟩ = some (.func (.func 43) #[] #[.pointer (some ⟨g2, 0, none⟩)]) ∧ W.cell? ⟨b, o + 2, none⟩ = some (.int .i64 s.ln) ∧ W.cell? ⟨g4, 0, none⟩ = some (.slice aa la ca) ∧ W.cell? ⟨g4, 1, none⟩ = some (.int .i64 (p : Int)) ∧ W.cell? ⟨g4, 2, none⟩ = some (.int .i64 (q : Int)) ∧ W.cell? ⟨g4, 3, none⟩ = some (.int .i64 z)) (go_keep) (first
            | (go_at_call 43; refine (HMAY.out v2 (B1.out.trans (BV2.out.mono B1.out.size))).mono ?_; rintro e v3 ⟨rfl, hv3⟩; have BV3 : Hid (Below w1.heap.size w1 v3) := (by rw [hv3]; exact BV2.out); have m0 := (BV3.out.cell (p := ⟨gr, 0, none⟩) hgr).trans r0; have m1 := (BV3.out.cell (p := ⟨gr, 1, none⟩) hgr).trans r1; have m2 := (BV3.out.cell (p := ⟨b, o + 2, none⟩) (Nat.lt_of_lt_of_le hbA hz1)).trans y4; have m3 := (BV3.out.cell (p := ⟨g4, 0, none⟩) (Nat.lt_of_lt_of_le hg4' hz1)).trans y0; have m4 := (BV3.out.cell (p := ⟨g4, 1, none⟩) (Nat.lt_of_lt_of_le hg4' hz1)).trans y1; have m5 := (BV3.out.cell (p := ⟨g4, 2, none⟩) (Nat.lt_of_lt_of_le hg4' hz1)).trans y2; have m6 := (BV3.out.cell (p := ⟨g4, 3, none⟩) (Nat.lt_of_lt_of_le hg4' hz1)).trans y3; clear hv3)
            | (go_at_call 53; refine (behind_any _ p q z v1 hp hq).mono ?_; rintro e v2 ⟨rfl, hv2⟩; have BV2 : Hid (Below w1.heap.size w1 v2) := BV1.out.trans (hv2.mono BV1.out.size); have l0 := (BV2.out.cell (p := ⟨gr, 0, none⟩) hgr).trans r0; have l1 := (BV2.out.cell (p := ⟨gr, 1, none⟩) hgr).trans r1; have l2 := (BV2.out.cell (p := ⟨b, o + 2, none⟩) (Nat.lt_of_lt_of_le hbA hz1)).trans y4; have l3 := (BV2.out.cell (p := ⟨g4, 0, none⟩) (Nat.lt_of_lt_of_le hg4' hz1)).trans y0; have l4 := (BV2.out.cell (p := ⟨g4, 1, none⟩) (Nat.lt_of_lt_of_le hg4' hz1)).trans y1; have l5 := (BV2.out.cell (p := ⟨g4, 2, none⟩) (Nat.lt_of_lt_of_le hg4' hz1)).trans y2; have l6 := (BV2.out.cell (p := ⟨g4, 3, none⟩) (Nat.lt_of_lt_of_le hg4' hz1)).trans y3; clear hv2)
            | (go_at_call 46; refine (in2_any b o _).mono ?_; rintro e v1 ⟨rfl, hv1⟩; have BV1 : Hid (Below w1.heap.size w1 v1) := (by rw [hv1]; exact ⟨rfl, rfl, rfl, Nat.le_refl _, fun _ _ => rfl⟩); have k0 := (BV1.out.cell (p := ⟨gr, 0, none⟩) hgr).trans r0; have k1 := (BV1.out.cell (p := ⟨gr, 1, none⟩) hgr).trans r1; have k2 := (BV1.out.cell (p := ⟨b, o + 2, none⟩) (Nat.lt_of_lt_of_le hbA hz1)).trans y4; have k3 := (BV1.out.cell (p := ⟨g4, 0, none⟩) (Nat.lt_of_lt_of_le hg4' hz1)).trans y0; have k4 := (BV1.out.cell (p := ⟨g4, 1, none⟩) (Nat.lt_of_lt_of_le hg4' hz1)).trans y1; have k5 := (BV1.out.cell (p := ⟨g4, 2, none⟩) (Nat.lt_of_lt_of_le hg4' hz1)).trans y2; have k6 := (BV1.out.cell (p := ⟨g4, 3, none⟩) (Nat.lt_of_lt_of_le hg4' hz1)).trans y3; clear hv1)
            | fail)
          have BF : Hid (Below wA.heap.size wA v3) := B1.out.trans (BV3.out.mono B1.out.size)
          cases bb with
          | true =>
            have HN : Hid (∀ j, j < 1 + 1 → rlK ((p + q : Nat) : Int) s.row j) := fun j hj => by
              by_cases h : j < 1
              · exact HRU.out j h
              · obtain rfl : j = 1 := by omega
                exact HRL.out.1 rfl
            go_wp2_with fail
            go_roundw
            case rel => exact ⟨1 + 1, by omega, by go_num, BF, HN⟩
            case measure => simp [intOf]
          | false =>
            obtain rfl : fe = 74 := by rw [HFE.out, flt_rule hgood.out 1 (by omega) HRU.out (fun h => by have := HRL.out.2 h; cases this)]; rfl
            have r2 : v3.cell? ⟨gr, 2, none⟩ = some (.int .i64 74) := (BV3.out.cell (p := ⟨gr, 2, none⟩) hgr).trans (by rw [cell_of_row _ _ _ _ _ _ HBR1.out]; rfl)
            go_wp2_with fail
            go_ret
            exact ⟨rfl, BA.out.trans (BF.out.mono BA.out.size)⟩
        ·
          obtain ⟨an, han, han2, han3⟩ := u64_nat s.n OA.out.rn
          obtain ⟨bb, hbb⟩ : ∃ bb : Bool, bb = decide (1 ≤ an ∧ an ≤ 64) := ⟨_, rfl⟩
          have HRL : Hid (bb = true ↔ rlK ((p + q : Nat) : Int) s.row 2) := by
            show bb = true ↔ 1 ≤ s.n ∧ s.n ≤ 64
            rw [hbb, decide_eq_true_iff]
            omega
          have HMAY : Hid (∀ W, Below wA.heap.size wA W → Calls Try.prog 43 #[.int .u64 (an : Int), .int .u64 ((p + q : Nat) : Int), .pointer (some ⟨g3, 0, none⟩)] W fun e w' => e = .returned (.bool bb) ∧ w' = W) := fun W hW => by
            rw [hbb]
            exact upto_any an 64 g3 _ W han2 (TA.out.below hW).b3
          have e0 : wr.cell? ⟨gt, 6, none⟩ = some (.func (.func 47) #[] #[]) := by rw [cell_of_row _ _ _ _ _ _ HT.out]; rfl
          have e1 : wr.cell? ⟨gt, 7, none⟩ = some (.func (.func 43) #[] #[.pointer (some ⟨g3, 0, none⟩)]) := by rw [cell_of_row _ _ _ _ _ _ HT.out]; rfl
          have e2 : wr.cell? ⟨gt, 8, none⟩ = some (.int .i64 75) := by rw [cell_of_row _ _ _ _ _ _ HT.out]; rfl
          obtain ⟨w1, hw1⟩ : ∃ w1, w1 = wr.alloc (.cells #[.func (.func 47) #[] #[], .func (.func 43) #[] #[.pointer (some ⟨g3, 0, none⟩)], .int .i64 75] 57) := ⟨_, rfl⟩
          have bb1 : Below wr.heap.size wr w1 := by rw [hw1]; exact (Below.refl _ _).alloc (Nat.le_refl _) _
          have hbr : w1.heap[wr.heap.size]? = some (.cells #[.func (.func 47) #[] #[], .func (.func 43) #[] #[.pointer (some ⟨g3, 0, none⟩)], .int .i64 75] 57 (0, 0)) := by rw [hw1]; exact heap_alloc_new wr _
          have B1 : Hid (Below wA.heap.size wA w1) := HBR.out.trans (bb1.mono HBR.out.size)
          replace hbb := hide hbb
          clear bb1
          go_upto_region 6 with fail
          rw [← hw1]
          clear hw1 e0 e1 e2
          generalize wr.heap.size = gr at *
          have r0 : w1.cell? ⟨gr, 0, none⟩ = some (.func (.func 47) #[] #[]) := by rw [cell_of_row _ _ _ _ _ _ hbr]; rfl
          have r1 : w1.cell? ⟨gr, 1, none⟩ = some (.func (.func 43) #[] #[.pointer (some ⟨g3, 0, none⟩)]) := by rw [cell_of_row _ _ _ _ _ _ hbr]; rfl
          have hgr : gr < w1.heap.size := lt_of_block hbr
          have HBR1 := hide hbr
          clear hbr
          have y0 := (B1.out.cell (p := ⟨g4, 0, none⟩) hg4').trans X0.out
          have y1 := (B1.out.cell (p := ⟨g4, 1, none⟩) hg4').trans X1.out
          have y2 := (B1.out.cell (p := ⟨g4, 2, none⟩) hg4').trans X2.out
          have y3 := (B1.out.cell (p := ⟨g4, 3, none⟩) hg4').trans X3.out
          have y4 : w1.cell? ⟨b, o + 3, none⟩ = some (.int .i64 s.n) := (SA.out.below B1.out).c3
          have hz1 := B1.out.size
          go_region_held3 (fun W => W.cell? ⟨gr, 0, none⟩ = some (.func (.func 47) #[] #[]) ∧ W.cell? ⟨gr, 1, none⟩ = some (.func (.func 43) #[] #[.pointer (some ⟨g3, 0, none⟩)]) ∧ W.cell? ⟨b, o + 3, none⟩ = some (.int .i64 s.n) ∧ W.cell? ⟨g4, 0, none⟩ = some (.slice aa la ca) ∧ W.cell? ⟨g4, 1, none⟩ = some (.int .i64 (p : Int)) ∧ W.cell? ⟨g4, 2, none⟩ = some (.int .i64 (q : Int)) ∧ W.cell? ⟨g4, 3, none⟩ = some (.int .i64 z)) (go_keep) (first
            | (go_at_call 43; refine (HMAY.out v2 (B1.out.trans (BV2.out.mono B1.out.size))).mono ?_; rintro e v3 ⟨rfl, hv3⟩; have BV3 : Hid (Below w1.heap.size w1 v3) := (by rw [hv3]; exact BV2.out); have m0 := (BV3.out.cell (p := ⟨gr, 0, none⟩) hgr).trans r0; have m1 := (BV3.out.cell (p := ⟨gr, 1, none⟩) hgr).trans r1; have m2 := (BV3.out.cell (p := ⟨b, o + 3, none⟩) (Nat.lt_of_lt_of_le hbA hz1)).trans y4; have m3 := (BV3.out.cell (p := ⟨g4, 0, none⟩) (Nat.lt_of_lt_of_le hg4' hz1)).trans y0; have m4 := (BV3.out.cell (p := ⟨g4, 1, none⟩) (Nat.lt_of_lt_of_le hg4' hz1)).trans y1; have m5 := (BV3.out.cell (p := ⟨g4, 2, none⟩) (Nat.lt_of_lt_of_le hg4' hz1)).trans y2; have m6 := (BV3.out.cell (p := ⟨g4, 3, none⟩) (Nat.lt_of_lt_of_le hg4' hz1)).trans y3; clear hv3)
            | (go_at_call 53; refine (behind_any _ p q z v1 hp hq).mono ?_; rintro e v2 ⟨rfl, hv2⟩; have BV2 : Hid (Below w1.heap.size w1 v2) := BV1.out.trans (hv2.mono BV1.out.size); have l0 := (BV2.out.cell (p := ⟨gr, 0, none⟩) hgr).trans r0; have l1 := (BV2.out.cell (p := ⟨gr, 1, none⟩) hgr).trans r1; have l2 := (BV2.out.cell (p := ⟨b, o + 3, none⟩) (Nat.lt_of_lt_of_le hbA hz1)).trans y4; have l3 := (BV2.out.cell (p := ⟨g4, 0, none⟩) (Nat.lt_of_lt_of_le hg4' hz1)).trans y0; have l4 := (BV2.out.cell (p := ⟨g4, 1, none⟩) (Nat.lt_of_lt_of_le hg4' hz1)).trans y1; have l5 := (BV2.out.cell (p := ⟨g4, 2, none⟩) (Nat.lt_of_lt_of_le hg4' hz1)).trans y2; have l6 := (BV2.out.cell (p := ⟨g4, 3, none⟩) (Nat.lt_of_lt_of_le hg4' hz1)).trans y3; clear hv2)
            | (go_at_call 47; refine (in3_any b o _).mono ?_; rintro e v1 ⟨rfl, hv1⟩; have BV1 : Hid (Below w1.heap.size w1 v1) := (by rw [hv1]; exact ⟨rfl, rfl, rfl, Nat.le_refl _, fun _ _ => rfl⟩); have k0 := (BV1.out.cell (p := ⟨gr, 0, none⟩) hgr).trans r0; have k1 := (BV1.out.cell (p := ⟨gr, 1, none⟩) hgr).trans r1; have k2 := (BV1.out.cell (p := ⟨b, o + 3, none⟩) (Nat.lt_of_lt_of_le hbA hz1)).trans y4; have k3 := (BV1.out.cell (p := ⟨g4, 0, none⟩) (Nat.lt_of_lt_of_le hg4' hz1)).trans y0; have k4 := (BV1.out.cell (p := ⟨g4, 1, none⟩) (Nat.lt_of_lt_of_le hg4' hz1)).trans y1; have k5 := (BV1.out.cell (p := ⟨g4, 2, none⟩) (Nat.lt_of_lt_of_le hg4' hz1)).trans y2; have k6 := (BV1.out.cell (p := ⟨g4, 3, none⟩) (Nat.lt_of_lt_of_le hg4' hz1)).trans y3; clear hv1)
            | fail)
          have BF : Hid (Below wA.heap.size wA v3) := B1.out.trans (BV3.out.mono B1.out.size)
          cases bb with
          | true =>
            have HN : Hid (∀ j, j < 2 + 1 → rlK ((p + q : Nat) : Int) s.row j) := fun j hj => by
              by_cases h : j < 2
              · exact HRU.out j h
              · obtain rfl : j = 2 := by omega
                exact HRL.out.1 rfl
            go_wp2_with fail
            go_roundw
            case rel => exact ⟨2 + 1, by omega, by go_num, BF, HN⟩
            case measure => simp [intOf]
          | false =>
            obtain rfl : fe = 75 := by rw [HFE.out, flt_rule hgood.out 2 (by omega) HRU.out (fun h => by have := HRL.out.2 h; cases this)]; rfl
            have r2 : v3.cell? ⟨gr, 2, none⟩ = some (.int .i64 75) := (BV3.out.cell (p := ⟨gr, 2, none⟩) hgr).trans (by rw [cell_of_row _ _ _ _ _ _ HBR1.out]; rfl)
            go_wp2_with fail
            go_ret
            exact ⟨rfl, BA.out.trans (BF.out.mono BA.out.size)⟩
        · obtain rfl : fe = 0 := by rw [HFE.out]; exact flt_good hgood.out HRU.out
          go_wp2_with fail
          go_ret
          exact ⟨rfl, BA.out.trans (HBR.out.mono BA.out.size)⟩
  · obtain rfl : fe = 72 := by rw [HFE.out]; exact flt_key (.inl (by show keyE s.ks.length ≠ 0; rw [hnk, ← hek.out]; exact hk0))
    obtain rfl : ek = 3 := by have := hek.out; rcases keyE_cases nk with h | h <;> omega
    have HKQ : Hid (∀ m, Calls Try.prog 54 #[.slice s.ka nk s.kc] (wA.drewN m) fun e w' => e = .returned (.int .i64 3) ∧ ∃ m, w' = wA.drewN m) := fun m => (HKEY.out (wA.drewN m)).mono fun e w' ⟨h1, h2⟩ => ⟨h1, m, h2⟩
    go_wp2_with fail
    go_quiet ((go_at_call 54; with_reducible exact HKQ.out _))
    go_wp2_with fail
    go_ret
    exact ⟨rfl, below_of_drewNF BA.out _⟩

end Go.Proofs.Ytlachimmfjagbaa
