/- PipeCopies: the walk. -/
import Derived.Test.YtpjldnjcomdhkaaPRInst
import Derived.Test.YtpjldnjcomdhkaaPCalls
import Derived.Test.YtpjldnjcomdhkaaPSame
namespace Go.Proofs.Ytpjldnjcomdhkaa
open Go.RowKit

/-- How far the counts and the texts grow in one Copy. -/
theorem copyL_bnd {σ τ : Type} {hd : τ → List Int → Nat × Int × τ} {step : σ → List Int × Int × σ} {cnt m : σ → Nat} {cw sz : τ → Nat} (hh : ∀ t b, cw (hd t b).2.2 ≤ cw t + 33 * b.length ∧ sz (hd t b).2.2 ≤ sz t + b.length) (hs : ∀ s, (step s).1.length + m (step s).2.2 ≤ m s) (hc : ∀ s, cnt (step s).2.2 = cnt s + 1) :
    ∀ (fu : Nat) (s s' : σ) (idle : Nat) (t : τ) (k : Nat), idle < 16 → 17 * m s + (16 - idle) ≤ fu →
      cnt (copyL hd (chunkL step fu s idle) s' t k).2.2.1 ≤ cnt s + 17 * m s + (16 - idle) ∧ cw (copyL hd (chunkL step fu s idle) s' t k).2.2.2 + 33 * m (copyL hd (chunkL step fu s idle) s' t k).2.2.1 ≤ cw t + 33 * m s ∧ sz (copyL hd (chunkL step fu s idle) s' t k).2.2.2 + m (copyL hd (chunkL step fu s idle) s' t k).2.2.1 ≤ sz t + m s
  | 0, s, s', idle, t, k, hi, hf => absurd hf (by omega)
  | fu + 1, s, s', idle, t, k, hi, hf => by
    have h1 := hs s
    have h2 := hc s
    have h3 := hh t (step s).1
    by_cases hb : (step s).1 = [] ∧ (step s).2.1 = 0
    · rw [chunkL_idle (by omega) hb.1 hb.2]
      rw [hb.1] at h1 h3
      simp only [List.length_nil] at h1 h3
      by_cases h16 : idle + 1 < 16
      · rw [if_pos h16]
        have := copyL_bnd hh hs hc fu (step s).2.2 s' (idle + 1) t k h16 (by omega)
        simp only [Nat.add_sub_cancel]
        omega
      · rw [if_neg h16, copyL]
        split
        · simp only; omega
        · rw [if_neg (by simp), if_pos (by simp)]
          simp only
          omega
    · rw [chunkL_some (by omega) hb, copyL]
      split
      · simp only; omega
      · split
        · simp only; omega
        · split
          · simp only; omega
          · rename_i q1 q2 q3
            have he : (step s).2.1 = 0 := by simpa using q3
            rw [if_pos he]
            have hl : 0 < (step s).1.length := List.length_pos_iff.2 (fun e => hb ⟨e, he⟩)
            have := copyL_bnd hh hs hc fu (step s).2.2 (step s).2.2 0 (hd t (step s).1).2.2 (k + (hd t (step s).1).1) (by omega) (by omega)
            simp only [Nat.add_sub_cancel]
            omega
theorem copySS_bnd (zs gs ts : List Int) (fail fail2 : Int) (eager : Bool) (size : Int) (c k c2 : Nat) (ys : List Int) {n : Nat} {e : Int} {c' k' c2' : Nat} {ys' : List Int} (hr : (n, e, (c', k'), (c2', ys')) = copyL (handA (snkWf ts fail2)) (srcAll zs gs fail eager size (c, k)) (c, k) (c2, ys) 0) :
    c' ≤ c + 17 * zs.length + 16 ∧ c2' + 33 * (zs.length - k') ≤ c2 + 33 * (zs.length - k) ∧ ys'.length + (zs.length - k') ≤ ys.length + (zs.length - k) := by
  unfold srcAll at hr
  split at hr
  · have h := copyL_bnd (hd := handA (snkWf ts fail2)) (step := stp size.toNat (srcRd zs gs fail eager size.toNat)) (cnt := Prod.fst) (m := fun s : Nat × Nat => zs.length - s.2) (cw := Prod.fst) (sz := fun t : Nat × List Int => t.2.length) (fun t b => by have := handA_cnt (snk_writer ts fail2 0 0) t b; exact ⟨this.1, this.2.1⟩) (src_stp zs gs fail eager _) (fun s => by unfold stp; split <;> rfl) (17 * (zs.length - k) + 16) (c, k) (c, k) 0 (c2, ys) 0 (by omega) (by simp only; omega)
    unfold chunkA at hr
    rw [← hr] at h
    simp only at h
    omega
  · rw [copyL, show handA (snkWf ts fail2) (c2, ys) [] = (0, 0, (c2, ys)) from handF_done _ _ _ _] at hr
    simp at hr
    obtain ⟨_, _, ⟨rfl, rfl⟩, rfl, rfl⟩ := hr
    omega

theorem row_lt3 {w : World} {k : IntKind} {a : Option Addr} {zs : List Int} (h : Row w k a zs) {x : Addr} (hx : a = some x) (hp : 0 < zs.length) : x.block < w.heap.size := by
  obtain ⟨b, o, h1, h2, _⟩ := h.cons hp
  rw [hx] at h1
  cases h1
  exact h2

/-- At the head of a round. -/
structure CB (w3 W : World) (N : Nat) (zs gs ts : List Int) (fail fail2 : Int) (eager : Bool) (ab : Option Addr) (lb cb : Nat) (ag : Option Addr) (lg cg : Nat) (at' : Option Addr) (lt ct : Nat) (g g2 r r2 c k c2 i : Nat) (ys : List Int) (M M2 M3 M4 : Nat → Prop) : Prop where
  src : SrcAt W M zs gs fail eager g c k
  snk : SnkAt W N M2 ts fail2 g2 c2 ys
  rsr : RSrcRd zs gs fail eager ab lb cb ag lg cg r N W (c, k) M3
  rsn : RSAt W N M4 at' lt ct ts fail2 r2 c2 ys
  mN : ∀ j, M j → N ≤ j
  d12 : ∀ j, M j → ¬ M2 j
  d13 : ∀ j, M j → ¬ M3 j
  d14 : ∀ j, M j → ¬ M4 j
  d23 : ∀ j, M2 j → ¬ M3 j
  d24 : ∀ j, M2 j → ¬ M4 j
  d34 : ∀ j, M3 j → ¬ M4 j
  up : Upd (fun j => N ≤ j) w3 W
  hN : N ≤ W.heap.size
  bc : c ≤ i * (17 * zs.length + 16)
  bc2 : c2 + 33 * (zs.length - k) ≤ 33 * zs.length
  bys : ys.length + (zs.length - k) ≤ zs.length

theorem CB.upd {w3 W W' : World} {N : Nat} {zs gs ts : List Int} {fail fail2 : Int} {eager : Bool} {ab : Option Addr} {lb cb : Nat} {ag : Option Addr} {lg cg : Nat} {at' : Option Addr} {lt ct : Nat} {g g2 r r2 c k c2 i : Nat} {ys : List Int} {M M2 M3 M4 : Nat → Prop} (hz8 : B8 zs) (hlb : zs.length = lb) (hlg : gs.length = lg) (hm : lb ≤ 140737488355328)
    (h : CB w3 W N zs gs ts fail fail2 eager ab lb cb ag lg cg at' lt ct g g2 r r2 c k c2 i ys M M2 M3 M4) (hu : Upd Noth W W') : CB w3 W' N zs gs ts fail fail2 eager ab lb cb ag lg cg at' lt ct g g2 r r2 c k c2 i ys M M2 M3 M4 :=
  ⟨h.src.upd hu (fun _ _ e => e), h.snk.upd hu (fun _ _ e => e), (rsrc_reader zs gs fail eager ab lb cb ag lg cg 0 r N hz8 (by omega) hlb hlg hm).upd h.rsr hu (fun _ e => e.elim), h.rsn.upd hu (fun _ e => e.elim), h.mN, h.d12, h.d13, h.d14, h.d23, h.d24, h.d34, h.up.trans hu.noth, Nat.le_trans h.hN hu.size, h.bc, h.bc2, h.bys⟩

theorem way_cells {W : World} {g : Nat} {a b c d e f h : Value} (q : W.heap[g]? = some (.cells #[a, b, c, d, e, f, h] 62 (0, 0))) : W.cell? ⟨g, 0, none⟩ = some a ∧ W.cell? ⟨g, 1, none⟩ = some b ∧ W.cell? ⟨g, 2, none⟩ = some c ∧ W.cell? ⟨g, 3, none⟩ = some d ∧ W.cell? ⟨g, 4, none⟩ = some e ∧ W.cell? ⟨g, 5, none⟩ = some f ∧ W.cell? ⟨g, 6, none⟩ = some h := by
  refine ⟨?_, ?_, ?_, ?_, ?_, ?_, ?_⟩ <;> (rw [cell_of_row _ _ _ _ _ _ q]; rfl)

set_option maxRecDepth 100000 in
set_option maxHeartbeats 3200000 in
theorem pipeCopies_any (ab ag at' : Option Addr) (lb cb lg cg lt ct : Nat) (zs gs ts : List Int) (fail fail2 size : Int) (eager : Bool) (w : World)
    (hlb : zs.length = lb) (hlg : gs.length = lg) (hlt : ts.length = lt) (hm : lb ≤ 140737488351232) (hmg : lg * 8 ≤ 140737488351232) (hmt : lt * 8 ≤ 140737488351232)
    (nb : ab = none → lb = 0 ∧ cb = 0) (ng : ag = none → lg = 0 ∧ cg = 0) (nt : at' = none → lt = 0 ∧ ct = 0) (rb : Row w .u8 ab zs) (rg : Row w .i64 ag gs) (rt : Row w .i64 at' ts) (b8 : B8 zs) :
    Calls Try.prog 7 #[.agg #[.slice ab lb cb, .slice ag lg cg, .int .i64 fail, .bool eager, .slice at' lt ct, .int .i64 fail2, .int .i64 size]] w fun e w' => e = .returned (.bool true) ∧ Below w.heap.size w w' := by
  have HRB := hide rb
  have HRG := hide rg
  have HRT := hide rt
  have HNB := hide nb
  have HNG := hide ng
  have HNT := hide nt
  have HB8 := hide b8
  have hf1 := heap_alloc_new w (.cells #[.slice ab lb cb, .slice ag lg cg, .int .i64 fail, .bool eager, .slice at' lt ct, .int .i64 fail2, .int .i64 size] 62)
  have hbA : Below w.heap.size w (w.alloc (.cells #[.slice ab lb cb, .slice ag lg cg, .int .i64 fail, .bool eager, .slice at' lt ct, .int .i64 fail2, .int .i64 size] 62)) := (Below.refl _ _).alloc (Nat.le_refl _) _
  have hzA : (w.alloc (.cells #[.slice ab lb cb, .slice ag lg cg, .int .i64 fail, .bool eager, .slice at' lt ct, .int .i64 fail2, .int .i64 size] 62)).heap.size = w.heap.size + 1 := by simp
  clear rb rg rt nb ng nt b8
  go_enter Try.func7, Try.ntmps7
  go_wp2_with fail
  generalize w.alloc (.cells #[.slice ab lb cb, .slice ag lg cg, .int .i64 fail, .bool eager, .slice at' lt ct, .int .i64 fail2, .int .i64 size] 62) = wA at *
  obtain ⟨gA, hgA⟩ : ∃ gA, gA = w.heap.size := ⟨_, rfl⟩
  rw [← hgA] at hf1 hbA hzA ⊢
  replace hgA := hide hgA
  refine (lives_any wA).mono ?_
  rintro e w1 ⟨rfl, hb1⟩
  have hF := (hb1.block gA (by omega)).trans hf1
  have hb01 : Below gA w w1 := hbA.trans (hb1.mono (by omega))
  have hz1' : gA + 1 ≤ w1.heap.size := by have := hb1.size; omega
  clear hf1 hbA hb1 hzA
  have c0 := (way_cells hF).1
  have c1 := (way_cells hF).2.1
  have c2 := (way_cells hF).2.2.1
  have c3 := (way_cells hF).2.2.2.1
  have HF := hide hF
  clear hF
  go_wp2_with fail
  refine (source_any ab ag lb cb lg cg zs gs fail eager w1 hlb hlg (by omega) (by omega) HNB.out HNG.out (HRB.out.below2 (hgA.out ▸ hb01)) (HRG.out.below2 (hgA.out ▸ hb01))).mono ?_
  rintro e w2 ⟨g, M, r, rfl, hS, hM, hR, hr, hb2⟩
  have hb02 : Below gA w w2 := hb01.trans (hb2.mono (by omega))
  have HF2 := hide ((hb2.block gA (by omega)).trans HF.out)
  have c4 := (way_cells HF2.out).2.2.2.2.1
  have c5 := (way_cells HF2.out).2.2.2.2.2.1
  have hz2' : gA + 1 ≤ w2.heap.size := by have := hb2.size; omega
  have HS := hide hS
  have HM := hide hM
  have HR := hide hR
  replace hr := hide hr
  clear hS hM hR hb2 HF c0 c1 c2 c3
  go_wp2_with fail
  refine (sink_any at' lt ct ts fail2 w2 hlt (by omega) HNT.out (HRT.out.below2 (hgA.out ▸ hb02))).mono ?_
  rintro e w3 ⟨g2, M2, r2, rfl, hK, hM2, hR2, hr2, hb3⟩
  have hb03 : Below gA w w3 := hb02.trans (hb3.mono (by omega))
  have HF3 := hide ((hb3.block gA (by omega)).trans HF2.out)
  have hz3 : gA + 1 ≤ w3.heap.size := by have := hb3.size; omega
  have H0 : Hid (CB w3 w3 (gA + 1) zs gs ts fail fail2 eager ab lb cb ag lg cg at' lt ct g g2 r r2 0 0 0 0 [] M M2 (fun i => i = r) (fun i => i = r2)) := by
    have hml := HS.out.lt.1
    have hkl := hK.lt
    have hrl := lt_of_block HR.out
    have hr1 := hr.out
    refine hide ⟨HS.out.upd (Upd.of_below hb3 Noth) (fun _ _ e => e), hK.mono (by omega), ⟨fun _ => Iff.rfl, HR.out.upd (Upd.of_below hb3 Noth) (fun e => e), HRB.out.below2 (hgA.out ▸ hb03), HRG.out.below2 (hgA.out ▸ hb03), Nat.zero_le _, by omega, fun x hx h0 => ?_, fun x hx h0 => ?_⟩, ⟨none, 0, hR2, HRT.out.below2 (hgA.out ▸ hb03), fun x hx h0 => ?_, World.ownsRow_nil _ _ _ _, (fun i hi => by cases hi), rfl, fun i hi => ?_⟩, fun j hj => ?_, fun j hj e => ?_, fun j hj e => ?_, fun j hj e => ?_, fun j hj e => ?_, fun j hj e => ?_, fun j hj e => ?_, Upd.refl _ _, hz3, ?_, ?_, ?_⟩
    · have := row_lt3 HRB.out hx (by omega); have := hgA.out; omega
    · have := row_lt3 HRG.out hx (by omega); have := hgA.out; omega
    · have := row_lt3 HRT.out hx (by omega); have := hgA.out; omega
    · have := lt_of_block hR2; have e' : i = r2 := hi; omega
    · have := (HM.out j hj).1; omega
    · have := hml j hj; have := (hkl j e).1; omega
    · exact (HM.out j hj).2 e
    · have := hml j hj; have e' : j = r2 := e; omega
    · have := (hkl j hj).1; have e' : j = r := e; omega
    · exact hM2 j hj e
    · have e1 : j = r := hj; have e2 : j = r2 := e; omega
    · omega
    · simp
    · simp
  have HB03 := hide hb03
  clear hK hM2 hR2 hr2 hb3 hb01 hb02 hb03 HF2 c4 c5 HS HM HR hr hz1' hz2'
  go_wp2_with fail
  go_loopw [8] (fun q wr => ∃ (i c k c2 : Nat) (ys : List Int) (N2 N3 N4 : Nat → Prop), i ≤ 2 ∧ q = .int .i64 i ∧ Hid (CB w3 wr (gA + 1) zs gs ts fail fail2 eager ab lb cb ag lg cg at' lt ct g g2 r r2 c k c2 i ys M N2 N3 N4)) (fun q _ => 2 - (intOf q).toNat)
  case atStart => exact ⟨0, 0, 0, 0, [], M2, _, _, by omega, rfl, H0⟩
  case round =>
    clear H0
    obtain ⟨i, c, k, c2, ys, N2, N3, N4, hi, rfl, HB⟩ := hrel
    by_cases hlt2 : i < 2
    · have hi2 : (i : Int) < 2 := by omega
      have h6 := (way_cells (HB.out.up.heap HF3.out (fun e => by omega))).2.2.2.2.2.2
      have hk := HB.out.src.lt.2.2
      have hml := HB.out.src.lt.1
      have hkl := HB.out.snk.lt
      have hbc : c ≤ 17 * zs.length + 16 := Nat.le_trans HB.out.bc (Nat.le_trans (Nat.mul_le_mul_right _ (show i ≤ 1 by omega)) (by omega))
      have hbc2 := HB.out.bc2
      have hbys := HB.out.bys
      have HCO := hide (copySS_any zs gs ts fail fail2 eager size g g2 (gA + 1) M N2 wr c k c2 ys HB8.out HB.out.src HB.out.mN HB.out.snk HB.out.d12 HB.out.hN (by omega) (by omega) (by omega))
      have HRC : Hid (∀ w4, Upd (fun i => M i ∨ N2 i) wr w4 → Calls Try.prog 25 #[.pointer (some ⟨r2, 0, none⟩), .pointer (some ⟨r, 0, none⟩), .int .i64 size] w4 fun e W' => RCPost (RSrcRd zs gs fail eager ab lb cb ag lg cg r (gA + 1)) (RSWd at' lt ct ts fail2 r2 (gA + 1)) (copyL (handA (snkWf ts fail2)) (srcAll zs gs fail eager size (c, k)) (c, k) (c2, ys) 0) N3 N4 w4 e W') := hide (fun w4 hu4 =>
        rcopySS_any zs gs ts fail fail2 eager size ab lb cb ag lg cg at' lt ct r r2 (gA + 1) N3 N4 w4 c k c2 ys HB8.out hlb hlg (by omega) hlt ((rsrc_reader zs gs fail eager ab lb cb ag lg cg 0 r (gA + 1) HB8.out (by omega) hlb hlg (by omega)).upd HB.out.rsr hu4 (fun j e => e.elim (fun e => ⟨HB.out.mN j e, HB.out.d13 j e⟩) (fun e => ⟨(hkl j e).1, HB.out.d23 j e⟩))) (HB.out.rsn.upd hu4 (fun j e => e.elim (fun e => ⟨HB.out.mN j e, HB.out.d14 j e⟩) (fun e => ⟨(hkl j e).1, HB.out.d24 j e⟩))) HB.out.d34 (Nat.le_trans HB.out.hN hu4.size) (by omega) (by omega) (by omega))
      obtain ⟨res, hres⟩ : ∃ res, res = copyL (handA (snkWf ts fail2)) (srcAll zs gs fail eager size (c, k)) (c, k) (c2, ys) 0 := ⟨_, rfl⟩
      rw [← hres] at HCO HRC
      obtain ⟨n, er, ⟨c', k'⟩, ⟨c2', ys'⟩⟩ := res
      have HBN := hide (copySS_bnd zs gs ts fail fail2 eager size c k c2 ys hres)
      clear hres hbys hbc2
      replace hbc := hide hbc
      replace hml := hide hml
      replace hkl := hide hkl
      go_wp2_with fail
      refine HCO.out.mono ?_
      rintro e w4 ⟨rfl, ⟨_, hS4, _⟩, ⟨P2, hK4, hP2⟩, hu4⟩
      have h6' := hu4.cell h6 (fun e => e.elim (fun e => by have e' : M gA := e; have := HB.out.mN gA e'; omega) (fun e => by have e' : N2 gA := e; have := (hkl.out gA e').1; omega))
      have HU4 := hide hu4
      have HS4 := hide hS4
      have HK4 : Hid (SnkAt w4 (gA + 1) P2 ts fail2 g2 c2' ys') := hide hK4
      replace hP2 := hide hP2
      have hz4 := hu4.size
      clear hS4 hK4 hu4 HCO h6
      go_wp2_with fail
      refine (HRC.out w4 HU4.out).mono ?_
      rintro e w5 ⟨rfl, ⟨P3, hR5, hP3⟩, ⟨P4, hK5, hP4⟩, hu5⟩
      have HNEW : Hid (CB w3 w5 (gA + 1) zs gs ts fail fail2 eager ab lb cb ag lg cg at' lt ct g g2 r r2 c' k' c2' (i + 1) ys' M P2 P3 P4) := by
        have e3 : ∀ j, N3 j ↔ j = r := HB.out.rsr.1
        have e3' : ∀ j, P3 j ↔ j = r := hR5.1
        have hrl : r < wr.heap.size := lt_of_block HB.out.rsr.2.1
        have h4l := HB.out.rsn.lt.1
        have hp2l := HK4.out.lt
        have hnn : ∀ j, P2 j → ¬ (N3 j ∨ N4 j) := fun j hj e => (hP2.out j hj).elim (fun h => e.elim (fun e => HB.out.d23 j h e) (fun e => HB.out.d24 j h e)) (fun h => e.elim (fun e => by have := (e3 j).1 e; omega) (fun e => by have := (h4l j e).2; omega))
        have hbn := HBN.out
        refine hide ⟨HS4.out.upd hu5 (fun j hj e => e.elim (fun e => HB.out.d13 j hj e) (fun e => HB.out.d14 j hj e)), HK4.out.upd hu5 hnn, hR5, hK5, HB.out.mN, fun j hj e => ?_, fun j hj e => HB.out.d13 j hj ((e3 j).2 ((e3' j).1 e)), fun j hj e => ?_, fun j hj e => hnn j hj (.inl ((e3 j).2 ((e3' j).1 e))), fun j hj e => ?_, fun j hj e => ?_, (HB.out.up.then HU4.out (fun j _ e => e.elim (fun e => HB.out.mN j e) (fun e => (hkl.out j e).1))).then hu5 (fun j _ e => e.elim (fun e => by have := (e3 j).1 e; have := HB.out.rsr.2.2.2.2.2.1; omega) (fun e => (h4l j e).1)), Nat.le_trans HB.out.hN (Nat.le_trans hz4 hu5.size), ?_, ?_, ?_⟩
        · exact (hP2.out j e).elim (fun h => HB.out.d12 j hj h) (fun h => by have := hml.out j hj; omega)
        · exact (hP4 j e).elim (fun h => HB.out.d14 j hj h) (fun h => by have := hml.out j hj; omega)
        · exact (hP4 j e).elim (fun h => hnn j hj (.inr h)) (fun h => by have := (hp2l j hj).2; omega)
        · have := (e3' j).1 hj
          exact (hP4 j e).elim (fun h => HB.out.d34 j ((e3 j).2 this) h) (fun h => by omega)
        · have := HB.out.bc; have := hbn.1; rw [Nat.add_mul]; omega
        · have := HB.out.bc2; have := hbn.2.1; omega
        · have := HB.out.bys; have := hbn.2.2; omega
      have hyl : ys'.length ≤ 140737488355328 := by have := HNEW.out.bys; omega
      have HBY := hide (sbytes_any HNEW.out.snk hyl)
      clear hR5 hP3 hK5 hP4 hu5 HRC HU4 HS4 HK4 hP2 hz4 h6' HBN hbc hml hkl HB
      go_wp2_with fail
      refine HBY.out.mono ?_
      rintro e w6 ⟨v, rfl, hv6, hb6⟩
      obtain ⟨a6, k6, rfl, _, _, _⟩ := hv6.sliceN (n := ys'.length) rfl
      have HN6 := hide (HNEW.out.upd HB8.out hlb hlg (by omega) (Upd.of_below hb6 Noth))
      obtain ⟨ay, cy, hRS⟩ := HN6.out.rsn
      have k3 := (rsnk_cells hRS.blk).2.2.2.1
      obtain ⟨ay', cy', hvv, hrow⟩ := owns_slice hRS.own
      simp only [Value.slice.injEq, true_and] at hvv
      obtain ⟨rfl, rfl⟩ := hvv
      have HSM := hide (sameq a6 ay ys'.length k6 cy ys' w6 (by unfold maxLen; omega) rfl hv6.row hrow)
      clear hv6 hb6 hRS hrow HBY
      generalize hL : ys'.length = L at *
      replace hL := hide hL
      go_wp2_with fail
      refine HSM.out.mono ?_
      rintro e w7 ⟨rfl, m7, hw7⟩
      have hw7' := hw7
      subst hw7'
      have HN7 := hide (HN6.out.upd HB8.out hlb hlg (by omega) (((Still.refl w6).drewN m7).upd Noth))
      generalize w6.drewN m7 = w7 at *
      clear HSM HN6 k3
      go_wp2_with fail
      refine keep (calls_any HN7.out.src) ?_
      go_wp2_with fail
      refine keep (scalls_any HN7.out.snk) ?_
      have d4 := (rsrc_cells HN7.out.rsr.2.1).2.2.2.2.1
      obtain ⟨ay2, cy2, hRS2⟩ := HN7.out.rsn
      have d2 := (rsnk_cells hRS2.blk).2.2.1
      clear hRS2 HNEW
      go_wp2_with fail
      exact ⟨⟨i + 1, c', k', c2', ys', P2, P3, P4, by omega, by go_num, HN7⟩, by simp [intOf]; omega⟩
    · obtain rfl : i = 2 := by omega
      have HE : Hid (Below w.heap.size w wr) := hide (by
        rw [← hgA.out]
        exact HB03.out.trans (HB.out.up.below (by omega) (fun b hb e => by omega)))
      rw [show ((2 : Nat) : Int) = 2 from rfl]
      go_wp2_with fail
      go_ret
      exact ⟨rfl, HE.out⟩

end Go.Proofs.Ytpjldnjcomdhkaa
