/- CursorIns: the walk. -/
import Derived.Test.YtjcanghffhpncaaG31
import Derived.Test.YtjcanghffhpncaaG32
import Derived.Deep.MidRow
namespace Go.Proofs.Ytjcanghffhpncaa
open Go.RowKit

theorem infoAsk : (Try.prog.info? 65).map (·.size) = some 2 := by kernel_rfl
theorem range_below {B g o : Nat} {w w' : World} {cs : List Value} (hb : Below B w w') (hg : g < B) (h : w.rangeAt g o cs) : w'.rangeAt g o cs :=
  fun j v hv => (hb.cell (p := ⟨g, o + j, none⟩) hg).trans (h j v hv)
/-- What is asked, as it came in. -/
structure IsAsks (w : World) (a : Option Addr) (len : Nat) (Kf Nf : Nat → Int) : Prop where
  cells : ∀ i, i < len → ∃ b o, a = some ⟨b, o, none⟩ ∧ w.rangeAt b (o + i * 2) [.int .i64 (Kf i), .int .i64 (Nf i)]
  top : ∀ i, i < len → Nf i ≤ 9223372036854775807

theorem rsrc_fam (zs gs : List Int) (fail : Int) (eager : Bool) (ab : Option Addr) (lb cb : Nat) (ag : Option Addr) (lg cg : Nat) (g B : Nat) (hz8 : B8 zs) (hlb : zs.length = lb) (hlg : gs.length = lg) (hm : lb ≤ 140737488355328) : RFam (fun k => srcRd zs gs fail eager k) Prod.fst (fun s => zs.length - s.2) (fun s => zs.length - s.2) 66 (.pointer (some ⟨g, 0, none⟩)) B (RSrcRd zs gs fail eager ab lb cb ag lg cg g B) where
  R := fun k _ h => rsrc_reader zs gs fail eager ab lb cb ag lg cg k g B hz8 (by omega) hlb hlg hm
  vol := fun k s _ _ => by
    have := srcN_le zs gs fail (s.1 + 1) s.2 k
    simp only [srcRd, List.length_take, List.length_drop]
    omega

theorem IsIn.src {zs gs : List Int} {fail : Int} {eager : Bool} {g B gc : Nat} {M0 : Nat → Prop} {r : Value} {W : World} {x : InS (Nat × Nat)} {F : Nat → Prop} (h : IsIn (SrcRd zs gs fail eager g B M0) B gc r W x F) : SrcAt W M0 zs gs fail eager g x.s.1 x.s.2 := by
  obtain ⟨hv, M, _, hr, _⟩ := h
  exact hr.2.1
theorem IsRIn.src {zs gs : List Int} {fail : Int} {eager : Bool} {ab : Option Addr} {lb cb : Nat} {ag : Option Addr} {lg cg : Nat} {g B gd most : Nat} {W : World} {x : InS (Nat × Nat)} {F : Nat → Prop} (h : IsRIn (RSrcRd zs gs fail eager ab lb cb ag lg cg g B) B gd g most W x F) : RSrc0 W g (.slice ab lb cb) (.slice ag lg cg) fail eager x.s.1 x.s.2 := by
  obtain ⟨hv, hs, i, M, _, hr, _⟩ := h
  exact hr.2.1
theorem AP.trans {σ : Type} {Rd1 Rd2 : World → σ → (Nat → Prop) → Prop} {B gc gd g2 most : Nat} {r : Value} {W0 W1 W2 : World} {F0 G0 F1 G1 F2 G2 : Nat → Prop} {x y : InS σ} (h : AP Rd1 Rd2 B gc gd g2 most r W0 F0 G0 W1 x F1 G1) (k : AP Rd1 Rd2 B gc gd g2 most r W1 F1 G1 W2 y F2 G2) : AP Rd1 Rd2 B gc gd g2 most r W0 F0 G0 W2 y F2 G2 := by
  have hz := h.up.size
  exact ⟨k.a, k.b, fun j hj => (k.fs j hj).elim (fun e => h.fs j e) (fun e => .inr (by omega)), fun j hj => (k.gs j hj).elim (fun e => h.gs j e) (fun e => .inr (by omega)), k.dis, h.up.then k.up (fun j hj e => e.elim (fun e => (h.fs j e).elim .inl (fun e => by omega)) (fun e => (h.gs j e).elim .inr (fun e => by omega)))⟩

theorem AP.drew {σ : Type} {RD : Nat → σ → Int × Int × List Int × σ} {cnt m vol : σ → Nat} {f1 f2 : FuncId} {recv1 recv2 : Value} {Rd1 Rd2 : World → σ → (Nat → Prop) → Prop} {B gc gd g2 most : Nat} {r : Value} {W0 W : World} {F0 G0 F1 G1 : Nat → Prop} {x : InS σ} (X : RFam RD cnt m vol f1 recv1 B Rd1) (Y : RFam RD cnt m vol f2 recv2 B Rd2) (h : Hid (AP Rd1 Rd2 B gc gd g2 most r W0 F0 G0 W x F1 G1)) (n : Nat) : Hid (AP Rd1 Rd2 B gc gd g2 most r W0 F0 G0 (W.drewN n) x F1 G1) :=
  hide (h.out.upd X Y (((Still.refl W).drewN n).upd Noth) (fun _ e => e.elim) (fun _ _ e => e.elim))

theorem three_new (W : World) (a b c : Obj) : ((W.alloc a).alloc b |>.alloc c).heap[W.heap.size]? = some a ∧ ((W.alloc a).alloc b |>.alloc c).heap[W.heap.size + 1]? = some b ∧ ((W.alloc a).alloc b |>.alloc c).heap[W.heap.size + 2]? = some c := by
  have hs : ∀ (V : World) (x : Obj) (k : Nat), V.heap.size = k → (V.alloc x).heap[k]? = some x := fun V x k h => by rw [← h]; exact World.alloc_heap_new V x
  have ho : ∀ (V : World) (x : Obj) (k : Nat), k < V.heap.size → (V.alloc x).heap[k]? = V.heap[k]? := fun V x k h => Below.heap_alloc V x k h
  refine ⟨?_, ?_, hs _ _ _ (by simp)⟩
  · rw [ho _ _ _ (by simp only [World.size_alloc]; omega), ho _ _ _ (by simp)]; exact hs _ _ _ rfl
  · rw [ho _ _ _ (by simp)]; exact hs _ _ _ (by simp)

set_option maxRecDepth 100000 in
set_option maxHeartbeats 3200000 in
theorem cursorIns_any (ab ag as' : Option Addr) (lb cb lg cg ls cs : Nat) (zs gs : List Int) (fail : Int) (eager : Bool) (most : Int) (Kf Nf : Nat → Int) (w : World)
    (hlb : zs.length = lb) (hlg : gs.length = lg) (hm : lb ≤ 140737488351232) (hmg : lg * 8 ≤ 140737488351232) (hms : ls * 16 ≤ 140737488351232) (hmost : most ≤ 9223372036854775807)
    (nb : ab = none → lb = 0 ∧ cb = 0) (ng : ag = none → lg = 0 ∧ cg = 0) (rb : Row w .u8 ab zs) (rg : Row w .i64 ag gs) (b8 : B8 zs) (hA : IsAsks w as' ls Kf Nf) :
    Calls Try.prog 4 #[.agg #[.slice ab lb cb, .slice ag lg cg, .int .i64 fail, .bool eager], .int .i64 most, .slice as' ls cs] w fun e w' => e = .returned (.bool true) ∧ Below w.heap.size w w' := by
  have HRB := hide rb
  have HRG := hide rg
  have HA := hide hA
  have HNB := hide nb
  have HNG := hide ng
  have HB8 := hide b8
  have hf1 := heap_alloc_new w (.cells #[.slice ab lb cb, .slice ag lg cg, .int .i64 fail, .bool eager] 26)
  have hbA : Below w.heap.size w (w.alloc (.cells #[.slice ab lb cb, .slice ag lg cg, .int .i64 fail, .bool eager] 26)) := (Below.refl _ _).alloc (Nat.le_refl _) _
  have hzA : (w.alloc (.cells #[.slice ab lb cb, .slice ag lg cg, .int .i64 fail, .bool eager] 26)).heap.size = w.heap.size + 1 := by simp
  obtain ⟨mo, hmo⟩ : ∃ mo : Nat, (mo : Int) = max 0 most := ⟨(max 0 most).toNat, by omega⟩
  have hmo2 : mo ≤ 9223372036854775807 := by omega
  have HMO : Hid ((if (0 : Int) < most then most else 0) = (mo : Int)) := hide (by split <;> omega)
  have HMO2 : Hid ((if most < (0 : Int) then 0 else most) = (mo : Int)) := hide (by split <;> omega)
  replace hmo := hide hmo
  clear rb rg nb ng b8 hA
  go_enter Try.func4, Try.ntmps4
  go_wp2_with fail
  generalize w.alloc (.cells #[.slice ab lb cb, .slice ag lg cg, .int .i64 fail, .bool eager] 26) = wA at *
  obtain ⟨gA, hgA⟩ : ∃ gA, gA = w.heap.size := ⟨_, rfl⟩
  rw [← hgA] at hf1 hbA hzA ⊢
  replace hgA := hide hgA
  refine (lives_any wA).mono ?_
  rintro e w1 ⟨rfl, hb1⟩
  have hF := (hb1.block gA (by omega)).trans hf1
  have hb01 : Below gA w w1 := hbA.trans (hb1.mono (by omega))
  have hz1' : gA + 1 ≤ w1.heap.size := by have := hb1.size; omega
  clear hf1 hbA hb1 hzA
  have c0 := (feed_cells hF).1
  have c1 := (feed_cells hF).2.1
  have c2 := (feed_cells hF).2.2.1
  have c3 := (feed_cells hF).2.2.2.1
  have HF := hide hF
  have HNS := hide (newSource_any ab ag lb cb lg cg zs gs fail eager w1 hlb hlg (by omega) (by omega) HNB.out HNG.out (HRB.out.below2 (hgA.out ▸ hb01)) (HRG.out.below2 (hgA.out ▸ hb01)))
  clear hF
  go_wp2_with fail
  refine HNS.out.mono ?_
  rintro e w2 ⟨g, M, rfl, hS, hM, hb2⟩
  have hb02 : Below gA w w2 := hb01.trans (hb2.mono (by omega))
  have hF2 := (hb2.block gA (by omega)).trans HF.out
  have hz2 : w1.heap.size ≤ w2.heap.size := hb2.size
  have d0 := (feed_cells hF2).1
  have d1 := (feed_cells hF2).2.1
  have d2 := (feed_cells hF2).2.2.1
  have d3 := (feed_cells hF2).2.2.2.1
  obtain ⟨B, hBe⟩ : ∃ B, B = w1.heap.size := ⟨_, rfl⟩
  rw [← hBe] at hM hz2 hz1'
  have HS := hide hS
  have HM := hide hM
  have HF2 := hide hF2
  have HB02 := hide hb02
  clear hS hM hb2 hb01 c0 c1 c2 c3 HF HNS hF2 hBe hb02
  have HNI := hide (newIn_any 29 (.pointer (some ⟨g, 0, none⟩)) most mo (w2.alloc (.cells #[.slice ab lb cb, .slice ag lg cg, .int .i64 fail, .bool eager, .int .i64 0, .int .i64 0, .bool false, .slice none 0 0, .slice none 0 0, .int .u8 0, .int .u8 0, .slice none 0 0] 59)) hmo.out)
  go_wp2_with fail
  refine HNI.out.mono ?_
  rintro e w3 ⟨rfl, rfl⟩
  go_upto_region 8 with fail
  rw [HMO.out]
  have hne := three_new w2 (.cells #[.slice ab lb cb, .slice ag lg cg, .int .i64 fail, .bool eager, .int .i64 0, .int .i64 0, .bool false, .slice none 0 0, .slice none 0 0, .int .u8 0, .int .u8 0, .slice none 0 0] 59) (.cells #[.int .i64 0, .int .i64 0, .int .i64 0, .iface 29 (.pointer (some ⟨g, 0, none⟩)), .int .i64 (mo : Int), .slice none 0 0] 47) (.cells #[.pointer (some ⟨w2.heap.size, 0, none⟩), .int .i64 (mo : Int), .int .i64 0, .int .i64 0, .slice none 0 0, .int .i64 0] 62)
  have hU : Upd Noth w2 (((w2.alloc (.cells #[.slice ab lb cb, .slice ag lg cg, .int .i64 fail, .bool eager, .int .i64 0, .int .i64 0, .bool false, .slice none 0 0, .slice none 0 0, .int .u8 0, .int .u8 0, .slice none 0 0] 59)).alloc (.cells #[.int .i64 0, .int .i64 0, .int .i64 0, .iface 29 (.pointer (some ⟨g, 0, none⟩)), .int .i64 (mo : Int), .slice none 0 0] 47)).alloc (.cells #[.pointer (some ⟨w2.heap.size, 0, none⟩), .int .i64 (mo : Int), .int .i64 0, .int .i64 0, .slice none 0 0, .int .i64 0] 62)) := (((Upd.refl _ _).alloc _).alloc _).alloc _
  generalize (((w2.alloc (.cells #[.slice ab lb cb, .slice ag lg cg, .int .i64 fail, .bool eager, .int .i64 0, .int .i64 0, .bool false, .slice none 0 0, .slice none 0 0, .int .u8 0, .int .u8 0, .slice none 0 0] 59)).alloc (.cells #[.int .i64 0, .int .i64 0, .int .i64 0, .iface 29 (.pointer (some ⟨g, 0, none⟩)), .int .i64 (mo : Int), .slice none 0 0] 47)).alloc (.cells #[.pointer (some ⟨w2.heap.size, 0, none⟩), .int .i64 (mo : Int), .int .i64 0, .int .i64 0, .slice none 0 0, .int .i64 0] 62)) = w5 at hne hU ⊢
  obtain ⟨g2, hg2⟩ : ∃ g2, g2 = w2.heap.size := ⟨_, rfl⟩
  obtain ⟨gc, hgc⟩ : ∃ gc, gc = g2 + 1 := ⟨_, rfl⟩
  obtain ⟨gd, hgd⟩ : ∃ gd, gd = g2 + 1 + 1 := ⟨_, rfl⟩
  rw [← hg2] at hne ⊢
  rw [← hgd, ← hgc]
  have hz5 : w2.heap.size ≤ w5.heap.size := hU.size
  have hlbB : ∀ x : Addr, ab = some x → 0 < lb → x.block < B := fun x hx h0 => by
    obtain ⟨b, off, ha, hb, _⟩ := HRB.out.cons (by omega)
    rw [hx] at ha
    cases ha
    have := hgA.out
    show b < B
    omega
  have hlgB : ∀ x : Addr, ag = some x → 0 < lg → x.block < B := fun x hx h0 => by
    obtain ⟨b, off, ha, hb, _⟩ := HRG.out.cons (by omega)
    rw [hx] at ha
    cases ha
    have := hgA.out
    show b < B
    omega
  have HX := hide (src_fam zs gs fail eager g B M HB8.out)
  have HY := hide (rsrc_fam zs gs fail eager ab lb cb ag lg cg g2 B HB8.out hlb hlg (by omega))
  have hMl := HS.out.lt.1
  have hb05 : Below gA w w5 := HB02.out.trans (hU.toBelow.mono (by omega))
  have H0 : Hid (AP (SrcRd zs gs fail eager g B M) (RSrcRd zs gs fail eager ab lb cb ag lg cg g2 B) B gc gd g2 mo (.iface 29 (.pointer (some ⟨g, 0, none⟩))) w5 (fun j => M j ∨ j = gc) (fun j => j = g2 ∨ j = gd) w5 ⟨(0, 0), 0, 0, 0, mo, []⟩ (fun j => M j ∨ j = gc) (fun j => j = g2 ∨ j = gd)) := hide (by
    refine ⟨⟨.slice none 0 0, M, ?_, ⟨rfl, HS.out.upd hU (fun _ _ e => e), HM.out⟩, OwnB.nil _ _ _, fun e => by have := hMl _ e; omega, by omega, (fun j hj => by cases hj), fun j => ⟨fun h => h.elim .inl (fun h => .inr (.inl h)), fun h => h.elim .inl (fun h => h.elim .inr (fun h => by cases h))⟩⟩, ⟨.slice none 0 0, [], 0, (fun j => j = g2), ?_, ⟨fun j => Iff.rfl, hne.1, HRB.out.below2 (hgA.out ▸ hb05), HRG.out.below2 (hgA.out ▸ hb05), Nat.zero_le _, by omega, hlbB, hlgB⟩, OwnB.nil _ _ _, by simp only; omega, by omega, (fun j hj => by cases hj), fun _ => ⟨rfl, rfl, by simp⟩, fun j => ⟨fun h => h.elim .inl (fun h => .inr (.inl h)), fun h => h.elim .inl (fun h => h.elim .inr (fun h => by cases h))⟩⟩, fun _ h => .inl h, fun _ h => .inl h, fun j h e => ?_, Upd.refl _ _⟩
    · have := hne.2.1; rw [← hgc] at this; exact this
    · have := hne.2.2; rw [show g2 + 2 = gd from by omega] at this; exact this
    · rcases h with h | h
      · have := hMl _ h; omega
      · omega)
  have HOK0 := hide (new_ok zs mo (17 * zs.length + 16) (Nat.le_refl _) (by omega))
  have HF5 := hide (hU.heap HF2.out (fun e => e))
  have HB05 := hide hb05
  have hMB : Hid (∀ i, M i → B ≤ i) := HM
  have hgcB : B ≤ gc := by omega
  have hgdB : B ≤ gd := by omega
  have hg2B : B ≤ g2 := by omega
  have hBA : gA < B := by omega
  have hB5 : B ≤ w5.heap.size := by omega
  clear hne hU hMl hb05 HM hz5 d0 d1 d2 d3 HNI hlbB hlgB hgc hgd hg2 HF2
  go_wp2_with fail
  go_loopw [12, 13, 14, 15] (fun q _ _ _ wr => ∃ (i : Nat) (x : InS (Nat × Nat)) (F G : Nat → Prop), i ≤ ls ∧ q = .int .i64 i ∧ Hid (AP (SrcRd zs gs fail eager g B M) (RSrcRd zs gs fail eager ab lb cb ag lg cg g2 B) B gc gd g2 mo (.iface 29 (.pointer (some ⟨g, 0, none⟩))) w5 (fun j => M j ∨ j = gc) (fun j => j = g2 ∨ j = gd) wr x F G) ∧ Hid (InOk Prod.fst (fun s : Nat × Nat => zs.length - s.2) (fun s : Nat × Nat => zs.length - s.2) (17 * zs.length + 16 + 200 * i) mo x)) (fun q _ _ _ _ => ls - (intOf q).toNat)
  case atStart => exact ⟨0, _, _, _, by omega, rfl, H0, HOK0⟩
  case round =>
    clear H0 HOK0
    obtain ⟨i, x, F, G, hi, rfl, HAP, HOK⟩ := hrel
    have hbW : Below gA w wr := HB05.out.trans ((HAP.out.up.below (n := gA) (by omega) (fun k hk e => e.elim (fun e => e.elim (fun e => by have := hMB.out k e; omega) (fun e => by omega)) (fun e => by omega))))
    have HBW := hide hbW
    by_cases hlt : i < ls
    · obtain ⟨b, o, ha, hrg⟩ := HA.out.cells i hlt
      subst ha
      have hbw : b < w.heap.size := World.block_lt_of_cell? w ⟨b, o + i * 2 + 0, none⟩ (hrg 0 _ rfl)
      have hrW := range_below hbW (hgA.out.symm ▸ hbw) hrg
      have hidx : (i : Int) < (ls : Int) := by omega
      have HASK := hide (asked_any (src_leads g) HX.out HY.out (Kf i) (Nf i) wr x F G _ mo (HA.out.top i hlt) HAP.out.a HAP.out.b HAP.out.dis HOK.out (by omega) hmo2 hmo2 (Nat.le_trans hB5 HAP.out.up.size))
      have HOK1 := hide (op_ok HX.out (Kf i) (Nf i) x _ mo HOK.out)
      clear hbW hrg hbw
      go_wp2_with (first
        | (refine wpList_load_mid rfl 65 (.tmp 49) rfl b (o + i * 2) rfl _ _ hrW Try.underlying65 rfl infoAsk ?_)
        | (go_at_call 23; refine HASK.out.mono ?_; rintro e w6 ⟨rfl, F', G', hap⟩)
        | fail)
      have hap2 := HAP.out.trans hap
      have hsrc := hap2.a.src
      have hrs := hap2.b.src
      have hkl : (opP (fun k => srcRd zs gs fail eager k) (Kf i) (Nf i) x).s.2 ≤ zs.length := hsrc.lt.2.2
      have HC := hide (calls_any hsrc)
      have HL := hide (left_any hsrc)
      have q4 := (rsrc_cells hrs).2.2.2.2.1
      have q5 := (rsrc_cells hrs).2.2.2.2.2.1
      have hnA : ¬ ((M gA ∨ gA = gc) ∨ (gA = g2 ∨ gA = gd)) := fun e => e.elim (fun e => e.elim (fun e => by have := hMB.out gA e; omega) (fun e => by omega)) (fun e => by omega)
      have q0 := (feed_cells (hap2.up.heap HF5.out hnA)).1
      have HAP2 := hide hap2
      have hbW2 : Below gA w w6 := HB05.out.trans ((hap2.up.below (n := gA) (by omega) (fun k hk e => e.elim (fun e => e.elim (fun e => by have := hMB.out k e; omega) (fun e => by omega)) (fun e => by omega))))
      have HBW2 := hide hbW2
      generalize opP (fun k => srcRd zs gs fail eager k) (Kf i) (Nf i) x = y at *
      obtain ⟨c', hc'⟩ : ∃ c', c' = y.s.1 := ⟨_, rfl⟩
      obtain ⟨k', hk'⟩ : ∃ k', k' = y.s.2 := ⟨_, rfl⟩
      rw [← hc'] at HC q4
      rw [← hk'] at HL q5 hkl
      have hsub : ((zs.length - k' : Nat) : Int) = (lb : Int) - (k' : Int) := by omega
      rw [hsub] at HL
      replace hc' := hide hc'
      replace hk' := hide hk'
      clear hap hap2 hsrc hrs hsub hbW2 hnA hrW HASK HAP HBW
      go_wp2_with (first
        | (go_at_call 24; refine keep HC.out ?_)
        | (go_at_call 25; refine keep HL.out ?_)
        | fail)
      go_quiet (fail)
      go_wp2_with fail
      go_roundw
      case rel => exact ⟨i + 1, y, F', G', by omega, by go_num, AP.drew HX.out HY.out HAP2 _, by
        have := HOK1
        rwa [Nat.mul_add, ← Nat.add_assoc]⟩
      case measure => simp [intOf]; omega
    · obtain rfl : i = ls := by omega
      have hidx : ¬ ((i : Nat) : Int) < (i : Int) := by omega
      go_wp2_with fail
      go_ret
      exact ⟨rfl, hgA.out ▸ HBW.out⟩

end Go.Proofs.Ytjcanghffhpncaa
