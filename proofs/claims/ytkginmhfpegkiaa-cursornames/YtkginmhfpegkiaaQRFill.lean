/- The document's In is filled. -/
import Derived.Test.YtkginmhfpegkiaaQRIn
namespace Go.Proofs.Ytkginmhfpegkiaa
open Go.RowKit

def RFillPost {σ : Type} (Rd : World → σ → (Nat → Prop) → Prop) (B g g2 most at' : Nat) (err : Int) (res : List Int × Int × σ × Nat) (M : Nat → Prop) (bo : Option Nat) (W : World) (e : Ending) (W' : World) : Prop :=
  ∃ v vs M', e = .returned (.tuple #[v, .int .i64 res.2.1]) ∧ OwnB W' B 5 v vs ∧ (res.2.1 = 0 → vs = res.1) ∧ RInC W' g g2 most at' err (.slice none 0 0) res.2.2.2 ∧ Rd W' res.2.2.1 M' ∧ Upd (fun j => M j ∨ j = g ∨ bo = some j) W W' ∧ (∀ j, M' j → M j ∨ W.heap.size ≤ j) ∧ ∀ j, v.ownBlock = some j → ¬ M' j ∧ j ≠ g ∧ (bo = some j ∨ W.heap.size ≤ j)

/-- At the head of a round. -/
structure RFI {σ : Type} (RD : Nat → σ → Int × Int × List Int × σ) (cnt m vol : σ → Nat) (Rd : World → σ → (Nat → Prop) → Prop) (B g g2 most at' : Nat) (err : Int) (res : List Int × Int × σ × Nat) (M0 : Nat → Prop) (bo : Option Nat) (n : Nat) (W : World) (v : Value) (W' : World) (bs : List Int) (s : σ) (i fu : Nat) (M : Nat → Prop) : Prop where
  own : OwnB W' B 5 v bs
  blk : RInC W' g g2 most at' err (.slice none 0 0) i
  rd : Rd W' s M
  upd : Upd (fun j => M0 j ∨ j = g ∨ bo = some j) W W'
  msub : ∀ j, M j → M0 j ∨ W.heap.size ≤ j
  dis : ∀ j, v.ownBlock = some j → ¬ M j ∧ j ≠ g ∧ (bo = some j ∨ W.heap.size ≤ j)
  mg : ¬ M g
  i16 : i < 16
  lenle : bs.length ≤ n
  fuel : 17 * (n - bs.length) + (16 - i) ≤ fu
  eq : res = fillF RD n fu bs s i
  cn : cnt s + 17 * m s + (16 - i) ≤ 4611686018427387000
  vo : min n (bs.length + vol s) ≤ 140737488355328

set_option maxRecDepth 100000 in
set_option maxHeartbeats 3200000 in
theorem want_any {σ : Type} {RD : Nat → σ → Int × Int × List Int × σ} {cnt m vol : σ → Nat} {B g2 : Nat} {Rd : World → σ → (Nat → Prop) → Prop} (X : RFam RD cnt m vol 66 (.pointer (some ⟨g2, 0, none⟩)) B Rd)
    (W : World) (g : Nat) (s0 : σ) (M0 : Nat → Prop) (most at' i0 : Nat) (err : Int) (v0 : Value) (b0 : List Int) (n : Nat) (hn : n ≤ 9223372036854775807) (hbn : b0.length ≤ n) (hB : B ≤ W.heap.size) (hI : RInC W g g2 most at' err v0 i0) (hR : Rd W s0 M0) (hMg : ¬ M0 g) (hBg : B ≤ g) (hi : i0 < 16)
    (ho : OwnB W B 5 v0 b0) (hd : ∀ j, v0.ownBlock = some j → ¬ M0 j ∧ j ≠ g) (hc : cnt s0 + 17 * m s0 + (16 - i0) ≤ 4611686018427387000) (hvo : min n (b0.length + vol s0) ≤ 140737488355328) :
    Calls Try.prog 55 #[.pointer (some ⟨g, 0, none⟩), .int .i64 (n : Int)] W fun e W' => RFillPost Rd B g g2 most at' err (fillA RD n b0 s0 i0) M0 v0.ownBlock W e W' := by
  obtain ⟨i0', hi0, hz0, hz1, hz2⟩ := info_parts' infoByte'
  obtain ⟨res, hres⟩ : ∃ res, res = fillA RD n b0 s0 i0 := ⟨_, rfl⟩
  have hu0 : Upd (fun j => j = g) W (W.setCell ⟨g, 4, none⟩ (.slice none 0 0)) := (Upd.refl _ _).set1 4 _
  have H0 : Hid (RFI RD cnt m vol Rd B g g2 most at' err res M0 v0.ownBlock n W v0 (W.setCell ⟨g, 4, none⟩ (.slice none 0 0)) b0 s0 i0 (17 * (n - b0.length) + (16 - i0)) M0) := hide ⟨ho.upd hu0 (fun j hj e => (hd j hj).2 e), block_setCell hI 4 _, (X.R 1 (by omega) (by omega)).upd hR hu0 (fun j e => by subst e; exact ⟨hBg, hMg⟩), hu0.mono (fun j _ e => .inr (.inl e)), fun _ h => .inl h, fun j hj => ⟨(hd j hj).1, (hd j hj).2, .inl hj⟩, hMg, hi, hbn, Nat.le_refl _, hres, hc, hvo⟩
  rw [← hres]
  have HX := hide X
  have hgl : g < W.heap.size := lt_of_block hI
  have c4 := (RInC.c hI).2.2.2.2.1
  have f4 := (RInC.c hI).2.2.2.2.2.2 4
  obtain ⟨a0, c0, rfl, _, _, _⟩ := ho.sliceN rfl
  generalize hbo : (Value.slice a0 b0.length c0).ownBlock = bo at *
  replace hbo := hide hbo
  clear hR X hI ho hd hc hvo hres hMg hu0
  go_enter Try.func55, Try.ntmps55
  go_wp2_with fail
  go_loopw [6, 7, 8] (fun v _ _ wr => ∃ (bs : List Int) (s : σ) (i fu : Nat) (M : Nat → Prop), Hid (RFI RD cnt m vol Rd B g g2 most at' err res M0 bo n W v wr bs s i fu M)) (fun v _ _ wr => 17 * (n - slen v) + (16 - cellN wr g 5))
  case atStart => exact ⟨_, _, _, _, _, H0⟩
  case round =>
    clear H0
    obtain ⟨bs, s, i, fu, M, HI⟩ := hrel
    obtain ⟨l, hl⟩ : ∃ l, bs.length = l := ⟨_, rfl⟩
    obtain ⟨a1, c1, rfl, hn1, hc1, hq1⟩ := HI.out.own.sliceN hl
    have hln : l ≤ n := by have := HI.out.lenle; omega
    replace hn1 := hide hn1
    replace hq1 := hide hq1
    replace hl := hide hl
    by_cases hlt : l < n
    · obtain ⟨k, hk⟩ : ∃ k, k = min (n - l) 4096 := ⟨_, rfl⟩
      have hk1 : 1 ≤ k := by omega
      have hk2 : k ≤ 4096 := by omega
      have hkl : l + k ≤ n := by omega
      have HA := hide (rask_any wr g s M (n - l) k most at' i err (.slice none 0 0) hk (by omega) (HX.out.R k hk1 hk2) hk1 (Nat.le_trans hB HI.out.upd.size) HI.out.blk HI.out.rd HI.out.mg hBg HI.out.i16 (by have := HI.out.cn; omega))
      have HOK := hide (ask_ok (HX.out.R k hk1 hk2) (fun s => HX.out.vol k s hk1 hk2) s i)
      have HST := hide (fun q hq => fill_step (RD := RD) (n := n) (fu := fu) (b := bs) (s := s) (i := i) q hq (by have := HI.out.fuel; have := hl.out; omega) (by have := hl.out; omega))
      rw [hl.out, ← hk] at HST
      have HST' := hide (HST.out _ rfl)
      have HRA := hide (rask_ask (RD := RD) (k := k) (s := s) (i := i) HI.out.i16)
      have HR16 := hide (rask_16 (RD := RD) (k := k) (s := s) (i := i) HI.out.i16)
      clear HST
      have hlti : (l : Int) < (n : Int) := by omega
      have hsub : ((n - l : Nat) : Int) = (n : Int) - (l : Int) := by omega
      rw [hsub] at HA
      replace hk := hide hk
      clear hsub
      generalize ask1 RD k s i = q0 at *
      generalize rask1 RD k s i = q at *
      obtain ⟨bt, er0, s', i'⟩ := q0
      obtain ⟨bt2, er, s2, i2⟩ := q
      simp only at HST' HRA HR16
      obtain ⟨rfl, hs2, he2⟩ := HRA.out
      obtain ⟨rfl, rfl⟩ : s' = s2 ∧ i' = i2 := ⟨congrArg Prod.fst hs2, congrArg Prod.snd hs2⟩
      have HE2 := hide he2
      clear HRA hs2 he2
      go_wp2_with fail
      refine HA.out.mono ?_
      rintro e w1 ⟨v1, M1, rfl, ho1, hi1, hr1, hu1, hm1, hd1⟩
      simp only at ho1 hi1 hr1
      obtain ⟨x, hx⟩ : ∃ x, bt.length = x := ⟨_, rfl⟩
      obtain ⟨a2, c2, rfl, hn2, hc2, hq2⟩ := ho1.sliceN hx
      have hgw : g < wr.heap.size := lt_of_block HI.out.blk
      have hxk : x ≤ k := by have := HOK.out.len; simp only at this; omega
      have HR2 := hide ho1.row
      have HO1 := hide (HI.out.own.upd hu1 (fun j hj e => e.elim (HI.out.dis j hj).1 (HI.out.dis j hj).2.1))
      have hM1g : ¬ M1 g := fun e => (hm1 g e).elim HI.out.mg (fun h => by omega)
      have hz1w : wr.heap.size ≤ w1.heap.size := hu1.size
      have hzW : W.heap.size ≤ wr.heap.size := HI.out.upd.size
      have HU1 : Hid (Upd (fun j => M0 j ∨ j = g ∨ bo = some j) W w1) := hide (HI.out.upd.then hu1 (fun j hj e => e.elim (fun e => (HI.out.msub j e).elim .inl (fun h => by omega)) (fun e => .inr (.inl e))))
      have HM1 : Hid (∀ j, M1 j → M0 j ∨ W.heap.size ≤ j) := hide (fun j hj => (hm1 j hj).elim (fun h => HI.out.msub j h) (fun h => .inr (by omega)))
      have hn2' := hide hn2
      have hxb : l + x ≤ 140737488355328 := by
        have h1 := HI.out.vo
        have h2 := HOK.out.vol
        have h3 := hl.out
        simp only at h2
        omega
      have HDV : Hid (∀ j, (Value.slice a1 l c1).ownBlock = some j → ¬ M1 j) := hide (fun j hj e => (hm1 j e).elim (HI.out.dis j hj).1 (fun h => by have := (hq1.out j hj).2; omega))
      have HI1 := hide hi1
      have HR1 := hide hr1
      have HBO := hide (OwnB.bo HO1.out)
      replace hx := hide hx
      have HFIN : Hid (∀ v2 w2, OwnO w2 B 5 0 v2 (bs ++ bt) → w1.grownBy w2 (Value.blk (.slice a1 l c1)) → (∀ j, Value.blk v2 = some j → Value.blk (.slice a1 l c1) = some j ∨ w1.heap.size ≤ j) →
          OwnB w2 B 5 v2 (bs ++ bt) ∧ RInC w2 g g2 most at' err (.slice none 0 0) i' ∧ Rd w2 s' M1 ∧ Upd (fun j => M0 j ∨ j = g ∨ bo = some j) W w2 ∧ ∀ j, v2.ownBlock = some j → ¬ M1 j ∧ j ≠ g ∧ (bo = some j ∨ W.heap.size ≤ j)) := hide fun v2 w2 ho2 hg2 hk2 => by
        have hB2 := ho2.toB
        have hu2 : Upd (fun j => (Value.slice a1 l c1).ownBlock = some j) w1 w2 := Upd.of_grown hg2 (fun j hj _ => by rw [← HBO.out]; exact hj)
        have hM1lt := (HX.out.R 1 (by omega) (by omega)).lt HR1.out
        refine ⟨hB2, HI1.out.upd hu2 (fun e => (HI.out.dis g e).2.1 rfl), (HX.out.R 1 (by omega) (by omega)).upd HR1.out hu2 (fun j hj => ⟨(hq1.out j hj).1, HDV.out j hj⟩), HU1.out.then hu2 (fun j hj e => (HI.out.dis j e).2.2.elim (fun h => .inr (.inr h)) (fun h => by omega)), fun j hj => ?_⟩
        rw [← OwnB.bo hB2] at hj
        rcases hk2 j hj with h | h
        · rw [HBO.out] at h
          exact ⟨HDV.out j h, (HI.out.dis j h).2.1, (HI.out.dis j h).2.2⟩
        · exact ⟨fun e => by have := hM1lt j e; omega, by omega, .inr (by omega)⟩
      clear HA ho1 hi1 hr1 hu1 hm1 hd1 hn2 hq2
      have hlx : Hid ((bs ++ bt).length = l + x) := hide (by rw [List.length_append, hl.out, hx.out])
      rw [hx.out] at HST'
      have HEQ := hide (HI.out.eq.trans HST'.out)
      clear HST'
      have HPOST : Hid (∀ v2 w2 ee, res.2.2 = (s', i') → res.2.1 = ee → (ee = 0 → bs ++ bt = res.1) → OwnB w2 B 5 v2 (bs ++ bt) ∧ RInC w2 g g2 most at' err (.slice none 0 0) i' ∧ Rd w2 s' M1 ∧ Upd (fun j => M0 j ∨ j = g ∨ bo = some j) W w2 ∧ (∀ j, v2.ownBlock = some j → ¬ M1 j ∧ j ≠ g ∧ (bo = some j ∨ W.heap.size ≤ j)) → RFillPost Rd B g g2 most at' err res M0 bo W (.returned (.tuple #[v2, .int .i64 ee])) w2) := hide fun v2 w2 ee hr he hb ⟨q1, q2, q3, q4, q5⟩ => by
        subst he
        exact ⟨v2, _, M1, rfl, q1, hb, by rw [hr]; exact q2, by rw [hr]; exact q3, q4, HM1.out, q5⟩
      by_cases hfull : l + x = n
      · rw [if_pos (by omega)] at HEQ
        have hfi : (n : Int) ≤ ((l + x : Nat) : Int) := by omega
        have hxp : ¬ (x : Int) = 0 := by omega
        have hxq : ¬ x = 0 := by omega
        have HFU := hide hfull
        clear hfull
        by_cases e34 : er = 34
        · subst e34
          go_wp2_with (first
            | (at_builtin; refine append_o rfl (.tmp 29) (.tmp 30) 23 rfl B 5 i0' Try.underlying23 hi0 hz0 hz1 hz2 0 (.slice a1 l c1) bs rfl HO1.out.toO a2 x c2 bt rfl hx.out hn2'.out HR2.out (by have := hl.out; omega) (Nat.le_trans hB (Nat.le_trans hzW hz1w)) ?_; intro v2 w2 off2 hoff ho2 hg2 hk2; have HF2 := hide (HFIN.out v2 w2 (by rw [hoff rfl] at ho2; exact ho2) hg2 hk2); have d5 := (RInC.c HF2.out.2.1).2.2.2.2.2.1; clear HFIN hoff ho2 hg2 hk2; obtain ⟨a3, c3, rfl, hn3, hc3, hq3⟩ := HF2.out.1.sliceN hlx.out; replace hn3 := hide hn3; replace hq3 := hide hq3)
            | fail)
          go_ret2
          exact HPOST.out _ w2 0 (by rw [HEQ.out]) (by rw [HEQ.out]) (fun _ => by rw [HEQ.out]) HF2.out
        · have e34i : ¬ er = 34 := e34
          go_wp2_with (first
            | (at_builtin; refine append_o rfl (.tmp 29) (.tmp 30) 23 rfl B 5 i0' Try.underlying23 hi0 hz0 hz1 hz2 0 (.slice a1 l c1) bs rfl HO1.out.toO a2 x c2 bt rfl hx.out hn2'.out HR2.out (by have := hl.out; omega) (Nat.le_trans hB (Nat.le_trans hzW hz1w)) ?_; intro v2 w2 off2 hoff ho2 hg2 hk2; have HF2 := hide (HFIN.out v2 w2 (by rw [hoff rfl] at ho2; exact ho2) hg2 hk2); have d5 := (RInC.c HF2.out.2.1).2.2.2.2.2.1; clear HFIN hoff ho2 hg2 hk2; obtain ⟨a3, c3, rfl, hn3, hc3, hq3⟩ := HF2.out.1.sliceN hlx.out; replace hn3 := hide hn3; replace hq3 := hide hq3)
            | fail)
          go_ret2
          exact HPOST.out _ w2 0 (by rw [HEQ.out]) (by rw [HEQ.out]) (fun _ => by rw [HEQ.out]) HF2.out
      · have hfi : ¬ (n : Int) ≤ ((l + x : Nat) : Int) := by omega
        rw [if_neg (by omega)] at HEQ
        by_cases e16 : i' = 16
        · have her := HR16.out e16
          subst her
          have h33 := HE2.out
          rw [if_pos e16] at h33
          subst h33
          subst e16
          rw [if_neg (by decide), if_pos (by decide)] at HEQ
          clear HE2 HR16
          go_wp2_with (first
            | (at_builtin; refine append_o rfl (.tmp 29) (.tmp 30) 23 rfl B 5 i0' Try.underlying23 hi0 hz0 hz1 hz2 0 (.slice a1 l c1) bs rfl HO1.out.toO a2 x c2 bt rfl hx.out hn2'.out HR2.out (by have := hl.out; omega) (Nat.le_trans hB (Nat.le_trans hzW hz1w)) ?_; intro v2 w2 off2 hoff ho2 hg2 hk2; have HF2 := hide (HFIN.out v2 w2 (by rw [hoff rfl] at ho2; exact ho2) hg2 hk2); have d5 := (RInC.c HF2.out.2.1).2.2.2.2.2.1; clear HFIN hoff ho2 hg2 hk2; obtain ⟨a3, c3, rfl, hn3, hc3, hq3⟩ := HF2.out.1.sliceN hlx.out; replace hn3 := hide hn3; replace hq3 := hide hq3)
            | fail)
          go_ret2
          exact HPOST.out _ w2 33 (by rw [HEQ.out]) (by rw [HEQ.out]) (fun h => absurd h (by decide)) HF2.out
        · have h33 := HE2.out
          rw [if_neg e16] at h33
          subst h33
          have e16i : ¬ (i' : Int) = 16 := by omega
          clear HE2 HR16
          by_cases e31 : er0 = 31
          · subst e31
            rw [if_pos rfl] at HEQ
            go_wp2_with (first
              | (at_builtin; refine append_o rfl (.tmp 29) (.tmp 30) 23 rfl B 5 i0' Try.underlying23 hi0 hz0 hz1 hz2 0 (.slice a1 l c1) bs rfl HO1.out.toO a2 x c2 bt rfl hx.out hn2'.out HR2.out (by have := hl.out; omega) (Nat.le_trans hB (Nat.le_trans hzW hz1w)) ?_; intro v2 w2 off2 hoff ho2 hg2 hk2; have HF2 := hide (HFIN.out v2 w2 (by rw [hoff rfl] at ho2; exact ho2) hg2 hk2); have d5 := (RInC.c HF2.out.2.1).2.2.2.2.2.1; clear HFIN hoff ho2 hg2 hk2; obtain ⟨a3, c3, rfl, hn3, hc3, hq3⟩ := HF2.out.1.sliceN hlx.out; replace hn3 := hide hn3; replace hq3 := hide hq3)
              | fail)
            go_ret2
            exact HPOST.out _ w2 41 (by rw [HEQ.out]) (by rw [HEQ.out]) (fun h => absurd h (by decide)) HF2.out
          · rw [if_neg e31] at HEQ
            by_cases e0 : er0 = 0
            · subst e0
              rw [if_neg (by simp)] at HEQ
              go_wp2_with (first
                | (at_builtin; refine append_o rfl (.tmp 29) (.tmp 30) 23 rfl B 5 i0' Try.underlying23 hi0 hz0 hz1 hz2 0 (.slice a1 l c1) bs rfl HO1.out.toO a2 x c2 bt rfl hx.out hn2'.out HR2.out (by have := hl.out; omega) (Nat.le_trans hB (Nat.le_trans hzW hz1w)) ?_; intro v2 w2 off2 hoff ho2 hg2 hk2; have HF2 := hide (HFIN.out v2 w2 (by rw [hoff rfl] at ho2; exact ho2) hg2 hk2); have d5 := (RInC.c HF2.out.2.1).2.2.2.2.2.1; clear HFIN hoff ho2 hg2 hk2; obtain ⟨a3, c3, rfl, hn3, hc3, hq3⟩ := HF2.out.1.sliceN hlx.out; replace hn3 := hide hn3; replace hq3 := hide hq3)
                | fail)
              have hok := HOK.out
              have hi' : i' < 16 := hok.ok rfl HI.out.i16
              have hfu := HI.out.fuel
              have hcn := HI.out.cn
              have hvo := HI.out.vo
              have hi16 := HI.out.i16
              have k1 := hok.cnt1
              have k2 := hok.vol
              have k3 := hok.mle
              have k4 := hok.pot rfl hi16
              have k5 := hok.pot1 rfl
              have hxo := hx.out
              have hlo := hl.out
              simp only at k1 k2 k3 k4 k5
              have hstep : (x = 0 ∧ i' = i + 1) ∨ (0 < x ∧ i' = 0 ∧ m s' + 1 ≤ m s) := by
                by_cases hb : bt = []
                · exact .inl ⟨by rw [← hxo, hb]; rfl, k4 hb⟩
                · exact .inr ⟨by rw [← hxo]; exact List.length_pos_iff.2 hb, (k5 hb).2, (k5 hb).1⟩
              have HN : Hid (RFI RD cnt m vol Rd B g g2 most at' err res M0 bo n W (.slice a3 (l + x) c3) w2 (bs ++ bt) s' i' (fu - 1) M1) := hide ⟨HF2.out.1, HF2.out.2.1, HF2.out.2.2.1, HF2.out.2.2.2.1, HM1.out, HF2.out.2.2.2.2, hM1g, hi', by rw [hlx.out]; omega, by rw [hlx.out]; omega, HEQ.out, by omega, by rw [hlx.out]; omega⟩
              have hmi : cellN w2 g 5 = i' := by unfold cellN; rw [(RInC.c HF2.out.2.1).2.2.2.2.2.1]; simp
              have hmi0 : cellN wr g 5 = i := by unfold cellN; rw [(RInC.c HI.out.blk).2.2.2.2.2.1]; simp
              go_roundw
              case rel => exact ⟨_, _, _, _, _, HN⟩
              case measure => rw [hmi, hmi0]; simp only [slen]; omega
            · rw [if_pos e0] at HEQ
              have e0' : (er0 != 0) = true := by simp [e0]
              by_cases e34 : er0 = 34
              · subst e34
                by_cases hx0 : x = 0
                · have hx0i : (x : Int) = 0 := by omega
                  clear hx0
                  go_wp2_with (first
                    | (at_builtin; refine append_o rfl (.tmp 29) (.tmp 30) 23 rfl B 5 i0' Try.underlying23 hi0 hz0 hz1 hz2 0 (.slice a1 l c1) bs rfl HO1.out.toO a2 x c2 bt rfl hx.out hn2'.out HR2.out (by have := hl.out; omega) (Nat.le_trans hB (Nat.le_trans hzW hz1w)) ?_; intro v2 w2 off2 hoff ho2 hg2 hk2; have HF2 := hide (HFIN.out v2 w2 (by rw [hoff rfl] at ho2; exact ho2) hg2 hk2); have d5 := (RInC.c HF2.out.2.1).2.2.2.2.2.1; clear HFIN hoff ho2 hg2 hk2; obtain ⟨a3, c3, rfl, hn3, hc3, hq3⟩ := HF2.out.1.sliceN hlx.out; replace hn3 := hide hn3; replace hq3 := hide hq3)
                    | fail)
                  go_ret2
                  exact HPOST.out _ w2 _ (by rw [HEQ.out]) (by rw [HEQ.out]) (fun h => absurd h e0) HF2.out
                · have hx0i : ¬ (x : Int) = 0 := by omega
                  go_wp2_with (first
                    | (at_builtin; refine append_o rfl (.tmp 29) (.tmp 30) 23 rfl B 5 i0' Try.underlying23 hi0 hz0 hz1 hz2 0 (.slice a1 l c1) bs rfl HO1.out.toO a2 x c2 bt rfl hx.out hn2'.out HR2.out (by have := hl.out; omega) (Nat.le_trans hB (Nat.le_trans hzW hz1w)) ?_; intro v2 w2 off2 hoff ho2 hg2 hk2; have HF2 := hide (HFIN.out v2 w2 (by rw [hoff rfl] at ho2; exact ho2) hg2 hk2); have d5 := (RInC.c HF2.out.2.1).2.2.2.2.2.1; clear HFIN hoff ho2 hg2 hk2; obtain ⟨a3, c3, rfl, hn3, hc3, hq3⟩ := HF2.out.1.sliceN hlx.out; replace hn3 := hide hn3; replace hq3 := hide hq3)
                    | fail)
                  go_ret2
                  exact HPOST.out _ w2 _ (by rw [HEQ.out]) (by rw [HEQ.out]) (fun h => absurd h e0) HF2.out
              · have e34i : ¬ er0 = 34 := e34
                go_wp2_with (first
                  | (at_builtin; refine append_o rfl (.tmp 29) (.tmp 30) 23 rfl B 5 i0' Try.underlying23 hi0 hz0 hz1 hz2 0 (.slice a1 l c1) bs rfl HO1.out.toO a2 x c2 bt rfl hx.out hn2'.out HR2.out (by have := hl.out; omega) (Nat.le_trans hB (Nat.le_trans hzW hz1w)) ?_; intro v2 w2 off2 hoff ho2 hg2 hk2; have HF2 := hide (HFIN.out v2 w2 (by rw [hoff rfl] at ho2; exact ho2) hg2 hk2); have d5 := (RInC.c HF2.out.2.1).2.2.2.2.2.1; clear HFIN hoff ho2 hg2 hk2; obtain ⟨a3, c3, rfl, hn3, hc3, hq3⟩ := HF2.out.1.sliceN hlx.out; replace hn3 := hide hn3; replace hq3 := hide hq3)
                  | fail)
                go_ret2
                exact HPOST.out _ w2 _ (by rw [HEQ.out]) (by rw [HEQ.out]) (fun h => absurd h e0) HF2.out
    · obtain rfl : l = n := by omega
      have HPOST : Hid (RFillPost Rd B g g2 most at' err res M0 bo W (.returned (.tuple #[.slice a1 l c1, .int .i64 0])) wr) := by
        rw [HI.out.eq, fill_done (by rw [hl.out]; exact Nat.le_refl _)]
        exact ⟨_, _, M, rfl, HI.out.own, fun _ => rfl, HI.out.blk, HI.out.rd, HI.out.upd, HI.out.msub, HI.out.dis⟩
      go_wp2_with fail
      go_ret2
      exact HPOST.out

end Go.Proofs.Ytkginmhfpegkiaa
