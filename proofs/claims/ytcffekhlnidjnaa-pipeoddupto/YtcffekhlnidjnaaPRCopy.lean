/- The document's Copy, of any reader into any writer. -/
import Derived.Test.YtcffekhlnidjnaaPCopy
import Derived.Deep.DeepCutAuto
import Derived.Deep.CutBlock
namespace Go.Proofs.Ytcffekhlnidjnaa
open Go.RowKit

theorem chunkL_tb {σ : Type} {step : σ → List Int × Int × σ} {fu : Nat} {s : σ} {idle : Nat} (hf : 0 < fu) (hb : (step s).1 = []) (he : (step s).2.1 = 0) (hi : idle + 1 < 16) : tb (chunkL step fu s idle) = tb (chunkL step (fu - 1) (step s).2.2 (idle + 1)) := by
  rw [chunkL_idle hf hb he, if_pos hi]
theorem copy_s {σ τ : Type} (hd : τ → List Int → Nat × Int × τ) (l : List (List Int × Int × σ)) (s s' : σ) (t : τ) (k : Nat) (h : l ≠ []) : copyL hd l s t k = copyL hd l s' t k := by
  cases l with
  | nil => exact absurd rfl h
  | cons c r => rfl
theorem chunkL_ne {σ : Type} {step : σ → List Int × Int × σ} : ∀ (fu : Nat) (s : σ) (idle : Nat), idle < 16 → 16 - idle ≤ fu → chunkL step fu s idle ≠ []
  | 0, s, idle, h1, h2 => absurd h2 (by omega)
  | fu + 1, s, idle, h1, h2 => by
    rw [chunkL]
    split
    · split
      · exact chunkL_ne fu _ _ (by omega) (by omega)
      · simp
    · simp
/-- What the document's Copy tells of what comes. -/
def RCPost {σ τ : Type} (Rd : World → σ → (Nat → Prop) → Prop) (Wd : World → τ → (Nat → Prop) → Prop) (res : Nat × Int × σ × τ) (M0 Mw : Nat → Prop) (W : World) (e : Ending) (W' : World) : Prop :=
  e = .returned (.tuple #[.int .i64 (res.1 : Int), .int .i64 res.2.1]) ∧ (∃ M', Rd W' res.2.2.1 M' ∧ ∀ i, M' i → M0 i ∨ W.heap.size ≤ i) ∧ (∃ M', Wd W' res.2.2.2 M' ∧ ∀ i, M' i → Mw i ∨ W.heap.size ≤ i) ∧ Upd (fun i => M0 i ∨ Mw i) W W'

/-- At the head of a round: k bytes are taken, gi calls running gave nothing. -/
structure RCI {σ τ : Type} (size : Nat) (rd : σ → Int × Int × List Int × σ) (cnt m : σ → Nat) (Rd : World → σ → (Nat → Prop) → Prop) (wf : τ → List Int → Int × Int × τ) (cntw sz : τ → Nat) (Wd : World → τ → (Nat → Prop) → Prop) (res : Nat × Int × σ × τ) (M0 Mw : Nat → Prop) (W W' : World) (k gi fu : Nat) (s : σ) (t : τ) (M M2 : Nat → Prop) : Prop where
  hrd : Rd W' s M
  hwd : Wd W' t M2
  hdis : ∀ i, M i → ¬ M2 i
  hmb : ∀ i, M i → M0 i ∨ W.heap.size ≤ i
  hwb : ∀ i, M2 i → Mw i ∨ W.heap.size ≤ i
  hup : Upd (fun i => M0 i ∨ Mw i) W W'
  hgi : gi < 16
  hfu : 17 * m s + (16 - gi) ≤ fu
  heq : res = copyL (handA wf) (chunkL (stp size rd) fu s gi) s t k
  hcn : cnt s + 17 * m s + (16 - gi) ≤ 4611686018427387903
  hcw : cntw t + 33 * tb (chunkL (stp size rd) fu s gi) ≤ 4611686018427300000
  hsz : sz t + tb (chunkL (stp size rd) fu s gi) ≤ 140737488355328
  hkb : k + tb (chunkL (stp size rd) fu s gi) ≤ 4611686018427387903
def RCH {σ τ : Type} (size : Nat) (rd : σ → Int × Int × List Int × σ) (cnt m : σ → Nat) (Rd : World → σ → (Nat → Prop) → Prop) (wf : τ → List Int → Int × Int × τ) (cntw sz : τ → Nat) (Wd : World → τ → (Nat → Prop) → Prop) (res : Nat × Int × σ × τ) (M0 Mw : Nat → Prop) (W : World) (a b c : Value) (W' : World) (fu : Nat) : Prop :=
  ∃ (k gi : Nat) (s : σ) (t : τ) (M M2 : Nat → Prop), a = .int .i64 (k : Int) ∧ b = .int .i64 (gi : Int) ∧ c = .int .i64 0 ∧ RCI size rd cnt m Rd wf cntw sz Wd res M0 Mw W W' k gi fu s t M M2

set_option maxHeartbeats 800000 in
theorem rcopy_bad (g g2 : Nat) (size : Int) (w : World) (hs : size < 1 ∨ 4096 < size) :
    Calls Try.prog 25 #[.pointer (some ⟨g2, 0, none⟩), .pointer (some ⟨g, 0, none⟩), .int .i64 size] w fun e w' => e = .returned (.tuple #[.int .i64 0, .int .i64 1]) ∧ w' = w := by
  rcases hs with hs | hs
  · go_enter Try.func25, Try.ntmps25
    go_wp2
    go_ret2
    exact ⟨rfl, rfl⟩
  · have h1 : ¬ size < 1 := by omega
    go_enter Try.func25, Try.ntmps25
    go_wp2
    go_ret2
    exact ⟨rfl, rfl⟩

set_option maxRecDepth 100000 in
set_option maxHeartbeats 3200000 in
theorem rcopy_any {σ τ : Type} {size : Nat} {rd : σ → Int × Int × List Int × σ} {cnt m : σ → Nat} {B : Nat} {Rd : World → σ → (Nat → Prop) → Prop} {wf : τ → List Int → Int × Int × τ} {cntw sz : τ → Nat} {Wd : World → τ → (Nat → Prop) → Prop} (g g2 : Nat)
    (R : Reader size rd cnt m 16 (.pointer (some ⟨g, 0, none⟩)) B Rd) (T : Writer wf cntw sz 21 (.pointer (some ⟨g2, 0, none⟩)) B Wd) (h0 : 1 ≤ size) (h1 : size ≤ 4096) (W : World) (s0 : σ) (t0 : τ) (M0 Mw : Nat → Prop) (hB : B ≤ W.heap.size) (hR : Rd W s0 M0) (hW : Wd W t0 Mw) (hdis : ∀ i, M0 i → ¬ Mw i)
    (hcn : cnt s0 + 17 * m s0 + 16 ≤ 4611686018427387903) (hcw : cntw t0 + 33 * tb (chunkA size rd m s0) ≤ 4611686018427300000) (hsz : sz t0 + tb (chunkA size rd m s0) ≤ 140737488355328) :
    Calls Try.prog 25 #[.pointer (some ⟨g2, 0, none⟩), .pointer (some ⟨g, 0, none⟩), .int .i64 size] W fun e W' => RCPost Rd Wd (copyL (handA wf) (chunkA size rd m s0) s0 t0 0) M0 Mw W e W' := by
  have H0 : Hid (RCH size rd cnt m Rd wf cntw sz Wd (copyL (handA wf) (chunkA size rd m s0) s0 t0 0) M0 Mw W (.int .i64 0) (.int .i64 0) (.int .i64 0) W (17 * m s0 + 16)) := hide ⟨0, 0, s0, t0, M0, Mw, rfl, rfl, rfl, hR, hW, hdis, fun _ h => .inl h, fun _ h => .inl h, Upd.refl _ _, by omega, by omega, rfl, by omega, hcw, hsz, by unfold chunkA at hsz; omega⟩
  have HR := hide R
  have HT := hide T
  have HML := hide (R.lt hR)
  have HWL := hide (T.lt hW)
  have g1 : ¬ (size : Int) < 1 := by omega
  have g3 : ¬ (4096 : Int) < (size : Int) := by omega
  have hmk := run_zeros size (by omega)
  obtain ⟨res, hres⟩ : ∃ res, res = copyL (handA wf) (chunkA size rd m s0) s0 t0 0 := ⟨_, rfl⟩
  rw [← hres] at H0 ⊢
  clear R T hR hW hdis hcn hcw hsz hres
  go_enter Try.func25, Try.ntmps25
  go_wp2_with fail
  go_loopw [8, 9, 10] (fun a b c wr => ∃ fu, RCH size rd cnt m Rd wf cntw sz Wd res M0 Mw W a b c wr fu) (fun a b c wr => Classical.epsilon fun n => RCH size rd cnt m Rd wf cntw sz Wd res M0 Mw W a b c wr n ∧ ∀ k, RCH size rd cnt m Rd wf cntw sz Wd res M0 Mw W a b c wr k → n ≤ k)
  case atStart => exact ⟨_, H0.out⟩
  case round =>
    clear H0
    obtain ⟨fu, hfu, hat⟩ := least_get hrel
    clear hrel
    replace hfu := hide hfu
    obtain ⟨k, gi, s, t, M, M2, rfl, rfl, rfl, hI⟩ := hat
    obtain ⟨wo, hwo⟩ : ∃ wo, wo = wr := ⟨_, rfl⟩
    subst hwo
    have HI := hide hI
    clear hI
    have hzo : W.heap.size ≤ wo.heap.size := HI.out.hup.size
    have hML := HR.out.lt HI.out.hrd
    have HRD := hide (HR.out.read (wo.alloc (.cells (zeros size).toArray 5)) s M wo.heap.size (zeros size) (HR.out.upd HI.out.hrd ((Upd.refl Noth _).alloc _) (fun i e => e.elim)) (by have := HI.out.hcn; omega) ⟨fun _ => rfl, heap_alloc_new wo _, by rw [zeros_len]; exact Nat.le_refl _⟩ (zeros_bytes size) (fun e => by have := hML _ e; omega) (by omega))
    go_wp2_with fail
    refine HRD.out.mono ?_
    rintro e w2 ⟨M', rfl, hr2, hroom2, hu2, hm2, hn2⟩
    have hu2' : Upd M wo w2 := ⟨hu2.os, hu2.tape, hu2.output, Nat.le_trans (by simp) hu2.size, fun b hb hs => (hu2.block b (by simp; omega) (fun e => e.elim hs (fun e => by omega))).trans (Below.heap_alloc _ _ _ hb)⟩
    have hz2 : wo.heap.size < w2.heap.size := by have := hu2.size; simp at this; omega
    have hM2 := HT.out.lt HI.out.hwd
    have HWD2 := hide (HT.out.upd HI.out.hwd hu2' (fun i hi => ⟨(hML i hi).1, fun e => HI.out.hdis i hi e⟩))
    have HROW := hide (room_row hroom2)
    have HM' : Hid (∀ i, M' i → M0 i ∨ W.heap.size ≤ i) := hide (fun i hi => (hm2 i hi).elim (fun h => HI.out.hmb i h) (fun h => .inr (by simp at h; omega)))
    have HD' : Hid (∀ i, M' i → ¬ M2 i) := hide (fun i hi e => (hm2 i hi).elim (fun h => HI.out.hdis i h e) (fun h => by have := (hM2 i e).2; simp at h; omega))
    have HUP2 : Hid (Upd (fun i => M0 i ∨ Mw i) W w2) := hide (HI.out.hup.then hu2' (fun i hi e => .inl ((HI.out.hmb i e).elim id (fun h => by omega))))
    have HRD2 := hide hr2
    have hnr : ¬ M2 wo.heap.size := fun e => by have := (hM2 _ e).2; omega
    have HFT := hide (HR.out.fit s)
    have HSTP : Hid (stp size rd s = if (rd s).1 < 0 ∨ (size : Int) < (rd s).1 then ([], 34, (rd s).2.2.2) else ((rd s).2.2.1, (rd s).2.1, (rd s).2.2.2)) := rfl
    have HDEC := hide (stp_dec HR.out s)
    have HMLE := hide (stp_mle HR.out s)
    have HLEN := hide (stp_len HR.out s)
    have HID := hide (fun hb he => chunkL_idle (step := stp size rd) (fu := fu) (s := s) (idle := gi) (by have := HI.out.hfu; have := HI.out.hgi; omega) hb he)
    have HSM := hide (fun h => chunkL_some (step := stp size rd) (fu := fu) (s := s) (idle := gi) (by have := HI.out.hfu; have := HI.out.hgi; omega) h)
    replace hM2 := hide hM2
    replace hnr := hide hnr
    clear hu2 hu2' hm2 hn2 hr2 hroom2 hML HRD
    generalize rd s = q at *
    obtain ⟨n, er, bs, s2⟩ := q
    simp only at HSTP HFT HROW HRD2
    have HEQ := hide HI.out.heq
    by_cases hbad : n < 0 ∨ (size : Int) < n
    · have hst : stp size rd s = ([], 34, s2) := by rw [HSTP.out, if_pos hbad]
      have hr : res = (k, 34, s2, t) := by
        rw [HEQ.out, HSM.out (by rw [hst]; simp), hst, copyL, show handA wf t [] = (0, 0, t) from handF_done _ _ _ _]
        simp
      replace hr := hide hr
      have HF : Hid (RCPost Rd Wd res M0 Mw W (.returned (.tuple #[.int .i64 (k : Int), .int .i64 34])) w2) := hide ⟨by rw [hr.out], ⟨M', by rw [hr.out]; exact HRD2.out, HM'.out⟩, ⟨M2, by rw [hr.out]; exact HWD2.out, HI.out.hwb⟩, HUP2.out⟩
      clear hst HSTP HFT HDEC HMLE HLEN HID HSM
      rcases hbad with hneg | hbig
      · go_wp2_with fail
        go_ret2
        exact HF.out
      · have hneg : ¬ n < 0 := by omega
        go_wp2_with fail
        go_ret2
        exact HF.out
    · obtain ⟨x, rfl⟩ : ∃ x : Nat, n = x := ⟨n.toNat, by omega⟩
      have hbl : bs.length = x := by have := HFT.out (by omega) (by omega); simpa using this
      have hst : stp size rd s = (bs, er, s2) := by rw [HSTP.out, if_neg hbad]
      rw [hst] at HDEC HMLE HLEN HID HSM
      simp only at HDEC HMLE HLEN HID HSM
      have n1 : ¬ (x : Int) < 0 := by omega
      have n2 : ¬ (size : Int) < (x : Int) := by omega
      have n3 : (0 : Int) ≤ (x : Int) := by omega
      have n4 : (x : Int) ≤ (size : Int) := by omega
      have hgi := HI.out.hgi
      have hfu1 := HI.out.hfu
      replace hfu1 := hide hfu1
      have HTB : Hid (tb (chunkL (stp size rd) fu s gi) = tb (chunkL (stp size rd) fu s gi)) := rfl
      clear hbad HSTP HFT
      by_cases hidle : x = 0 ∧ er = 0
      · obtain ⟨hx0, he0⟩ := hidle
        subst hx0
        subst he0
        obtain rfl : bs = [] := List.eq_nil_of_length_eq_zero hbl
        have hck := HID.out rfl rfl
        have hcn := HI.out.hcn
        by_cases h16 : gi + 1 < 16
        · rw [if_pos h16] at hck
          have HN : Hid (RCH size rd cnt m Rd wf cntw sz Wd res M0 Mw W (.int .i64 (k : Int)) (.int .i64 ((gi : Int) + 1)) (.int .i64 0) w2 (fu - 1)) := hide ⟨k, gi + 1, s2, t, M', M2, rfl, by go_num, rfl, HRD2.out, HWD2.out, HD'.out, HM'.out, HI.out.hwb, HUP2.out, h16, by have := HMLE.out; have := hfu1.out; omega, by rw [HEQ.out, hck]; exact copy_s _ _ _ _ _ _ (chunkL_ne _ _ _ h16 (by have := hfu1.out; omega)), by have := HMLE.out; omega, by have := HI.out.hcw; rwa [hck] at this, by have := HI.out.hsz; rwa [hck] at this, by have := HI.out.hkb; rwa [hck] at this⟩
          have h16i : ¬ (gi : Int) + 1 = 16 := by omega
          clear hck HID HSM HDEC hst HTB
          go_wp2_with fail
          refine wp_loop_rounds 1 ?_
          rw [rounds_succ]
          go_wp2_with fail
          go_roundw
          case rel => exact ⟨_, HN.out⟩
          case measure => exact least_lt hfu.out HN.out (by have := hfu1.out; omega)
        · rw [if_neg h16] at hck
          have hr : res = (k, 33, s2, t) := by
            rw [HEQ.out, hck, copyL, show handA wf t [] = (0, 0, t) from handF_done _ _ _ _]
            simp
          replace hr := hide hr
          have HF : Hid (RCPost Rd Wd res M0 Mw W (.returned (.tuple #[.int .i64 (k : Int), .int .i64 33])) w2) := hide ⟨by rw [hr.out], ⟨M', by rw [hr.out]; exact HRD2.out, HM'.out⟩, ⟨M2, by rw [hr.out]; exact HWD2.out, HI.out.hwb⟩, HUP2.out⟩
          obtain rfl : gi = 15 := by omega
          rw [show ((15 : Nat) : Int) = 15 from rfl]
          clear hck HID HSM HDEC hst HTB h16 hfu hcn
          go_wp2_with fail
          refine wp_loop_rounds 1 ?_
          rw [rounds_succ]
          go_wp2_with fail
          go_ret2
          exact HF.out
      · have hbe : ¬ (bs = [] ∧ er = 0) := fun e => hidle ⟨by rw [e.1] at hbl; simpa using hbl.symm, e.2⟩
        have hck := HSM.out hbe
        have hcw := HI.out.hcw
        have hsz' := HI.out.hsz
        have hkb := HI.out.hkb
        have hcn := HI.out.hcn
        rw [hck] at hcw hsz' hkb
        simp only [tb] at hcw hsz' hkb
        rw [hbl] at hcw hsz' hkb
        rw [hck] at HEQ
        have HH0 : Hid (HandAt wf cntw sz Wd w2 t M2 bs 0 0 w2) := hide ⟨t, M2, 17 * bs.length + 17, by omega, by omega, by omega, by simp [handA], HWD2.out, Upd.refl _ _, fun _ h => .inl h, by omega, by omega⟩
        have HC := hide (handA_cnt HT.out t bs)
        have hcase : ((0 : Int) < (x : Int)) ∨ (¬ (0 : Int) < (x : Int) ∧ (er != 0) = true) := by
          by_cases hx : x = 0
          · exact .inr ⟨by omega, by simp; exact fun e => hidle ⟨hx, e⟩⟩
          · exact .inl (by omega)
        have HBE := hide hbe
        replace hcw := hide hcw
        replace hsz' := hide hsz'
        replace hkb := hide hkb
        replace hcn := hide hcn
        clear hidle hbe hck HID HSM hst HTB
        have HAFT : Hid (∀ (kk : Nat) (ee : Int) (w3 : World) (t3 : τ) (M3 : Nat → Prop), res = (kk, ee, s2, t3) → Wd w3 t3 M3 → Upd M2 w2 w3 → (∀ i, M3 i → M2 i ∨ w2.heap.size ≤ i) → RCPost Rd Wd res M0 Mw W (.returned (.tuple #[.int .i64 (kk : Int), .int .i64 ee])) w3) := hide (fun kk ee w3 t3 M3 hr hw hu hm => by
          have hrl := HR.out.lt HRD2.out
          have hz := hu.size
          exact ⟨by rw [hr], ⟨M', by rw [hr]; exact HR.out.upd HRD2.out hu (fun i hi => ⟨(hM2.out i hi).1, fun e => HD'.out i e hi⟩), HM'.out⟩, ⟨M3, by rw [hr]; exact hw, fun i hi => (hm i hi).elim (fun h => HI.out.hwb i h) (fun h => .inr (by omega))⟩, HUP2.out.then hu (fun i hi e => (HI.out.hwb i e).elim .inr (fun h => by omega))⟩)
        rcases hcase with q1 | ⟨q1, q2⟩
        · go_upto_block 2 with fail
          go_wp2_with fail
          go_loopw [8, 10, 11] (fun a c p wr => ∃ (j idle : Nat) (ad : Option Addr), a = .int .i64 ((k + j : Nat) : Int) ∧ c = .int .i64 (idle : Int) ∧ p = .slice ad (x - j) (size - j) ∧ Hid (0 < x - j → ad = some ⟨wo.heap.size, j, none⟩) ∧ Hid (HandAt wf cntw sz Wd w2 t M2 bs j idle wr) ∧ Hid (x ≤ j → idle = 0)) (fun a c _ _ => 17 * (k + x - (intOf a).toNat) + (16 - (intOf c).toNat))
          case atStart => exact ⟨0, 0, some ⟨wo.heap.size, 0, none⟩, rfl, rfl, rfl, fun _ => rfl, HH0, fun _ => rfl⟩
          case round =>
            obtain ⟨j, idle, ad, rfl, rfl, rfl, HAD, HA, HZ⟩ := hrel
            obtain ⟨t1, M3, fu2, hj, hi2, hf2, heq, hw1, hu1, hm1, hc1, hs1⟩ := HA.out
            rw [hbl] at hj hf2 hc1 hs1
            have hz1 := hu1.size
            replace heq := hide heq
            replace hw1 := hide hw1
            replace hu1 := hide hu1
            replace hm1 := hide hm1
            replace hf2 := hide hf2
            replace hc1 := hide hc1
            replace hs1 := hide hs1
            clear HA HH0
            by_cases hlt : j < x
            · have had := HAD.out (by omega)
              subst had
              have hdl : (bs.drop j).length = x - j := by rw [List.length_drop, hbl]
              have hM3r : ¬ M3 wo.heap.size := fun e => (hm1.out _ e).elim (fun h => hnr.out h) (fun h => by omega)
              have hrow2 : Row wr .u8 (some ⟨wo.heap.size, j, none⟩) (bs.drop j) := by
                have h := (HROW.out.drop j).upd hu1.out (fun y hy _ e => by cases hy; exact hnr.out e)
                simpa using h
              have HWR := hide (HT.out.write wr t1 M3 wo.heap.size j (x - j) (size - j) (bs.drop j) hw1.out (by have := hc1.out; omega) hdl (by omega) (by omega) hrow2 hM3r (by have := hs1.out; omega) (by omega))
              have hne : bs.drop j ≠ [] := fun e => by rw [e] at hdl; simp at hdl; omega
              have q1' := hide (fun h => handF_bad (wf := wf) (fu := fu2) (t := t1) (b := bs.drop j) (idle := idle) (by have := hf2.out; omega) hne h)
              have q2' := hide (fun h => handF_err (wf := wf) (fu := fu2) (t := t1) (b := bs.drop j) (idle := idle) (by have := hf2.out; omega) hne h)
              have q3' := hide (fun h => handF_some (wf := wf) (fu := fu2) (t := t1) (b := bs.drop j) (idle := idle) (by have := hf2.out; omega) hne h)
              have q4' := hide (fun h => handF_idle (wf := wf) (fu := fu2) (t := t1) (b := bs.drop j) (idle := idle) (by have := hf2.out; omega) hne h)
              have q5' := hide (fun h => handF_16 (wf := wf) (fu := fu2) (t := t1) (b := bs.drop j) (idle := idle) (by have := hf2.out; omega) hne h)
              have q6' := hide (HT.out.cnt1 t1 (bs.drop j))
              have q7' := hide (HT.out.szin t1 (bs.drop j))
              rw [hdl] at q1' q2' q3' q7'
              have hLp : (0 : Int) < ((x - j : Nat) : Int) := by omega
              clear hrow2 hM3r hne hdl
              go_wp2_with fail
              refine HWR.out.mono ?_
              rintro e w3 ⟨M4, rfl, hw3, hu3, hm3⟩
              have HU3 : Hid (Upd M2 w2 w3) := hide (hu1.out.then hu3 (fun y hy hM => (hm1.out y hM).elim id (fun h => by omega)))
              have HM3 : Hid (∀ y, M4 y → M2 y ∨ w2.heap.size ≤ y) := hide (fun y hy => (hm3 y hy).elim (fun h => hm1.out y h) (fun h => .inr (by omega)))
              replace hw3 := hide hw3
              clear hu3 hm3 HWR hw1 hu1 hm1
              generalize wf t1 (bs.drop j) = q at *
              obtain ⟨n', er', t3⟩ := q
              simp only at q1' q2' q3' q4' q5' q6' q7' hw3
              generalize hL : x - j = L at *
              generalize hC : size - j = C at *
              replace hL := hide hL
              replace hC := hide hC
              have hkj : k + j ≤ 4611686018427387903 := by have := hkb.out; omega
              by_cases hbad : n' < 0 ∨ (L : Int) < n'
              · have hr : res = (k + j, 34, s2, t3) := by
                  have hh : handA wf t bs = (j, 34, t3) := by rw [heq.out, q1'.out hbad]; simp
                  rw [HEQ.out, copyL]
                  simp only [hh]
                  rw [if_pos (by decide)]
                have HF := hide (HAFT.out _ _ w3 t3 M4 hr hw3.out HU3.out HM3.out)
                clear hr
                rcases hbad with hneg | hbig
                · go_wp2_with fail
                  go_ret2
                  exact HF.out
                · have hneg : ¬ n' < 0 := by omega
                  go_wp2_with fail
                  go_ret2
                  exact HF.out
              · obtain ⟨y, rfl⟩ : ∃ y : Nat, n' = y := ⟨n'.toNat, by omega⟩
                simp only [Int.toNat_natCast] at q2' q3' q7'
                have m1 : ¬ (y : Int) < 0 := by omega
                have m2 : ¬ (L : Int) < (y : Int) := by omega
                have m3 : (y : Int) ≤ (L : Int) := by omega
                have m4 : (0 : Int) ≤ (y : Int) := by omega
                have m5 : (L : Int) ≤ (C : Int) := by have := hL.out; have := hC.out; omega
                have m6 : (y : Int) ≤ (C : Int) := by omega
                have hkjy : k + j + y ≤ 4611686018427387903 := by have := hkb.out; have := hL.out; omega
                have hLy : L - y = x - (j + y) := by have := hL.out; omega
                have hCy : C - y = size - (j + y) := by have := hC.out; omega
                replace hLy := hide hLy
                replace hCy := hide hCy
                by_cases he : er' = 0
                · subst he
                  by_cases hy : y = 0
                  · subst hy
                    by_cases h16 : idle + 1 = 16
                    · have hr : res = (k + j, 33, s2, t3) := by
                        have hh : handA wf t bs = (j, 33, t3) := by rw [heq.out, q5'.out rfl rfl h16]; simp
                        rw [HEQ.out, copyL]
                        simp only [hh]
                        rw [if_pos (by decide)]
                      have HF := hide (HAFT.out _ _ w3 t3 M4 hr hw3.out HU3.out HM3.out)
                      obtain rfl : idle = 15 := by omega
                      rw [show ((15 : Nat) : Int) = 15 from rfl]
                      clear hr hbad h16
                      by_cases hCz : C = 0
                      · exact absurd hCz (by omega)
                      · go_wp2_with fail
                        go_ret2
                        exact HF.out
                    · have HN : Hid (HandAt wf cntw sz Wd w2 t M2 bs j (idle + 1) w3) := hide ⟨t3, M4, fu2 - 1, by omega, by omega, by have := hf2.out; have := hL.out; rw [hbl]; omega, by rw [heq.out, q4'.out rfl rfl h16], hw3.out, HU3.out, HM3.out, by have := q6'.out; have := hc1.out; have := hL.out; rw [hbl]; omega, by have := q7'.out (by omega) (by omega); have := hs1.out; have := hL.out; rw [hbl]; omega⟩
                      have h16' : ¬ (idle : Int) + 1 = 16 := by omega
                      have hLj := hL.out
                      have hCj := hC.out
                      clear hbad
                      have hCz : ¬ C = 0 := by omega
                      go_wp2_with fail
                      go_roundw
                      case rel => exact ⟨j, idle + 1, some ⟨wo.heap.size, j, none⟩, rfl, by go_num, by simp [hLj, hCj], fun _ => rfl, HN, fun h => absurd h (by omega)⟩
                      case measure => simp [intOf]; omega
                  · have HN : Hid (HandAt wf cntw sz Wd w2 t M2 bs (j + y) 0 w3) := hide ⟨t3, M4, fu2 - 1, by have := hL.out; omega, by omega, by have := hf2.out; have := hL.out; rw [hbl]; omega, by rw [heq.out, q3'.out hbad rfl (by omega), List.drop_drop, Nat.add_assoc], hw3.out, HU3.out, HM3.out, by have := q6'.out; have := hc1.out; have := hL.out; rw [hbl]; omega, by have := q7'.out (by omega) (by omega); have := hs1.out; have := hL.out; rw [hbl]; omega⟩
                    have hy1 : (0 : Int) < (y : Int) := by omega
                    have hcast : ((k + j : Nat) : Int) + (y : Int) = ((k + (j + y) : Nat) : Int) := by omega
                    have HCAST := hide hcast
                    clear hbad hcast
                    by_cases hCz : C = y
                    · have hLj := hL.out
                      go_wp2_with fail
                      go_roundw
                      case rel => exact ⟨j + y, 0, some ⟨wo.heap.size, j, none⟩, by rw [← HCAST.out]; rfl, rfl, by rw [← hLy.out, ← hCy.out, hCz]; simp, fun h => by have := hL.out; have := hC.out; omega, HN, fun _ => rfl⟩
                      case measure => have := HCAST.out; simp [intOf]; omega
                    · have hCz' : ¬ y = C := fun e => hCz e.symm
                      have hLj := hL.out
                      go_wp2_with fail
                      go_roundw
                      case rel => exact ⟨j + y, 0, some ⟨wo.heap.size, j + y, none⟩, by rw [← HCAST.out]; rfl, rfl, by rw [← hLy.out, ← hCy.out], fun _ => rfl, HN, fun _ => rfl⟩
                      case measure => have := HCAST.out; simp [intOf]; omega
                · have hr : res = (k + j + y, er', s2, t3) := by
                    have hh : handA wf t bs = (j + y, er', t3) := by rw [heq.out, q2'.out hbad he]
                    rw [HEQ.out, copyL]
                    simp only [hh]
                    rw [if_pos he, Nat.add_assoc]
                  have HF := hide (HAFT.out _ _ w3 t3 M4 hr hw3.out HU3.out HM3.out)
                  have hcast : ((k + j + y : Nat) : Int) = ((k + j : Nat) : Int) + (y : Int) := by omega
                  rw [hcast] at HF
                  have he1 : (er' != 0) = true := by simp [he]
                  clear hr hbad
                  by_cases hCz : C = y
                  · go_wp2_with fail
                    go_ret2
                    exact HF.out
                  · have hCz' : ¬ y = C := fun e => hCz e.symm
                    go_wp2_with fail
                    go_ret2
                    exact HF.out
            · have hL0 : x - j = 0 := by omega
              have hjx : Hid (j = x) := hide (by omega)
              obtain rfl : idle = 0 := HZ.out (by omega)
              have hh : handA wf t bs = (j, 0, t1) := by rw [heq.out, List.drop_eq_nil_of_le (by omega), handF_done]; simp
              rw [hh] at HC
              simp only at HC
              rw [copyL] at HEQ
              simp only [hh] at HEQ
              rw [if_neg (by simp)] at HEQ
              have HAF := hide (fun ee (hr : res = (k + j, ee, s2, t1)) => HAFT.out (k + j) ee wr t1 M3 hr hw1.out hu1.out hm1.out)
              have HRD3 := hide (HR.out.upd HRD2.out hu1.out (fun i hi => ⟨(hM2.out i hi).1, fun e => HD'.out i e hi⟩))
              have hrl := hide (HR.out.lt HRD2.out)
              rw [hL0]
              clear heq HAD hlt hf2 HZ hL0 hh hj
              by_cases e31 : er = 31
              · subst e31
                have HF := hide (HAF.out 0 (by rw [HEQ.out, if_pos rfl]))
                go_wp2_with fail
                go_ret2
                exact HF.out
              · rw [if_neg e31] at HEQ
                by_cases e0 : er = 0
                · subst e0
                  rw [if_neg (by simp), if_pos rfl] at HEQ
                  rw [if_pos rfl] at hcw hsz' hkb
                  have HN : Hid (RCH size rd cnt m Rd wf cntw sz Wd res M0 Mw W (.int .i64 ((k + j : Nat) : Int)) (.int .i64 0) (.int .i64 0) wr (fu - 1)) := hide ⟨k + j, 0, s2, t1, M', M3, rfl, rfl, rfl, HRD3.out, hw1.out, fun i hi e => (hm1.out i e).elim (fun h => HD'.out i hi h) (fun h => by have := hrl.out i hi; omega), HM'.out, fun i hi => (hm1.out i hi).elim (fun h => HI.out.hwb i h) (fun h => .inr (by have := HUP2.out.size; omega)), HUP2.out.then hu1.out (fun i hi e => (HI.out.hwb i e).elim .inr (fun h => by omega)), by omega, by have := HDEC.out (fun e => by rw [e] at hbl; simp at hbl; omega) rfl; have := hfu1.out; omega, HEQ.out, by have := HDEC.out (fun e => by rw [e] at hbl; simp at hbl; omega) rfl; have := HMLE.out; have := hcn.out; omega, by have := hcw.out; have := HC.out; omega, by have := hsz'.out; have := HC.out; omega, by have := hkb.out; have := hjx.out; omega⟩
                  go_wp2_with fail
                  go_roundw
                  case rel => exact ⟨_, HN.out⟩
                  case measure => exact least_lt hfu.out HN.out (by have := hfu1.out; omega)
                · have HF := hide (HAF.out er (by rw [HEQ.out, if_pos e0]))
                  have he1 : (er != 0) = true := by simp [e0]
                  go_wp2_with fail
                  go_ret2
                  exact HF.out
        · obtain rfl : x = 0 := by omega
          obtain rfl : bs = [] := List.eq_nil_of_length_eq_zero hbl
          have e0 : er ≠ 0 := by simpa using q2
          have hh : handA wf t [] = (0, 0, t) := handF_done _ _ _ _
          rw [copyL] at HEQ
          simp only [hh] at HEQ
          rw [if_neg (by simp)] at HEQ
          have HAF := hide (fun ee (hr : res = (k, ee, s2, t)) => HAFT.out k ee w2 t M2 hr HWD2.out (Upd.refl _ _) (fun _ h => .inl h))
          clear HH0
          by_cases e31 : er = 31
          · subst e31
            have HF := hide (HAF.out 0 (by rw [HEQ.out, if_pos rfl]; rfl))
            go_wp2_with fail
            refine wp_loop_rounds 1 ?_
            rw [rounds_succ]
            go_wp2_with fail
            go_ret2
            exact HF.out
          · rw [if_neg e31, if_pos e0] at HEQ
            have HF := hide (HAF.out er (by rw [HEQ.out]; rfl))
            go_wp2_with fail
            refine wp_loop_rounds 1 ?_
            rw [rounds_succ]
            go_wp2_with fail
            go_ret2
            exact HF.out

end Go.Proofs.Ytcffekhlnidjnaa
