/- An In is filled: the reader is asked till all has come. -/
import Derived.Test.YtjcanghffhpncaaQIn2
import Derived.Test.YtjcanghffhpncaaQApp
namespace Go.Proofs.Ytjcanghffhpncaa
open Go.RowKit

/-- Asked till b has n bytes: the bytes, the error, the reader's state, how many running gave nothing. -/
def fillF {σ : Type} (RD : Nat → σ → Int × Int × List Int × σ) (n : Nat) : Nat → List Int → σ → Nat → List Int × Int × σ × Nat
  | 0, b, s, i => (b, 0, s, i)
  | fu + 1, b, s, i =>
    if n ≤ b.length then (b, 0, s, i) else
    if n ≤ b.length + (ask1 RD (min (n - b.length) 4096) s i).1.length then (b ++ (ask1 RD (min (n - b.length) 4096) s i).1, 0, (ask1 RD (min (n - b.length) 4096) s i).2.2) else
    if (ask1 RD (min (n - b.length) 4096) s i).2.1 = 31 then ([], 41, (ask1 RD (min (n - b.length) 4096) s i).2.2) else
    if (ask1 RD (min (n - b.length) 4096) s i).2.1 ≠ 0 then ([], (ask1 RD (min (n - b.length) 4096) s i).2.1, (ask1 RD (min (n - b.length) 4096) s i).2.2) else
    fillF RD n fu (b ++ (ask1 RD (min (n - b.length) 4096) s i).1) (ask1 RD (min (n - b.length) 4096) s i).2.2.1 (ask1 RD (min (n - b.length) 4096) s i).2.2.2
def fillA {σ : Type} (RD : Nat → σ → Int × Int × List Int × σ) (n : Nat) (b : List Int) (s : σ) (i : Nat) : List Int × Int × σ × Nat := fillF RD n (17 * (n - b.length) + (16 - i)) b s i

theorem fill_done {σ : Type} {RD : Nat → σ → Int × Int × List Int × σ} {n fu : Nat} {b : List Int} {s : σ} {i : Nat} (h : n ≤ b.length) : fillF RD n fu b s i = (b, 0, s, i) := by
  cases fu with
  | zero => rfl
  | succ fu => rw [fillF, if_pos h]
/-- A round: what comes of it, if q is what the call told. -/
theorem fill_step {σ : Type} {RD : Nat → σ → Int × Int × List Int × σ} {n fu : Nat} {b : List Int} {s : σ} {i : Nat} (q : List Int × Int × σ × Nat) (hq : ask1 RD (min (n - b.length) 4096) s i = q) (hf : 0 < fu) (h : ¬ n ≤ b.length) :
    fillF RD n fu b s i = if n ≤ b.length + q.1.length then (b ++ q.1, 0, q.2.2) else if q.2.1 = 31 then ([], 41, q.2.2) else if q.2.1 ≠ 0 then ([], q.2.1, q.2.2) else fillF RD n (fu - 1) (b ++ q.1) q.2.2.1 q.2.2.2 := by
  obtain ⟨fu, rfl⟩ : ∃ f, fu = f + 1 := ⟨fu - 1, by omega⟩
  rw [fillF, if_neg h, hq]
  rfl

/-- What a call tells of itself. -/
structure AskOk {σ : Type} (cnt m vol : σ → Nat) (k : Nat) (s : σ) (i : Nat) (q : List Int × Int × σ × Nat) : Prop where
  len : q.1.length ≤ k
  b8 : B8 q.1
  cnt1 : cnt q.2.2.1 = cnt s + 1
  vol : q.1.length + vol q.2.2.1 ≤ vol s
  mle : m q.2.2.1 ≤ m s
  i16 : i < 16 → q.2.2.2 ≤ 16
  ok : q.2.1 = 0 → i < 16 → q.2.2.2 < 16
  pot : q.2.1 = 0 → i < 16 → q.1 = [] → q.2.2.2 = i + 1
  pot1 : q.2.1 = 0 → q.1 ≠ [] → m q.2.2.1 + 1 ≤ m s ∧ q.2.2.2 = 0
  i0 : q.1 ≠ [] → q.2.2.2 = 0

theorem ask_ok {σ : Type} {RD : Nat → σ → Int × Int × List Int × σ} {cnt m vol : σ → Nat} {f : FuncId} {recv : Value} {B : Nat} {Rd : World → σ → (Nat → Prop) → Prop} {k : Nat} (R : Reader k (RD k) cnt m f recv B Rd) (hvol : ∀ s, (RD k s).2.2.1.length + vol (RD k s).2.2.2 ≤ vol s) (s : σ) (i : Nat) : AskOk cnt m vol k s i (ask1 RD k s i) := by
  have h1 := R.fit s
  have h2 := R.len s
  have h3 := R.b8 s
  have h4 := R.cnt1 s
  have h5 := R.dec s
  have h6 := R.mle s
  have h7 := hvol s
  unfold ask1
  generalize RD k s = q at *
  obtain ⟨n, er, bs, s'⟩ := q
  simp only at *
  by_cases hbad : n < 0 ∨ (k : Int) < n
  · rw [if_pos hbad]
    refine ⟨Nat.zero_le _, (by intro x hx; cases hx), h4, (by simp only [List.length_nil]; omega), h6, (fun h => by simp only; omega), fun h => ?_, fun h => ?_, fun h => ?_, fun h => absurd rfl h⟩
    all_goals (simp only at h; omega)
  · rw [if_neg hbad]
    have hl := h1 (by omega) (by omega)
    have j1 : bs ≠ [] → idleOf i n.toNat er = 0 := fun hb => by
      have hp : 0 < bs.length := List.length_pos_iff.2 hb
      unfold idleOf
      rw [if_pos (Or.inl (by omega))]
    have j2 : idleOf i n.toNat er ≤ i + 1 := by unfold idleOf; split <;> omega
    have j3 : er = 0 → bs = [] → idleOf i n.toNat er = i + 1 := fun he hb => by
      rw [hb] at hl
      unfold idleOf
      rw [if_neg]
      simp only [List.length_nil] at hl
      omega
    have j4 : toldOf (idleOf i n.toNat er) er = 0 → er = 0 ∧ idleOf i n.toNat er ≠ 16 := fun h => by
      unfold toldOf at h
      split at h
      · omega
      · exact ⟨h, by assumption⟩
    generalize idleOf i n.toNat er = J at *
    refine ⟨h2, h3, h4, h7, h6, fun h => ?_, fun h hi => ?_, fun h hi hb => j3 (j4 h).1 hb, fun h hb => ⟨?_, j1 hb⟩, fun hb => j1 hb⟩
    · simp only; omega
    · have := j4 h; simp only; omega
    · have hp : 0 < bs.length := List.length_pos_iff.2 hb
      have := h5 (j4 h).1 (by omega) (by omega)
      simp only
      omega

def FillPost {σ : Type} (Rd : World → σ → (Nat → Prop) → Prop) (B g at' : Nat) (err : Int) (r : Value) (left : Nat) (hv : Value) (res : List Int × Int × σ × Nat) (M : Nat → Prop) (bo : Option Nat) (W : World) (e : Ending) (W' : World) : Prop :=
  ∃ v M', e = .returned (.tuple #[v, .int .i64 res.2.1]) ∧ OwnB W' B 5 v res.1 ∧ InC W' g at' res.2.2.2 err r left hv ∧ Rd W' res.2.2.1 M' ∧ Upd (fun j => M j ∨ j = g ∨ bo = some j) W W' ∧ (∀ j, M' j → M j ∨ W.heap.size ≤ j) ∧ ∀ j, v.ownBlock = some j → ¬ M' j ∧ j ≠ g ∧ (bo = some j ∨ W.heap.size ≤ j)

/-- At the head of a round. -/
structure FI {σ : Type} (RD : Nat → σ → Int × Int × List Int × σ) (cnt m vol : σ → Nat) (Rd : World → σ → (Nat → Prop) → Prop) (B g at' : Nat) (err : Int) (r : Value) (left : Nat) (hv : Value) (res : List Int × Int × σ × Nat) (M0 : Nat → Prop) (bo : Option Nat) (n : Nat) (W : World) (v : Value) (W' : World) (bs : List Int) (s : σ) (i fu : Nat) (M : Nat → Prop) : Prop where
  own : OwnB W' B 5 v bs
  blk : InC W' g at' i err r left hv
  rd : Rd W' s M
  upd : Upd (fun j => M0 j ∨ j = g ∨ bo = some j) W W'
  msub : ∀ j, M j → M0 j ∨ W.heap.size ≤ j
  dis : ∀ j, v.ownBlock = some j → ¬ M j ∧ j ≠ g ∧ (bo = some j ∨ W.heap.size ≤ j)
  mg : ¬ M g
  i16 : i < 16
  lenle : bs.length ≤ n
  fuel : 17 * (n - bs.length) + (16 - i) ≤ fu
  eq : res = fillF RD n fu bs s i
  cn : cnt s + 17 * m s + (16 - i) ≤ 4611686018427387000
  vo : min n (bs.length + vol s) ≤ 140737488355328

theorem OwnB.bo {w : World} {base : Nat} {e : TypeId} {v : Value} {zs : List Int} (h : OwnB w base e v zs) : Value.blk v = v.ownBlock := by
  rcases h with ⟨rfl, _⟩ | ⟨g, cap, cur, rfl, _⟩ <;> rfl

def slen : Value → Nat
  | .slice _ n _ => n
  | _ => 0
def cellN (W : World) (g k : Nat) : Nat := match W.cell? ⟨g, k, none⟩ with
  | some (.int _ x) => x.toNat
  | _ => 0

set_option maxRecDepth 100000 in
set_option maxHeartbeats 3200000 in
theorem fill_any {σ : Type} {RD : Nat → σ → Int × Int × List Int × σ} {cnt m vol : σ → Nat} {f : FuncId} {recv : Value} {B : Nat} {Rd : World → σ → (Nat → Prop) → Prop} {ty : TypeId} {pv : Value} (L : Leads "Read" ty pv f recv)
    (R : ∀ k, 1 ≤ k → k ≤ 4096 → Reader k (RD k) cnt m f recv B Rd) (hvol : ∀ k s, 1 ≤ k → k ≤ 4096 → (RD k s).2.2.1.length + vol (RD k s).2.2.2 ≤ vol s)
    (W : World) (g : Nat) (s0 : σ) (M0 : Nat → Prop) (at' i0 : Nat) (err : Int) (left : Nat) (hv v0 : Value) (b0 : List Int) (n : Nat) (hn : n ≤ 9223372036854775807) (hbn : b0.length ≤ n) (hB : B ≤ W.heap.size) (hI : InC W g at' i0 err (.iface ty pv) left hv) (hR : Rd W s0 M0) (hMg : ¬ M0 g) (hBg : B ≤ g) (hi : i0 < 16)
    (ho : OwnB W B 5 v0 b0) (hd : ∀ j, v0.ownBlock = some j → ¬ M0 j ∧ j ≠ g) (hc : cnt s0 + 17 * m s0 + (16 - i0) ≤ 4611686018427387000) (hvo : min n (b0.length + vol s0) ≤ 140737488355328) :
    Calls Try.prog 40 #[.pointer (some ⟨g, 0, none⟩), v0, .int .i64 (n : Int)] W fun e W' => FillPost Rd B g at' err (.iface ty pv) left hv (fillA RD n b0 s0 i0) M0 v0.ownBlock W e W' := by
  obtain ⟨i0', hi0, hz0, hz1, hz2⟩ := info_parts' infoByte'
  obtain ⟨res, hres⟩ : ∃ res, res = fillA RD n b0 s0 i0 := ⟨_, rfl⟩
  have H0 : Hid (FI RD cnt m vol Rd B g at' err (.iface ty pv) left hv res M0 v0.ownBlock n W v0 W b0 s0 i0 (17 * (n - b0.length) + (16 - i0)) M0) := hide ⟨ho, hI, hR, Upd.refl _ _, fun _ h => .inl h, fun j hj => ⟨(hd j hj).1, (hd j hj).2, .inl hj⟩, hMg, hi, hbn, Nat.le_refl _, hres, hc, hvo⟩
  rw [← hres]
  have HRR := hide R
  have HVOL := hide hvol
  have HL := hide L
  have hgl : g < W.heap.size := lt_of_block hI
  obtain ⟨a0, c0, rfl, _, _, _⟩ := ho.sliceN rfl
  generalize hbo : (Value.slice a0 b0.length c0).ownBlock = bo at *
  replace hbo := hide hbo
  clear hR R hvol L hI ho hd hc hvo hres hMg
  go_enter Try.func40, Try.ntmps40
  go_wp2_with fail
  go_loopw [1] (fun v wr => ∃ (bs : List Int) (s : σ) (i fu : Nat) (M : Nat → Prop), Hid (FI RD cnt m vol Rd B g at' err (.iface ty pv) left hv res M0 bo n W v wr bs s i fu M)) (fun v wr => 17 * (n - slen v) + (16 - cellN wr g 1))
  case atStart => exact ⟨_, _, _, _, _, H0⟩
  case round =>
    clear H0
    obtain ⟨bs, s, i, fu, M, HI⟩ := hrel
    obtain ⟨l, hl⟩ : ∃ l, bs.length = l := ⟨_, rfl⟩
    obtain ⟨a1, c1, rfl, hn1, hc1, hq1⟩ := HI.out.own.sliceN hl
    have hln : l ≤ n := by have := HI.out.lenle; omega
    replace hn1 := hide hn1
    replace hq1 := hide hq1
    replace hl := hide hl
    by_cases hlt : l < n
    · obtain ⟨k, hk⟩ : ∃ k, k = min (n - l) 4096 := ⟨_, rfl⟩
      have hk1 : 1 ≤ k := by omega
      have hk2 : k ≤ 4096 := by omega
      have hkl : l + k ≤ n := by omega
      have HA := hide (cask_any HL.out wr g s M k at' i err left hv (HRR.out k hk1 hk2) hk1 hk2 (Nat.le_trans hB HI.out.upd.size) HI.out.blk HI.out.rd HI.out.mg hBg (Nat.le_of_lt HI.out.i16) (by have := HI.out.cn; omega))
      have HOK := hide (ask_ok (HRR.out k hk1 hk2) (fun s => HVOL.out k s hk1 hk2) s i)
      have HST := hide (fun q hq => fill_step (RD := RD) (n := n) (fu := fu) (b := bs) (s := s) (i := i) q hq (by have := HI.out.fuel; have := hl.out; omega) (by have := hl.out; omega))
      rw [hl.out, ← hk] at HST
      have HST' := hide (HST.out _ rfl)
      clear HST
      have hlti : (l : Int) < (n : Int) := by omega
      have hki : Hid (min ((n : Int) - (l : Int)) 4096 = (k : Int)) := hide (by omega)
      replace hk := hide hk
      generalize ask1 RD k s i = q at *
      obtain ⟨bt, er, s', i'⟩ := q
      simp only at HST'
      go_wp2_with fail
      all_goals (first | rw [show (4096 : Int) = (k : Int) from by have := hk.out; omega] | rw [show (n : Int) - (l : Int) = (k : Int) from by have := hk.out; omega])
      all_goals (
        refine HA.out.mono ?_
        rintro e w1 ⟨v1, M1, rfl, ho1, hi1, hr1, hu1, hm1, hd1⟩
        simp only at ho1 hi1 hr1
        obtain ⟨x, hx⟩ : ∃ x, bt.length = x := ⟨_, rfl⟩
        have HNN1 := hide ho1.slice
        obtain ⟨a2, c2, rfl, hn2, hc2, hq2⟩ := ho1.sliceN hx
        have hgw : g < wr.heap.size := lt_of_block HI.out.blk
        have hxk : x ≤ k := by have := HOK.out.len; simp only at this; omega
        have HR2 := hide ho1.row
        have HO1 := hide (HI.out.own.upd hu1 (fun j hj e => e.elim (HI.out.dis j hj).1 (HI.out.dis j hj).2.1))
        have hM1g : ¬ M1 g := fun e => (hm1 g e).elim HI.out.mg (fun h => by omega)
        have hz1w : wr.heap.size ≤ w1.heap.size := hu1.size
        have hzW : W.heap.size ≤ wr.heap.size := HI.out.upd.size
        have HU1 : Hid (Upd (fun j => M0 j ∨ j = g ∨ bo = some j) W w1) := hide (HI.out.upd.then hu1 (fun j hj e => e.elim (fun e => (HI.out.msub j e).elim .inl (fun h => by omega)) (fun e => .inr (.inl e))))
        have HM1 : Hid (∀ j, M1 j → M0 j ∨ W.heap.size ≤ j) := hide (fun j hj => (hm1 j hj).elim (fun h => HI.out.msub j h) (fun h => .inr (by omega)))
        have hn2' := hide hn2
        have hxb : l + x ≤ 140737488355328 := by
          have h1 := HI.out.vo
          have h2 := HOK.out.vol
          have h3 := hl.out
          simp only at h2
          omega
        have HDV : Hid (∀ j, (Value.slice a1 l c1).ownBlock = some j → ¬ M1 j) := hide (fun j hj e => (hm1 j e).elim (HI.out.dis j hj).1 (fun h => by have := (hq1.out j hj).2; omega))
        have HI1 := hide hi1
        have HR1 := hide hr1
        have HBO := hide (OwnB.bo HO1.out)
        replace hx := hide hx
        have HFIN : Hid (∀ v2 w2, OwnO w2 B 5 0 v2 (bs ++ bt) → w1.grownBy w2 (Value.blk (.slice a1 l c1)) → (∀ j, Value.blk v2 = some j → Value.blk (.slice a1 l c1) = some j ∨ w1.heap.size ≤ j) →
            OwnB w2 B 5 v2 (bs ++ bt) ∧ InC w2 g at' i' err (.iface ty pv) left hv ∧ Rd w2 s' M1 ∧ Upd (fun j => M0 j ∨ j = g ∨ bo = some j) W w2 ∧ ∀ j, v2.ownBlock = some j → ¬ M1 j ∧ j ≠ g ∧ (bo = some j ∨ W.heap.size ≤ j)) := hide fun v2 w2 ho2 hg2 hk2 => by
          have hB2 := ho2.toB
          have hu2 : Upd (fun j => (Value.slice a1 l c1).ownBlock = some j) w1 w2 := Upd.of_grown hg2 (fun j hj _ => by rw [← HBO.out]; exact hj)
          have hM1lt := (HRR.out 1 (by omega) (by omega)).lt HR1.out
          refine ⟨hB2, HI1.out.upd hu2 (fun e => (HI.out.dis g e).2.1 rfl), (HRR.out 1 (by omega) (by omega)).upd HR1.out hu2 (fun j hj => ⟨(hq1.out j hj).1, HDV.out j hj⟩), HU1.out.then hu2 (fun j hj e => (HI.out.dis j e).2.2.elim (fun h => .inr (.inr h)) (fun h => by omega)), fun j hj => ?_⟩
          rw [← OwnB.bo hB2] at hj
          rcases hk2 j hj with h | h
          · rw [HBO.out] at h
            exact ⟨HDV.out j h, (HI.out.dis j h).2.1, (HI.out.dis j h).2.2⟩
          · exact ⟨fun e => by have := hM1lt j e; omega, by omega, .inr (by omega)⟩
        clear HA ho1 hi1 hr1 hu1 hm1 hd1 hn2 hq2 HNN1
        have hlx : Hid ((bs ++ bt).length = l + x) := hide (by rw [List.length_append, hl.out, hx.out])
        rw [hx.out] at HST'
        have HEQ := hide (HI.out.eq.trans HST'.out)
        clear HST'
        by_cases hfull : l + x = n
        · rw [if_pos (by omega)] at HEQ
          have hfi : ((l + x : Nat) : Int) = (n : Int) := by omega
          have HPOST : Hid (∀ v2 w2, OwnB w2 B 5 v2 (bs ++ bt) ∧ InC w2 g at' i' err (.iface ty pv) left hv ∧ Rd w2 s' M1 ∧ Upd (fun j => M0 j ∨ j = g ∨ bo = some j) W w2 ∧ (∀ j, v2.ownBlock = some j → ¬ M1 j ∧ j ≠ g ∧ (bo = some j ∨ W.heap.size ≤ j)) → FillPost Rd B g at' err (.iface ty pv) left hv res M0 bo W (.returned (.tuple #[v2, .int .i64 0])) w2) := hide fun v2 w2 ⟨q1, q2, q3, q4, q5⟩ => by
            rw [HEQ.out]
            exact ⟨v2, M1, rfl, q1, q2, q3, q4, HM1.out, q5⟩
          go_wp2_with (first
            | (at_builtin; refine append_o rfl (.tmp 24) (.tmp 25) 23 rfl B 5 i0' Try.underlying23 hi0 hz0 hz1 hz2 0 (.slice a1 l c1) bs rfl HO1.out.toO a2 x c2 bt rfl hx.out hn2'.out HR2.out (by have := hl.out; omega) (Nat.le_trans hB (Nat.le_trans hzW hz1w)) ?_; intro v2 w2 off2 hoff ho2 hg2 hk2; have HF2 := hide (HFIN.out v2 w2 (by rw [hoff rfl] at ho2; exact ho2) hg2 hk2); clear HFIN hoff ho2 hg2 hk2; obtain ⟨a3, c3, rfl, hn3, hc3, hq3⟩ := HF2.out.1.sliceN hlx.out; replace hn3 := hide hn3; replace hq3 := hide hq3)
            | fail)
          have hF := HF2.out
          rw [hfull] at hF
          go_ret2
          exact HPOST.out (.slice a3 n c3) w2 hF
        · have hfi : ¬ ((l + x : Nat) : Int) = (n : Int) := by omega
          rw [if_neg (by omega)] at HEQ
          have HPOST : Hid (∀ v2 w2 ee, res = ([], ee, s', i') → OwnB w2 B 5 v2 (bs ++ bt) ∧ InC w2 g at' i' err (.iface ty pv) left hv ∧ Rd w2 s' M1 ∧ Upd (fun j => M0 j ∨ j = g ∨ bo = some j) W w2 ∧ (∀ j, v2.ownBlock = some j → ¬ M1 j ∧ j ≠ g ∧ (bo = some j ∨ W.heap.size ≤ j)) → FillPost Rd B g at' err (.iface ty pv) left hv res M0 bo W (.returned (.tuple #[.slice none 0 0, .int .i64 ee])) w2) := hide fun v2 w2 ee hr ⟨q1, q2, q3, q4, q5⟩ => by
            rw [hr]
            exact ⟨.slice none 0 0, M1, rfl, OwnB.nil _ _ _, q2, q3, q4, HM1.out, fun j hj => by cases hj⟩
          by_cases e31 : er = 31
          · subst e31
            rw [if_pos rfl] at HEQ
            go_wp2_with (first
              | (at_builtin; refine append_o rfl (.tmp 24) (.tmp 25) 23 rfl B 5 i0' Try.underlying23 hi0 hz0 hz1 hz2 0 (.slice a1 l c1) bs rfl HO1.out.toO a2 x c2 bt rfl hx.out hn2'.out HR2.out (by have := hl.out; omega) (Nat.le_trans hB (Nat.le_trans hzW hz1w)) ?_; intro v2 w2 off2 hoff ho2 hg2 hk2; have HF2 := hide (HFIN.out v2 w2 (by rw [hoff rfl] at ho2; exact ho2) hg2 hk2); clear HFIN hoff ho2 hg2 hk2; obtain ⟨a3, c3, rfl, hn3, hc3, hq3⟩ := HF2.out.1.sliceN hlx.out; replace hn3 := hide hn3; replace hq3 := hide hq3)
              | fail)
            go_ret2
            exact HPOST.out _ _ _ HEQ.out HF2.out
          · rw [if_neg e31] at HEQ
            by_cases e0 : er = 0
            · subst e0
              rw [if_neg (by simp)] at HEQ
              go_wp2_with (first
                | (at_builtin; refine append_o rfl (.tmp 24) (.tmp 25) 23 rfl B 5 i0' Try.underlying23 hi0 hz0 hz1 hz2 0 (.slice a1 l c1) bs rfl HO1.out.toO a2 x c2 bt rfl hx.out hn2'.out HR2.out (by have := hl.out; omega) (Nat.le_trans hB (Nat.le_trans hzW hz1w)) ?_; intro v2 w2 off2 hoff ho2 hg2 hk2; have HF2 := hide (HFIN.out v2 w2 (by rw [hoff rfl] at ho2; exact ho2) hg2 hk2); clear HFIN hoff ho2 hg2 hk2; obtain ⟨a3, c3, rfl, hn3, hc3, hq3⟩ := HF2.out.1.sliceN hlx.out; replace hn3 := hide hn3; replace hq3 := hide hq3)
                | fail)
              have hok := HOK.out
              have hi' : i' < 16 := hok.ok rfl HI.out.i16
              have hfu := HI.out.fuel
              have hcn := HI.out.cn
              have hvo := HI.out.vo
              have hi16 := HI.out.i16
              have k1 := hok.cnt1
              have k2 := hok.vol
              have k3 := hok.mle
              have k4 := hok.pot rfl hi16
              have k5 := hok.pot1 rfl
              have hxo := hx.out
              have hlo := hl.out
              simp only at k1 k2 k3 k4 k5
              have hstep : (x = 0 ∧ i' = i + 1) ∨ (0 < x ∧ i' = 0 ∧ m s' + 1 ≤ m s) := by
                by_cases hb : bt = []
                · exact .inl ⟨by rw [← hxo, hb]; rfl, k4 hb⟩
                · exact .inr ⟨by rw [← hxo]; exact List.length_pos_iff.2 hb, (k5 hb).2, (k5 hb).1⟩
              have HN : Hid (FI RD cnt m vol Rd B g at' err (.iface ty pv) left hv res M0 bo n W (.slice a3 (l + x) c3) w2 (bs ++ bt) s' i' (fu - 1) M1) := hide ⟨HF2.out.1, HF2.out.2.1, HF2.out.2.2.1, HF2.out.2.2.2.1, HM1.out, HF2.out.2.2.2.2, hM1g, hi', by rw [hlx.out]; omega, by rw [hlx.out]; omega, HEQ.out, by omega, by rw [hlx.out]; omega⟩
              have hmi : cellN w2 g 1 = i' := by unfold cellN; rw [(InC.c HF2.out.2.1).2.1]; simp
              have hmi0 : cellN wr g 1 = i := by unfold cellN; rw [(InC.c HI.out.blk).2.1]; simp
              go_roundw
              case rel => exact ⟨_, _, _, _, _, HN⟩
              case measure => rw [hmi, hmi0]; simp only [slen]; omega
            · rw [if_pos e0] at HEQ
              have e0' : (er != 0) = true := by simp [e0]
              go_wp2_with (first
                | (at_builtin; refine append_o rfl (.tmp 24) (.tmp 25) 23 rfl B 5 i0' Try.underlying23 hi0 hz0 hz1 hz2 0 (.slice a1 l c1) bs rfl HO1.out.toO a2 x c2 bt rfl hx.out hn2'.out HR2.out (by have := hl.out; omega) (Nat.le_trans hB (Nat.le_trans hzW hz1w)) ?_; intro v2 w2 off2 hoff ho2 hg2 hk2; have HF2 := hide (HFIN.out v2 w2 (by rw [hoff rfl] at ho2; exact ho2) hg2 hk2); clear HFIN hoff ho2 hg2 hk2; obtain ⟨a3, c3, rfl, hn3, hc3, hq3⟩ := HF2.out.1.sliceN hlx.out; replace hn3 := hide hn3; replace hq3 := hide hq3)
                | fail)
              go_ret2
              exact HPOST.out _ _ _ HEQ.out HF2.out)
    · obtain rfl : l = n := by omega
      have HPOST : Hid (FillPost Rd B g at' err (.iface ty pv) left hv res M0 bo W (.returned (.tuple #[.slice a1 l c1, .int .i64 0])) wr) := by
        rw [HI.out.eq, fill_done (by rw [hl.out]; exact Nat.le_refl _)]
        exact ⟨_, M, rfl, HI.out.own, HI.out.blk, HI.out.rd, HI.out.upd, HI.out.msub, HI.out.dis⟩
      go_wp2_with fail
      go_ret2
      exact HPOST.out

end Go.Proofs.Ytjcanghffhpncaa
