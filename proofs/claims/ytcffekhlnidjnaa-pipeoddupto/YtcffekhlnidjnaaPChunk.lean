/- Chunks: what a reader gives, call by call. -/
import Derived.RangeFuncBox
import Derived.Shelf.Abstract
import Derived.Shelf.RegionOpen
import Derived.WalkKit
import Derived.OwnWalkIn
import Derived.TacticsInMore
import Derived.LoopNIn
import Derived.LoopIn
import Derived.Test.YtcffekhlnidjnaaPHand
namespace Go.Proofs.Ytcffekhlnidjnaa
open Go.RowKit Go.Shelf
attribute [local go_sem] Oper.semAt_some

theorem least_ex {p : Nat → Prop} : ∀ n, p n → ∃ n, p n ∧ ∀ k, p k → n ≤ k := by
  intro n
  induction n using Nat.strongRecOn with
  | ind n ih =>
    intro h
    by_cases h2 : ∃ k, k < n ∧ p k
    · obtain ⟨k, hk, hp⟩ := h2
      exact ih k hk hp
    · exact ⟨n, h, fun k hk => Nat.le_of_not_lt (fun hlt => h2 ⟨k, hlt, hk⟩)⟩
theorem least_spec {p : Nat → Prop} (h : ∃ n, p n) : p (Classical.epsilon fun n => p n ∧ ∀ k, p k → n ≤ k) ∧ ∀ k, p k → (Classical.epsilon fun n => p n ∧ ∀ k, p k → n ≤ k) ≤ k := by
  obtain ⟨n, hn⟩ := h
  exact Classical.epsilon_spec (least_ex n hn)

theorem least_get {p : Nat → Prop} (h : ∃ n, p n) : ∃ fu, fu = (Classical.epsilon fun n => p n ∧ ∀ k, p k → n ≤ k) ∧ p fu := ⟨_, rfl, (least_spec h).1⟩
theorem least_lt {p q : Nat → Prop} {fu k : Nat} (hfu : fu = (Classical.epsilon fun n => p n ∧ ∀ k, p k → n ≤ k)) (hq : q k) (hk : k < fu) : (Classical.epsilon fun n => q n ∧ ∀ k, q k → n ≤ k) < (Classical.epsilon fun n => p n ∧ ∀ k, p k → n ≤ k) := by
  rw [← hfu]
  exact Nat.lt_of_le_of_lt ((least_spec ⟨k, hq⟩).2 k hq) hk

/-- What comes: bytes, an error, the reader's state then. -/
def chunkL {σ : Type} (step : σ → List Int × Int × σ) : Nat → σ → Nat → List (List Int × Int × σ)
  | 0, _, _ => []
  | fu + 1, s, idle =>
    if (step s).1 = [] ∧ (step s).2.1 = 0 then (if idle + 1 < 16 then chunkL step fu (step s).2.2 (idle + 1) else [([], 33, (step s).2.2)]) else
    step s :: (if (step s).2.1 = 0 then chunkL step fu (step s).2.2 0 else [])
def chunkA {σ : Type} (size : Nat) (rd : σ → Int × Int × List Int × σ) (m : σ → Nat) (s : σ) : List (List Int × Int × σ) := chunkL (stp size rd) (17 * m s + 16) s 0
theorem chunkL_idle {σ : Type} {step : σ → List Int × Int × σ} {fu : Nat} {s : σ} {idle : Nat} (hf : 0 < fu) (hb : (step s).1 = []) (he : (step s).2.1 = 0) : chunkL step fu s idle = (if idle + 1 < 16 then chunkL step (fu - 1) (step s).2.2 (idle + 1) else [([], 33, (step s).2.2)]) := by
  obtain ⟨fu, rfl⟩ : ∃ f, fu = f + 1 := ⟨fu - 1, by omega⟩
  rw [chunkL, if_pos ⟨hb, he⟩]
  rfl
theorem chunkL_some {σ : Type} {step : σ → List Int × Int × σ} {fu : Nat} {s : σ} {idle : Nat} (hf : 0 < fu) (h : ¬ ((step s).1 = [] ∧ (step s).2.1 = 0)) : chunkL step fu s idle = step s :: (if (step s).2.1 = 0 then chunkL step (fu - 1) (step s).2.2 0 else []) := by
  obtain ⟨fu, rfl⟩ : ∃ f, fu = f + 1 := ⟨fu - 1, by omega⟩
  rw [chunkL, if_neg h]
  rfl

theorem stp_next {σ : Type} (size : Nat) (rd : σ → Int × Int × List Int × σ) (s : σ) : (stp size rd s).2.2 = (rd s).2.2.2 := by
  unfold stp
  split <;> rfl
theorem stp_dec {σ : Type} {size : Nat} {rd : σ → Int × Int × List Int × σ} {cnt m : σ → Nat} {f : FuncId} {recv : Value} {B : Nat} {Rd : World → σ → (Nat → Prop) → Prop} (R : Reader size rd cnt m f recv B Rd) (s : σ) (hb : (stp size rd s).1 ≠ []) (he : (stp size rd s).2.1 = 0) : m (stp size rd s).2.2 < m s := by
  rw [stp_next]
  have h1 := R.fit s
  have h2 := R.dec s
  unfold stp at hb he
  split at hb
  · exact absurd rfl hb
  · rename_i hbad
    rw [if_neg hbad] at he
    have h3 := h1 (by omega) (by omega)
    have h4 : 0 < (rd s).2.2.1.length := List.length_pos_iff.2 hb
    exact h2 he (by omega) (by omega)
theorem stp_mle {σ : Type} {size : Nat} {rd : σ → Int × Int × List Int × σ} {cnt m : σ → Nat} {f : FuncId} {recv : Value} {B : Nat} {Rd : World → σ → (Nat → Prop) → Prop} (R : Reader size rd cnt m f recv B Rd) (s : σ) : m (stp size rd s).2.2 ≤ m s ∧ cnt (stp size rd s).2.2 = cnt s + 1 := by
  rw [stp_next]
  exact ⟨R.mle s, R.cnt1 s⟩
theorem stp_len {σ : Type} {size : Nat} {rd : σ → Int × Int × List Int × σ} {cnt m : σ → Nat} {f : FuncId} {recv : Value} {B : Nat} {Rd : World → σ → (Nat → Prop) → Prop} (R : Reader size rd cnt m f recv B Rd) (s : σ) : (stp size rd s).1.length ≤ size := by
  unfold stp
  split
  · exact Nat.zero_le _
  · exact R.len s

/-- What is yielded. -/
structure Ck (σ : Type) where
  v : Value
  b : List Int
  e : Int
  s : σ
def Ck.t {σ : Type} (c : Ck σ) : List Int × Int × σ := (c.b, c.e, c.s)
def Ck.vs {σ : Type} (c : Ck σ) : Array Value := #[c.v, .int .i64 c.e]
def endS {σ : Type} (s : σ) (xs : List (Ck σ)) : σ := (xs.getLast?.map Ck.s).getD s
theorem endS_snoc {σ : Type} (s : σ) (xs : List (Ck σ)) (x : Ck σ) : endS s (xs ++ [x]) = x.s := by simp [endS]

/-- What the iterator tells. -/
def CkD {σ : Type} (all : List (List Int × Int × σ)) (Rd : World → σ → (Nat → Prop) → Prop) (M0 : Nat → Prop) (pre : List (Ck σ)) (x : Ck σ) (W0 W1 : World) : Prop :=
  (∃ rest, all = (pre ++ [x]).map Ck.t ++ rest) ∧ OwnB W1 W0.heap.size 5 x.v x.b ∧ Rd W1 x.s M0
def CkS {σ : Type} (all : List (List Int × Int × σ)) (s0 : σ) (Rd : World → σ → (Nat → Prop) → Prop) (M0 : Nat → Prop) (xs : List (Ck σ)) (W : World) : Prop := xs.map Ck.t = all ∧ Rd W (endS s0 xs) M0
def CkPr (M0 : Nat → Prop) (B b1 b2 : Nat) (k : Nat) : Prop := k < B ∨ M0 k ∨ k = b1 ∨ k = b2

/-- What holds at the head of a round of Chunks. -/
def CkAt {σ : Type} (size : Nat) (rd : σ → Int × Int × List Int × σ) (cnt m : σ → Nat) (Rd : World → σ → (Nat → Prop) → Prop) (all : List (List Int × Int × σ)) (M0 : Nat → Prop) (J : List (Ck σ) → World → Prop) (i : Value) (W : World) (fu : Nat) : Prop :=
  ∃ (idle : Nat) (pre : List (Ck σ)) (s : σ) (W0 : World), i = .int .i64 idle ∧ idle ≤ 16 ∧ J pre W0 ∧ Upd M0 W0 W ∧ Rd W s M0 ∧ all = pre.map Ck.t ++ (if idle < 16 then chunkL (stp size rd) fu s idle else [([], 33, s)]) ∧ 17 * m s + (16 - idle) ≤ fu ∧ cnt s + 17 * m s + (16 - idle) ≤ 4611686018427387903

set_option maxRecDepth 100000 in
set_option maxHeartbeats 1600000 in
theorem chunks1_seq {σ : Type} {size : Nat} {rd : σ → Int × Int × List Int × σ} {cnt m : σ → Nat} {f : FuncId} {recv : Value} {B : Nat} {Rd : World → σ → (Nat → Prop) → Prop} {ty : TypeId} {pv : Value} (R : Reader size rd cnt m f recv B Rd) (L : Leads "Read" ty pv f recv)
    (M0 : Nat → Prop) (hfix : ∀ W s M, Rd W s M → M = M0) (n : Nat) (hn : 5 ≤ n) (w : World) (s : σ) (b1 b2 : Nat) (h0 : 1 ≤ size) (h1 : size ≤ 4096) (hB : B ≤ w.heap.size) (hR : Rd w s M0) (hb1 : w.cell? ⟨b1, 0, none⟩ = some (.iface ty pv)) (hb2 : w.cell? ⟨b2, 0, none⟩ = some (.int .i64 size)) (hm1 : ¬ M0 b1) (hm2 : ¬ M0 b2)
    (hcnt : cnt s + 17 * m s + 16 ≤ 4611686018427387903) :
    SeqW Fence.wide n Try.prog 35 #[.pointer (some ⟨b1, 0, none⟩), .pointer (some ⟨b2, 0, none⟩)] Ck.vs M0 (CkPr M0 B b1 b2) (CkD (chunkA size rd m s) Rd M0) (CkS (chunkA size rd m s) s Rd M0) w := by
  intro l J Jx W hW hY hJ
  have c1 := hW.cell hb1 (fun e => e)
  have c2 := hW.cell hb2 (fun e => e)
  have hBW : B ≤ W.heap.size := Nat.le_trans hB hW.size
  have H0 : Hid (CkAt size rd cnt m Rd (chunkA size rd m s) M0 J (.int .i64 0) W (17 * m s + 16)) := hide ⟨0, [], s, W, rfl, by omega, hJ, Upd.refl _ _, R.upd hR hW (fun i e => e.elim), by simp [chunkA], by omega, by omega⟩
  have HY := hide hY
  have HR := hide R
  have HL := hide L
  have HFX := hide hfix
  obtain ⟨all, hall⟩ : ∃ all, all = chunkA size rd m s := ⟨_, rfl⟩
  rw [← hall] at H0 HY ⊢
  have hmb1 := hide hm1
  have hmb2 := hide hm2
  clear hY hJ hW R L hfix hR hcnt hb1 hb2 hm1 hm2
  have hn1 : 1 ≤ n := by omega
  have g1 : ¬ (size : Int) < 1 := by omega
  have g2 : ¬ (4096 : Int) < (size : Int) := by omega
  refine callsIn_of_wp Try.func35 rfl trivial ?_ rfl
  simp only [Try.ntmps35, List.size_toArray, List.length_cons, List.length_nil, Nat.reduceAdd, Nat.reduceSub, Array.replicate_succ, Array.replicate_zero, List.push_toArray, List.append_toArray, List.nil_append, List.cons_append]
  gi_wp2
  gi_loopw [4] (fun i wr => (∃ fu, CkAt size rd cnt m Rd all M0 J i wr fu) ∧ wr.cell? ⟨b1, 0, none⟩ = some (.iface ty pv) ∧ wr.cell? ⟨b2, 0, none⟩ = some (.int .i64 size) ∧ B ≤ wr.heap.size) (fun i wr => Classical.epsilon fun n => CkAt size rd cnt m Rd all M0 J i wr n ∧ ∀ k, CkAt size rd cnt m Rd all M0 J i wr k → n ≤ k)
  case atStart => exact ⟨⟨_, H0.out⟩, c1, c2, hBW⟩
  case round =>
    clear c1 c2 H0 hBW
    obtain ⟨hex, k1, k2, hBr⟩ := hrel
    obtain ⟨fu, hfu, hat⟩ := least_get hex
    obtain ⟨idle, pre, s1, W0, rfl, hi, hJ0, hu0, hr0, heq, hf, hc⟩ := hat
    replace hfu := hide hfu
    replace heq := hide heq
    replace hu0 := hide hu0
    replace hr0 := hide hr0
    replace hf := hide hf
    replace hc := hide hc
    clear hex
    have hsz0 := hu0.out.size
    by_cases hlt : idle < 16
    · have heq1 := heq.out
      rw [if_pos hlt] at heq1
      replace heq1 := hide heq1
      clear heq
      have HA := hide (ask_any HR.out HL.out wr s1 M0 h0 h1 hBr hr0.out (by have := hc.out; omega))
      have HDEC := hide (stp_dec HR.out s1)
      have HMLE := hide (stp_mle HR.out s1)
      have HLEN := hide (stp_len HR.out s1)
      have HID := hide (fun hb he => chunkL_idle (step := stp size rd) (fu := fu) (s := s1) (idle := idle) (by have := hf.out; omega) hb he)
      have HSM := hide (fun h => chunkL_some (step := stp size rd) (fu := fu) (s := s1) (idle := idle) (by have := hf.out; omega) h)
      have e1 : (idle : Int) < 16 := by omega
      gi_wp2
      refine ⟨trivial, ((callsIn_wide (n := n - 1)).2 HA.out).mono ?_⟩
      rintro e w1 ⟨v, M1, rfl, hov, hr1, hu1, hm1, hv1⟩
      obtain rfl : M1 = M0 := HFX.out _ _ _ hr1
      have k1' := hu1.cell k1 hmb1.out
      have k2' := hu1.cell k2 hmb2.out
      have hsz1 := hu1.size
      have hBr1 : B ≤ w1.heap.size := by omega
      have HU1 := hide (hu0.out.trans hu1)
      replace hr1 := hide hr1
      clear hu1 hm1 hv1 HA k1 k2 hr0 hu0
      generalize stp size rd s1 = q at *
      obtain ⟨b, er, s2⟩ := q
      simp only at HDEC HMLE HLEN HID HSM hov hr1
      obtain ⟨av, cv, rfl, _⟩ := hov.slice
      replace hov := hide hov
      by_cases hbe : b = [] ∧ er = 0
      · obtain ⟨hb0, he0⟩ := hbe
        subst hb0
        subst he0
        have HN : Hid (CkAt size rd cnt m Rd all M1 J (.int .i64 ((idle + 1 : Nat) : Int)) w1 (fu - 1)) := hide ⟨idle + 1, pre, s2, W0, rfl, by omega, hJ0, HU1.out, hr1.out, by rw [heq1.out, HID.out rfl rfl], by have := HMLE.out; have := hf.out; omega, by have := HMLE.out; have := hc.out; omega⟩
        rw [show ((idle + 1 : Nat) : Int) = (idle : Int) + 1 by omega] at HN
        simp only [List.length_nil]
        gi_wp2
        go_roundw
        case rel => exact ⟨⟨_, HN.out⟩, k1', k2', hBr1⟩
        case measure => exact least_lt hfu.out HN.out (by have := hf.out; omega)
      · have hall1 : all = (pre ++ [(⟨.slice av b.length cv, b, er, s2⟩ : Ck σ)]).map Ck.t ++ (if er = 0 then chunkL (stp size rd) (fu - 1) s2 0 else []) := by
          rw [heq1.out, HSM.out hbe, List.map_append, List.append_assoc]; rfl
        obtain ⟨fn, tmps, assign, body, hy, hRd⟩ := HY.out pre ⟨.slice av b.length cv, b, er, s2⟩ W0 w1 hJ0 HU1.out ⟨⟨_, hall1⟩, hov.out.mono hsz0, hr1.out⟩
        simp only [Ck.vs] at hy
        replace hall1 := hide hall1
        replace hRd := hide hRd
        have hbl := HLEN.out
        by_cases he0 : er = 0
        · subst he0
          have hbn : b ≠ [] := fun e => hbe ⟨e, rfl⟩
          have hlp : 0 < b.length := List.length_pos_iff.2 hbn
          have hl0 : ¬ (b.length : Int) = 0 := by omega
          replace hbe := hide hbe
          have HD2 := hide (HDEC.out hbn rfl)
          clear HDEC HID HSM
          replace hbn := hide hbn
          gi_wp2
          refine hRd.out.mono ?_
          rintro e W3 (⟨rfl, hJ3, hk3⟩ | ⟨rfl, hJx3⟩)
          · have q1 := hk3.cell k1' (fun h => h (.inr (.inr (.inl rfl))))
            have q2 := hk3.cell k2' (fun h => h (.inr (.inr (.inr rfl))))
            have hsz3 := hk3.size
            have hBr3 : B ≤ W3.heap.size := by omega
            have HR3 := hide (HR.out.upd hr1.out hk3 (fun i hi => ⟨Nat.le_of_not_lt (fun h => hi (.inl h)), fun h => hi (.inr (.inl h))⟩))
            have HN : Hid (CkAt size rd cnt m Rd all M1 J (.int .i64 0) W3 (fu - 1)) := hide ⟨0, _, s2, W3, rfl, by omega, hJ3, Upd.refl _ _, HR3.out, by rw [hall1.out]; rfl, by have := HD2.out; have := hf.out; omega, by have := HD2.out; have := HMLE.out; have := hc.out; omega⟩
            clear hk3
            gi_wp2
            go_roundw
            case rel => exact ⟨⟨_, HN.out⟩, q1, q2, hBr3⟩
            case measure => exact least_lt hfu.out HN.out (by have := hf.out; omega)
          · gi_wp2
            refine bodyPost_ret (results_none rfl _ _ _) rfl ?_
            exact ⟨⟨_, rfl⟩, .inr ⟨_, hJx3⟩⟩
        · have HFIN : Hid (∀ W3, J (pre ++ [⟨.slice av b.length cv, b, er, s2⟩]) W3 → Upd (fun k => ¬ CkPr M1 B b1 b2 k) w1 W3 → ∃ xs W0, J xs W0 ∧ Upd M1 W0 W3 ∧ CkS all s Rd M1 xs W3) := hide fun W3 hJ3 hk3 => ⟨_, W3, hJ3, Upd.refl _ _, by rw [hall1.out, if_neg he0, List.append_nil], by
            rw [endS_snoc]; exact HR.out.upd hr1.out hk3 (fun i hi => ⟨Nat.le_of_not_lt (fun h => hi (.inl h)), fun h => hi (.inr (.inl h))⟩)⟩
          have he1 : (er == 0) = false := by simp [he0]
          have he2 : (er != 0) = true := by simp [he0]
          clear HDEC HID HSM hbe
          by_cases hl0 : b.length = 0
          · obtain rfl : b = [] := List.eq_nil_of_length_eq_zero hl0
            simp only [List.length_nil] at hy ⊢
            gi_wp2
            refine hRd.out.mono ?_
            rintro e W3 (⟨rfl, hJ3, hk3⟩ | ⟨rfl, hJx3⟩)
            · gi_wp2
              refine bodyPost_ret (results_none rfl _ _ _) rfl ?_
              exact ⟨⟨_, rfl⟩, .inl (HFIN.out _ hJ3 hk3)⟩
            · gi_wp2
              refine bodyPost_ret (results_none rfl _ _ _) rfl ?_
              exact ⟨⟨_, rfl⟩, .inr ⟨_, hJx3⟩⟩
          · have hl1 : ¬ (b.length : Int) = 0 := by omega
            gi_wp2
            refine hRd.out.mono ?_
            rintro e W3 (⟨rfl, hJ3, hk3⟩ | ⟨rfl, hJx3⟩)
            · gi_wp2
              refine bodyPost_ret (results_none rfl _ _ _) rfl ?_
              exact ⟨⟨_, rfl⟩, .inl (HFIN.out _ hJ3 hk3)⟩
            · gi_wp2
              refine bodyPost_ret (results_none rfl _ _ _) rfl ?_
              exact ⟨⟨_, rfl⟩, .inr ⟨_, hJx3⟩⟩
    · obtain rfl : idle = 16 := by omega
      have hall1 : all = (pre ++ [(⟨.slice none 0 0, [], 33, s1⟩ : Ck σ)]).map Ck.t := by
        rw [heq.out, if_neg hlt, List.map_append]; rfl
      obtain ⟨fn, tmps, assign, body, hy, hRd⟩ := HY.out pre ⟨.slice none 0 0, [], 33, s1⟩ W0 wr hJ0 hu0.out ⟨⟨[], by rw [List.append_nil]; exact hall1⟩, OwnB.nil _ _ _, hr0.out⟩
      simp only [Ck.vs] at hy
      replace hRd := hide hRd
      replace hall1 := hide hall1
      rw [show ((16 : Nat) : Int) = 16 from rfl]
      gi_wp2
      refine hRd.out.mono ?_
      rintro e W3 (⟨rfl, hJ3, hk3⟩ | ⟨rfl, hJx3⟩)
      · gi_wp2
        refine bodyPost_end (results_none rfl _ _ _) rfl ?_
        refine ⟨⟨_, rfl⟩, .inl ⟨_, W3, hJ3, Upd.refl _ _, hall1.out.symm, ?_⟩⟩
        rw [endS_snoc]
        exact HR.out.upd hr0.out hk3 (fun i hi => ⟨Nat.le_of_not_lt (fun h => hi (.inl h)), fun h => hi (.inr (.inl h))⟩)
      · gi_wp2
        refine bodyPost_end (results_none rfl _ _ _) rfl ?_
        exact ⟨⟨_, rfl⟩, .inr ⟨_, hJx3⟩⟩

end Go.Proofs.Ytcffekhlnidjnaa
