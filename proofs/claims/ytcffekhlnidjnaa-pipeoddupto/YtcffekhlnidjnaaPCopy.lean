/- Copy: of any reader into any writer. -/
import Derived.Test.YtcffekhlnidjnaaPChunk
namespace Go.Proofs.Ytcffekhlnidjnaa
open Go.RowKit Go.Shelf
attribute [local go_sem] Oper.semAt_some

set_option maxRecDepth 100000 in
set_option maxHeartbeats 1600000 in
/-- A size that can't be: one word. -/
theorem chunks1_bad {σ : Type} (s : σ) (Rd : World → σ → (Nat → Prop) → Prop) (M0 : Nat → Prop) (B : Nat) (hupd : ∀ (W W' : World) (S : Nat → Prop), Rd W s M0 → Upd S W W' → (∀ i, S i → B ≤ i ∧ ¬ M0 i) → Rd W' s M0)
    (n : Nat) (hn : 5 ≤ n) (w : World) (b1 b2 : Nat) (ty : TypeId) (pv : Value) (sz : Int) (hs : sz < 1 ∨ 4096 < sz) (hR : Rd w s M0) (hb1 : w.cell? ⟨b1, 0, none⟩ = some (.iface ty pv)) (hb2 : w.cell? ⟨b2, 0, none⟩ = some (.int .i64 sz)) :
    SeqW Fence.wide n Try.prog 35 #[.pointer (some ⟨b1, 0, none⟩), .pointer (some ⟨b2, 0, none⟩)] Ck.vs M0 (CkPr M0 B b1 b2) (CkD [([], 1, s)] Rd M0) (CkS [([], 1, s)] s Rd M0) w := by
  intro l J Jx W hW hY hJ
  have c1 := hW.cell hb1 (fun e => e)
  have c2 := hW.cell hb2 (fun e => e)
  have HRW := hide (hupd _ _ _ hR hW (fun i e => e.elim))
  obtain ⟨fn, tmps, assign, body, hy, hRd⟩ := hY [] ⟨.slice none 0 0, [], 1, s⟩ W W hJ (Upd.refl _ _) ⟨⟨[], rfl⟩, OwnB.nil _ _ _, HRW.out⟩
  simp only [Ck.vs] at hy
  replace hRd := hide hRd
  have HU := hide hupd
  clear hY hJ hW hupd hR hb1 hb2
  have hn1 : 1 ≤ n := by omega
  have key : ∀ W3, (Hid (J ([] ++ [⟨.slice none 0 0, [], 1, s⟩]) W3 ∧ Upd (fun k => ¬ CkPr M0 B b1 b2 k) W W3)) → ∃ xs W0, J xs W0 ∧ Upd M0 W0 W3 ∧ CkS [([], 1, s)] s Rd M0 xs W3 := fun W3 h => ⟨_, W3, h.out.1, Upd.refl _ _, rfl, by
    rw [endS_snoc]; exact HU.out _ _ _ HRW.out h.out.2 (fun i hi => ⟨Nat.le_of_not_lt (fun h => hi (.inl h)), fun h => hi (.inr (.inl h))⟩)⟩
  replace key := hide key
  rcases hs with hs | hs
  · refine callsIn_of_wp Try.func35 rfl trivial ?_ rfl
    simp only [Try.ntmps35, List.size_toArray, List.length_cons, List.length_nil, Nat.reduceAdd, Nat.reduceSub, Array.replicate_succ, Array.replicate_zero, List.push_toArray, List.append_toArray, List.nil_append, List.cons_append]
    gi_wp2
    refine hRd.out.mono ?_
    rintro e W3 (⟨rfl, hJ3, hk3⟩ | ⟨rfl, hJx3⟩)
    · gi_wp2
      refine bodyPost_ret (results_none rfl _ _ _) rfl ?_
      exact ⟨⟨_, rfl⟩, .inl (key.out _ ⟨hJ3, hk3⟩)⟩
    · gi_wp2
      refine bodyPost_ret (results_none rfl _ _ _) rfl ?_
      exact ⟨⟨_, rfl⟩, .inr ⟨_, hJx3⟩⟩
  · have hs1 : ¬ sz < 1 := by omega
    refine callsIn_of_wp Try.func35 rfl trivial ?_ rfl
    simp only [Try.ntmps35, List.size_toArray, List.length_cons, List.length_nil, Nat.reduceAdd, Nat.reduceSub, Array.replicate_succ, Array.replicate_zero, List.push_toArray, List.append_toArray, List.nil_append, List.cons_append]
    gi_wp2
    refine hRd.out.mono ?_
    rintro e W3 (⟨rfl, hJ3, hk3⟩ | ⟨rfl, hJx3⟩)
    · gi_wp2
      refine bodyPost_ret (results_none rfl _ _ _) rfl ?_
      exact ⟨⟨_, rfl⟩, .inl (key.out _ ⟨hJ3, hk3⟩)⟩
    · gi_wp2
      refine bodyPost_ret (results_none rfl _ _ _) rfl ?_
      exact ⟨⟨_, rfl⟩, .inr ⟨_, hJx3⟩⟩

set_option maxHeartbeats 400000 in
theorem chunks_any (ty : TypeId) (pv : Value) (sz : Int) (w : World) :
    Calls Try.prog 24 #[.iface ty pv, .int .i64 sz] w fun e w' => e = .returned (.func (.func 35) #[] #[.pointer (some ⟨w.heap.size, 0, none⟩), .pointer (some ⟨w.heap.size + 1, 0, none⟩)]) ∧ w' = (w.alloc (.cells #[.iface ty pv] 76)).alloc (.cells #[.int .i64 sz] 3) := by
  have hmf : ∀ (fn : Fn) (first cap : Array Value) (w : World), (Instr.makeFunc fn first cap).run Try.prog w = .ok (.func fn first cap) w := fun _ _ _ _ => rfl
  go_enter Try.func24, Try.ntmps24
  go_wp2
  go_ret
  exact ⟨rfl, rfl⟩

/-! ### What a hand leaves -/
theorem hand_cnt {τ : Type} {wf : τ → List Int → Int × Int × τ} {cnt sz : τ → Nat} {f : FuncId} {recv : Value} {B : Nat} {Wd : World → τ → (Nat → Prop) → Prop} (T : Writer wf cnt sz f recv B Wd) : ∀ (fu : Nat) (t : τ) (b : List Int) (idle : Nat), idle < 16 →
    cnt (handF wf fu t b idle).2.2 ≤ cnt t + 17 * b.length + (16 - idle) ∧ (b = [] → (handF wf fu t b idle).2.2 = t) ∧ sz (handF wf fu t b idle).2.2 ≤ sz t + b.length ∧ (handF wf fu t b idle).1 ≤ b.length
  | 0, t, b, idle, hi => by simp [handF]; omega
  | fu + 1, t, b, idle, hi => by
    by_cases hb : b = []
    · subst hb
      rw [handF_done]
      simp
    · have hlen : 0 < b.length := List.length_pos_iff.2 hb
      have c1 := T.cnt1 t b
      have c2 := T.szle t b
      have c3 := T.szin t b
      by_cases h : (wf t b).1 < 0 ∨ (b.length : Int) < (wf t b).1
      · rw [handF_bad (by omega) hb h]
        exact ⟨by simp only; omega, fun e => absurd e hb, by simp only; omega, by simp only; omega⟩
      · by_cases he : (wf t b).2.1 = 0
        · by_cases hp : 0 < (wf t b).1
          · rw [handF_some (by omega) hb h he hp]
            have ih := hand_cnt T fu (wf t b).2.2 (b.drop (wf t b).1.toNat) 0 (by omega)
            rw [List.length_drop] at ih
            have c4 := c3 (by omega) (by omega)
            simp only [Nat.add_sub_cancel]
            exact ⟨by omega, fun e => absurd e hb, by omega, by omega⟩
          · have hp0 : (wf t b).1 = 0 := by omega
            by_cases h16 : idle + 1 = 16
            · rw [handF_16 (by omega) hb he hp0 h16]
              exact ⟨by simp only; omega, fun e => absurd e hb, by simp only; omega, by simp only; omega⟩
            · rw [handF_idle (by omega) hb he hp0 h16]
              have ih := hand_cnt T fu (wf t b).2.2 b (idle + 1) (by omega)
              have c4 := c3 (by omega) (by omega)
              simp only [Nat.add_sub_cancel]
              exact ⟨by omega, fun e => absurd e hb, by omega, by omega⟩
        · rw [handF_err (by omega) hb h he]
          exact ⟨by simp only; omega, fun e => absurd e hb, by simp only; omega, by simp only; omega⟩
theorem handA_cnt {τ : Type} {wf : τ → List Int → Int × Int × τ} {cnt sz : τ → Nat} {f : FuncId} {recv : Value} {B : Nat} {Wd : World → τ → (Nat → Prop) → Prop} (T : Writer wf cnt sz f recv B Wd) (t : τ) (b : List Int) :
    cnt (handA wf t b).2.2 ≤ cnt t + 33 * b.length ∧ sz (handA wf t b).2.2 ≤ sz t + b.length ∧ (handA wf t b).1 ≤ b.length := by
  have h := hand_cnt T (17 * b.length + 17) t b 0 (by omega)
  refine ⟨?_, h.2.2.1, h.2.2.2⟩
  by_cases hb : b = []
  · have := h.2.1 hb
    unfold handA
    rw [this]
    omega
  · have hlen : 0 < b.length := List.length_pos_iff.2 hb
    have := h.1
    unfold handA
    omega

/-! ### Copy -/
def copyL {σ τ : Type} (hd : τ → List Int → Nat × Int × τ) : List (List Int × Int × σ) → σ → τ → Nat → Nat × Int × σ × τ
  | [], s, t, k => (k, 0, s, t)
  | c :: r, _, t, k =>
    if (hd t c.1).2.1 ≠ 0 then (k + (hd t c.1).1, (hd t c.1).2.1, c.2.2, (hd t c.1).2.2) else
    if c.2.1 = 31 then (k + (hd t c.1).1, 0, c.2.2, (hd t c.1).2.2) else
    if c.2.1 ≠ 0 then (k + (hd t c.1).1, c.2.1, c.2.2, (hd t c.1).2.2) else
    copyL hd r c.2.2 (hd t c.1).2.2 (k + (hd t c.1).1)
def tb {σ : Type} : List (List Int × Int × σ) → Nat
  | [] => 0
  | c :: r => c.1.length + tb r

/-- A variable in a block of its own. -/
def Bx (W : World) (g : Nat) (t : TypeId) (v : Value) : Prop := W.heap[g]? = some (.cells #[v] t (0, 0))
theorem Bx.cell {W : World} {g : Nat} {t : TypeId} {v : Value} (h : Bx W g t v) : W.cell? ⟨g, 0, none⟩ = some v := by rw [cell_of_row _ _ _ _ _ _ h]; rfl
theorem Bx.fr {W : World} {g : Nat} {t : TypeId} {v : Value} (h : Bx W g t v) : W.frozen? ⟨g, 0, none⟩ = false := frozen_blk h 0
theorem Bx.upd {S : Nat → Prop} {W W' : World} {g : Nat} {t : TypeId} {v : Value} (h : Bx W g t v) (hu : Upd S W W') (hs : ¬ S g) : Bx W' g t v := hu.heap h hs
theorem Bx.set {W : World} {g : Nat} {t : TypeId} {v : Value} (h : Bx W g t v) (v' : Value) : Bx (W.setCell ⟨g, 0, none⟩ v') g t v' := block_setCell h 0 v'
theorem Bx.set' {W : World} {g g' : Nat} {t : TypeId} {v : Value} (h : Bx W g t v) (hne : g ≠ g') (v' : Value) : Bx (W.setCell ⟨g', 0, none⟩ v') g t v := (Below.heap_setCell _ _ _ _ hne).trans h

/-- Between two rounds of Copy; N: the heap's size when it was called. -/
structure CpI {σ τ : Type} (wf : τ → List Int → Int × Int × τ) (cnt sz : τ → Nat) (Wd : World → τ → (Nat → Prop) → Prop) (all : List (List Int × Int × σ)) (s0 : σ) (t0 : τ) (M0 Mw : Nat → Prop) (W00 : World) (tw : TypeId) (pw : Value) (N : Nat) (pre : List (Ck σ)) (W : World) (t : τ) (M : Nat → Prop) (k : Nat) : Prop where
  wd : Wd W t M
  mb : ∀ i, M i → Mw i ∨ N + 8 ≤ i
  x0 : Bx W N 74 (.iface tw pw)
  x1 : ∃ v, Bx W (N + 1) 3 v
  x2 : ∃ v, Bx W (N + 2) 35 v
  x3 : Bx W (N + 3) 3 (.int .i64 (k : Int))
  up : Upd (fun i => M0 i ∨ Mw i) W00 W
  eq : ∀ rest, all = pre.map Ck.t ++ rest → copyL (handA wf) all s0 t0 0 = copyL (handA wf) rest (endS s0 pre) t k ∧ cnt t + 33 * tb rest ≤ 4611686018427300000 ∧ sz t + tb rest ≤ 140737488355328 ∧ k + tb rest ≤ 4611686018427387903
/-- Behind Copy: what is told. -/
structure CpX {σ τ : Type} (Rd : World → σ → (Nat → Prop) → Prop) (Wd : World → τ → (Nat → Prop) → Prop) (res : Nat × Int × σ × τ) (M0 Mw : Nat → Prop) (W00 : World) (N : Nat) (W : World) (M : Nat → Prop) (k : Nat) (e : Int) : Prop where
  told : res.1 = k ∧ res.2.1 = e
  rd : Rd W res.2.2.1 M0
  wd : Wd W res.2.2.2 M
  mb : ∀ i, M i → Mw i ∨ N + 8 ≤ i
  up : Upd (fun i => M0 i ∨ Mw i) W00 W

def CopyPost {σ τ : Type} (Rd : World → σ → (Nat → Prop) → Prop) (Wd : World → τ → (Nat → Prop) → Prop) (res : Nat × Int × σ × τ) (M0 Mw : Nat → Prop) (W : World) (e : Ending) (W' : World) : Prop :=
  e = .returned (.tuple #[.int .i64 (res.1 : Int), .int .i64 res.2.1]) ∧ Rd W' res.2.2.1 M0 ∧ (∃ M', Wd W' res.2.2.2 M' ∧ ∀ i, M' i → Mw i ∨ W.heap.size ≤ i) ∧ Upd (fun i => M0 i ∨ Mw i) W W'

end Go.Proofs.Ytcffekhlnidjnaa
