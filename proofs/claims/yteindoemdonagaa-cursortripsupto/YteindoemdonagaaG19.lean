/- An In: what it asks, and how it is filled. -/
import Derived.Test.YteindoemdonagaaG18
import Derived.Deep.DeepCutAuto
import Derived.Deep.CutBlock
import Derived.Test.YteindoemdonagaaG12
import Derived.Deep.RegionHeld3
namespace Go.Proofs.Yteindoemdonagaa
open Go.RowKit

/-! ### what is asked, as numbers and lists -/
/-- How many calls running moved nothing, behind one that moved n and told er. -/
def idleOf (i n : Nat) (er : Int) : Nat := if 0 < n ∨ er ≠ 0 then 0 else i + 1
def toldOf (i : Nat) (er : Int) : Int := if i = 16 then 33 else er
/-- One call for k bytes: what came, the error, the reader's state, how many running gave nothing. -/
def ask1 {σ : Type} (RD : Nat → σ → Int × Int × List Int × σ) (k : Nat) (s : σ) (i : Nat) : List Int × Int × σ × Nat :=
  if (RD k s).1 < 0 ∨ (k : Int) < (RD k s).1 then ([], 34, (RD k s).2.2.2, i)
  else ((RD k s).2.2.1, toldOf (idleOf i (RD k s).1.toNat (RD k s).2.1) (RD k s).2.1, (RD k s).2.2.2, idleOf i (RD k s).1.toNat (RD k s).2.1)

/-! ### the parts that an In and an Out have in common -/
theorem blk_cell {W : World} {g k : Nat} {cs : Array Value} {T : TypeId} {v : Value} (h : W.heap[g]? = some (.cells cs T (0, 0))) (hc : cs[k]? = some v) : W.cell? ⟨g, k, none⟩ = some v := by
  rw [cell_of_row _ _ _ _ _ _ h]; exact hc
def CalledPost (g : Nat) (cs : Array Value) (T : TypeId) (i x : Nat) (er : Int) (W : World) (e : Ending) (W' : World) : Prop :=
  e = .returned (.int .i64 (toldOf (idleOf i x er) er)) ∧ W'.heap[g]? = some (.cells (cs.setIfInBounds 1 (.int .i64 (idleOf i x er : Nat))) T (0, 0)) ∧ Upd (fun j => j = g) W W'

set_option maxHeartbeats 800000 in
theorem called_any (g : Nat) (cs : Array Value) (T : TypeId) (i x : Nat) (er : Int) (W : World) (hg : W.heap[g]? = some (.cells cs T (0, 0))) (hc : cs[1]? = some (.int .i64 (i : Int))) (hi : i ≤ 16) :
    Calls Try.prog 33 #[.pointer (some ⟨g, 0, none⟩), .int .i64 (x : Int), .int .i64 er] W fun e W' => CalledPost g cs T i x er W e W' := by
  have h1 := blk_cell hg hc
  have f1 := frozen_blk hg 1
  have HG := hide hg
  have HB0 : Hid ((idleOf i x er = 0) → CalledPost g cs T i x er W (.returned (.int .i64 er)) ((W.setCell ⟨g, 1, none⟩ (.int .i64 ((i : Int) + 1))).setCell ⟨g, 1, none⟩ (.int .i64 0))) := hide fun h => by
    refine ⟨by rw [h]; rfl, ?_, ((Upd.refl _ _).set1 1 _).trans ((Upd.refl _ _).set1 1 _)⟩
    have := block_setCell (block_setCell hg 1 (.int .i64 ((i : Int) + 1))) 1 (.int .i64 0)
    rw [h, this]
    simp
  have HB1 : Hid (∀ q, (idleOf i x er = i + 1) → toldOf (i + 1) er = q → CalledPost g cs T i x er W (.returned (.int .i64 q)) (W.setCell ⟨g, 1, none⟩ (.int .i64 ((i : Int) + 1)))) := hide fun q h hq => by
    refine ⟨by rw [h, hq], ?_, (Upd.refl _ _).set1 1 _⟩
    rw [h]
    exact block_setCell hg 1 _
  clear hg hc
  by_cases hx : 0 < x
  · have hx' : (0 : Int) < (x : Int) := by omega
    have HF := hide (HB0.out (by simp [idleOf, hx]))
    clear HB0 HB1
    go_enter Try.func33, Try.ntmps33
    go_wp2_with fail
    go_ret
    exact HF.out
  · have hx' : ¬ (0 : Int) < (x : Int) := by omega
    by_cases he : er = 0
    · subst he
      have hI : idleOf i x 0 = i + 1 := by simp [idleOf, hx]
      by_cases h16 : i = 15
      · subst h16
        have HF := hide (HB1.out 33 hI (by simp [toldOf]))
        clear HB0 HB1 hI
        go_enter Try.func33, Try.ntmps33
        go_wp2_with fail
        go_ret
        exact HF.out
      · have HF := hide (HB1.out 0 hI (by simp [toldOf, h16]))
        have h16' : ¬ (i : Int) + 1 = 16 := by omega
        clear HB0 HB1 hI
        go_enter Try.func33, Try.ntmps33
        go_wp2_with fail
        go_ret
        exact HF.out
    · have he' : (er != 0) = true := by simp [he]
      have HF := hide (HB0.out (by simp [idleOf, he]))
      clear HB0 HB1
      go_enter Try.func33, Try.ntmps33
      go_wp2_with fail
      go_ret
      exact HF.out

set_option maxHeartbeats 400000 in
theorem end_any (g : Nat) (er : Int) (v : Value) (W : World) (h : W.cell? ⟨g, 2, none⟩ = some v) (hf : W.frozen? ⟨g, 2, none⟩ = false) :
    Calls Try.prog 24 #[.pointer (some ⟨g, 0, none⟩), .int .i64 er] W fun e W' => e = .returned (.int .i64 er) ∧ W' = W.setCell ⟨g, 2, none⟩ (.int .i64 er) := by
  go_enter Try.func24, Try.ntmps24
  go_wp2_with fail
  go_ret
  exact ⟨rfl, rfl⟩
set_option maxHeartbeats 400000 in
theorem sat_any (g : Nat) (x : Int) (W : World) (h : W.cell? ⟨g, 0, none⟩ = some (.int .i64 x)) :
    Calls Try.prog 10 #[.pointer (some ⟨g, 0, none⟩)] W fun e W' => e = .returned (.int .i64 x) ∧ W' = W := by
  go_enter Try.func10, Try.ntmps10
  go_wp2_with fail
  go_ret
  exact ⟨rfl, rfl⟩
end Go.Proofs.Yteindoemdonagaa

namespace Go.Proofs.Yteindoemdonagaa
open Go.RowKit

/-- An In's cells. -/
def InC (W : World) (g at' i : Nat) (err : Int) (r : Value) (left : Nat) (hv : Value) : Prop :=
  W.heap[g]? = some (.cells #[.int .i64 (at' : Int), .int .i64 (i : Int), .int .i64 err, r, .int .i64 (left : Int), hv] 63 (0, 0))
theorem InC.c {W : World} {g at' i : Nat} {err : Int} {r : Value} {left : Nat} {hv : Value} (h : InC W g at' i err r left hv) :
    W.cell? ⟨g, 0, none⟩ = some (.int .i64 (at' : Int)) ∧ W.cell? ⟨g, 1, none⟩ = some (.int .i64 (i : Int)) ∧ W.cell? ⟨g, 2, none⟩ = some (.int .i64 err) ∧ W.cell? ⟨g, 3, none⟩ = some r ∧ W.cell? ⟨g, 4, none⟩ = some (.int .i64 (left : Int)) ∧ W.cell? ⟨g, 5, none⟩ = some hv ∧ ∀ j, W.frozen? ⟨g, j, none⟩ = false :=
  ⟨blk_cell h rfl, blk_cell h rfl, blk_cell h rfl, blk_cell h rfl, blk_cell h rfl, blk_cell h rfl, fun j => frozen_blk h j⟩
theorem InC.upd {W W' : World} {S : Nat → Prop} {g at' i : Nat} {err : Int} {r : Value} {left : Nat} {hv : Value} (h : InC W g at' i err r left hv) (hu : Upd S W W') (hs : ¬ S g) : InC W' g at' i err r left hv := hu.heap h hs

def AskP {σ : Type} (Rd : World → σ → (Nat → Prop) → Prop) (g at' : Nat) (err : Int) (r : Value) (left : Nat) (hv : Value) (q : List Int × Int × σ × Nat) (M : Nat → Prop) (W : World) (e : Ending) (W' : World) : Prop :=
  ∃ v M', e = .returned (.tuple #[v, .int .i64 q.2.1]) ∧ OwnB W' W.heap.size 5 v q.1 ∧ InC W' g at' q.2.2.2 err r left hv ∧ Rd W' q.2.2.1 M' ∧ Upd (fun j => M j ∨ j = g) W W' ∧ (∀ j, M' j → M j ∨ W.heap.size ≤ j) ∧ ∀ j, v.ownBlock = some j → ¬ M' j

theorem room_own {W : World} {k r : Nat} {bs : List Int} {B : Nat} (hk : k ≤ 4096) (h : Room W (some ⟨r, 0, none⟩) k r (bs.map (Value.int .u8) ++ (zeros k).drop bs.length)) (hl : bs.length ≤ k) (hB : B ≤ r) : OwnB W B 5 (.slice (some ⟨r, 0, none⟩) bs.length k) bs := by
  refine .inr ⟨r, k, _, rfl, hB, h.2.1, hl, by unfold maxLen; omega, ?_, ?_, ?_⟩
  · simp [zeros]; omega
  · rw [List.take_append_of_le_length (by simp), List.take_of_length_le (by simp)]
  · intro u hu
    rcases List.mem_append.1 hu with h1 | h1
    · exact bytes_map bs u h1
    · exact zeros_bytes k u (List.mem_of_mem_drop h1)

set_option maxRecDepth 100000 in
set_option maxHeartbeats 1600000 in
theorem cask_any {σ : Type} {RD : Nat → σ → Int × Int × List Int × σ} {cnt m : σ → Nat} {f : FuncId} {recv : Value} {B : Nat} {Rd : World → σ → (Nat → Prop) → Prop} {ty : TypeId} {pv : Value} (L : Leads "Read" ty pv f recv)
    (W : World) (g : Nat) (s : σ) (M : Nat → Prop) (k at' i : Nat) (err : Int) (left : Nat) (hv : Value) (R : Reader k (RD k) cnt m f recv B Rd) (h0 : 1 ≤ k) (h1 : k ≤ 4096) (hB : B ≤ W.heap.size) (hI : InC W g at' i err (.iface ty pv) left hv) (hR : Rd W s M) (hMg : ¬ M g) (hBg : B ≤ g) (hi : i ≤ 16) (hc : cnt s < 4611686018427387904) :
    Calls Try.prog 35 #[.pointer (some ⟨g, 0, none⟩), .int .i64 (k : Int)] W fun e W' => AskP Rd g at' err (.iface ty pv) left hv (ask1 RD k s i) M W e W' := by
  have hmk := run_zeros k (by omega)
  have hme := L.method
  have hen := L.enter
  have hlt := R.lt hR
  have hu0 : Upd Noth W (W.alloc (.cells (zeros k).toArray 5)) := (Upd.refl _ _).alloc _
  have hgl : g < W.heap.size := lt_of_block hI
  have HRC := hide (R.read (W.alloc (.cells (zeros k).toArray 5)) s M W.heap.size (zeros k) (R.upd hR hu0 (fun i e => e.elim)) hc ⟨fun _ => rfl, heap_alloc_new W _, by rw [zeros_len]; exact Nat.le_refl _⟩ (zeros_bytes k) (fun e => by have := hlt _ e; omega) hB)
  have hI0 := InC.upd hI hu0 (fun e => e)
  have c3 := (InC.c hI0).2.2.2.1
  have HLT := hide hlt
  have HFIT := hide (R.fit s)
  have HI0 := hide hI0
  have HRR := hide R
  clear hlt hR L hu0 R hI0 hI
  go_enter Try.func35, Try.ntmps35
  go_wp2_with fail
  refine HRC.out.mono ?_
  rintro e w1 ⟨M1, rfl, hr1, hroom1, hu1, hm1, hn1⟩
  have hI1 := InC.upd HI0.out hu1 (fun e => e.elim hMg (fun e => by omega))
  replace hr1 := hide hr1
  have hub : Upd M W w1 := ⟨hu1.os, hu1.tape, hu1.output, Nat.le_trans (by simp) hu1.size, fun k hk hs => (hu1.block k (by simp; omega) (fun e => e.elim hs (fun e => by omega))).trans (Below.heap_alloc _ _ _ hk)⟩
  have hsz1 : W.heap.size < w1.heap.size := by have := hu1.size; simp at this; omega
  have HM1 : Hid (∀ j, M1 j → M j ∨ W.heap.size ≤ j) := hide (fun j hj => (hm1 j hj).imp id (fun h => by simp at h; omega))
  have hM1g : ¬ M1 g := fun e => (HM1.out g e).elim hMg (fun h => by omega)
  have HROOM := hide hroom1
  have HI1 := hide hI1
  replace hub := hide hub
  replace hn1 := hide hn1
  clear hu1 hm1 hroom1 HRC c3 HI0 hmk hI1
  have HAK : Hid (ask1 RD k s i = if (RD k s).1 < 0 ∨ (k : Int) < (RD k s).1 then ([], 34, (RD k s).2.2.2, i)
  else ((RD k s).2.2.1, toldOf (idleOf i (RD k s).1.toNat (RD k s).2.1) (RD k s).2.1, (RD k s).2.2.2, idleOf i (RD k s).1.toNat (RD k s).2.1)) := rfl
  generalize RD k s = q at *
  obtain ⟨n, er, bs, s'⟩ := q
  simp only at HAK HFIT HROOM hr1
  by_cases hbad : n < 0 ∨ (k : Int) < n
  · rw [if_pos hbad] at HAK
    have HF : Hid (AskP Rd g at' err (.iface ty pv) left hv (ask1 RD k s i) M W (.returned (.tuple #[.slice none 0 0, .int .i64 34])) w1) := by
      rw [HAK.out]
      exact ⟨.slice none 0 0, M1, rfl, OwnB.nil _ _ _, HI1.out, hr1.out, hub.out.mono (fun _ _ h => .inl h), HM1.out, fun j hj => by cases hj⟩
    rcases hbad with hneg | hbig
    · go_wp2_with fail
      go_ret2
      exact HF.out
    · have hneg : ¬ n < 0 := by omega
      go_wp2_with fail
      go_ret2
      exact HF.out
  · rw [if_neg hbad] at HAK
    obtain ⟨x, rfl⟩ : ∃ x : Nat, n = x := ⟨n.toNat, by omega⟩
    have hbl : bs.length = x := by have := HFIT.out (by omega) (by omega); simpa using this
    rw [Int.toNat_natCast] at HAK
    have HC : Hid (∀ n, Calls Try.prog 33 #[.pointer (some ⟨g, 0, none⟩), .int .i64 (x : Int), .int .i64 er] (w1.drewN n) fun e W' => CalledPost g #[.int .i64 (at' : Int), .int .i64 (i : Int), .int .i64 err, .iface ty pv, .int .i64 (left : Int), hv] 63 i x er (w1.drewN n) e W') := hide fun n => called_any g _ 63 i x er (w1.drewN n) HI1.out rfl hi
    have HF : Hid (∀ w2, Upd (fun j => j = g) w1 w2 → InC w2 g at' (idleOf i x er) err (.iface ty pv) left hv → AskP Rd g at' err (.iface ty pv) left hv (ask1 RD k s i) M W (.returned (.tuple #[.slice (some ⟨W.heap.size, 0, none⟩) x k, .int .i64 (toldOf (idleOf i x er) er)])) w2) := hide fun w2 hu2 hi2 => by
      rw [HAK.out]
      have ho : OwnB w1 W.heap.size 5 (.slice (some ⟨W.heap.size, 0, none⟩) bs.length k) bs := room_own h1 HROOM.out (by omega) (Nat.le_refl _)
      rw [hbl] at ho
      refine ⟨_, M1, rfl, ho.upd hu2 (fun j hj e => ?_), hi2, HRR.out.upd hr1.out hu2 (fun j e => by subst e; exact ⟨hBg, hM1g⟩), (hub.out.mono (fun _ _ h => .inl h)).trans (hu2.mono (fun _ _ h => .inr h)), HM1.out, fun j hj e => ?_⟩
      · have hj' : W.heap.size = j := by cases hj; rfl
        omega
      · cases hj; exact hn1.out e
    have hk1 : ¬ (x : Int) < 0 := by omega
    have hk2 : ¬ (k : Int) < (x : Int) := by omega
    have hk3 : (0 : Int) ≤ (x : Int) := by omega
    have hk4 : (x : Int) ≤ (k : Int) := by omega
    clear hbad HFIT
    go_wp2_with fail
    go_region_held3 (fun _ => True) (trivial) (first
      | (go_at_call 33; refine (HC.out _).mono ?_; rintro e w2 ⟨rfl, hb2, hu2⟩; replace hb2 := hide hb2; replace hu2 := hide hu2)
      | fail)
    all_goals go_wp2_with fail
    all_goals go_ret2
    all_goals exact HF.out w2 hu2.out.ofDrewN hb2.out

end Go.Proofs.Yteindoemdonagaa

namespace Go.Proofs.Yteindoemdonagaa
open Go.RowKit

/-- Asked till b has n bytes: the bytes, the error, the reader's state, how many running gave nothing. -/
def fillF {σ : Type} (RD : Nat → σ → Int × Int × List Int × σ) (n : Nat) : Nat → List Int → σ → Nat → List Int × Int × σ × Nat
  | 0, b, s, i => (b, 0, s, i)
  | fu + 1, b, s, i =>
    if n ≤ b.length then (b, 0, s, i) else
    if n ≤ b.length + (ask1 RD (min (n - b.length) 4096) s i).1.length then (b ++ (ask1 RD (min (n - b.length) 4096) s i).1, 0, (ask1 RD (min (n - b.length) 4096) s i).2.2) else
    if (ask1 RD (min (n - b.length) 4096) s i).2.1 = 31 then ([], 41, (ask1 RD (min (n - b.length) 4096) s i).2.2) else
    if (ask1 RD (min (n - b.length) 4096) s i).2.1 ≠ 0 then ([], (ask1 RD (min (n - b.length) 4096) s i).2.1, (ask1 RD (min (n - b.length) 4096) s i).2.2) else
    fillF RD n fu (b ++ (ask1 RD (min (n - b.length) 4096) s i).1) (ask1 RD (min (n - b.length) 4096) s i).2.2.1 (ask1 RD (min (n - b.length) 4096) s i).2.2.2
def fillA {σ : Type} (RD : Nat → σ → Int × Int × List Int × σ) (n : Nat) (b : List Int) (s : σ) (i : Nat) : List Int × Int × σ × Nat := fillF RD n (17 * (n - b.length) + (16 - i)) b s i

theorem fill_done {σ : Type} {RD : Nat → σ → Int × Int × List Int × σ} {n fu : Nat} {b : List Int} {s : σ} {i : Nat} (h : n ≤ b.length) : fillF RD n fu b s i = (b, 0, s, i) := by
  cases fu with
  | zero => rfl
  | succ fu => rw [fillF, if_pos h]
/-- A round: what comes of it, if q is what the call told. -/
theorem fill_step {σ : Type} {RD : Nat → σ → Int × Int × List Int × σ} {n fu : Nat} {b : List Int} {s : σ} {i : Nat} (q : List Int × Int × σ × Nat) (hq : ask1 RD (min (n - b.length) 4096) s i = q) (hf : 0 < fu) (h : ¬ n ≤ b.length) :
    fillF RD n fu b s i = if n ≤ b.length + q.1.length then (b ++ q.1, 0, q.2.2) else if q.2.1 = 31 then ([], 41, q.2.2) else if q.2.1 ≠ 0 then ([], q.2.1, q.2.2) else fillF RD n (fu - 1) (b ++ q.1) q.2.2.1 q.2.2.2 := by
  obtain ⟨fu, rfl⟩ : ∃ f, fu = f + 1 := ⟨fu - 1, by omega⟩
  rw [fillF, if_neg h, hq]
  rfl

/-- What a call tells of itself. -/
structure AskOk {σ : Type} (cnt m vol : σ → Nat) (k : Nat) (s : σ) (i : Nat) (q : List Int × Int × σ × Nat) : Prop where
  len : q.1.length ≤ k
  b8 : B8 q.1
  cnt1 : cnt q.2.2.1 = cnt s + 1
  vol : q.1.length + vol q.2.2.1 ≤ vol s
  mle : m q.2.2.1 ≤ m s
  i16 : i < 16 → q.2.2.2 ≤ 16
  ok : q.2.1 = 0 → i < 16 → q.2.2.2 < 16
  pot : q.2.1 = 0 → i < 16 → q.1 = [] → q.2.2.2 = i + 1
  pot1 : q.2.1 = 0 → q.1 ≠ [] → m q.2.2.1 + 1 ≤ m s ∧ q.2.2.2 = 0
  i0 : q.1 ≠ [] → q.2.2.2 = 0

theorem ask_ok {σ : Type} {RD : Nat → σ → Int × Int × List Int × σ} {cnt m vol : σ → Nat} {f : FuncId} {recv : Value} {B : Nat} {Rd : World → σ → (Nat → Prop) → Prop} {k : Nat} (R : Reader k (RD k) cnt m f recv B Rd) (hvol : ∀ s, (RD k s).2.2.1.length + vol (RD k s).2.2.2 ≤ vol s) (s : σ) (i : Nat) : AskOk cnt m vol k s i (ask1 RD k s i) := by
  have h1 := R.fit s
  have h2 := R.len s
  have h3 := R.b8 s
  have h4 := R.cnt1 s
  have h5 := R.dec s
  have h6 := R.mle s
  have h7 := hvol s
  unfold ask1
  generalize RD k s = q at *
  obtain ⟨n, er, bs, s'⟩ := q
  simp only at *
  by_cases hbad : n < 0 ∨ (k : Int) < n
  · rw [if_pos hbad]
    refine ⟨Nat.zero_le _, (by intro x hx; cases hx), h4, (by simp only [List.length_nil]; omega), h6, (fun h => by simp only; omega), fun h => ?_, fun h => ?_, fun h => ?_, fun h => absurd rfl h⟩
    all_goals (simp only at h; omega)
  · rw [if_neg hbad]
    have hl := h1 (by omega) (by omega)
    have j1 : bs ≠ [] → idleOf i n.toNat er = 0 := fun hb => by
      have hp : 0 < bs.length := List.length_pos_iff.2 hb
      unfold idleOf
      rw [if_pos (Or.inl (by omega))]
    have j2 : idleOf i n.toNat er ≤ i + 1 := by unfold idleOf; split <;> omega
    have j3 : er = 0 → bs = [] → idleOf i n.toNat er = i + 1 := fun he hb => by
      rw [hb] at hl
      unfold idleOf
      rw [if_neg]
      simp only [List.length_nil] at hl
      omega
    have j4 : toldOf (idleOf i n.toNat er) er = 0 → er = 0 ∧ idleOf i n.toNat er ≠ 16 := fun h => by
      unfold toldOf at h
      split at h
      · omega
      · exact ⟨h, by assumption⟩
    generalize idleOf i n.toNat er = J at *
    refine ⟨h2, h3, h4, h7, h6, fun h => ?_, fun h hi => ?_, fun h hi hb => j3 (j4 h).1 hb, fun h hb => ⟨?_, j1 hb⟩, fun hb => j1 hb⟩
    · simp only; omega
    · have := j4 h; simp only; omega
    · have hp : 0 < bs.length := List.length_pos_iff.2 hb
      have := h5 (j4 h).1 (by omega) (by omega)
      simp only
      omega

def FillPost {σ : Type} (Rd : World → σ → (Nat → Prop) → Prop) (B g at' : Nat) (err : Int) (r : Value) (left : Nat) (hv : Value) (res : List Int × Int × σ × Nat) (M : Nat → Prop) (bo : Option Nat) (W : World) (e : Ending) (W' : World) : Prop :=
  ∃ v M', e = .returned (.tuple #[v, .int .i64 res.2.1]) ∧ OwnB W' B 5 v res.1 ∧ InC W' g at' res.2.2.2 err r left hv ∧ Rd W' res.2.2.1 M' ∧ Upd (fun j => M j ∨ j = g ∨ bo = some j) W W' ∧ (∀ j, M' j → M j ∨ W.heap.size ≤ j) ∧ ∀ j, v.ownBlock = some j → ¬ M' j ∧ j ≠ g ∧ (bo = some j ∨ W.heap.size ≤ j)

/-- At the head of a round. -/
structure FI {σ : Type} (RD : Nat → σ → Int × Int × List Int × σ) (cnt m vol : σ → Nat) (Rd : World → σ → (Nat → Prop) → Prop) (B g at' : Nat) (err : Int) (r : Value) (left : Nat) (hv : Value) (res : List Int × Int × σ × Nat) (M0 : Nat → Prop) (bo : Option Nat) (n : Nat) (W : World) (v : Value) (W' : World) (bs : List Int) (s : σ) (i fu : Nat) (M : Nat → Prop) : Prop where
  own : OwnB W' B 5 v bs
  blk : InC W' g at' i err r left hv
  rd : Rd W' s M
  upd : Upd (fun j => M0 j ∨ j = g ∨ bo = some j) W W'
  msub : ∀ j, M j → M0 j ∨ W.heap.size ≤ j
  dis : ∀ j, v.ownBlock = some j → ¬ M j ∧ j ≠ g ∧ (bo = some j ∨ W.heap.size ≤ j)
  mg : ¬ M g
  i16 : i < 16
  lenle : bs.length ≤ n
  fuel : 17 * (n - bs.length) + (16 - i) ≤ fu
  eq : res = fillF RD n fu bs s i
  cn : cnt s + 17 * m s + (16 - i) ≤ 4611686018427387000
  vo : min n (bs.length + vol s) ≤ 140737488355328

theorem OwnB.bo {w : World} {base : Nat} {e : TypeId} {v : Value} {zs : List Int} (h : OwnB w base e v zs) : Value.blk v = v.ownBlock := by
  rcases h with ⟨rfl, _⟩ | ⟨g, cap, cur, rfl, _⟩ <;> rfl

def slen : Value → Nat
  | .slice _ n _ => n
  | _ => 0
def cellN (W : World) (g k : Nat) : Nat := match W.cell? ⟨g, k, none⟩ with
  | some (.int _ x) => x.toNat
  | _ => 0

set_option maxRecDepth 100000 in
set_option maxHeartbeats 3200000 in
theorem fill_any {σ : Type} {RD : Nat → σ → Int × Int × List Int × σ} {cnt m vol : σ → Nat} {f : FuncId} {recv : Value} {B : Nat} {Rd : World → σ → (Nat → Prop) → Prop} {ty : TypeId} {pv : Value} (L : Leads "Read" ty pv f recv)
    (R : ∀ k, 1 ≤ k → k ≤ 4096 → Reader k (RD k) cnt m f recv B Rd) (hvol : ∀ k s, 1 ≤ k → k ≤ 4096 → (RD k s).2.2.1.length + vol (RD k s).2.2.2 ≤ vol s)
    (W : World) (g : Nat) (s0 : σ) (M0 : Nat → Prop) (at' i0 : Nat) (err : Int) (left : Nat) (hv v0 : Value) (b0 : List Int) (n : Nat) (hn : n ≤ 9223372036854775807) (hbn : b0.length ≤ n) (hB : B ≤ W.heap.size) (hI : InC W g at' i0 err (.iface ty pv) left hv) (hR : Rd W s0 M0) (hMg : ¬ M0 g) (hBg : B ≤ g) (hi : i0 < 16)
    (ho : OwnB W B 5 v0 b0) (hd : ∀ j, v0.ownBlock = some j → ¬ M0 j ∧ j ≠ g) (hc : cnt s0 + 17 * m s0 + (16 - i0) ≤ 4611686018427387000) (hvo : min n (b0.length + vol s0) ≤ 140737488355328) :
    Calls Try.prog 29 #[.pointer (some ⟨g, 0, none⟩), v0, .int .i64 (n : Int)] W fun e W' => FillPost Rd B g at' err (.iface ty pv) left hv (fillA RD n b0 s0 i0) M0 v0.ownBlock W e W' := by
  obtain ⟨i0', hi0, hz0, hz1, hz2⟩ := info_parts' infoByte'
  obtain ⟨res, hres⟩ : ∃ res, res = fillA RD n b0 s0 i0 := ⟨_, rfl⟩
  have H0 : Hid (FI RD cnt m vol Rd B g at' err (.iface ty pv) left hv res M0 v0.ownBlock n W v0 W b0 s0 i0 (17 * (n - b0.length) + (16 - i0)) M0) := hide ⟨ho, hI, hR, Upd.refl _ _, fun _ h => .inl h, fun j hj => ⟨(hd j hj).1, (hd j hj).2, .inl hj⟩, hMg, hi, hbn, Nat.le_refl _, hres, hc, hvo⟩
  rw [← hres]
  have HRR := hide R
  have HVOL := hide hvol
  have HL := hide L
  have hgl : g < W.heap.size := lt_of_block hI
  obtain ⟨a0, c0, rfl, _, _, _⟩ := ho.sliceN rfl
  generalize hbo : (Value.slice a0 b0.length c0).ownBlock = bo at *
  replace hbo := hide hbo
  clear hR R hvol L hI ho hd hc hvo hres hMg
  go_enter Try.func29, Try.ntmps29
  go_wp2_with fail
  go_loopw [1] (fun v wr => ∃ (bs : List Int) (s : σ) (i fu : Nat) (M : Nat → Prop), Hid (FI RD cnt m vol Rd B g at' err (.iface ty pv) left hv res M0 bo n W v wr bs s i fu M)) (fun v wr => 17 * (n - slen v) + (16 - cellN wr g 1))
  case atStart => exact ⟨_, _, _, _, _, H0⟩
  case round =>
    clear H0
    obtain ⟨bs, s, i, fu, M, HI⟩ := hrel
    obtain ⟨l, hl⟩ : ∃ l, bs.length = l := ⟨_, rfl⟩
    obtain ⟨a1, c1, rfl, hn1, hc1, hq1⟩ := HI.out.own.sliceN hl
    have hln : l ≤ n := by have := HI.out.lenle; omega
    replace hn1 := hide hn1
    replace hq1 := hide hq1
    replace hl := hide hl
    by_cases hlt : l < n
    · obtain ⟨k, hk⟩ : ∃ k, k = min (n - l) 4096 := ⟨_, rfl⟩
      have hk1 : 1 ≤ k := by omega
      have hk2 : k ≤ 4096 := by omega
      have hkl : l + k ≤ n := by omega
      have HA := hide (cask_any HL.out wr g s M k at' i err left hv (HRR.out k hk1 hk2) hk1 hk2 (Nat.le_trans hB HI.out.upd.size) HI.out.blk HI.out.rd HI.out.mg hBg (Nat.le_of_lt HI.out.i16) (by have := HI.out.cn; omega))
      have HOK := hide (ask_ok (HRR.out k hk1 hk2) (fun s => HVOL.out k s hk1 hk2) s i)
      have HST := hide (fun q hq => fill_step (RD := RD) (n := n) (fu := fu) (b := bs) (s := s) (i := i) q hq (by have := HI.out.fuel; have := hl.out; omega) (by have := hl.out; omega))
      rw [hl.out, ← hk] at HST
      have HST' := hide (HST.out _ rfl)
      clear HST
      have hlti : (l : Int) < (n : Int) := by omega
      have hki : Hid (min ((n : Int) - (l : Int)) 4096 = (k : Int)) := hide (by omega)
      replace hk := hide hk
      generalize ask1 RD k s i = q at *
      obtain ⟨bt, er, s', i'⟩ := q
      simp only at HST'
      go_wp2_with fail
      all_goals (first | rw [show (4096 : Int) = (k : Int) from by have := hk.out; omega] | rw [show (n : Int) - (l : Int) = (k : Int) from by have := hk.out; omega])
      all_goals (
        refine HA.out.mono ?_
        rintro e w1 ⟨v1, M1, rfl, ho1, hi1, hr1, hu1, hm1, hd1⟩
        simp only at ho1 hi1 hr1
        obtain ⟨x, hx⟩ : ∃ x, bt.length = x := ⟨_, rfl⟩
        have HNN1 := hide ho1.slice
        obtain ⟨a2, c2, rfl, hn2, hc2, hq2⟩ := ho1.sliceN hx
        have hgw : g < wr.heap.size := lt_of_block HI.out.blk
        have hxk : x ≤ k := by have := HOK.out.len; simp only at this; omega
        have HR2 := hide ho1.row
        have HO1 := hide (HI.out.own.upd hu1 (fun j hj e => e.elim (HI.out.dis j hj).1 (HI.out.dis j hj).2.1))
        have hM1g : ¬ M1 g := fun e => (hm1 g e).elim HI.out.mg (fun h => by omega)
        have hz1w : wr.heap.size ≤ w1.heap.size := hu1.size
        have hzW : W.heap.size ≤ wr.heap.size := HI.out.upd.size
        have HU1 : Hid (Upd (fun j => M0 j ∨ j = g ∨ bo = some j) W w1) := hide (HI.out.upd.then hu1 (fun j hj e => e.elim (fun e => (HI.out.msub j e).elim .inl (fun h => by omega)) (fun e => .inr (.inl e))))
        have HM1 : Hid (∀ j, M1 j → M0 j ∨ W.heap.size ≤ j) := hide (fun j hj => (hm1 j hj).elim (fun h => HI.out.msub j h) (fun h => .inr (by omega)))
        have hn2' := hide hn2
        have hxb : l + x ≤ 140737488355328 := by
          have h1 := HI.out.vo
          have h2 := HOK.out.vol
          have h3 := hl.out
          simp only at h2
          omega
        have HDV : Hid (∀ j, (Value.slice a1 l c1).ownBlock = some j → ¬ M1 j) := hide (fun j hj e => (hm1 j e).elim (HI.out.dis j hj).1 (fun h => by have := (hq1.out j hj).2; omega))
        have HI1 := hide hi1
        have HR1 := hide hr1
        have HBO := hide (OwnB.bo HO1.out)
        replace hx := hide hx
        have HFIN : Hid (∀ v2 w2, OwnO w2 B 5 0 v2 (bs ++ bt) → w1.grownBy w2 (Value.blk (.slice a1 l c1)) → (∀ j, Value.blk v2 = some j → Value.blk (.slice a1 l c1) = some j ∨ w1.heap.size ≤ j) →
            OwnB w2 B 5 v2 (bs ++ bt) ∧ InC w2 g at' i' err (.iface ty pv) left hv ∧ Rd w2 s' M1 ∧ Upd (fun j => M0 j ∨ j = g ∨ bo = some j) W w2 ∧ ∀ j, v2.ownBlock = some j → ¬ M1 j ∧ j ≠ g ∧ (bo = some j ∨ W.heap.size ≤ j)) := hide fun v2 w2 ho2 hg2 hk2 => by
          have hB2 := ho2.toB
          have hu2 : Upd (fun j => (Value.slice a1 l c1).ownBlock = some j) w1 w2 := Upd.of_grown hg2 (fun j hj _ => by rw [← HBO.out]; exact hj)
          have hM1lt := (HRR.out 1 (by omega) (by omega)).lt HR1.out
          refine ⟨hB2, HI1.out.upd hu2 (fun e => (HI.out.dis g e).2.1 rfl), (HRR.out 1 (by omega) (by omega)).upd HR1.out hu2 (fun j hj => ⟨(hq1.out j hj).1, HDV.out j hj⟩), HU1.out.then hu2 (fun j hj e => (HI.out.dis j e).2.2.elim (fun h => .inr (.inr h)) (fun h => by omega)), fun j hj => ?_⟩
          rw [← OwnB.bo hB2] at hj
          rcases hk2 j hj with h | h
          · rw [HBO.out] at h
            exact ⟨HDV.out j h, (HI.out.dis j h).2.1, (HI.out.dis j h).2.2⟩
          · exact ⟨fun e => by have := hM1lt j e; omega, by omega, .inr (by omega)⟩
        clear HA ho1 hi1 hr1 hu1 hm1 hd1 hn2 hq2 HNN1
        have hlx : Hid ((bs ++ bt).length = l + x) := hide (by rw [List.length_append, hl.out, hx.out])
        rw [hx.out] at HST'
        have HEQ := hide (HI.out.eq.trans HST'.out)
        clear HST'
        by_cases hfull : l + x = n
        · rw [if_pos (by omega)] at HEQ
          have hfi : ((l + x : Nat) : Int) = (n : Int) := by omega
          have HPOST : Hid (∀ v2 w2, OwnB w2 B 5 v2 (bs ++ bt) ∧ InC w2 g at' i' err (.iface ty pv) left hv ∧ Rd w2 s' M1 ∧ Upd (fun j => M0 j ∨ j = g ∨ bo = some j) W w2 ∧ (∀ j, v2.ownBlock = some j → ¬ M1 j ∧ j ≠ g ∧ (bo = some j ∨ W.heap.size ≤ j)) → FillPost Rd B g at' err (.iface ty pv) left hv res M0 bo W (.returned (.tuple #[v2, .int .i64 0])) w2) := hide fun v2 w2 ⟨q1, q2, q3, q4, q5⟩ => by
            rw [HEQ.out]
            exact ⟨v2, M1, rfl, q1, q2, q3, q4, HM1.out, q5⟩
          go_wp2_with (first
            | (at_builtin; refine append_o rfl (.tmp 24) (.tmp 25) 32 rfl B 5 i0' Try.underlying32 hi0 hz0 hz1 hz2 0 (.slice a1 l c1) bs rfl HO1.out.toO a2 x c2 bt rfl hx.out hn2'.out HR2.out (by have := hl.out; omega) (Nat.le_trans hB (Nat.le_trans hzW hz1w)) ?_; intro v2 w2 off2 hoff ho2 hg2 hk2; have HF2 := hide (HFIN.out v2 w2 (by rw [hoff rfl] at ho2; exact ho2) hg2 hk2); clear HFIN hoff ho2 hg2 hk2; obtain ⟨a3, c3, rfl, hn3, hc3, hq3⟩ := HF2.out.1.sliceN hlx.out; replace hn3 := hide hn3; replace hq3 := hide hq3)
            | fail)
          have hF := HF2.out
          rw [hfull] at hF
          go_ret2
          exact HPOST.out (.slice a3 n c3) w2 hF
        · have hfi : ¬ ((l + x : Nat) : Int) = (n : Int) := by omega
          rw [if_neg (by omega)] at HEQ
          have HPOST : Hid (∀ v2 w2 ee, res = ([], ee, s', i') → OwnB w2 B 5 v2 (bs ++ bt) ∧ InC w2 g at' i' err (.iface ty pv) left hv ∧ Rd w2 s' M1 ∧ Upd (fun j => M0 j ∨ j = g ∨ bo = some j) W w2 ∧ (∀ j, v2.ownBlock = some j → ¬ M1 j ∧ j ≠ g ∧ (bo = some j ∨ W.heap.size ≤ j)) → FillPost Rd B g at' err (.iface ty pv) left hv res M0 bo W (.returned (.tuple #[.slice none 0 0, .int .i64 ee])) w2) := hide fun v2 w2 ee hr ⟨q1, q2, q3, q4, q5⟩ => by
            rw [hr]
            exact ⟨.slice none 0 0, M1, rfl, OwnB.nil _ _ _, q2, q3, q4, HM1.out, fun j hj => by cases hj⟩
          by_cases e31 : er = 31
          · subst e31
            rw [if_pos rfl] at HEQ
            go_wp2_with (first
              | (at_builtin; refine append_o rfl (.tmp 24) (.tmp 25) 32 rfl B 5 i0' Try.underlying32 hi0 hz0 hz1 hz2 0 (.slice a1 l c1) bs rfl HO1.out.toO a2 x c2 bt rfl hx.out hn2'.out HR2.out (by have := hl.out; omega) (Nat.le_trans hB (Nat.le_trans hzW hz1w)) ?_; intro v2 w2 off2 hoff ho2 hg2 hk2; have HF2 := hide (HFIN.out v2 w2 (by rw [hoff rfl] at ho2; exact ho2) hg2 hk2); clear HFIN hoff ho2 hg2 hk2; obtain ⟨a3, c3, rfl, hn3, hc3, hq3⟩ := HF2.out.1.sliceN hlx.out; replace hn3 := hide hn3; replace hq3 := hide hq3)
              | fail)
            go_ret2
            exact HPOST.out _ _ _ HEQ.out HF2.out
          · rw [if_neg e31] at HEQ
            by_cases e0 : er = 0
            · subst e0
              rw [if_neg (by simp)] at HEQ
              go_wp2_with (first
                | (at_builtin; refine append_o rfl (.tmp 24) (.tmp 25) 32 rfl B 5 i0' Try.underlying32 hi0 hz0 hz1 hz2 0 (.slice a1 l c1) bs rfl HO1.out.toO a2 x c2 bt rfl hx.out hn2'.out HR2.out (by have := hl.out; omega) (Nat.le_trans hB (Nat.le_trans hzW hz1w)) ?_; intro v2 w2 off2 hoff ho2 hg2 hk2; have HF2 := hide (HFIN.out v2 w2 (by rw [hoff rfl] at ho2; exact ho2) hg2 hk2); clear HFIN hoff ho2 hg2 hk2; obtain ⟨a3, c3, rfl, hn3, hc3, hq3⟩ := HF2.out.1.sliceN hlx.out; replace hn3 := hide hn3; replace hq3 := hide hq3)
                | fail)
              have hok := HOK.out
              have hi' : i' < 16 := hok.ok rfl HI.out.i16
              have hfu := HI.out.fuel
              have hcn := HI.out.cn
              have hvo := HI.out.vo
              have hi16 := HI.out.i16
              have k1 := hok.cnt1
              have k2 := hok.vol
              have k3 := hok.mle
              have k4 := hok.pot rfl hi16
              have k5 := hok.pot1 rfl
              have hxo := hx.out
              have hlo := hl.out
              simp only at k1 k2 k3 k4 k5
              have hstep : (x = 0 ∧ i' = i + 1) ∨ (0 < x ∧ i' = 0 ∧ m s' + 1 ≤ m s) := by
                by_cases hb : bt = []
                · exact .inl ⟨by rw [← hxo, hb]; rfl, k4 hb⟩
                · exact .inr ⟨by rw [← hxo]; exact List.length_pos_iff.2 hb, (k5 hb).2, (k5 hb).1⟩
              have HN : Hid (FI RD cnt m vol Rd B g at' err (.iface ty pv) left hv res M0 bo n W (.slice a3 (l + x) c3) w2 (bs ++ bt) s' i' (fu - 1) M1) := hide ⟨HF2.out.1, HF2.out.2.1, HF2.out.2.2.1, HF2.out.2.2.2.1, HM1.out, HF2.out.2.2.2.2, hM1g, hi', by rw [hlx.out]; omega, by rw [hlx.out]; omega, HEQ.out, by omega, by rw [hlx.out]; omega⟩
              have hmi : cellN w2 g 1 = i' := by unfold cellN; rw [(InC.c HF2.out.2.1).2.1]; simp
              have hmi0 : cellN wr g 1 = i := by unfold cellN; rw [(InC.c HI.out.blk).2.1]; simp
              go_roundw
              case rel => exact ⟨_, _, _, _, _, HN⟩
              case measure => rw [hmi, hmi0]; simp only [slen]; omega
            · rw [if_pos e0] at HEQ
              have e0' : (er != 0) = true := by simp [e0]
              go_wp2_with (first
                | (at_builtin; refine append_o rfl (.tmp 24) (.tmp 25) 32 rfl B 5 i0' Try.underlying32 hi0 hz0 hz1 hz2 0 (.slice a1 l c1) bs rfl HO1.out.toO a2 x c2 bt rfl hx.out hn2'.out HR2.out (by have := hl.out; omega) (Nat.le_trans hB (Nat.le_trans hzW hz1w)) ?_; intro v2 w2 off2 hoff ho2 hg2 hk2; have HF2 := hide (HFIN.out v2 w2 (by rw [hoff rfl] at ho2; exact ho2) hg2 hk2); clear HFIN hoff ho2 hg2 hk2; obtain ⟨a3, c3, rfl, hn3, hc3, hq3⟩ := HF2.out.1.sliceN hlx.out; replace hn3 := hide hn3; replace hq3 := hide hq3)
                | fail)
              go_ret2
              exact HPOST.out _ _ _ HEQ.out HF2.out)
    · obtain rfl : l = n := by omega
      have HPOST : Hid (FillPost Rd B g at' err (.iface ty pv) left hv res M0 bo W (.returned (.tuple #[.slice a1 l c1, .int .i64 0])) wr) := by
        rw [HI.out.eq, fill_done (by rw [hl.out]; exact Nat.le_refl _)]
        exact ⟨_, M, rfl, HI.out.own, HI.out.blk, HI.out.rd, HI.out.upd, HI.out.msub, HI.out.dis⟩
      go_wp2_with fail
      go_ret2
      exact HPOST.out

end Go.Proofs.Yteindoemdonagaa

namespace Go.Proofs.Yteindoemdonagaa
open Go.RowKit

/-- An Out's state: its writer's, what waits, how many were taken, how many calls running took nothing, its error. -/
structure OutS (τ : Type) where
  t : τ
  b : List Int
  at' : Nat
  i : Nat
  err : Int
def layP {τ : Type} (x : OutS τ) (ys : List Int) : OutS τ := if x.err = 0 then ⟨x.t, x.b ++ ys, x.at', x.i, x.err⟩ else x
def pushP {τ : Type} (wf : τ → List Int → Int × Int × τ) (x : OutS τ) : Nat × Int × OutS τ :=
  if x.err ≠ 0 ∨ x.b = [] then (0, x.err, x) else
  if (wf x.t (x.b.take 4096)).1 < 0 ∨ ((x.b.take 4096).length : Int) < (wf x.t (x.b.take 4096)).1 then (0, 34, ⟨(wf x.t (x.b.take 4096)).2.2, x.b, x.at', x.i, 34⟩) else
  ((wf x.t (x.b.take 4096)).1.toNat, toldOf (idleOf x.i (wf x.t (x.b.take 4096)).1.toNat (wf x.t (x.b.take 4096)).2.1) (wf x.t (x.b.take 4096)).2.1,
    ⟨(wf x.t (x.b.take 4096)).2.2, x.b.drop (wf x.t (x.b.take 4096)).1.toNat, x.at' + (wf x.t (x.b.take 4096)).1.toNat, idleOf x.i (wf x.t (x.b.take 4096)).1.toNat (wf x.t (x.b.take 4096)).2.1, toldOf (idleOf x.i (wf x.t (x.b.take 4096)).1.toNat (wf x.t (x.b.take 4096)).2.1) (wf x.t (x.b.take 4096)).2.1⟩)
theorem push_step {τ : Type} {wf : τ → List Int → Int × Int × τ} {x : OutS τ} (he : x.err = 0) (hb : x.b ≠ []) (q : Int × Int × τ) (hq : wf x.t (x.b.take 4096) = q) :
    pushP wf x = if q.1 < 0 ∨ ((x.b.take 4096).length : Int) < q.1 then (0, 34, ⟨q.2.2, x.b, x.at', x.i, 34⟩) else (q.1.toNat, toldOf (idleOf x.i q.1.toNat q.2.1) q.2.1, ⟨q.2.2, x.b.drop q.1.toNat, x.at' + q.1.toNat, idleOf x.i q.1.toNat q.2.1, toldOf (idleOf x.i q.1.toNat q.2.1) q.2.1⟩) := by
  unfold pushP
  rw [if_neg (by simp [he, hb]), hq]

/-- What is known between two calls. -/
structure OutOk {τ : Type} (cnt sz : τ → Nat) (C Z : Nat) (x : OutS τ) : Prop where
  i16 : x.err = 0 → x.i < 16
  pot : x.err = 0 → cnt x.t + 17 * x.b.length + (16 - x.i) ≤ C
  size : x.err = 0 → sz x.t + x.b.length ≤ Z
  all : x.at' + x.b.length ≤ Z

def OutC (W : World) (g at' i : Nat) (err : Int) (r wv : Value) : Prop :=
  W.heap[g]? = some (.cells #[.int .i64 (at' : Int), .int .i64 (i : Int), .int .i64 err, r, wv] 45 (0, 0))
theorem OutC.c {W : World} {g at' i : Nat} {err : Int} {r wv : Value} (h : OutC W g at' i err r wv) :
    W.cell? ⟨g, 0, none⟩ = some (.int .i64 (at' : Int)) ∧ W.cell? ⟨g, 1, none⟩ = some (.int .i64 (i : Int)) ∧ W.cell? ⟨g, 2, none⟩ = some (.int .i64 err) ∧ W.cell? ⟨g, 3, none⟩ = some r ∧ W.cell? ⟨g, 4, none⟩ = some wv ∧ ∀ j, W.frozen? ⟨g, j, none⟩ = false :=
  ⟨blk_cell h rfl, blk_cell h rfl, blk_cell h rfl, blk_cell h rfl, blk_cell h rfl, fun j => frozen_blk h j⟩
theorem OutC.upd {W W' : World} {S : Nat → Prop} {g at' i : Nat} {err : Int} {r wv : Value} (h : OutC W g at' i err r wv) (hu : Upd S W W') (hs : ¬ S g) : OutC W' g at' i err r wv := hu.heap h hs
def IsOut {τ : Type} (Wd : World → τ → (Nat → Prop) → Prop) (B g : Nat) (r : Value) (W : World) (x : OutS τ) (F : Nat → Prop) : Prop :=
  ∃ wv off M, OutC W g x.at' x.i x.err r wv ∧ Wd W x.t M ∧ OwnW W B 5 off wv x.b ∧ ¬ M g ∧ B ≤ g ∧ (∀ j, Value.blk wv = some j → ¬ M j ∧ j ≠ g) ∧ ∀ j, F j ↔ (M j ∨ j = g ∨ Value.blk wv = some j)

section
variable {τ : Type} {wf : τ → List Int → Int × Int × τ} {cnt sz : τ → Nat} {f : FuncId} {recv r : Value} {B g : Nat} {Wd : World → τ → (Nat → Prop) → Prop} {W W' : World} {x : OutS τ} {F S : Nat → Prop}
theorem IsOut.upd (T : Writer wf cnt sz f recv B Wd) (h : IsOut Wd B g r W x F) (hu : Upd S W W') (hs : ∀ j, S j → B ≤ j ∧ ¬ F j) : IsOut Wd B g r W' x F := by
  obtain ⟨wv, off, M, hi, hr, ho, hMg, hBg, hd, hF⟩ := h
  exact ⟨wv, off, M, hi.upd hu (fun e => (hs g e).2 ((hF g).2 (.inr (.inl rfl)))), T.upd hr hu (fun j e => ⟨(hs j e).1, fun h => (hs j e).2 ((hF j).2 (.inl h))⟩), ho.upd hu (fun j hj e => (hs j e).2 ((hF j).2 (.inr (.inr hj)))), hMg, hBg, hd, hF⟩
theorem IsOut.still (T : Writer wf cnt sz f recv B Wd) (h : IsOut Wd B g r W x F) (n : Nat) : IsOut Wd B g r (W.drewN n) x F :=
  h.upd T (((Still.refl W).drewN n).upd Noth) (fun _ e => e.elim)
theorem IsOut.lt (T : Writer wf cnt sz f recv B Wd) (h : IsOut Wd B g r W x F) : ∀ j, F j → B ≤ j ∧ j < W.heap.size := by
  obtain ⟨wv, off, M, hi, hr, ho, hMg, hBg, hd, hF⟩ := h
  intro j hj
  rcases (hF j).1 hj with h | h | h
  · exact T.lt hr j h
  · subst h; exact ⟨hBg, lt_of_block hi⟩
  · exact ho.lt j h
theorem IsOut.at0 (h : IsOut Wd B g r W x F) : F g ∧ g < W.heap.size ∧ W.cell? ⟨g, 0, none⟩ = some (.int .i64 (x.at' : Int)) ∧ W.cell? ⟨g, 2, none⟩ = some (.int .i64 x.err) ∧ ∃ a c, W.cell? ⟨g, 4, none⟩ = some (.slice a x.b.length c) := by
  obtain ⟨wv, off, M, hi, hr, ho, hMg, hBg, hd, hF⟩ := h
  obtain ⟨a, c, hv, _⟩ := ho.slice rfl
  exact ⟨(hF g).2 (.inr (.inl rfl)), lt_of_block hi, (OutC.c hi).1, (OutC.c hi).2.2.1, a, c, by rw [← hv]; exact (OutC.c hi).2.2.2.2.1⟩
end

def OutPost {τ : Type} (Wd : World → τ → (Nat → Prop) → Prop) (B g : Nat) (r v : Value) (x : OutS τ) (F : Nat → Prop) (W : World) (e : Ending) (W' : World) : Prop :=
  ∃ F', e = .returned v ∧ IsOut Wd B g r W' x F' ∧ Upd F W W' ∧ ∀ j, F' j → F j ∨ W.heap.size ≤ j

set_option maxRecDepth 100000 in
set_option maxHeartbeats 1600000 in
theorem lay_any {τ : Type} {wf : τ → List Int → Int × Int × τ} {cnt sz : τ → Nat} {f : FuncId} {recv r : Value} {B : Nat} {Wd : World → τ → (Nat → Prop) → Prop} (T : Writer wf cnt sz f recv B Wd)
    (W : World) (g : Nat) (x : OutS τ) (F : Nat → Prop) (ay : Option Addr) (ly cy : Nat) (ys : List Int) (hl : ys.length = ly) (hn : ay = none → ly = 0 ∧ cy = 0) (hr : Row W .u8 ay ys) (hI : IsOut Wd B g r W x F) (hB : B ≤ W.heap.size) (hz : x.b.length + ly ≤ 140737488355328) :
    Calls Try.prog 8 #[.pointer (some ⟨g, 0, none⟩), .slice ay ly cy] W fun e W' => OutPost Wd B g r (.int .i64 x.err) (layP x ys) F W e W' := by
  obtain ⟨i0', hi0, hz0, hz1, hz2⟩ := info_parts' infoByte'
  have HSAME : Hid (x.err ≠ 0 → OutPost Wd B g r (.int .i64 x.err) (layP x ys) F W (.returned (.int .i64 x.err)) W) := hide fun h => by
    unfold layP
    rw [if_neg h]
    exact ⟨F, rfl, hI, Upd.refl _ _, fun _ h => .inl h⟩
  obtain ⟨wv, off, M, hi, hrd, ho, hMg, hBg, hd, hF⟩ := hI
  have c2 := (OutC.c hi).2.2.1
  have c4 := (OutC.c hi).2.2.2.2.1
  have hgl : g < W.heap.size := lt_of_block hi
  by_cases he : x.err = 0
  · have HFIN : Hid (∀ v2 w2 off2, OwnW w2 B 5 off2 v2 (x.b ++ ys) → W.grownBy w2 (Value.blk wv) → (∀ j, Value.blk v2 = some j → Value.blk wv = some j ∨ W.heap.size ≤ j) → OutPost Wd B g r (.int .i64 x.err) (layP x ys) F W (.returned (.int .i64 0)) (w2.setCell ⟨g, 4, none⟩ v2) ∧ w2.cell? ⟨g, 2, none⟩ = some (.int .i64 0) ∧ w2.cell? ⟨g, 4, none⟩ = some wv ∧ w2.frozen? ⟨g, 4, none⟩ = false) := hide fun v2 w2 off2 ho2 hg2 hk2 => by
      have hu2 : Upd (fun j => Value.blk wv = some j) W w2 := Upd.of_grown hg2 (fun j hj _ => hj)
      have hi2 := hi.upd hu2 (fun e => (hd g e).2 rfl)
      have hu3 : Upd (fun j => j = g) w2 (w2.setCell ⟨g, 4, none⟩ v2) := (Upd.refl _ _).set1 4 _
      have hlt := T.lt hrd
      have hnew : ∀ j, Value.blk v2 = some j → ¬ M j ∧ j ≠ g := fun j hj => (hk2 j hj).elim (fun h => hd j h) (fun h => ⟨fun e => by have := (hlt j e).2; omega, by omega⟩)
      refine ⟨⟨fun j => M j ∨ j = g ∨ Value.blk v2 = some j, by rw [he], ⟨v2, off2, M, ?_, ?_, ?_, hMg, hBg, hnew, fun j => Iff.rfl⟩, ?_, ?_⟩, ?_, ?_, ?_⟩
      · unfold layP
        rw [if_pos he]
        exact block_setCell hi2 4 _
      · unfold layP
        rw [if_pos he]
        exact T.upd (T.upd hrd hu2 (fun j e => ⟨(ho.lt j e).1, (hd j e).1⟩)) hu3 (fun j e => by subst e; exact ⟨hBg, hMg⟩)
      · unfold layP
        rw [if_pos he]
        exact ho2.upd hu3 (fun j hj e => (hnew j hj).2 e)
      · exact (hu2.mono (fun j _ e => (hF j).2 (.inr (.inr e)))).trans (hu3.mono (fun j _ e => (hF j).2 (.inr (.inl e))))
      · rintro j (h | h | h)
        · exact .inl ((hF j).2 (.inl h))
        · exact .inl ((hF j).2 (.inr (.inl h)))
        · exact (hk2 j h).imp (fun h => (hF j).2 (.inr (.inr h))) id
      · have := (OutC.c hi2).2.2.1; rw [he] at this; exact this
      · exact (OutC.c hi2).2.2.2.2.1
      · exact (OutC.c hi2).2.2.2.2.2 4
    have HO := hide ho
    have HR := hide hr
    have HN := hide hn
    rw [he] at c2
    obtain ⟨xl, hxl⟩ : ∃ xl, x.b.length = xl := ⟨_, rfl⟩
    obtain ⟨aw, cw, rfl, _, _, _, _⟩ := ho.slice hxl
    replace hxl := hide hxl
    have hlen : Hid ((x.b ++ ys).length = xl + ly) := hide (by rw [List.length_append, hl, hxl.out])
    clear hi hrd ho hd hF hr hn HSAME T he
    go_enter Try.func8, Try.ntmps8
    go_wp2_with (first
      | (at_builtin; refine append_w rfl (.tmp 15) (.tmp 16) 32 rfl B 5 i0' Try.underlying32 hi0 hz0 hz1 hz2 off (.slice aw xl cw) x.b rfl HO.out ay ly cy ys rfl hl HN.out HR.out hz hB ?_; intro v2 w2 off2 hoff ho2 hg2 hk2; have HF2 := hide (HFIN.out v2 w2 off2 ho2 hg2 hk2).1; have e2 := (HFIN.out v2 w2 off2 ho2 hg2 hk2).2.1; have e4 := (HFIN.out v2 w2 off2 ho2 hg2 hk2).2.2.1; have g4 := (HFIN.out v2 w2 off2 ho2 hg2 hk2).2.2.2; clear HFIN hoff hg2 hk2; obtain ⟨a3, c3, rfl, hr3, hn3, hc3, ha3⟩ := ho2.slice hlen.out; clear ho2 hr3 hn3 ha3)
      | fail)
    go_ret
    exact HF2.out
  · have he' : (x.err == 0) = false := by simp [he]
    have HF := hide (HSAME.out he)
    clear hi hrd ho hd hF hr hn HSAME T
    go_enter Try.func8, Try.ntmps8
    go_wp2_with fail
    go_ret
    exact HF.out

end Go.Proofs.Yteindoemdonagaa
