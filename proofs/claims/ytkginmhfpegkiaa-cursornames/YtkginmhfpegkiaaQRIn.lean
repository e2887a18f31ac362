/- The document's In: it asks its reader once; it is filled. -/
import Derived.Test.YtkginmhfpegkiaaQOps2
import Derived.Test.YtkginmhfpegkiaaQRInst
namespace Go.Proofs.Ytkginmhfpegkiaa
open Go.RowKit

/-- The document's In, its cells. -/
def RInC (W : World) (g g2 most at' : Nat) (err : Int) (hv : Value) (i : Nat) : Prop :=
  W.heap[g]? = some (.cells #[.pointer (some ⟨g2, 0, none⟩), .int .i64 (most : Int), .int .i64 (at' : Int), .int .i64 err, hv, .int .i64 (i : Int)] 62 (0, 0))
theorem RInC.c {W : World} {g g2 most at' i : Nat} {err : Int} {hv : Value} (h : RInC W g g2 most at' err hv i) :
    W.cell? ⟨g, 0, none⟩ = some (.pointer (some ⟨g2, 0, none⟩)) ∧ W.cell? ⟨g, 1, none⟩ = some (.int .i64 (most : Int)) ∧ W.cell? ⟨g, 2, none⟩ = some (.int .i64 (at' : Int)) ∧ W.cell? ⟨g, 3, none⟩ = some (.int .i64 err) ∧ W.cell? ⟨g, 4, none⟩ = some hv ∧ W.cell? ⟨g, 5, none⟩ = some (.int .i64 (i : Int)) ∧ ∀ j, W.frozen? ⟨g, j, none⟩ = false :=
  ⟨blk_cell h rfl, blk_cell h rfl, blk_cell h rfl, blk_cell h rfl, blk_cell h rfl, blk_cell h rfl, fun j => frozen_blk h j⟩
theorem RInC.upd {W W' : World} {S : Nat → Prop} {g g2 most at' i : Nat} {err : Int} {hv : Value} (h : RInC W g g2 most at' err hv i) (hu : Upd S W W') (hs : ¬ S g) : RInC W' g g2 most at' err hv i := hu.heap h hs

/-- As ask1, the sixteenth idle call not told. -/
def rask1 {σ : Type} (RD : Nat → σ → Int × Int × List Int × σ) (k : Nat) (s : σ) (i : Nat) : List Int × Int × σ × Nat :=
  if (RD k s).1 < 0 ∨ (k : Int) < (RD k s).1 then ([], 34, (RD k s).2.2.2, i)
  else ((RD k s).2.2.1, (RD k s).2.1, (RD k s).2.2.2, idleOf i (RD k s).1.toNat (RD k s).2.1)
theorem rask_ask {σ : Type} {RD : Nat → σ → Int × Int × List Int × σ} {k : Nat} {s : σ} {i : Nat} (hi : i < 16) : (ask1 RD k s i).1 = (rask1 RD k s i).1 ∧ (ask1 RD k s i).2.2 = (rask1 RD k s i).2.2 ∧ (ask1 RD k s i).2.1 = if (rask1 RD k s i).2.2.2 = 16 then 33 else (rask1 RD k s i).2.1 := by
  unfold ask1 rask1
  by_cases hb : (RD k s).1 < 0 ∨ (k : Int) < (RD k s).1
  · rw [if_pos hb, if_pos hb]
    refine ⟨rfl, rfl, ?_⟩
    simp only
    rw [if_neg (by omega)]
  · rw [if_neg hb, if_neg hb]
    exact ⟨rfl, rfl, rfl⟩
theorem rask_16 {σ : Type} {RD : Nat → σ → Int × Int × List Int × σ} {k : Nat} {s : σ} {i : Nat} (hi : i < 16) (h : (rask1 RD k s i).2.2.2 = 16) : (rask1 RD k s i).2.1 = 0 := by
  unfold rask1 at *
  by_cases hb : (RD k s).1 < 0 ∨ (k : Int) < (RD k s).1
  · rw [if_pos hb] at *
    simp only at h
    omega
  · rw [if_neg hb] at *
    simp only [idleOf] at h ⊢
    split at h
    · omega
    · rename_i hq
      exact Classical.byContradiction fun e => hq (.inr e)

def RAskP {σ : Type} (Rd : World → σ → (Nat → Prop) → Prop) (g g2 most at' : Nat) (err : Int) (hv : Value) (q : List Int × Int × σ × Nat) (M : Nat → Prop) (W : World) (e : Ending) (W' : World) : Prop :=
  ∃ v M', e = .returned (.tuple #[v, .int .i64 q.2.1]) ∧ OwnB W' W.heap.size 5 v q.1 ∧ RInC W' g g2 most at' err hv q.2.2.2 ∧ Rd W' q.2.2.1 M' ∧ Upd (fun j => M j ∨ j = g) W W' ∧ (∀ j, M' j → M j ∨ W.heap.size ≤ j) ∧ ∀ j, v.ownBlock = some j → ¬ M' j

set_option maxRecDepth 100000 in
set_option maxHeartbeats 1600000 in
theorem rask_any {σ : Type} {RD : Nat → σ → Int × Int × List Int × σ} {cnt m : σ → Nat} {B g2 : Nat} {Rd : World → σ → (Nat → Prop) → Prop}
    (W : World) (g : Nat) (s : σ) (M : Nat → Prop) (n k most at' i : Nat) (err : Int) (hv : Value) (hk : k = min n 4096) (hn : n ≤ 9223372036854775807) (R : Reader k (RD k) cnt m 66 (.pointer (some ⟨g2, 0, none⟩)) B Rd) (h0 : 1 ≤ k) (hB : B ≤ W.heap.size) (hI : RInC W g g2 most at' err hv i) (hR : Rd W s M) (hMg : ¬ M g) (hBg : B ≤ g) (hi : i < 16) (hc : cnt s < 4611686018427387904) :
    Calls Try.prog 61 #[.pointer (some ⟨g, 0, none⟩), .int .i64 (n : Int)] W fun e W' => RAskP Rd g g2 most at' err hv (rask1 RD k s i) M W e W' := by
  have h1 : k ≤ 4096 := by omega
  have hmk := run_zeros k (by omega)
  have hlt := R.lt hR
  have hu0 : Upd Noth W (W.alloc (.cells (zeros k).toArray 5)) := (Upd.refl _ _).alloc _
  have hgl : g < W.heap.size := lt_of_block hI
  have HRC := hide (R.read (W.alloc (.cells (zeros k).toArray 5)) s M W.heap.size (zeros k) (R.upd hR hu0 (fun i e => e.elim)) hc ⟨fun _ => rfl, heap_alloc_new W _, by rw [zeros_len]; exact Nat.le_refl _⟩ (zeros_bytes k) (fun e => by have := hlt _ e; omega) hB)
  have hI0 := RInC.upd hI hu0 (fun e => e)
  have c0 := (RInC.c hI0).1
  have HFIT := hide (R.fit s)
  have HI0 := hide hI0
  have HRR := hide R
  replace hk := hide hk
  clear hlt hR hu0 R hI0 hI
  go_enter Try.func61, Try.ntmps61
  go_upto_region 2 with fail
  rw [show (if (4096 : Int) < (n : Int) then (4096 : Int) else (n : Int)) = (k : Int) from by have := hk.out; split <;> omega]
  all_goals (
    go_wp2_with fail
    refine HRC.out.mono ?_
    rintro e w1 ⟨M1, rfl, hr1, hroom1, hu1, hm1, hn1⟩
    have hI1 := RInC.upd HI0.out hu1 (fun e => e.elim hMg (fun e => by omega))
    replace hr1 := hide hr1
    have hub : Upd M W w1 := ⟨hu1.os, hu1.tape, hu1.output, Nat.le_trans (by simp) hu1.size, fun k hk hs => (hu1.block k (by simp; omega) (fun e => e.elim hs (fun e => by omega))).trans (Below.heap_alloc _ _ _ hk)⟩
    have hsz1 : W.heap.size < w1.heap.size := by have := hu1.size; simp at this; omega
    have HM1 : Hid (∀ j, M1 j → M j ∨ W.heap.size ≤ j) := hide (fun j hj => (hm1 j hj).imp id (fun h => by simp at h; omega))
    have hM1g : ¬ M1 g := fun e => (HM1.out g e).elim hMg (fun h => by omega)
    have HROOM := hide hroom1
    have HI1 := hide hI1
    have c5 := (RInC.c hI1).2.2.2.2.2.1
    have f5 := (RInC.c hI1).2.2.2.2.2.2 5
    replace hub := hide hub
    replace hn1 := hide hn1
    clear hu1 hm1 hroom1 HRC c0 HI0 hmk hI1
    have HAK : Hid (rask1 RD k s i = if (RD k s).1 < 0 ∨ (k : Int) < (RD k s).1 then ([], 34, (RD k s).2.2.2, i)
      else ((RD k s).2.2.1, (RD k s).2.1, (RD k s).2.2.2, idleOf i (RD k s).1.toNat (RD k s).2.1)) := rfl
    generalize RD k s = q at *
    obtain ⟨x, er, bs, s'⟩ := q
    simp only at HAK HFIT HROOM hr1
    by_cases hbad : x < 0 ∨ (k : Int) < x
    · rw [if_pos hbad] at HAK
      have HF : Hid (RAskP Rd g g2 most at' err hv (rask1 RD k s i) M W (.returned (.tuple #[.slice none 0 0, .int .i64 34])) w1) := by
        rw [HAK.out]
        exact ⟨.slice none 0 0, M1, rfl, OwnB.nil _ _ _, HI1.out, hr1.out, hub.out.mono (fun _ _ h => .inl h), HM1.out, fun j hj => by cases hj⟩
      rcases hbad with hneg | hbig
      · go_wp2_with fail
        go_ret2
        exact HF.out
      · have hneg : ¬ x < 0 := by omega
        go_wp2_with fail
        go_ret2
        exact HF.out
    · rw [if_neg hbad] at HAK
      obtain ⟨x, rfl⟩ : ∃ y : Nat, x = y := ⟨x.toNat, by omega⟩
      have hbl : bs.length = x := by have := HFIT.out (by omega) (by omega); simpa using this
      rw [Int.toNat_natCast] at HAK
      have HF : Hid (∀ w2, Upd (fun j => j = g) w1 w2 → RInC w2 g g2 most at' err hv (idleOf i x er) → RAskP Rd g g2 most at' err hv (rask1 RD k s i) M W (.returned (.tuple #[.slice (some ⟨W.heap.size, 0, none⟩) x k, .int .i64 er])) w2) := hide fun w2 hu2 hi2 => by
        rw [HAK.out]
        have ho : OwnB w1 W.heap.size 5 (.slice (some ⟨W.heap.size, 0, none⟩) bs.length k) bs := room_own h1 HROOM.out (by omega) (Nat.le_refl _)
        rw [hbl] at ho
        refine ⟨_, M1, rfl, ho.upd hu2 (fun j hj e => ?_), hi2, HRR.out.upd hr1.out hu2 (fun j e => by subst e; exact ⟨hBg, hM1g⟩), (hub.out.mono (fun _ _ h => .inl h)).trans (hu2.mono (fun _ _ h => .inr h)), HM1.out, fun j hj e => ?_⟩
        · have hj' : W.heap.size = j := by cases hj; rfl
          omega
        · cases hj; exact hn1.out e
      have HB0 : Hid (idleOf i x er = 0 → RAskP Rd g g2 most at' err hv (rask1 RD k s i) M W (.returned (.tuple #[.slice (some ⟨W.heap.size, 0, none⟩) x k, .int .i64 er])) ((w1.setCell ⟨g, 5, none⟩ (.int .i64 ((i : Int) + 1))).setCell ⟨g, 5, none⟩ (.int .i64 0))) := hide fun h => HF.out _ (((Upd.refl _ _).set1 5 _).trans ((Upd.refl _ _).set1 5 _)) (by
        rw [h]
        have h2 := block_setCell (block_setCell HI1.out 5 (.int .i64 ((i : Int) + 1))) 5 (.int .i64 0)
        unfold RInC
        rw [h2]
        simp)
      have HB1 : Hid (idleOf i x er = i + 1 → RAskP Rd g g2 most at' err hv (rask1 RD k s i) M W (.returned (.tuple #[.slice (some ⟨W.heap.size, 0, none⟩) x k, .int .i64 er])) (w1.setCell ⟨g, 5, none⟩ (.int .i64 ((i : Int) + 1)))) := hide fun h => HF.out _ ((Upd.refl _ _).set1 5 _) (by
        rw [h]
        exact block_setCell HI1.out 5 _)
      have hk1 : ¬ (x : Int) < 0 := by omega
      have hk2 : ¬ (k : Int) < (x : Int) := by omega
      have hk3 : (0 : Int) ≤ (x : Int) := by omega
      have hk4 : (x : Int) ≤ (k : Int) := by omega
      clear hbad HFIT HF
      by_cases hx : 0 < x
      · have hx' : (0 : Int) < (x : Int) := by omega
        have HQ := hide (HB0.out (by simp [idleOf, hx]))
        clear HB0 HB1
        go_wp2_with fail
        go_ret2
        exact HQ.out
      · have hx' : ¬ (0 : Int) < (x : Int) := by omega
        by_cases he : er = 0
        · subst he
          have HQ := hide (HB1.out (by simp [idleOf, hx]))
          clear HB0 HB1
          go_wp2_with fail
          go_ret2
          exact HQ.out
        · have he' : (er != 0) = true := by simp [he]
          have HQ := hide (HB0.out (by simp [idleOf, he]))
          clear HB0 HB1
          go_wp2_with fail
          go_ret2
          exact HQ.out)

end Go.Proofs.Ytkginmhfpegkiaa
