/- An In: it asks its reader once; it is filled. -/
import Derived.Test.YtjcanghffhpncaaQIn
namespace Go.Proofs.Ytjcanghffhpncaa
open Go.RowKit

/-- An In's cells. -/
def InC (W : World) (g at' i : Nat) (err : Int) (r : Value) (left : Nat) (hv : Value) : Prop :=
  W.heap[g]? = some (.cells #[.int .i64 (at' : Int), .int .i64 (i : Int), .int .i64 err, r, .int .i64 (left : Int), hv] 47 (0, 0))
theorem InC.c {W : World} {g at' i : Nat} {err : Int} {r : Value} {left : Nat} {hv : Value} (h : InC W g at' i err r left hv) :
    W.cell? ⟨g, 0, none⟩ = some (.int .i64 (at' : Int)) ∧ W.cell? ⟨g, 1, none⟩ = some (.int .i64 (i : Int)) ∧ W.cell? ⟨g, 2, none⟩ = some (.int .i64 err) ∧ W.cell? ⟨g, 3, none⟩ = some r ∧ W.cell? ⟨g, 4, none⟩ = some (.int .i64 (left : Int)) ∧ W.cell? ⟨g, 5, none⟩ = some hv ∧ ∀ j, W.frozen? ⟨g, j, none⟩ = false :=
  ⟨blk_cell h rfl, blk_cell h rfl, blk_cell h rfl, blk_cell h rfl, blk_cell h rfl, blk_cell h rfl, fun j => frozen_blk h j⟩
theorem InC.upd {W W' : World} {S : Nat → Prop} {g at' i : Nat} {err : Int} {r : Value} {left : Nat} {hv : Value} (h : InC W g at' i err r left hv) (hu : Upd S W W') (hs : ¬ S g) : InC W' g at' i err r left hv := hu.heap h hs

def AskP {σ : Type} (Rd : World → σ → (Nat → Prop) → Prop) (g at' : Nat) (err : Int) (r : Value) (left : Nat) (hv : Value) (q : List Int × Int × σ × Nat) (M : Nat → Prop) (W : World) (e : Ending) (W' : World) : Prop :=
  ∃ v M', e = .returned (.tuple #[v, .int .i64 q.2.1]) ∧ OwnB W' W.heap.size 5 v q.1 ∧ InC W' g at' q.2.2.2 err r left hv ∧ Rd W' q.2.2.1 M' ∧ Upd (fun j => M j ∨ j = g) W W' ∧ (∀ j, M' j → M j ∨ W.heap.size ≤ j) ∧ ∀ j, v.ownBlock = some j → ¬ M' j

theorem room_own {W : World} {k r : Nat} {bs : List Int} {B : Nat} (hk : k ≤ 4096) (h : Room W (some ⟨r, 0, none⟩) k r (bs.map (Value.int .u8) ++ (zeros k).drop bs.length)) (hl : bs.length ≤ k) (hB : B ≤ r) : OwnB W B 5 (.slice (some ⟨r, 0, none⟩) bs.length k) bs := by
  refine .inr ⟨r, k, _, rfl, hB, h.2.1, hl, by unfold maxLen; omega, ?_, ?_, ?_⟩
  · simp [zeros]; omega
  · rw [List.take_append_of_le_length (by simp), List.take_of_length_le (by simp)]
  · intro u hu
    rcases List.mem_append.1 hu with h1 | h1
    · exact bytes_map bs u h1
    · exact zeros_bytes k u (List.mem_of_mem_drop h1)

set_option maxRecDepth 100000 in
set_option maxHeartbeats 1600000 in
theorem cask_any {σ : Type} {RD : Nat → σ → Int × Int × List Int × σ} {cnt m : σ → Nat} {f : FuncId} {recv : Value} {B : Nat} {Rd : World → σ → (Nat → Prop) → Prop} {ty : TypeId} {pv : Value} (L : Leads "Read" ty pv f recv)
    (W : World) (g : Nat) (s : σ) (M : Nat → Prop) (k at' i : Nat) (err : Int) (left : Nat) (hv : Value) (R : Reader k (RD k) cnt m f recv B Rd) (h0 : 1 ≤ k) (h1 : k ≤ 4096) (hB : B ≤ W.heap.size) (hI : InC W g at' i err (.iface ty pv) left hv) (hR : Rd W s M) (hMg : ¬ M g) (hBg : B ≤ g) (hi : i ≤ 16) (hc : cnt s < 4611686018427387904) :
    Calls Try.prog 53 #[.pointer (some ⟨g, 0, none⟩), .int .i64 (k : Int)] W fun e W' => AskP Rd g at' err (.iface ty pv) left hv (ask1 RD k s i) M W e W' := by
  have hmk := run_zeros k (by omega)
  have hme := L.method
  have hen := L.enter
  have hlt := R.lt hR
  have hu0 : Upd Noth W (W.alloc (.cells (zeros k).toArray 5)) := (Upd.refl _ _).alloc _
  have hgl : g < W.heap.size := lt_of_block hI
  have HRC := hide (R.read (W.alloc (.cells (zeros k).toArray 5)) s M W.heap.size (zeros k) (R.upd hR hu0 (fun i e => e.elim)) hc ⟨fun _ => rfl, heap_alloc_new W _, by rw [zeros_len]; exact Nat.le_refl _⟩ (zeros_bytes k) (fun e => by have := hlt _ e; omega) hB)
  have hI0 := InC.upd hI hu0 (fun e => e)
  have c3 := (InC.c hI0).2.2.2.1
  have HLT := hide hlt
  have HFIT := hide (R.fit s)
  have HI0 := hide hI0
  have HRR := hide R
  clear hlt hR L hu0 R hI0 hI
  go_enter Try.func53, Try.ntmps53
  go_wp2_with fail
  refine HRC.out.mono ?_
  rintro e w1 ⟨M1, rfl, hr1, hroom1, hu1, hm1, hn1⟩
  have hI1 := InC.upd HI0.out hu1 (fun e => e.elim hMg (fun e => by omega))
  replace hr1 := hide hr1
  have hub : Upd M W w1 := ⟨hu1.os, hu1.tape, hu1.output, Nat.le_trans (by simp) hu1.size, fun k hk hs => (hu1.block k (by simp; omega) (fun e => e.elim hs (fun e => by omega))).trans (Below.heap_alloc _ _ _ hk)⟩
  have hsz1 : W.heap.size < w1.heap.size := by have := hu1.size; simp at this; omega
  have HM1 : Hid (∀ j, M1 j → M j ∨ W.heap.size ≤ j) := hide (fun j hj => (hm1 j hj).imp id (fun h => by simp at h; omega))
  have hM1g : ¬ M1 g := fun e => (HM1.out g e).elim hMg (fun h => by omega)
  have HROOM := hide hroom1
  have HI1 := hide hI1
  replace hub := hide hub
  replace hn1 := hide hn1
  clear hu1 hm1 hroom1 HRC c3 HI0 hmk hI1
  have HAK : Hid (ask1 RD k s i = if (RD k s).1 < 0 ∨ (k : Int) < (RD k s).1 then ([], 34, (RD k s).2.2.2, i)
  else ((RD k s).2.2.1, toldOf (idleOf i (RD k s).1.toNat (RD k s).2.1) (RD k s).2.1, (RD k s).2.2.2, idleOf i (RD k s).1.toNat (RD k s).2.1)) := rfl
  generalize RD k s = q at *
  obtain ⟨n, er, bs, s'⟩ := q
  simp only at HAK HFIT HROOM hr1
  by_cases hbad : n < 0 ∨ (k : Int) < n
  · rw [if_pos hbad] at HAK
    have HF : Hid (AskP Rd g at' err (.iface ty pv) left hv (ask1 RD k s i) M W (.returned (.tuple #[.slice none 0 0, .int .i64 34])) w1) := by
      rw [HAK.out]
      exact ⟨.slice none 0 0, M1, rfl, OwnB.nil _ _ _, HI1.out, hr1.out, hub.out.mono (fun _ _ h => .inl h), HM1.out, fun j hj => by cases hj⟩
    rcases hbad with hneg | hbig
    · go_wp2_with fail
      go_ret2
      exact HF.out
    · have hneg : ¬ n < 0 := by omega
      go_wp2_with fail
      go_ret2
      exact HF.out
  · rw [if_neg hbad] at HAK
    obtain ⟨x, rfl⟩ : ∃ x : Nat, n = x := ⟨n.toNat, by omega⟩
    have hbl : bs.length = x := by have := HFIT.out (by omega) (by omega); simpa using this
    rw [Int.toNat_natCast] at HAK
    have HC : Hid (∀ n, Calls Try.prog 54 #[.pointer (some ⟨g, 0, none⟩), .int .i64 (x : Int), .int .i64 er] (w1.drewN n) fun e W' => CalledPost g #[.int .i64 (at' : Int), .int .i64 (i : Int), .int .i64 err, .iface ty pv, .int .i64 (left : Int), hv] 47 i x er (w1.drewN n) e W') := hide fun n => called_any g _ 47 i x er (w1.drewN n) HI1.out rfl hi
    have HF : Hid (∀ w2, Upd (fun j => j = g) w1 w2 → InC w2 g at' (idleOf i x er) err (.iface ty pv) left hv → AskP Rd g at' err (.iface ty pv) left hv (ask1 RD k s i) M W (.returned (.tuple #[.slice (some ⟨W.heap.size, 0, none⟩) x k, .int .i64 (toldOf (idleOf i x er) er)])) w2) := hide fun w2 hu2 hi2 => by
      rw [HAK.out]
      have ho : OwnB w1 W.heap.size 5 (.slice (some ⟨W.heap.size, 0, none⟩) bs.length k) bs := room_own h1 HROOM.out (by omega) (Nat.le_refl _)
      rw [hbl] at ho
      refine ⟨_, M1, rfl, ho.upd hu2 (fun j hj e => ?_), hi2, HRR.out.upd hr1.out hu2 (fun j e => by subst e; exact ⟨hBg, hM1g⟩), (hub.out.mono (fun _ _ h => .inl h)).trans (hu2.mono (fun _ _ h => .inr h)), HM1.out, fun j hj e => ?_⟩
      · have hj' : W.heap.size = j := by cases hj; rfl
        omega
      · cases hj; exact hn1.out e
    have hk1 : ¬ (x : Int) < 0 := by omega
    have hk2 : ¬ (k : Int) < (x : Int) := by omega
    have hk3 : (0 : Int) ≤ (x : Int) := by omega
    have hk4 : (x : Int) ≤ (k : Int) := by omega
    clear hbad HFIT
    go_wp2_with fail
    go_region_held3 (fun _ => True) (trivial) (first
      | (go_at_call 54; refine (HC.out _).mono ?_; rintro e w2 ⟨rfl, hb2, hu2⟩; replace hb2 := hide hb2; replace hu2 := hide hu2)
      | fail)
    all_goals go_wp2_with fail
    all_goals go_ret2
    all_goals exact HF.out w2 hu2.out.ofDrewN hb2.out

end Go.Proofs.Ytjcanghffhpncaa
