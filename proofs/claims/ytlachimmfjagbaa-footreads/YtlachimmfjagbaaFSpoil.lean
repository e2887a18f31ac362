/- foot: the document's Spoil of rows. -/
import Derived.Test.YtlachimmfjagbaaFRd
import Derived.Test.YtlachimmfjagbaaCSpoil
import Derived.Test.YtlachimmfjagbaaKSlice
namespace Go.Proofs.Ytlachimmfjagbaa
open Go.RowKit

theorem set_updF (W : World) (g k : Nat) (v : Value) : Upd (fun i => i = g) W (W.setCell ⟨g, k, none⟩ v) := (Upd.refl (fun i => i = g) W).setCell ⟨g, k, none⟩ v (fun _ => rfl)
def Byk (W : World) (N M ga : Nat) (a : Option Addr) (c : Nat) : Prop := c ≤ maxLen ∧ (c = 0 ∨ ∃ g cur, a = some ⟨g, 0, none⟩ ∧ (N ≤ g ∧ g < M) ∧ g ≠ ga ∧ W.heap[g]? = some (.cells cur 5 (0, 0)) ∧ cur.size = c ∧ ∀ u ∈ cur.toList, IsByte u)
theorem Byk.set {W : World} {N M ga c g k : Nat} {a : Option Addr} {cur : Array Value} (h : Byk W N M ga a c) (hg : W.heap[g]? = some (.cells cur 5 (0, 0))) (hb : ∀ u ∈ cur.toList, IsByte u) (x : Int) : Byk (W.setCell ⟨g, k, none⟩ (.int .u8 x)) N M ga a c := by
  refine ⟨h.1, h.2.imp id ?_⟩
  rintro ⟨g', cur', h1, h2, h3, h4, h5, h6⟩
  by_cases e : g' = g
  · subst e
    rw [hg] at h4
    cases h4
    exact ⟨g', _, h1, h2, h3, block_setCell hg k _, by rw [Array.size_setIfInBounds]; exact h5, isByte_set hb k x⟩
  · exact ⟨g', cur', h1, h2, h3, (Below.heap_setCell _ _ _ _ e).trans h4, h5, h6⟩
theorem byk_of {W : World} {N M ga : Nat} {a : Option Addr} {n c : Nat} {zs : List Int} (h : OwnB W N 5 (.slice a n c) zs) (hs : ∀ b, (Value.slice a n c).ownBlock = some b → b ≠ ga ∧ b < M) : Byk W N M ga a c := by
  rcases h with ⟨h1, _⟩ | ⟨g, cap, cur, h1, h2, h3, h4, h5, h6, h7, h8⟩
  · cases h1; exact ⟨by unfold maxLen; omega, .inl rfl⟩
  · cases h1
    exact ⟨h5, .inr ⟨g, cur, rfl, ⟨h2, (hs g rfl).2⟩, (hs g rfl).1, h3, h6, h8⟩⟩

def elv (C : List Spn) (j : Nat) : Value := if h : j < C.length then C[j].kv else .slice none 0 0
/-- The rows from i on are as they were, and their texts are bytes. -/
structure SpF (w W : World) (N M ga cap : Nat) (C : List Spn) (i : Nat) : Prop where
  arr : ∃ cur, W.heap[ga]? = some (.cells cur 33 (0, 0)) ∧ cur.size = cap * 4 ∧ ∀ j, i ≤ j → j < cap → cur[j * 4]? = some (elv C j)
  by' : ∀ j (h : j < C.length), Byk W N M ga C[j].ka C[j].kc
  up : Upd (fun b => N ≤ b ∧ b < M) w W
section
variable {w W : World} {N M ga cap : Nat} {C : List Spn} {i : Nat}
theorem SpF.byte {g k : Nat} {cur : Array Value} (h : SpF w W N M ga cap C i) (hN : N ≤ g ∧ g < M) (hne : g ≠ ga) (hg : W.heap[g]? = some (.cells cur 5 (0, 0))) (hb : ∀ u ∈ cur.toList, IsByte u) (x : Int) : SpF w (W.setCell ⟨g, k, none⟩ (.int .u8 x)) N M ga cap C i := by
  obtain ⟨c2, h1, h2, h3⟩ := h.arr
  exact ⟨⟨c2, (Below.heap_setCell _ _ _ _ (Ne.symm hne)).trans h1, h2, h3⟩, fun j hj => (h.by' j hj).set hg hb x, h.up.trans ((set_updF W g k _).mono (fun b _ e => by rw [show b = g from e]; exact hN))⟩
theorem SpF.drewN (h : SpF w W N M ga cap C i) (m : Nat) : SpF w (W.drewN m) N M ga cap C i :=
  ⟨h.arr, h.by', ⟨h.up.os, h.up.tape, h.up.output, h.up.size, h.up.block⟩⟩
theorem SpF.zero (h : SpF w W N M ga cap C i) (hN : N ≤ ga ∧ ga < M) (x0 x1 x2 x3 : Value) : SpF w ((((W.setCell ⟨ga, i * 4, none⟩ x0).setCell ⟨ga, i * 4 + 1, none⟩ x1).setCell ⟨ga, i * 4 + 2, none⟩ x2).setCell ⟨ga, i * 4 + 3, none⟩ x3) N M ga cap C (i + 1) := by
  obtain ⟨cur, h1, h2, h3⟩ := h.arr
  refine ⟨⟨_, block_setCell (block_setCell (block_setCell (block_setCell h1 _ _) _ _) _ _) _ _, by simp [h2], fun j hij hj => ?_⟩, fun j hj => ?_, h.up.trans (((((set_updF W ga _ _).trans (set_updF _ ga _ _)).trans (set_updF _ ga _ _)).trans (set_updF _ ga _ _)).mono (fun b _ e => by rw [show b = ga from e]; exact hN))⟩
  · rw [Array.getElem?_setIfInBounds_ne (by omega), Array.getElem?_setIfInBounds_ne (by omega), Array.getElem?_setIfInBounds_ne (by omega), Array.getElem?_setIfInBounds_ne (by omega)]
    exact h3 j (by omega) hj
  · have hb := h.by' j hj
    refine ⟨hb.1, hb.2.imp id ?_⟩
    rintro ⟨g', cur', k1, k2, k3, k4, k5, k6⟩
    exact ⟨g', cur', k1, k2, k3, (Below.heap_setCell _ _ _ _ k3).trans ((Below.heap_setCell _ _ _ _ k3).trans ((Below.heap_setCell _ _ _ _ k3).trans ((Below.heap_setCell _ _ _ _ k3).trans k4))), k5, k6⟩
end
theorem RdL.spf {W0 W : World} {N : Nat} {C : List Spn} {ga cap : Nat} (h0 : RdL W0 N (.slice (some ⟨ga, 0, none⟩) C.length cap) C) (hu : Below W0.heap.size W0 W) : SpF W W N W0.heap.size ga cap C 0 ∧ (N ≤ ga ∧ ga < W0.heap.size) ∧ cap ≤ maxLen := by
  have h := h0.below hu
  rcases h.own with ⟨h1, _⟩ | ⟨g, cap', cur, h1, h2, h3, h4, h5, h6, h7, h8⟩
  · cases h1
  · cases h1
    have hlt := h0.own.lt ga rfl
    refine ⟨⟨⟨cur, h3, h6, fun j _ hj => ?_⟩, fun j hj => byk_of (n := C[j].ks.length) (h.ok j hj) (fun b hb => ⟨fun e => h.sep j hj b hb (by rw [e]; rfl), ((h0.ok j hj).owns.lt b hb).2⟩), Upd.refl _ _⟩, hlt, h5⟩
    unfold elv
    by_cases hjC : j < C.length
    · rw [dif_pos hjC]
      have q := (cells4_get C j hjC).1
      rw [← h7, List.getElem?_take, if_pos (by omega), Array.getElem?_toList] at q
      exact q
    · rw [dif_neg hjC]
      exact h8 j (by omega) hj

set_option maxRecDepth 100000 in
set_option maxHeartbeats 800000 in
theorem rfspoil_nil (w : World) :
    Calls Try.prog 24 #[.slice none 0 0] w fun e w' => e = .returned (.tuple #[]) ∧ w' = w := by
  go_enter Try.func24, Try.ntmps24
  go_wp2
  refine wp_loop_rounds 1 ?_
  rw [rounds_succ]
  go_wp2
  go_end0
  exact ⟨rfl, rfl⟩

set_option maxRecDepth 100000 in
set_option maxHeartbeats 3200000 in
theorem rfspoil_some {w : World} {N M ga m n : Nat} {C : List Spn} (H0 : Hid (SpF w w N M ga n C 0)) (hgN : N ≤ ga ∧ ga < M) (hm : n ≤ maxLen) (_hmn : m ≤ n) :
    Calls Try.prog 24 #[.slice (some ⟨ga, 0, none⟩) m n] w fun e w' => e = .returned (.tuple #[]) ∧ Upd (fun b => N ≤ b ∧ b < M) w w' := by
  unfold maxLen at hm
  go_enter Try.func24, Try.ntmps24
  go_wp2
  go_loopw [2] (fun q wr => ∃ i : Nat, i ≤ n ∧ q = .int .i64 (i : Int) ∧ Hid (SpF w wr N M ga n C i)) (fun q _ => n - (intOf q).toNat)
  case atStart => exact ⟨0, by omega, rfl, H0⟩
  case round =>
    clear H0
    obtain ⟨i, hi, rfl, HI⟩ := hrel
    rename World => wo
    by_cases hlt : i < n
    · have i1 : (i : Int) < (n : Int) := by omega
      have i2 : (0 : Int) ≤ (i : Int) := by omega
      obtain ⟨ka, nk, kc, hev, hbk0⟩ : ∃ ka nk kc, elv C i = .slice ka nk kc ∧ ∀ W, SpF w W N M ga n C i → Byk W N M ga ka kc := by
        by_cases hiC : i < C.length
        · exact ⟨C[i].ka, C[i].ks.length, C[i].kc, by unfold elv; rw [dif_pos hiC]; rfl, fun W h => h.by' i hiC⟩
        · exact ⟨none, 0, 0, by unfold elv; rw [dif_neg hiC], fun W h => ⟨by unfold maxLen; omega, .inl rfl⟩⟩
      have hbk := hide hbk0
      obtain ⟨cur, q1, q2, q3⟩ := HI.out.arr
      have c0 : wo.cell? ⟨ga, i * 4, none⟩ = some (.slice ka nk kc) := by rw [cell_of_row _ _ _ _ _ _ q1, ← hev]; exact q3 i (Nat.le_refl _) hlt
      have hcz : Hid (∀ W, SpF w W N M ga n C i → (∀ j, j < 4 → ∃ x, W.cell? ⟨ga, i * 4 + j, none⟩ = some x) ∧ (∀ j, W.frozen? ⟨ga, j, none⟩ = false)) := fun W h => by
        obtain ⟨cur, q1, q2, q3⟩ := h.arr
        exact ⟨fun j hj => ⟨cur[i * 4 + j]'(by omega), by rw [cell_of_row _ _ _ _ _ _ q1, Array.getElem?_eq_getElem (by omega)]⟩, fun j => by simp [World.frozen?, q1]⟩
      have hks : ∀ W : World, (Instr.slice 25 (.slice ka nk kc) none (some (.int .i64 (kc : Int))) none).run Try.prog W = .ok (.slice ka kc kc) W := fun W => run_upto _ _ _ _ (Nat.le_refl _) .i64 W
      have hkm := (hbk0 _ HI.out).1
      unfold maxLen at hkm
      clear q1 q2 q3 hbk0 hev
      go_wp2_with fail
      go_quiet (fail)
      have HI1 := hide (HI.out.drewN nq)
      clear HI c0
      generalize wo.drewN nq = w1 at *
      go_wp2_with fail
      go_loopw [4] (fun q wr => ∃ k : Nat, k ≤ kc ∧ q = .int .i64 (k : Int) ∧ Hid (SpF w wr N M ga n C i)) (fun q _ => kc - (intOf q).toNat)
      case atStart => exact ⟨0, by omega, rfl, HI1⟩
      case round =>
        clear HI1
        obtain ⟨k, hk, rfl, HI⟩ := hrel
        rename World => wr
        by_cases hlk : k < kc
        · have j1 : (k : Int) < (kc : Int) := by omega
          have j2 : (0 : Int) ≤ (k : Int) := by omega
          obtain ⟨g, cs, rfl, hN, hne, hg, hs, hb⟩ := (hbk.out _ HI.out).2.resolve_left (by omega)
          obtain ⟨x, hx⟩ := hb cs[k] (by simp)
          have hcell : wr.cell? ⟨g, k, none⟩ = some (.int .u8 x) := by rw [cell_of_row _ _ _ _ _ _ hg, Array.getElem?_eq_getElem (by omega), hx]
          have hfr : wr.frozen? ⟨g, k, none⟩ = false := by simp [World.frozen?, hg]
          have HNX := hide (fun y => HI.out.byte (k := k) hN hne hg hb y)
          clear hg hx hb HI hs
          go_wp2_with fail
          go_roundw
          case rel => exact ⟨k + 1, by omega, by go_num, HNX.out _⟩
          case measure => simp [intOf]; omega
        · have j1 : ¬ (k : Int) < (kc : Int) := by omega
          obtain ⟨ex, ef⟩ := hcz.out _ HI.out
          obtain ⟨x0, e0⟩ := ex 0 (by omega)
          obtain ⟨x1, e1⟩ := ex 1 (by omega)
          obtain ⟨x2, e2⟩ := ex 2 (by omega)
          obtain ⟨x3, e3⟩ := ex 3 (by omega)
          rw [Nat.add_zero] at e0
          have f0 := ef (i * 4)
          have f1 := ef (i * 4 + 1)
          have f2 := ef (i * 4 + 2)
          have f3 := ef (i * 4 + 3)
          have HZ := hide (HI.out.zero hgN (.slice none 0 0) (.int .i64 (-1)) (.int .i64 0) (.int .i64 0))
          clear ef HI ex
          go_wp2_with fail
          go_roundw
          case rel => exact ⟨i + 1, by omega, by go_num, HZ⟩
          case measure => simp [intOf]; omega
    · have i1 : ¬ (i : Int) < (n : Int) := by omega
      go_wp2
      go_end0
      exact ⟨rfl, HI.out.up⟩

/-- Spoil of a list that was read. -/
theorem rfspoil_any {w0 w : World} {N : Nat} {v : Value} {C : List Spn} (h : RdL w0 N v C) (hb : Below w0.heap.size w0 w) :
    Calls Try.prog 24 #[v] w fun e w' => e = .returned (.tuple #[]) ∧ Upd (fun b => N ≤ b ∧ b < w0.heap.size) w w' := by
  have h' := h
  rcases h.own with ⟨rfl, _⟩ | ⟨g, cap, cur, rfl, _, _, h4, _⟩
  · exact (rfspoil_nil w).mono fun e w' ⟨h1, h2⟩ => ⟨h1, by rw [h2]; exact Upd.refl _ _⟩
  · obtain ⟨s1, s2, s3⟩ := h'.spf hb
    exact rfspoil_some s1 s2 s3 h4

end Go.Proofs.Ytlachimmfjagbaa
