/- Entries are written over. -/
import Derived.Test.YtjnldmbjeiejdaaG43
import Derived.Test.YtjnldmbjeiejdaaG16
namespace Go.Proofs.Ytjnldmbjeiejdaa
open Go.RowKit

def Byk (W : World) (N M ga : Nat) (a : Option Addr) (c : Nat) : Prop := c ≤ maxLen ∧ (c = 0 ∨ ∃ g cur, a = some ⟨g, 0, none⟩ ∧ (N ≤ g ∧ g < M) ∧ g ≠ ga ∧ W.heap[g]? = some (.cells cur 5 (0, 0)) ∧ cur.size = c ∧ ∀ u ∈ cur.toList, IsByte u)
theorem Byk.set {W : World} {N M ga c g k : Nat} {a : Option Addr} {cur : Array Value} (h : Byk W N M ga a c) (hg : W.heap[g]? = some (.cells cur 5 (0, 0))) (hb : ∀ u ∈ cur.toList, IsByte u) (x : Int) : Byk (W.setCell ⟨g, k, none⟩ (.int .u8 x)) N M ga a c := by
  refine ⟨h.1, h.2.imp id ?_⟩
  rintro ⟨g', cur', h1, h2, h3, h4, h5, h6⟩
  by_cases e : g' = g
  · subst e
    rw [hg] at h4
    cases h4
    exact ⟨g', _, h1, h2, h3, block_setCell hg k _, by rw [Array.size_setIfInBounds]; exact h5, isByte_set hb k x⟩
  · exact ⟨g', cur', h1, h2, h3, (Below.heap_setCell _ _ _ _ e).trans h4, h5, h6⟩
/-- The entries from i on are as they were, and their texts are bytes. -/
structure SpI (w W : World) (N M ga : Nat) (Es : List Ent) (i : Nat) : Prop where
  arr : ∃ cur, W.heap[ga]? = some (.cells cur 25 (0, 0)) ∧ cur.size = Es.length * 2 ∧ ∀ j (h : j < Es.length), i ≤ j → cur[j * 2]? = some Es[j].kv ∧ cur[j * 2 + 1]? = some Es[j].vv
  by' : ∀ j (h : j < Es.length), Byk W N M ga Es[j].ka Es[j].kc ∧ Byk W N M ga Es[j].va Es[j].vc
  up : Upd (fun b => N ≤ b ∧ b < M) w W
theorem SpI.byte {w W : World} {N M ga : Nat} {Es : List Ent} {i g k : Nat} {cur : Array Value} (h : SpI w W N M ga Es i) (hN : N ≤ g ∧ g < M) (hne : g ≠ ga) (hg : W.heap[g]? = some (.cells cur 5 (0, 0))) (hb : ∀ u ∈ cur.toList, IsByte u) (x : Int) : SpI w (W.setCell ⟨g, k, none⟩ (.int .u8 x)) N M ga Es i := by
  obtain ⟨c2, h1, h2, h3⟩ := h.arr
  exact ⟨⟨c2, (Below.heap_setCell _ _ _ _ (Ne.symm hne)).trans h1, h2, h3⟩, fun j hj => ⟨(h.by' j hj).1.set hg hb x, (h.by' j hj).2.set hg hb x⟩, h.up.trans ((set_upd W g k _).mono (fun b _ e => by rw [show b = g from e]; exact hN))⟩
theorem SpI.drewN {w W : World} {N M ga : Nat} {Es : List Ent} {i : Nat} (h : SpI w W N M ga Es i) (m : Nat) : SpI w (W.drewN m) N M ga Es i :=
  ⟨h.arr, h.by', ⟨h.up.os, h.up.tape, h.up.output, h.up.size, h.up.block⟩⟩
theorem SpI.zero {w W : World} {N M ga : Nat} {Es : List Ent} {i : Nat} (h : SpI w W N M ga Es i) (hN : N ≤ ga ∧ ga < M) : SpI w ((W.setCell ⟨ga, i * 2, none⟩ (.slice none 0 0)).setCell ⟨ga, i * 2 + 1, none⟩ (.slice none 0 0)) N M ga Es (i + 1) := by
  obtain ⟨cur, h1, h2, h3⟩ := h.arr
  refine ⟨⟨_, block_setCell (block_setCell h1 _ _) _ _, by simp [h2], fun j hj hij => ?_⟩, fun j hj => ?_, h.up.trans (((set_upd W ga _ _).trans (set_upd _ ga _ _)).mono (fun b _ e => by rw [show b = ga from e]; exact hN))⟩
  · rw [Array.getElem?_setIfInBounds_ne (by omega), Array.getElem?_setIfInBounds_ne (by omega), Array.getElem?_setIfInBounds_ne (by omega), Array.getElem?_setIfInBounds_ne (by omega)]
    exact h3 j hj (by omega)
  · have q : ∀ a c, Byk W N M ga a c → Byk ((W.setCell ⟨ga, i * 2, none⟩ (.slice none 0 0)).setCell ⟨ga, i * 2 + 1, none⟩ (.slice none 0 0)) N M ga a c := fun a c hb => by
      refine ⟨hb.1, hb.2.imp id ?_⟩
      rintro ⟨g', cur', k1, k2, k3, k4, k5, k6⟩
      exact ⟨g', cur', k1, k2, k3, (Below.heap_setCell _ _ _ _ k3).trans ((Below.heap_setCell _ _ _ _ k3).trans k4), k5, k6⟩
    exact ⟨q _ _ (h.by' j hj).1, q _ _ (h.by' j hj).2⟩
theorem byk_of {W : World} {N M ga : Nat} {a : Option Addr} {n c : Nat} {zs : List Int} (h : OwnB W N 5 (.slice a n c) zs) (hs : ∀ b, (Value.slice a n c).ownBlock = some b → b ≠ ga ∧ b < M) : Byk W N M ga a c := by
  rcases h with ⟨h1, _⟩ | ⟨g, cap, cur, h1, h2, h3, h4, h5, h6, h7, h8⟩
  · cases h1; exact ⟨by unfold maxLen; omega, .inl rfl⟩
  · cases h1
    exact ⟨h5, .inr ⟨g, cur, rfl, ⟨h2, (hs g rfl).2⟩, (hs g rfl).1, h3, h6, h8⟩⟩
theorem ElOk.spi {W0 W : World} {N ga : Nat} {Es : List Ent} (h0 : ElOk W0 N ga Es) (hb : Below W0.heap.size W0 W) : SpI W W N W0.heap.size ga Es 0 := by
  have h := h0.below hb
  obtain ⟨cur, h1, h2, h3⟩ := h.eb
  exact ⟨⟨cur, h1, h2, fun j hj _ => h3 j hj⟩, fun j hj => ⟨byk_of (n := Es[j].ks.length) (h.ok j hj).1 (fun b hb => ⟨h.sep j hj b (.inl hb), ((h0.ok j hj).1.owns.lt b hb).2⟩), byk_of (n := Es[j].vs.length) (h.ok j hj).2 (fun b hb => ⟨h.sep j hj b (.inr hb), ((h0.ok j hj).2.owns.lt b hb).2⟩)⟩, Upd.refl _ _⟩

set_option maxRecDepth 100000 in
set_option maxHeartbeats 800000 in
theorem rspoil_nil (w : World) :
    Calls Try.prog 21 #[.slice none 0 0] w fun e w' => e = .returned (.tuple #[]) ∧ w' = w := by
  go_enter Try.func21, Try.ntmps21
  go_wp2
  refine wp_loop_rounds 1 ?_
  rw [rounds_succ]
  go_wp2
  go_end0
  exact ⟨rfl, rfl⟩

set_option maxRecDepth 100000 in
set_option maxHeartbeats 3200000 in
theorem rspoil_spi {w : World} {N M ga n : Nat} {Es : List Ent} (H0 : Hid (SpI w w N M ga Es 0)) (hgN : N ≤ ga ∧ ga < M) (hn : Es.length = n) (hm : n ≤ 1000) (m : Nat) :
    Calls Try.prog 21 #[.slice (some ⟨ga, 0, none⟩) m n] w fun e w' => e = .returned (.tuple #[]) ∧ Upd (fun b => N ≤ b ∧ b < M) w w' := by
  go_enter Try.func21, Try.ntmps21
  go_wp2
  go_loopw [2] (fun q wr => ∃ i : Nat, i ≤ n ∧ q = .int .i64 (i : Int) ∧ Hid (SpI w wr N M ga Es i)) (fun q _ => n - (intOf q).toNat)
  case atStart => exact ⟨0, by omega, rfl, H0⟩
  case round =>
    clear H0
    obtain ⟨i, hi, rfl, HI⟩ := hrel
    by_cases hlt : i < n
    · have hiE : i < Es.length := by omega
      have i1 : (i : Int) < (n : Int) := by omega
      have i2 : (0 : Int) ≤ (i : Int) := by omega
      obtain ⟨cur, q1, q2, q3⟩ := HI.out.arr
      have c0 : wr.cell? ⟨ga, i * 2, none⟩ = some Es[i].kv := by rw [cell_of_row _ _ _ _ _ _ q1]; exact (q3 i hiE (Nat.le_refl _)).1
      have hbk : Hid (∀ W, SpI w W N M ga Es i → Byk W N M ga Es[i].ka Es[i].kc ∧ Byk W N M ga Es[i].va Es[i].vc) := fun W h => h.by' i hiE
      have hcl : Hid (∀ W, SpI w W N M ga Es i → W.cell? ⟨ga, i * 2 + 1, none⟩ = some Es[i].vv) := fun W h => by
        obtain ⟨cur, q1, q2, q3⟩ := h.arr
        rw [cell_of_row _ _ _ _ _ _ q1]; exact (q3 i hiE (Nat.le_refl _)).2
      have hcz : Hid (∀ W, SpI w W N M ga Es i → (∃ x, W.cell? ⟨ga, i * 2, none⟩ = some x) ∧ (∃ x, W.cell? ⟨ga, i * 2 + 1, none⟩ = some x) ∧ (∀ j, W.frozen? ⟨ga, j, none⟩ = false)) := fun W h => by
        obtain ⟨cur, q1, q2, q3⟩ := h.arr
        refine ⟨⟨_, by rw [cell_of_row _ _ _ _ _ _ q1]; exact (q3 i hiE (Nat.le_refl _)).1⟩, ⟨_, by rw [cell_of_row _ _ _ _ _ _ q1]; exact (q3 i hiE (Nat.le_refl _)).2⟩, fun j => by simp [World.frozen?, q1]⟩
      clear q1 q2 q3
      generalize Es[i] = en at *
      unfold Ent.kv at c0
      unfold Ent.vv at hcl
      have hks : ∀ W : World, (Instr.slice 23 (.slice en.ka en.ks.length en.kc) none (some (.int .i64 (en.kc : Int))) none).run Try.prog W = .ok (.slice en.ka en.kc en.kc) W := fun W => run_upto _ _ _ _ (Nat.le_refl _) .i64 W
      have hvs : ∀ W : World, (Instr.slice 23 (.slice en.va en.vs.length en.vc) none (some (.int .i64 (en.vc : Int))) none).run Try.prog W = .ok (.slice en.va en.vc en.vc) W := fun W => run_upto _ _ _ _ (Nat.le_refl _) .i64 W
      have hkm := (hbk.out _ HI.out).1.1
      have hvm := (hbk.out _ HI.out).2.1
      unfold maxLen at hkm hvm
      generalize en.ks.length = nk at *
      generalize en.vs.length = nv at *
      generalize en.kc = kc at *
      generalize en.vc = vc at *
      generalize en.ka = ka at *
      generalize en.va = va at *
      rename World => wo
      go_wp2_with fail
      go_quiet (fail)
      have HI1 := hide (HI.out.drewN nq)
      clear HI c0
      generalize wo.drewN nq = w1 at *
      go_wp2_with fail
      go_loopw [4] (fun q wr => ∃ k : Nat, k ≤ kc ∧ q = .int .i64 (k : Int) ∧ Hid (SpI w wr N M ga Es i)) (fun q _ => kc - (intOf q).toNat)
      case atStart => exact ⟨0, by omega, rfl, HI1⟩
      case round =>
        clear HI1
        obtain ⟨k, hk, rfl, HI⟩ := hrel
        by_cases hlk : k < kc
        · have j1 : (k : Int) < (kc : Int) := by omega
          have j2 : (0 : Int) ≤ (k : Int) := by omega
          obtain ⟨g, cs, rfl, hN, hne, hg, hs, hb⟩ := (hbk.out _ HI.out).1.2.resolve_left (by omega)
          obtain ⟨x, hx⟩ := hb cs[k] (by simp)
          have hcell : wr.cell? ⟨g, k, none⟩ = some (.int .u8 x) := by rw [cell_of_row _ _ _ _ _ _ hg, Array.getElem?_eq_getElem (by omega), hx]
          have hfr : wr.frozen? ⟨g, k, none⟩ = false := by simp [World.frozen?, hg]
          have HNX := hide (fun y => HI.out.byte (k := k) hN hne hg hb y)
          clear hg hx hb HI hs
          go_wp2_with fail
          go_roundw
          case rel => exact ⟨k + 1, by omega, by go_num, HNX.out _⟩
          case measure => simp [intOf]; omega
        · have j1 : ¬ (k : Int) < (kc : Int) := by omega
          have d1 := hcl.out _ HI.out
          rename World => w2
          go_wp2_with fail
          go_quiet (fail)
          have HI3 := hide (HI.out.drewN nq)
          clear HI d1
          generalize w2.drewN nq = w3 at *
          go_wp2_with fail
          go_loopw [6] (fun q wr => ∃ k : Nat, k ≤ vc ∧ q = .int .i64 (k : Int) ∧ Hid (SpI w wr N M ga Es i)) (fun q _ => vc - (intOf q).toNat)
          case atStart => exact ⟨0, by omega, rfl, HI3⟩
          case round =>
            clear HI3
            obtain ⟨k2, hk2, rfl, HI⟩ := hrel
            by_cases hlk2 : k2 < vc
            · have j3 : (k2 : Int) < (vc : Int) := by omega
              have j4 : (0 : Int) ≤ (k2 : Int) := by omega
              obtain ⟨g, cs, rfl, hN, hne, hg, hs, hb⟩ := (hbk.out _ HI.out).2.2.resolve_left (by omega)
              obtain ⟨x, hx⟩ := hb cs[k2] (by simp)
              have hcell : wr.cell? ⟨g, k2, none⟩ = some (.int .u8 x) := by rw [cell_of_row _ _ _ _ _ _ hg, Array.getElem?_eq_getElem (by omega), hx]
              have hfr : wr.frozen? ⟨g, k2, none⟩ = false := by simp [World.frozen?, hg]
              have HNX := hide (fun y => HI.out.byte (k := k2) hN hne hg hb y)
              clear hg hx hb HI hs
              go_wp2_with fail
              go_roundw
              case rel => exact ⟨k2 + 1, by omega, by go_num, HNX.out _⟩
              case measure => simp [intOf]; omega
            · have j3 : ¬ (k2 : Int) < (vc : Int) := by omega
              obtain ⟨⟨x1, e1⟩, ⟨x2, e2⟩, ef⟩ := hcz.out _ HI.out
              have f1 := ef (i * 2)
              have f2 := ef (i * 2 + 1)
              have HZ := hide (HI.out.zero hgN)
              clear ef HI
              go_wp2_with fail
              go_roundw
              case rel => exact ⟨i + 1, by omega, by go_num, HZ⟩
              case measure => simp [intOf]; omega
    · have i1 : ¬ (i : Int) < (n : Int) := by omega
      go_wp2
      go_end0
      exact ⟨rfl, HI.out.up⟩

theorem rspoil_cut {w0 w : World} {N ga n : Nat} {Es : List Ent} (h : ElOk w0 N ga Es) (hb : Below w0.heap.size w0 w) (hn : Es.length = n) (hm : n ≤ 1000) (m : Nat) :
    Calls Try.prog 21 #[.slice (some ⟨ga, 0, none⟩) m n] w fun e w' => e = .returned (.tuple #[]) ∧ Upd (fun b => N ≤ b ∧ b < w0.heap.size) w w' :=
  rspoil_spi (h.spi hb) ⟨h.gN, by obtain ⟨cur, h1, _⟩ := h.eb; exact lt_of_block h1⟩ hn hm m
theorem SpI.move {w W : World} {N M ga : Nat} {Es : List Ent} {i : Nat} {S : Nat → Prop} (h : SpI w w N M ga Es i) (hu : Upd S w W) (hs : ∀ b, N ≤ b → b < M → ¬ S b) (hga : N ≤ ga ∧ ga < M) : SpI W W N M ga Es i := by
  have byk : ∀ {a c}, Byk w N M ga a c → Byk W N M ga a c := fun ⟨q1, q2⟩ => ⟨q1, q2.imp id fun ⟨g, cur, e1, e2, e3, e4, e5⟩ => ⟨g, cur, e1, e2, e3, hu.heap e4 (hs g e2.1 e2.2), e5⟩⟩
  obtain ⟨cur, q1, q2⟩ := h.arr
  exact ⟨⟨cur, hu.heap q1 (hs ga hga.1 hga.2), q2⟩, fun j hj => ⟨byk (h.by' j hj).1, byk (h.by' j hj).2⟩, Upd.refl _ _⟩

theorem rspoil_any {w0 w : World} {N ga n : Nat} {Es : List Ent} (h : ElOk w0 N ga Es) (hb : Below w0.heap.size w0 w) (hn : Es.length = n) (hm : n ≤ 1000) :
    Calls Try.prog 21 #[.slice (some ⟨ga, 0, none⟩) n n] w fun e w' => e = .returned (.tuple #[]) ∧ Upd (fun b => N ≤ b ∧ b < w0.heap.size) w w' := rspoil_cut h hb hn hm n

end Go.Proofs.Ytjnldmbjeiejdaa
