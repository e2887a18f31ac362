/- block: Read. -/
import Derived.Test.YtjnldmbjeiejdaaBRead3
namespace Go.Proofs.Ytjnldmbjeiejdaa
open Go.RowKit

def One (W : World) (g : Nat) (t : TypeId) (v : Value) : Prop := W.heap[g]? = some (.cells #[v] t (0, 0))
theorem One.cell {W : World} {g : Nat} {t : TypeId} {v : Value} (h : One W g t v) : W.cell? ⟨g, 0, none⟩ = some v := by rw [cell_of_row _ _ _ _ _ _ h]; rfl
theorem One.fr {W : World} {g : Nat} {t : TypeId} {v : Value} (h : One W g t v) : W.frozen? ⟨g, 0, none⟩ = false := frozen_blk h 0
theorem ElOk.upd {W W' : World} {N ga : Nat} {Es : List Ent} {S : Nat → Prop} (h : ElOk W N ga Es) (hu : Upd S W W') (hs : ∀ i, N ≤ i → i < W.heap.size → ¬ S i) : ElOk W' N ga Es := by
  obtain ⟨cur, h1, h2, h3⟩ := h.eb
  exact ⟨⟨cur, hu.heap h1 (hs _ h.gN (lt_of_block h1)), h2, h3⟩, fun i hi => ⟨(h.ok i hi).1.upd hu (fun b hb => hs b ((h.ok i hi).1.owns.lt b hb).1 ((h.ok i hi).1.owns.lt b hb).2), (h.ok i hi).2.upd hu (fun b hb => hs b ((h.ok i hi).2.owns.lt b hb).1 ((h.ok i hi).2.owns.lt b hb).2)⟩, h.sep, h.gN⟩
theorem ElOk.below {W W' : World} {N ga : Nat} {Es : List Ent} (h : ElOk W N ga Es) (hb : Below W.heap.size W W') : ElOk W' N ga Es := h.upd (Upd.of_below hb Noth) (fun _ _ _ e => e)
theorem ElOk.mono {W : World} {N N' ga : Nat} {Es : List Ent} (h : ElOk W N' ga Es) (hn : N ≤ N') : ElOk W N ga Es :=
  ⟨h.eb, fun i hi => ⟨(h.ok i hi).1.mono hn, (h.ok i hi).2.mono hn⟩, h.sep, Nat.le_trans hn h.gN⟩

/-- What Read's closure does. -/
def R1Post (w : World) (zs : List Int) (gl : Nat) (e : Ending) (w' : World) : Prop :=
  Upd (fun i => i = gl) w w' ∧ (((bRes zs).2.1 = 0 ∧ ∃ v ga Es, e = .returned v ∧ One w' gl 26 (.slice (some ⟨ga, 0, none⟩) Es.length Es.length) ∧ ElOk w' w.heap.size ga Es ∧ kvs Es = (bRes zs).1) ∨ ((bRes zs).2.1 ≠ 0 ∧ e = fallen (bRes zs).2.1 ((bRes zs).2.2 : Nat) ∧ One w' gl 26 (.slice none 0 0)))

set_option maxRecDepth 100000 in
set_option maxHeartbeats 800000 in
theorem read1_any (a : Option Addr) (l c gb gl : Nat) (zs : List Int) (w : World) (hl : zs.length = l) (hm : l ≤ 140737488400000) (hcl : l ≤ c) (na : a = none → l = 0 ∧ c = 0) (hr : Row w .u8 a zs) (z8 : B8 zs) (h1 : One w gb 23 (.slice a l c)) (h2 : One w gl 26 (.slice none 0 0)) :
    Calls Try.prog 36 #[.pointer (some ⟨gb, 0, none⟩), .pointer (some ⟨gl, 0, none⟩)] w (R1Post w zs gl) := by
  have c1 := h1.cell
  have HRW := hide (readWhole_any a l c zs w hl hm hcl na hr z8)
  have hgl : gl < w.heap.size := lt_of_block h2
  have H2 := hide h2
  clear h1 h2 hr na
  go_enter Try.func36, Try.ntmps36
  go_wp2_with fail
  refine HRW.out.mono ?_
  rintro e w1 ⟨hb, ⟨h0, ga, Es, rfl, hE, hkv⟩ | ⟨h0, rfl⟩⟩
  · have hO : One w1 gl 26 (.slice none 0 0) := (hb.block gl hgl).trans H2.out
    have c2 := hO.cell
    have f2 := hO.fr
    have hu : Upd (fun i => i = gl) w1 (w1.setCell ⟨gl, 0, none⟩ (.slice (some ⟨ga, 0, none⟩) Es.length Es.length)) := set_upd _ gl 0 _
    have HF : Hid (∀ v, R1Post w zs gl (.returned v) (w1.setCell ⟨gl, 0, none⟩ (.slice (some ⟨ga, 0, none⟩) Es.length Es.length))) := fun v => ⟨(Upd.of_below hb _).trans hu, .inl ⟨h0, v, ga, Es, rfl, block_setCell hO 0 _, hE.upd hu (fun i hi _ e => by have e' : i = gl := e; omega), hkv⟩⟩
    clear hO hu hE hkv hb
    generalize Es.length = n at *
    go_wp2_with fail
    go_end0
    exact HF.out _
  · exact ⟨rfl, Upd.of_below hb _, .inr ⟨h0, rfl, (hb.block gl hgl).trans H2.out⟩⟩

/-- What Read tells. -/
def RdB (w : World) (zs : List Int) (e : Ending) (w' : World) : Prop :=
  Below w.heap.size w w' ∧ (((bRes zs).2.1 = 0 ∧ ∃ ga Es, e = .returned (.tuple #[.slice (some ⟨ga, 0, none⟩) Es.length Es.length, .int .i64 0, .int .i64 0]) ∧ ElOk w' w.heap.size ga Es ∧ kvs Es = (bRes zs).1) ∨ ((bRes zs).2.1 ≠ 0 ∧ e = .returned (.tuple #[.slice none 0 0, .int .i64 (bRes zs).2.1, .int .i64 ((bRes zs).2.2 : Nat)])))

set_option maxRecDepth 100000 in
set_option maxHeartbeats 800000 in
theorem bread_any (a : Option Addr) (l c : Nat) (zs : List Int) (w : World) (hl : zs.length = l) (hm : l ≤ 140737488400000) (hcl : l ≤ c) (na : a = none → l = 0 ∧ c = 0) (hr : Row w .u8 a zs) (z8 : B8 zs) :
    Calls Try.prog 12 #[.slice a l c] w (RdB w zs) := by
  have hmf : ∀ (fn : Fn) (first cap : Array Value) (w : World), (Instr.makeFunc fn first cap).run Try.prog w = .ok (.func fn first cap) w := fun _ _ _ _ => rfl
  obtain ⟨w2, hw2⟩ : ∃ w2, w2 = (w.alloc (.cells #[.slice a l c] 23)).alloc (.cells #[.slice none 0 0] 26) := ⟨_, rfl⟩
  have hb2 : Below w.heap.size w w2 := by rw [hw2]; exact ((Below.refl _ _).alloc (Nat.le_refl _) _).alloc (by simp) _
  have hs2 : w2.heap.size = w.heap.size + 2 := by rw [hw2]; simp
  have hO1 : One w2 w.heap.size 23 (.slice a l c) := by rw [hw2]; exact (Below.heap_alloc _ _ _ (by simp)).trans (heap_alloc_new w _)
  have hO2 : One w2 (w.heap.size + 1) 26 (.slice none 0 0) := by
    have := heap_alloc_new (w.alloc (.cells #[.slice a l c] 23)) (.cells #[.slice none 0 0] 26)
    rw [World.size_alloc] at this
    rw [hw2]; exact this
  have hb3 : Below w2.heap.size w2 (w2.alloc (.cells #[.int .i64 0, .int .i64 0] 69)) := (Below.refl _ _).alloc (Nat.le_refl _) _
  have HT := hide (tried_any 36 #[.pointer (some ⟨w.heap.size, 0, none⟩), .pointer (some ⟨w.heap.size + 1, 0, none⟩)] w2
    (fun w' => Upd (fun i => i = w.heap.size + 1) (w2.alloc (.cells #[.int .i64 0, .int .i64 0] 69)) w' ∧ (bRes zs).2.1 = 0 ∧ ∃ ga Es, One w' (w.heap.size + 1) 26 (.slice (some ⟨ga, 0, none⟩) Es.length Es.length) ∧ ElOk w' (w2.heap.size + 1) ga Es ∧ kvs Es = (bRes zs).1)
    (fun er p w' => Upd (fun i => i = w.heap.size + 1) (w2.alloc (.cells #[.int .i64 0, .int .i64 0] 69)) w' ∧ (bRes zs).2.1 ≠ 0 ∧ er = (bRes zs).2.1 ∧ p = ((bRes zs).2.2 : Nat) ∧ One w' (w.heap.size + 1) 26 (.slice none 0 0))
    (fun _ _ => rfl) (by
      refine (read1_any a l c w.heap.size (w.heap.size + 1) zs _ hl hm hcl na ((hr.below2 hb2).below2 hb3) z8 ((hb3.block _ (by omega)).trans hO1) ((hb3.block _ (by omega)).trans hO2)).mono ?_
      rintro e w' ⟨hu, hcase⟩
      have hbk : w'.heap[w2.heap.size]? = some (.cells #[.int .i64 0, .int .i64 0] 69 (0, 0)) := hu.heap (heap_alloc_new w2 _) (fun e => by omega)
      rcases hcase with ⟨h0, v, ga, Es, rfl, h1, h2, h3⟩ | ⟨h0, rfl, h1⟩
      · exact ⟨.inl ⟨v, rfl, hu, h0, ga, Es, h1, by rw [World.size_alloc] at h2; exact h2, h3⟩, hbk⟩
      · exact ⟨.inr ⟨_, _, rfl, hu, h0, rfl, rfl, h1⟩, hbk⟩))
  have B2 := hide hb2
  have B3 := hide hb3
  have S2 := hide hs2
  clear hr na hb2 hO1 hO2 hs2 hb3
  go_enter Try.func12, Try.ntmps12
  go_wp2_with fail
  rw [← hw2]
  replace hw2 := hide hw2
  refine HT.out.mono ?_
  rintro e w5 (⟨rfl, w4, ⟨hu4, h0, ga, Es, hO, hE, hkv⟩, hlt, hu5⟩ | ⟨er, p, w4, rfl, ⟨hu4, h0, rfl, rfl, hO⟩, hlt, hu5⟩)
  · have hs2 := S2.out
    have hO5 : One w5 (w.heap.size + 1) 26 (.slice (some ⟨ga, 0, none⟩) Es.length Es.length) := hu5.heap hO (fun e => by omega)
    have hE5 : ElOk w5 (w2.heap.size + 1) ga Es := hE.upd hu5 (fun i hi _ e => by omega)
    have hB5 : Below w.heap.size w w5 := (B2.out.trans (B3.out.mono B2.out.size)).trans (((hu4.below (by simp; omega) (fun i hi e => by omega))).trans (hu5.below (Nat.le_trans (show w.heap.size ≤ _ by simp; omega) hu4.size) (fun i hi e => by omega)))
    have hlt5 : w.heap.size + 1 < w5.heap.size := lt_of_block hO5
    have hE6 : ElOk (w5.alloc (.cells #[.int .i64 0, .int .i64 0] 69)) (w2.heap.size + 1) ga Es := hE5.below ((Below.refl _ _).alloc (Nat.le_refl _) _)
    have c5 := One.cell (W := w5.alloc (.cells #[.int .i64 0, .int .i64 0] 69)) (g := w.heap.size + 1) (t := 26) ((Below.heap_alloc w5 (.cells #[.int .i64 0, .int .i64 0] 69) _ hlt5).trans hO5)
    have HF : Hid (∀ m, RdB w zs (.returned (.tuple #[.slice (some ⟨ga, 0, none⟩) Es.length Es.length, .int .i64 0, .int .i64 0])) ((w5.alloc (.cells #[.int .i64 0, .int .i64 0] 69)).drewN m)) := fun m => ⟨below_of_drewN (hB5.alloc hB5.size _) m, .inl ⟨h0, ga, Es, rfl, (hE6.mono (by omega)).below (below_of_drewN (Below.refl _ _) m), hkv⟩⟩
    have y := two_new2 w5 (.int .i64 0) (.int .i64 0) 69
    have y0 := y.1
    have y1 := y.2
    generalize Es.length = n at *
    clear y hE6 hE5 hO5 hB5 hkv hE hO hu4 hu5 HT
    go_wp2_with fail
    go_quiet (fail)
    go_wp2_with fail
    go_ret3
    exact HF.out _
  · have hs2 := S2.out
    have hO5 : One w5 (w.heap.size + 1) 26 (.slice none 0 0) := hu5.heap hO (fun e => by omega)
    have hB5 : Below w.heap.size w w5 := (B2.out.trans (B3.out.mono B2.out.size)).trans (((hu4.below (by simp; omega) (fun i hi e => by omega))).trans (hu5.below (Nat.le_trans (show w.heap.size ≤ _ by simp; omega) hu4.size) (fun i hi e => by omega)))
    have hlt5 : w.heap.size + 1 < w5.heap.size := lt_of_block hO5
    have HF : Hid (∀ m, RdB w zs (.returned (.tuple #[.slice none 0 0, .int .i64 (bRes zs).2.1, .int .i64 ((bRes zs).2.2 : Nat)])) ((w5.alloc (.cells #[.int .i64 (bRes zs).2.1, .int .i64 ((bRes zs).2.2 : Nat)] 69)).drewN m)) := fun m => ⟨below_of_drewN (hB5.alloc hB5.size _) m, .inr ⟨h0, rfl⟩⟩
    generalize (bRes zs).2.1 = er at *
    generalize (bRes zs).2.2 = p at *
    have c5 := One.cell (W := w5.alloc (.cells #[.int .i64 er, .int .i64 (p : Int)] 69)) (g := w.heap.size + 1) (t := 26) ((Below.heap_alloc w5 (.cells #[.int .i64 er, .int .i64 (p : Int)] 69) _ hlt5).trans hO5)
    have y := two_new2 w5 (.int .i64 er) (.int .i64 (p : Int)) 69
    have y0 := y.1
    have y1 := y.2
    clear y hO5 hB5 hO hu4 hu5 HT
    go_wp2_with fail
    go_quiet (fail)
    go_wp2_with fail
    go_ret3
    exact HF.out _

end Go.Proofs.Ytjnldmbjeiejdaa
