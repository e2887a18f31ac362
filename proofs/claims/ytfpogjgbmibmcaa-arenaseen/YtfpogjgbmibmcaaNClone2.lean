/- node: Clone. -/
import Derived.Test.YtfpogjgbmibmcaaNClone
namespace Go.Proofs.Ytfpogjgbmibmcaa
open Go.RowKit

/-- Six cells of a block. -/
def Six (W : World) (b : Nat) (x0 x1 x2 x3 x4 x5 : Value) : Prop :=
  W.cell? ⟨b, 0, none⟩ = some x0 ∧ W.cell? ⟨b, 1, none⟩ = some x1 ∧ W.cell? ⟨b, 2, none⟩ = some x2 ∧ W.cell? ⟨b, 3, none⟩ = some x3 ∧ W.cell? ⟨b, 4, none⟩ = some x4 ∧ W.cell? ⟨b, 5, none⟩ = some x5
theorem Six.below {W W' : World} {b : Nat} {x0 x1 x2 x3 x4 x5 : Value} (h : Six W b x0 x1 x2 x3 x4 x5) (hb : Below W.heap.size W W') : Six W' b x0 x1 x2 x3 x4 x5 := by
  have hl : b < W.heap.size := World.block_lt_of_cell? W ⟨b, 0, none⟩ h.1
  obtain ⟨h0, h1, h2, h3, h4, h5⟩ := h
  exact ⟨(hb.cell (p := ⟨b, 0, none⟩) hl).trans h0, (hb.cell (p := ⟨b, 1, none⟩) hl).trans h1, (hb.cell (p := ⟨b, 2, none⟩) hl).trans h2, (hb.cell (p := ⟨b, 3, none⟩) hl).trans h3, (hb.cell (p := ⟨b, 4, none⟩) hl).trans h4, (hb.cell (p := ⟨b, 5, none⟩) hl).trans h5⟩
theorem Six.of {W : World} {b : Nat} {T : TypeId} {x0 x1 x2 x3 x4 x5 : Value} (h : W.heap[b]? = some (.cells #[x0, x1, x2, x3, x4, x5] T (0, 0))) : Six W b x0 x1 x2 x3 x4 x5 := by
  refine ⟨?_, ?_, ?_, ?_, ?_, ?_⟩ <;> (rw [cell_of_row _ _ _ _ _ _ h]; rfl)
theorem frozen_of {W : World} {b : Nat} {T : TypeId} {cur : Array Value} (h : W.heap[b]? = some (.cells cur T (0, 0))) (j : Nat) : W.frozen? ⟨b, j, none⟩ = false := by
  simp [World.frozen?, h]

/-- A node is stored into six cells. -/
def six6 (W : World) (b : Nat) (x0 x1 x2 x3 x4 x5 : Value) : World := (((((W.setCell ⟨b, 0, none⟩ x0).setCell ⟨b, 1, none⟩ x1).setCell ⟨b, 2, none⟩ x2).setCell ⟨b, 3, none⟩ x3).setCell ⟨b, 4, none⟩ x4).setCell ⟨b, 5, none⟩ x5
theorem six_block {W : World} {b : Nat} {T : TypeId} {a0 a1 a2 a3 a4 a5 : Value} (h : W.heap[b]? = some (.cells #[a0, a1, a2, a3, a4, a5] T (0, 0))) (x0 x1 x2 x3 x4 x5 : Value) :
    (six6 W b x0 x1 x2 x3 x4 x5).heap[b]? = some (.cells #[x0, x1, x2, x3, x4, x5] T (0, 0)) := by
  have := block_setCell (block_setCell (block_setCell (block_setCell (block_setCell (block_setCell h 0 x0) 1 x1) 2 x2) 3 x3) 4 x4) 5 x5
  exact this
theorem six_upd (S : Nat → Prop) (W : World) (b : Nat) (x0 x1 x2 x3 x4 x5 : Value) (h : S b) : Upd S W (six6 W b x0 x1 x2 x3 x4 x5) :=
  ((((((Upd.refl S W).setCell _ _ (fun _ => h)).setCell _ _ (fun _ => h)).setCell _ _ (fun _ => h)).setCell _ _ (fun _ => h)).setCell _ _ (fun _ => h)).setCell _ _ (fun _ => h)
theorem ownsI_upd {S : Nat → Prop} {w w' : World} {base : Nat} {e : TypeId} {v : Value} {n : Nat} {xs : List Value} (h : w.ownsRow base e 1 v n xs) (hb : Upd S w w') (hs : ∀ b, base ≤ b → b < w.heap.size → ¬ S b) : w'.ownsRow base e 1 v n xs :=
  owns_upd h hb (fun k hk => hs k (h.lt k hk).1 (h.lt k hk).2)
theorem ownB_upd' {S : Nat → Prop} {w w' : World} {base : Nat} {v : Value} {zs : List Int} (h : OwnB w base 5 v zs) (hb : Upd S w w') (hs : ∀ b, base ≤ b → b < w.heap.size → ¬ S b) : OwnB w' base 5 v zs :=
  h.upd hb (fun k hk => hs k (h.owns.lt k hk).1 (h.owns.lt k hk).2)

structure Nd.Own (W : World) (N : Nat) (n : Nd) : Prop where
  h : OwnB W N 5 n.hi.v n.hi.s
  hb : B8 n.hi.s ∧ n.hi.s.length ≤ 140737488351232
  k : n.ks.Own W N
  v : n.vs.Own W N
  c : W.ownsRow N 3 1 n.cs.v n.cs.s.length (n.cs.s.map (Value.int .i64))
  kz : n.ks.L.length * 24 ≤ 140737488352000
  vz : n.vs.L.length * 24 ≤ 140737488352000
  cz : n.cs.s.length * 8 ≤ 140737488352000
theorem il_of_owns {W : World} {N : Nat} {t : IL} (h : W.ownsRow N 3 1 t.v t.s.length (t.s.map (Value.int .i64))) : t.Ok W := by
  obtain ⟨a, c, hv, hok, _⟩ := vok_of_owns h
  simp only [IL.v, Value.slice.injEq, true_and] at hv
  obtain ⟨rfl, rfl⟩ := hv
  exact ⟨row_of_owns2 h, fun e => by have := hok.n e; rw [List.length_map] at this; exact this, by have := hok.lc; rwa [List.length_map] at this⟩
theorem IL.Ok.vok {W : World} {t : IL} (h : t.Ok W) : VOk W t.a t.c (t.s.map (Value.int .i64)) := by
  refine ⟨fun i hi => ?_, fun e => by rw [List.length_map]; exact h.n e, by rw [List.length_map]; exact h.lc⟩
  have hi' : i < t.s.length := by rwa [List.length_map] at hi
  obtain ⟨b, o, ha, hc⟩ := h.r i hi'
  exact ⟨b, o, ha, by rw [hc, List.getElem_map]; simp [hi']⟩
theorem vok_il {W : World} {t : IL} (h : VOk W t.a t.c (t.s.map (Value.int .i64))) : t.Ok W := by
  refine ⟨fun i hi => ?_, fun e => by have := h.n e; rw [List.length_map] at this; exact this, by have := h.lc; rwa [List.length_map] at this⟩
  obtain ⟨b, o, ha, hc⟩ := h.r i (by rw [List.length_map]; exact hi)
  exact ⟨b, o, ha, by rw [hc, List.getElem_map]; simp [hi]⟩
theorem Nd.Own.ok {W : World} {N : Nat} {n : Nd} (h : n.Own W N) : n.Ok W := ⟨ownB_ok h.h h.hb.1 h.hb.2, h.k.ok, h.v.ok, il_of_owns h.c, h.kz, h.vz, h.cz⟩
theorem Nd.Own.below {W W' : World} {N : Nat} {n : Nd} (h : n.Own W N) (hb : Below W.heap.size W W') : n.Own W' N := ⟨h.h.below hb, h.hb, h.k.below hb, h.v.below hb, owns_below h.c hb, h.kz, h.vz, h.cz⟩
theorem Nd.Own.mono {W : World} {N M : Nat} {n : Nd} (h : n.Own W N) (hb : M ≤ N) : n.Own W M := ⟨h.h.mono hb, h.hb, h.k.mono hb, h.v.mono hb, owns_mono h.c hb, h.kz, h.vz, h.cz⟩
theorem Nd.Own.upd {W W' : World} {N : Nat} {S : Nat → Prop} {n : Nd} (h : n.Own W N) (hb : Upd S W W') (hs : ∀ b, N ≤ b → b < W.heap.size → ¬ S b) : n.Own W' N :=
  ⟨h.h.upd hb (fun k hk => hs k (h.h.owns.lt k hk).1 (h.h.owns.lt k hk).2), h.hb, h.k.upd hb hs, h.v.upd hb hs, owns_upd h.c hb (fun k hk => hs k (h.c.lt k hk).1 (h.c.lt k hk).2), h.kz, h.vz, h.cz⟩
theorem i_oneCell (zs : List Int) : ∀ u ∈ zs.map (Value.int .i64), u.oneCell' = true := by
  intro u hu
  obtain ⟨x, _, rfl⟩ := List.mem_map.1 hu
  rfl

/-- What Clone gives. -/
def ClPost (w : World) (n : Nd) (e : Ending) (w' : World) : Prop :=
  ∃ m : Nd, e = .returned m.v ∧ m.p = n.p ∧ m.Own w' w.heap.size ∧ Below w.heap.size w w'
theorem below_drew {B : Nat} {w w' : World} (h : Below B w w') : Below B w w'.drew := ⟨h.os, h.tape, h.output, h.size, h.block⟩

/-- cloneTexts, its answer opened. -/
def CtP (W : World) (L : List Tx) (l : Nat) (e : Ending) (w' : World) : Prop :=
  ∃ a c L', e = .returned (.slice a l c) ∧ L'.map (·.s) = L.map (·.s) ∧ L'.length = l ∧ (⟨a, c, L'⟩ : TL).Own w' W.heap.size ∧ Below W.heap.size W w'
end Go.Proofs.Ytfpogjgbmibmcaa
