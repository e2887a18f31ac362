/- Texts of one's own. -/
import Derived.Test.YtealejbfloacpaaGreatM37
import Derived.Test.YtealejbfloacpaaGreatM38
import Derived.Test.YtealejbfloacpaaGreatM6
namespace Go.Proofs.YtealejbfloacpaaGreat
open Go.RowKit
set_option maxRecDepth 100000
structure RmW (W0 : World) (w : World) (N A : Nat) (F : Nat → Prop) (s : AS) (met : List Int) (mv : Value) (ov : Value) (E : List En) : Prop where
 oM : w.ownsRow N 3 1 mv met.length (met.map (Value.int .i64))
 mt : Met s met
 row : w.ownsRow N 78 2 ov E.length (E.flatMap EnC)
 own : EnO w N E
 bel : Below N W0 w
 rx : RX w A F s
 lt : ∀ k, F k → k < N
 nw : N ≤ w.heap.size
section
variable {W0 w w' : World} {N A : Nat} {F : Nat → Prop} {s : AS} {met : List Int} {mv ov : Value} {E : List En}
theorem rx_below {A : Nat} {F : Nat → Prop} {s : AS} (h : RX w A F s) (hb : Below w.heap.size w w') : RX w' A F s := h.upd (S := Noth) (Upd.of_below hb _) (fun _ _ e => e)
theorem owns_belowN {e : TypeId} {size : Nat} {v : Value} {n : Nat} {xs : List Value} (h : w.ownsRow N e size v n xs) (hb : Below w.heap.size w w') : w'.ownsRow N e size v n xs :=
 owns_blkN h (fun k hk => hb.block k (by obtain ⟨c, hh, _⟩ := own_tyE h hk; exact lt_of_block hh))
theorem RmW.below (h : RmW W0 w N A F s met mv ov E) (hb : Below w.heap.size w w') : RmW W0 w' N A F s met mv ov E :=
 ⟨owns_belowN h.oM hb, h.mt, owns_belowN h.row hb, fun x hx => ⟨(h.own x hx).1.below hb, (h.own x hx).2.below hb⟩, h.bel.trans (hb.mono h.nw), rx_below h.rx hb, h.lt, Nat.le_trans h.nw hb.size⟩
theorem RmW.turn {S : Nat → Prop} (h : RmW W0 w N A F s met mv ov E) (hu : Upd S w w') (hN : ∀ k, S k → N ≤ k) (hm : ∀ k, mv.ownBlock = some k → ¬ S k) (ho : ∀ k, ov.ownBlock = some k → ¬ S k) (ht : ∀ k cur, w.heap[k]? = some (.cells cur 5 (0, 0)) → ¬ S k) : RmW W0 w' N A F s met mv ov E :=
 ⟨owns_blkN h.oM (fun k hk => by obtain ⟨c, hh, _⟩ := own_tyE h.oM hk; exact hu.block k (lt_of_block hh) (hm k hk)), h.mt, owns_blkN h.row (fun k hk => by obtain ⟨c, hh, _⟩ := own_tyE h.row hk; exact hu.block k (lt_of_block hh) (ho k hk)), fun x hx => ⟨(h.own x hx).1.upd hu ht, (h.own x hx).2.upd hu ht⟩, h.bel.trans (hu.below h.nw (fun k hk e => by have := hN k e; omega)), h.rx.upd hu (fun k hk e => by have := hN k e; have := h.lt k hk; omega), h.lt, Nat.le_trans h.nw hu.size⟩
theorem RmW.meet (h : RmW W0 w N A F s met mv ov E) {id : Int} {v' : Value} (h1 : w'.ownsRow N 3 1 v' (met ++ [id]).length ((met ++ [id]).map (Value.int .i64))) (hg : w.grownBy w' mv.ownBlock) (hm : Met s (met ++ [id])) : RmW W0 w' N A F s (met ++ [id]) v' ov E := by
 have hu : Upd (fun k => mv.ownBlock = some k) w w' := Upd.of_grown hg (fun k hk _ => hk)
 have hT : ∀ k cur T, w.heap[k]? = some (.cells cur T (0, 0)) → T ≠ 3 → ¬ mv.ownBlock = some k := fun k cur T hh hT e => by
  obtain ⟨c, h2, _⟩ := own_tyE h.oM e
  rw [hh] at h2
  cases h2
  exact hT rfl
 have hN : ∀ k, mv.ownBlock = some k → N ≤ k := fun k e => by obtain ⟨c, _, h5⟩ := own_tyE h.oM e; exact h5
 exact ⟨h1, hm, owns_blkN h.row (fun k hk => by obtain ⟨c, hh, _⟩ := own_tyE h.row hk; exact hu.block k (lt_of_block hh) (hT k _ _ hh (by decide))), fun x hx => ⟨(h.own x hx).1.upd hu (fun k cur hh => hT k cur _ hh (by decide)), (h.own x hx).2.upd hu (fun k cur hh => hT k cur _ hh (by decide))⟩, h.bel.trans (hu.below h.nw (fun k hk e => by have := hN k e; omega)), h.rx.upd hu (fun k hk e => by have := hN k e; have := h.lt k hk; omega), h.lt, Nat.le_trans h.nw hu.size⟩
theorem RmW.more (h : RmW W0 w N A F s met mv ov E) {x : En} {v' : Value} (hx : TOwn w N x.1 ∧ TOwn w N x.2) (h1 : w'.ownsRow N 78 2 v' (E ++ [x]).length ((E ++ [x]).flatMap EnC)) (hg : w.grownBy w' ov.ownBlock) : RmW W0 w' N A F s met mv v' (E ++ [x]) := by
 have hu : Upd (fun k => ov.ownBlock = some k) w w' := Upd.of_grown hg (fun k hk _ => hk)
 have hT : ∀ k cur T, w.heap[k]? = some (.cells cur T (0, 0)) → T ≠ 78 → ¬ ov.ownBlock = some k := fun k cur T hh hT e => by
  obtain ⟨c, h2, _⟩ := own_tyE h.row e
  rw [hh] at h2
  cases h2
  exact hT rfl
 have hN : ∀ k, ov.ownBlock = some k → N ≤ k := fun k e => by obtain ⟨c, _, h5⟩ := own_tyE h.row e; exact h5
 refine ⟨owns_blkN h.oM (fun k hk => by obtain ⟨c, hh, _⟩ := own_tyE h.oM hk; exact hu.block k (lt_of_block hh) (hT k _ _ hh (by decide))), h.mt, h1, fun y hy => ?_, h.bel.trans (hu.below h.nw (fun k hk e => by have := hN k e; omega)), h.rx.upd hu (fun k hk e => by have := hN k e; have := h.lt k hk; omega), h.lt, Nat.le_trans h.nw hu.size⟩
 have hy' : TOwn w N y.1 ∧ TOwn w N y.2 := by
  rcases List.mem_append.1 hy with hy | hy
  ·exact h.own y hy
  ·rw [List.mem_singleton.1 hy]; exact hx
 exact ⟨hy'.1.upd hu (fun k cur hh => hT k cur _ hh (by decide)), hy'.2.upd hu (fun k cur hh => hT k cur _ hh (by decide))⟩
theorem rx_there (h : RX w A F s) (id : Int) : Calls Tryz.prog 69 #[.pointer (some ⟨A, 0, none⟩), .int .i64 id] w fun e w' => e = .returned (.bool (decide (s.inn id))) ∧ w' = w := by
 obtain ⟨g, c, M, D, L, h1, h2, _⟩ := h
 have := there_any h1 id
 rw [ndsR_lenS h2] at this
 exact this
end
theorem two_at' {W : World} {b : Nat} {T : TypeId} {x0 x1 : Value} (h : W.heap[b]? = some (.cells #[x0, x1] T (0, 0))) : W.cell? ⟨b, 0, none⟩ = some x0 ∧ W.cell? ⟨b, 1, none⟩ = some x1 := ⟨by rw [cell_of_row _ _ _ _ _ _ h]; rfl, by rw [cell_of_row _ _ _ _ _ _ h]; rfl⟩
theorem infoB8 : (Tryz.prog.info? 5).map (fun i => (i.zero, i.size, i.bytes)) = some (some (.int .u8 0), 1, 1) := by kernel_rfl
end Go.Proofs.YtealejbfloacpaaGreat
