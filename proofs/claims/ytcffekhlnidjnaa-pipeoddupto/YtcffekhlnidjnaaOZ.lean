/- A reader or writer of any behaviour, that keeps the sizes: its block and the row of sizes. -/
import Derived.Test.YtcffekhlnidjnaaORd
namespace Go.Proofs.Ytcffekhlnidjnaa
open Go.RowKit

structure IsZ (mk : Nat → Value → Array Value) (ty : TypeId) (W : World) (B : Nat) (an : Option Addr) (ns : List Int) (ae : Option Addr) (es : List Int) (g c : Nat) (szs : List Int) (ax : Option Addr) (cx : Nat) : Prop where
  blk : W.heap[g]? = some (.cells (mk c (.slice ax szs.length cx)) ty (0, 0))
  rn : Row W .i64 an ns
  re : Row W .i64 ae es
  bn : ∀ x, an = some x → 0 < ns.length → x.block < B
  be : ∀ x, ae = some x → 0 < es.length → x.block < B
  own : W.ownsRow B 3 1 (.slice ax szs.length cx) szs.length (szs.map (Value.int .i64))
  ng : (Value.slice ax szs.length cx).ownBlock ≠ some g
  gb : B ≤ g
  le : szs.length = c

section
variable {mk mk' : Nat → Value → Array Value} {ty : TypeId} {W W' : World} {B : Nat} {an ae : Option Addr} {ns es : List Int} {g c : Nat} {szs : List Int} {ax : Option Addr} {cx : Nat}
theorem IsZ.upd {S : Nat → Prop} (h : IsZ mk ty W B an ns ae es g c szs ax cx) (hu : Upd S W W') (hs : ∀ i, S i → B ≤ i ∧ i ≠ g ∧ (Value.slice ax szs.length cx).ownBlock ≠ some i) : IsZ mk ty W' B an ns ae es g c szs ax cx :=
  ⟨hu.heap h.blk (fun e => (hs _ e).2.1 rfl), h.rn.upd hu (fun x hx h0 e => by have := h.bn x hx h0; have := (hs _ e).1; omega), h.re.upd hu (fun x hx h0 e => by have := h.be x hx h0; have := (hs _ e).1; omega), h.bn, h.be, owns_upd h.own hu (fun i hi e => (hs i e).2.2 hi), h.ng, h.gb, h.le⟩
/-- Another block of the same kind, all else untouched. -/
theorem IsZ.blk2 {S : Nat → Prop} (h : IsZ mk ty W B an ns ae es g c szs ax cx) (hu : Upd S W W') (hs : ∀ i, S i → B ≤ i ∧ (Value.slice ax szs.length cx).ownBlock ≠ some i) (hb : W'.heap[g]? = some (.cells (mk' c (.slice ax szs.length cx)) ty (0, 0))) : IsZ mk' ty W' B an ns ae es g c szs ax cx :=
  ⟨hb, h.rn.upd hu (fun x hx h0 e => by have := h.bn x hx h0; have := (hs _ e).1; omega), h.re.upd hu (fun x hx h0 e => by have := h.be x hx h0; have := (hs _ e).1; omega), h.bn, h.be, owns_upd h.own hu (fun i hi e => (hs i e).2 hi), h.ng, h.gb, h.le⟩

/-- The call is counted and its size is laid behind the others. -/
theorem z_app (ic is : Nat) (k : Int) (h : IsZ mk ty W B an ns ae es g c szs ax cx) (hm1 : ∀ vs, (mk c vs).setIfInBounds ic (.int .i64 ((c : Int) + 1)) = mk (c + 1) vs) (hm2 : ∀ vs v, (mk (c + 1) vs).setIfInBounds is v = mk (c + 1) v) (hc : c < 1099511627776) (l : Nat) (hl : l = szs.length) (w : World) (hw : w = W.setCell ⟨g, ic, none⟩ (.int .i64 ((c : Int) + 1))) :
    (w.heap[g]? = some (.cells (mk (c + 1) (.slice ax l cx)) ty (0, 0)) ∧ w.heap.size = W.heap.size) ∧
    (w.alloc (.cells #[.int .i64 k] 3)).ownsRow B 3 1 (.slice ax l cx) l (szs.map (Value.int .i64)) ∧
    (∀ j u, [Value.int .i64 k][j]? = some u → (w.alloc (.cells #[.int .i64 k] 3)).cell? ((⟨w.heap.size, 0, none⟩ : Addr).add j) = some u) ∧
    (l + 1 ≤ maxLen ∧ (l + 1) * 8 ≤ 140737488355328 ∧ B ≤ (w.alloc (.cells #[.int .i64 k] 3)).heap.size) ∧
    ∀ g4 c4 w4, w4.ownsRow B 3 1 (.slice (some ⟨g4, 0, none⟩) (l + 1) c4) (l + 1) (szs.map (Value.int .i64) ++ [Value.int .i64 k]) → (w.alloc (.cells #[.int .i64 k] 3)).grownBy w4 (Value.slice ax l cx).ownBlock → ((Value.slice ax l cx).ownBlock = some g4 ∨ (w.alloc (.cells #[.int .i64 k] 3)).heap.size ≤ g4) →
      w4.heap[g]? = some (.cells (mk (c + 1) (.slice ax l cx)) ty (0, 0)) ∧
      IsZ mk ty (w4.setCell ⟨g, is, none⟩ (.slice (some ⟨g4, 0, none⟩) (l + 1) c4)) B an ns ae es g (c + 1) (szs ++ [k]) (some ⟨g4, 0, none⟩) c4 ∧ Upd (fun i => i = g ∨ (Value.slice ax l cx).ownBlock = some i) W (w4.setCell ⟨g, is, none⟩ (.slice (some ⟨g4, 0, none⟩) (l + 1) c4)) ∧ ((Value.slice ax l cx).ownBlock = some g4 ∨ W.heap.size ≤ g4) := by
  subst hl
  have hu1 : Upd (fun i => i = g) W w := by rw [hw]; exact (Upd.refl _ _).set1 ic _
  have hb1 : w.heap[g]? = some (.cells (mk (c + 1) (.slice ax szs.length cx)) ty (0, 0)) := by rw [hw, ← hm1]; exact block_setCell h.blk ic _
  have hz1 : w.heap.size = W.heap.size := by rw [hw]; simp
  have hsA : (w.alloc (.cells #[.int .i64 k] 3)).heap.size = w.heap.size + 1 := World.size_alloc _ _
  have uA : Upd Noth w (w.alloc (.cells #[.int .i64 k] 3)) := (Upd.refl _ _).alloc _
  have hgl := lt_of_block h.blk
  have hgB := h.gb
  have ho1 : w.ownsRow B 3 1 (.slice ax szs.length cx) szs.length (szs.map (Value.int .i64)) := owns_upd h.own hu1 (fun i hi e => h.ng (e ▸ hi))
  have hll := h.le
  refine ⟨⟨hb1, hz1⟩, owns_upd ho1 uA (fun i hi e => e), fun j u hj => ?_, ⟨by unfold maxLen; omega, by omega, by omega⟩, fun g4 c4 w4 o4 gr4 k4 => ?_⟩
  · have h0 := heap_alloc_new w (.cells #[.int .i64 k] 3)
    match j, hj with
    | 0, hj => cases hj; exact (cell_of_row _ _ _ _ _ _ h0).trans rfl
  · have u4 : Upd (fun i => (Value.slice ax szs.length cx).ownBlock = some i) (w.alloc (.cells #[.int .i64 k] 3)) w4 := Upd.of_grown gr4 (fun k hk _ => hk)
    have u5 : Upd (fun i => i = g) w4 (w4.setCell ⟨g, is, none⟩ (.slice (some ⟨g4, 0, none⟩) (szs.length + 1) c4)) := (Upd.refl _ _).set1 is _
    have b4 := u4.heap (uA.heap hb1 (fun e => e)) (fun e => h.ng e)
    have h4 : (Value.slice ax szs.length cx).ownBlock = some g4 ∨ W.heap.size ≤ g4 := k4.imp id (fun e => by omega)
    have hgg : g4 ≠ g := h4.elim (fun e e' => h.ng (e' ▸ e)) (fun e => by omega)
    have ul : (szs ++ [k]).length = szs.length + 1 := by rw [List.length_append]; rfl
    have hu45 : Upd (fun i => i = g ∨ (Value.slice ax szs.length cx).ownBlock = some i) w (w4.setCell ⟨g, is, none⟩ (.slice (some ⟨g4, 0, none⟩) (szs.length + 1) c4)) := (uA.noth.trans (u4.mono (fun _ _ e => .inr e))).trans (u5.mono (fun _ _ e => .inl e))
    have hrw : ∀ (a : Option Addr) (zs : List Int), Row W .i64 a zs → (∀ x, a = some x → 0 < zs.length → x.block < B) → Row (w4.setCell ⟨g, is, none⟩ (.slice (some ⟨g4, 0, none⟩) (szs.length + 1) c4)) .i64 a zs := fun a zs hr hb => (hr.upd hu1 (fun x hx h0 e => by have := hb x hx h0; omega)).upd hu45 (fun x hx h0 e => by
      have := hb x hx h0
      rcases e with e | e
      · omega
      · have := (h.own.lt _ e).1; omega)
    refine ⟨b4, ⟨?_, hrw _ _ h.rn h.bn, hrw _ _ h.re h.be, h.bn, h.be, ?_, ?_, h.gb, ?_⟩, ?_, h4⟩
    · rw [ul, ← hm2]
      exact block_setCell b4 is _
    · rw [ul, List.map_append]
      exact owns_upd o4 u5 (fun i hi e => by simp [Value.ownBlock] at hi; omega)
    · simp only [Value.ownBlock, ne_eq, Option.some.injEq]
      exact hgg
    · rw [ul, hll]
    · exact (hu1.mono (fun _ _ e => .inl e)).trans hu45
theorem ownBlock_of {g n cap : Nat} : (Value.slice (some ⟨g, 0, none⟩) n cap).ownBlock = some g := rfl
end

end Go.Proofs.Ytcffekhlnidjnaa
