/- What 'lent' and 'kept' do: bytes in memory of their own, with two marks behind; whether they read as they did. -/
import Derived.Test.YtepjblmjjegpgaaG5
import Derived.OwnWalk
namespace Go.Proofs.Ytepjblmjjegpgaa
open Go.RowKit

theorem infoU8 : (Try.prog.info? 5).map (fun i => (i.zero, i.size, i.bytes)) = some (some (.int .u8 0), 1, 1) := by kernel_rfl

/-- Bytes, and two marks behind them. -/
def Lent (w : World) (g : Nat) (zs : List Int) : Prop := ∀ i, i < zs.length + 2 → w.cell? ⟨g, i, none⟩ = some (.int .u8 ((zs ++ [77, 78]).getD i 0))

theorem Lent.row {w : World} {g : Nat} {zs : List Int} (h : Lent w g zs) : Row w .u8 (some ⟨g, 0, none⟩) zs := by
  intro i hi
  refine ⟨g, 0, rfl, ?_⟩
  rw [Nat.zero_add, h i (by omega)]
  simp [List.getElem?_append_left hi]
theorem Lent.m1 {w : World} {g : Nat} {zs : List Int} (h : Lent w g zs) : w.cell? ⟨g, zs.length, none⟩ = some (.int .u8 77) := by
  rw [h _ (by omega)]; simp
theorem Lent.m2 {w : World} {g : Nat} {zs : List Int} (h : Lent w g zs) : w.cell? ⟨g, zs.length + 1, none⟩ = some (.int .u8 78) := by
  rw [h _ (by omega)]; simp
theorem Lent.below {w w' : World} {g B : Nat} {zs : List Int} (h : Lent w g zs) (hb : Below B w w') (hg : g < B) : Lent w' g zs :=
  fun i hi => (hb.cell (p := ⟨g, i, none⟩) hg).trans (h i hi)
theorem Lent.lt {w : World} {g : Nat} {zs : List Int} (h : Lent w g zs) : g < w.heap.size := World.block_lt_of_cell? w ⟨g, 0, none⟩ (h 0 (by omega))

theorem lent_of_owns {w : World} {base g n : Nat} {zs : List Int} (h : w.ownsRow base 5 1 (.slice (some ⟨g, 0, none⟩) n n) n ((zs ++ [77, 78]).map (Value.int .u8))) : Lent w g zs := by
  intro i hi
  have hc := h.cells (g := g) rfl i (.int .u8 ((zs ++ [77, 78]).getD i 0)) (by
    rw [List.getElem?_map, List.getD, List.getElem?_eq_getElem (by simp; omega)]; rfl)
  rwa [Addr.add_lit, Nat.zero_add] at hc

theorem row_cells {w : World} {a : Option Addr} {zs : List Int} (h : Row w .u8 a zs) : ∀ ad, a = some ad → ∀ j u, (zs.map (Value.int .u8))[j]? = some u → w.cell? (ad.add j) = some u := by
  intro ad had j u hu
  have hj : j < zs.length := by
    have := (List.getElem?_eq_some_iff.1 hu).1
    simpa using this
  obtain ⟨b, off, ha, hc⟩ := h j hj
  rw [had] at ha
  obtain rfl := Option.some.inj ha
  rw [Addr.add_lit, hc]
  rw [List.getElem?_map, List.getElem?_eq_getElem hj] at hu
  simp only [Option.map_some, Option.some.injEq] at hu
  rw [← hu]
  simp [List.getD, hj]

theorem Row.kept {w w' : World} {k : IntKind} {a : Option Addr} {zs : List Int} {row : Option Nat} (h : Row w k a zs) (hg : w.grownBy w' row) (hne : ∀ x, a = some x → x.block < w.heap.size → some x.block ≠ row) : Row w' k a zs := by
  intro i hi
  obtain ⟨b, off, ha, hc⟩ := h i hi
  exact ⟨b, off, ha, hg.cell hc (hne ⟨b, off, none⟩ ha (World.block_lt_of_cell? w ⟨b, off + i, none⟩ hc))⟩

theorem two_cells (w : World) (x y : Value) (T : TypeId) : ∀ j u, [x, y][j]? = some u → (w.alloc (.cells #[x, y] T)).cell? ((⟨w.heap.size, 0, none⟩ : Addr).add j) = some u := by
  intro j u hu
  rw [Addr.add_lit, Nat.zero_add, cell_of_row _ _ _ _ _ _ (heap_alloc_new w _)]
  match j, hu with
  | 0, hu => simpa using hu
  | 1, hu => simpa using hu

end Go.Proofs.Ytepjblmjjegpgaa
