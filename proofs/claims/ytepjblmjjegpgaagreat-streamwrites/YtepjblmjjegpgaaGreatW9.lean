/- What 'lent' and 'kept' do: bytes in memory of their own, with two marks behind; whether they read as they did. -/
import Derived.Test.YtepjblmjjegpgaaGreatW5
import Derived.OwnWalk
namespace Go.Proofs.YtepjblmjjegpgaaGreat
open Go.RowKit
set_option maxRecDepth 100000

theorem infoU8 : (Tryz.prog.info? 5).map (fun i => (i.zero, i.size, i.bytes)) = some (some (.int .u8 0), 1, 1) := by kernel_rfl

/-- Bytes, and two marks behind them. -/
def Lent (w : World) (g : Nat) (zs : List Int) : Prop := ∀ i, i < zs.length + 2 → w.cell? ⟨g, i, none⟩ = some (.int .u8 ((zs ++ [77, 78]).getD i 0))

theorem Lent.row {w : World} {g : Nat} {zs : List Int} (h : Lent w g zs) : Row w .u8 (some ⟨g, 0, none⟩) zs := by
  intro i hi
  refine ⟨g, 0, rfl, ?_⟩
  rw [Nat.zero_add, h i (by omega)]
  simp [List.getElem?_append_left hi]
theorem Lent.m1 {w : World} {g : Nat} {zs : List Int} (h : Lent w g zs) : w.cell? ⟨g, zs.length, none⟩ = some (.int .u8 77) := by
  rw [h _ (by omega)]; simp
theorem Lent.m2 {w : World} {g : Nat} {zs : List Int} (h : Lent w g zs) : w.cell? ⟨g, zs.length + 1, none⟩ = some (.int .u8 78) := by
  rw [h _ (by omega)]; simp
theorem Lent.below {w w' : World} {g B : Nat} {zs : List Int} (h : Lent w g zs) (hb : Below B w w') (hg : g < B) : Lent w' g zs :=
  fun i hi => (hb.cell (p := ⟨g, i, none⟩) hg).trans (h i hi)
theorem Lent.lt {w : World} {g : Nat} {zs : List Int} (h : Lent w g zs) : g < w.heap.size := World.block_lt_of_cell? w ⟨g, 0, none⟩ (h 0 (by omega))

theorem lent_of_owns {w : World} {base g n : Nat} {zs : List Int} (h : w.ownsRow base 5 1 (.slice (some ⟨g, 0, none⟩) n n) n ((zs ++ [77, 78]).map (Value.int .u8))) : Lent w g zs := by
  intro i hi
  have hc := h.cells (g := g) rfl i (.int .u8 ((zs ++ [77, 78]).getD i 0)) (by
    rw [List.getElem?_map, List.getD, List.getElem?_eq_getElem (by simp; omega)]; rfl)
  rwa [Addr.add_lit, Nat.zero_add] at hc

theorem row_cells {w : World} {a : Option Addr} {zs : List Int} (h : Row w .u8 a zs) : ∀ ad, a = some ad → ∀ j u, (zs.map (Value.int .u8))[j]? = some u → w.cell? (ad.add j) = some u := by
  intro ad had j u hu
  have hj : j < zs.length := by
    have := (List.getElem?_eq_some_iff.1 hu).1
    simpa using this
  obtain ⟨b, off, ha, hc⟩ := h j hj
  rw [had] at ha
  obtain rfl := Option.some.inj ha
  rw [Addr.add_lit, hc]
  rw [List.getElem?_map, List.getElem?_eq_getElem hj] at hu
  simp only [Option.map_some, Option.some.injEq] at hu
  rw [← hu]
  simp [List.getD, hj]

theorem Row.kept {w w' : World} {k : IntKind} {a : Option Addr} {zs : List Int} {row : Option Nat} (h : Row w k a zs) (hg : w.grownBy w' row) (hne : ∀ x, a = some x → x.block < w.heap.size → some x.block ≠ row) : Row w' k a zs := by
  intro i hi
  obtain ⟨b, off, ha, hc⟩ := h i hi
  exact ⟨b, off, ha, hg.cell hc (hne ⟨b, off, none⟩ ha (World.block_lt_of_cell? w ⟨b, off + i, none⟩ hc))⟩

theorem two_cells (w : World) (x y : Value) (T : TypeId) : ∀ j u, [x, y][j]? = some u → (w.alloc (.cells #[x, y] T)).cell? ((⟨w.heap.size, 0, none⟩ : Addr).add j) = some u := by
  intro j u hu
  rw [Addr.add_lit, Nat.zero_add, cell_of_row _ _ _ _ _ _ (heap_alloc_new w _)]
  match j, hu with
  | 0, hu => simpa using hu
  | 1, hu => simpa using hu

set_option maxHeartbeats 800000 in
theorem lent_any (a : Option Addr) (len cap : Nat) (zs : List Int) (w : World) (hl : zs.length = len) (hm : len ≤ 140737488351232) (hnone : a = none → len = 0 ∧ cap = 0) (hr : Row w .u8 a zs) :
    Calls Tryz.prog 30 #[.slice a len cap] w fun e w' => e = .returned (.slice (some ⟨w.heap.size, 0, none⟩) len (len + 2)) ∧ Lent w' w.heap.size zs ∧ Below w.heap.size w w' := by
  obtain ⟨i0, hi, hz0, hz1, hz2⟩ := info_parts infoU8
  have HR := hide hr
  have HN := hide hnone
  clear hr hnone
  go_enter Tryz.func30, Tryz.ntmps30
  go_wp2_with (first
    | (at_make; refine wpList_make_own _ rfl _ _ 23 rfl w.heap.size 5 i0 (.int .u8 0) 1 Tryz.underlying23 hi hz0 hz1 .i64 .i64 _ (len + 2) rfl rfl (by omega) (by rw [hz2]; omega) (by unfold maxLen; omega) (Nat.le_refl _) ?_; intro w1 hown1 hg1)
    | (at_builtin; refine wpList_append_fits_any _ rfl (.tmp 6) (.tmp 7) 23 rfl w.heap.size 5 i0 1 Tryz.underlying23 hi hz1 w.heap.size 0 (len + 2) _ rfl hown1 _ len _ (zs.map (Value.int .u8)) rfl (by simp [hl]) HN.out (row_cells (Row.kept HR.out hg1 (fun _ _ _ => by simp))) (ints_oneCell _ _) (by omega) ?_; intro w2 hown2 hg2; simp only [Nat.zero_add, List.nil_append] at hown2)
    | (at_builtin; refine wpList_append_fits_any _ rfl (.tmp 8) (.tmp 9) 23 rfl w.heap.size 5 i0 1 Tryz.underlying23 hi hz1 w.heap.size len (len + 2) _ rfl (hown2.alloc _) _ 2 _ [.int .u8 77, .int .u8 78] rfl rfl (by intro h; cases h) (by intro ad had; cases had; exact two_cells _ _ _ _) (by intro u hu; simp at hu; rcases hu with rfl | rfl <;> rfl) (by omega) ?_; intro w3 hown3 hg3))
  go_ret
  have e : (zs.map (Value.int .u8)) ++ [.int .u8 77, .int .u8 78] = (zs ++ [77, 78]).map (Value.int .u8) := by simp
  rw [e] at hown3
  have s1 := hg1.size
  have s2 := hg2.size
  have b1 : Below w.heap.size w w1 := (Below.refl _ _).grown hg1 (Nat.le_refl _) (fun k h => by cases h)
  have b2 : Below w.heap.size w w2 := b1.grown hg2 s1 (fun k h => by cases h; exact Nat.le_refl _)
  have b3 : Below w.heap.size w w3 := (b2.alloc (by omega) _).grown hg3 (by simp; omega) (fun k h => by cases h; exact Nat.le_refl _)
  exact ⟨rfl, lent_of_owns hown3, b3⟩

set_option maxHeartbeats 400000 in
theorem kept_any (g : Nat) (b : Option Addr) (len cap2 : Nat) (zs : List Int) (w : World) (hl : zs.length = len) (hm : len ≤ 140737488351232) (hL : Lent w g zs) (hr : Row w .u8 b zs) :
    Calls Tryz.prog 33 #[.slice (some ⟨g, 0, none⟩) len (len + 2), .slice b len cap2] w fun e w' => e = .returned (.bool true) ∧ Still w w' := by
  have hs := same_any (some ⟨g, 0, none⟩) b len (len + 2) len cap2 zs zs w (by unfold maxLen; omega) hl hl hL.row hr
  have m1 := hL.m1
  have m2 := hL.m2
  rw [hl] at m1 m2
  simp only [decide_true] at hs
  have HS := hide hs
  clear hs hr hL
  go_enter Tryz.func33, Tryz.ntmps33
  go_wp2_with (go_at_call 11; refine (unhide HS).mono ?_; rintro e w1 ⟨rfl, hst⟩; have m1' := (hst.cell _).trans m1; have m2' := (hst.cell _).trans m2)
  go_ret
  exact ⟨rfl, hst⟩

end Go.Proofs.YtepjblmjjegpgaaGreat
