/- The document's marked; entries in memory. -/
import Derived.Test.YtepjblmjjegpgaaGreatW28
import Derived.Test.YtepjblmjjegpgaaGreatW9
namespace Go.Proofs.YtepjblmjjegpgaaGreat
open Go.RowKit
set_option maxRecDepth 100000

/-- Bytes, and a mark behind them. -/
def Mkd (w : World) (g : Nat) (zs : List Int) : Prop := ∀ i, i < zs.length + 1 → w.cell? ⟨g, i, none⟩ = some (.int .u8 ((zs ++ [77]).getD i 0))
theorem Mkd.row {w : World} {g : Nat} {zs : List Int} (h : Mkd w g zs) : Row w .u8 (some ⟨g, 0, none⟩) zs := by
  intro i hi
  refine ⟨g, 0, rfl, ?_⟩
  rw [Nat.zero_add, h i (by omega)]
  simp [List.getElem?_append_left hi]
theorem Mkd.m {w : World} {g : Nat} {zs : List Int} (h : Mkd w g zs) : w.cell? ⟨g, zs.length, none⟩ = some (.int .u8 77) := by
  rw [h _ (by omega)]; simp
theorem Mkd.lt {w : World} {g : Nat} {zs : List Int} (h : Mkd w g zs) : g < w.heap.size := World.block_lt_of_cell? w ⟨g, 0, none⟩ (h 0 (by omega))
theorem Mkd.below {w w' : World} {g B : Nat} {zs : List Int} (h : Mkd w g zs) (hb : Below B w w') (hg : g < B) : Mkd w' g zs := fun i hi => (hb.cell (p := ⟨g, i, none⟩) hg).trans (h i hi)
theorem Mkd.kept {w w' : World} {g : Nat} {zs : List Int} {row : Option Nat} (h : Mkd w g zs) (hg : w.grownBy w' row) (hne : some g ≠ row) : Mkd w' g zs := fun i hi => hg.cell (h i hi) hne
theorem mkd_of_owns {w : World} {base g n : Nat} {zs : List Int} (h : w.ownsRow base 5 1 (.slice (some ⟨g, 0, none⟩) n n) n ((zs ++ [77]).map (Value.int .u8))) : Mkd w g zs := by
  intro i hi
  have hc := h.cells (g := g) rfl i (.int .u8 ((zs ++ [77]).getD i 0)) (by
    rw [List.getElem?_map, List.getD, List.getElem?_eq_getElem (by simp; omega)]; rfl)
  rwa [Addr.add_lit, Nat.zero_add] at hc
theorem one_cellM (w : World) (x : Value) (T : TypeId) : ∀ j u, [x][j]? = some u → (w.alloc (.cells #[x] T)).cell? ((⟨w.heap.size, 0, none⟩ : Addr).add j) = some u := by
  intro j u hu
  rw [Addr.add_lit, Nat.zero_add, cell_of_row _ _ _ _ _ _ (heap_alloc_new w _)]
  match j, hu with
  | 0, hu => simpa using hu

set_option maxHeartbeats 800000 in
theorem marked_any (a : Option Addr) (len cap : Nat) (zs : List Int) (w : World) (hl : zs.length = len) (hm : len ≤ 140737488351232) (hnone : a = none → len = 0 ∧ cap = 0) (hr : Row w .u8 a zs) :
    Calls Tryz.prog 53 #[.slice a len cap] w fun e w' => e = .returned (.slice (some ⟨w.heap.size, 0, none⟩) len (len + 1)) ∧ Mkd w' w.heap.size zs ∧ Below w.heap.size w w' := by
  obtain ⟨i0, hi, hz0, hz1, hz2⟩ := info_parts infoU8
  have HR := hide hr
  have HN := hide hnone
  clear hr hnone
  go_enter Tryz.func53, Tryz.ntmps53
  go_wp2_with (first
    | (at_make; refine wpList_make_own _ rfl _ _ 23 rfl w.heap.size 5 i0 (.int .u8 0) 1 Tryz.underlying23 hi hz0 hz1 .i64 .i64 _ (len + 1) rfl rfl (by omega) (by rw [hz2]; omega) (by unfold maxLen; omega) (Nat.le_refl _) ?_; intro w1 hown1 hg1)
    | (at_builtin; refine wpList_append_fits_any _ rfl (.tmp 6) (.tmp 7) 23 rfl w.heap.size 5 i0 1 Tryz.underlying23 hi hz1 w.heap.size 0 (len + 1) _ rfl hown1 _ len _ (zs.map (Value.int .u8)) rfl (by simp [hl]) HN.out (row_cells (Row.kept HR.out hg1 (fun _ _ _ => by simp))) (ints_oneCell _ _) (by omega) ?_; intro w2 hown2 hg2; simp only [Nat.zero_add, List.nil_append] at hown2)
    | (at_builtin; refine wpList_append_fits_any _ rfl (.tmp 8) (.tmp 9) 23 rfl w.heap.size 5 i0 1 Tryz.underlying23 hi hz1 w.heap.size len (len + 1) _ rfl (hown2.alloc _) _ 1 _ [.int .u8 77] rfl rfl (by intro h; cases h) (by intro ad had; cases had; exact one_cellM _ _ _) (by intro u hu; simp at hu; subst hu; rfl) (by omega) ?_; intro w3 hown3 hg3))
  go_ret
  have e : (zs.map (Value.int .u8)) ++ [.int .u8 77] = (zs ++ [77]).map (Value.int .u8) := by simp
  rw [e] at hown3
  have s1 := hg1.size
  have s2 := hg2.size
  have b1 : Below w.heap.size w w1 := (Below.refl _ _).grown hg1 (Nat.le_refl _) (fun k h => by cases h)
  have b2 : Below w.heap.size w w2 := b1.grown hg2 s1 (fun k h => by cases h; exact Nat.le_refl _)
  have b3 : Below w.heap.size w w3 := (b2.alloc (by omega) _).grown hg3 (by simp; omega) (fun k h => by cases h; exact Nat.le_refl _)
  exact ⟨rfl, mkd_of_owns hown3, b3⟩

/-- An entry: where its key and its value lie, and their bytes. -/
structure Ent where
  ka : Option Addr
  kc : Nat
  ks : List Int
  va : Option Addr
  vc : Nat
  vs : List Int
def Ent.kv (e : Ent) : Value := .slice e.ka e.ks.length e.kc
def Ent.vv (e : Ent) : Value := .slice e.va e.vs.length e.vc
structure Ent.Ok (W : World) (e : Ent) : Prop where
  k : Row W .u8 e.ka e.ks
  v : Row W .u8 e.va e.vs
  nk : e.ka = none → e.ks.length = 0 ∧ e.kc = 0
  nv : e.va = none → e.vs.length = 0 ∧ e.vc = 0
  lk : e.ks.length ≤ e.kc
  lv : e.vs.length ≤ e.vc
  k8 : B8 e.ks
  v8 : B8 e.vs
  zk : e.ks.length ≤ 140737488351232
  zv : e.vs.length ≤ 140737488351232
theorem Ent.Ok.below {W W' : World} {e : Ent} (h : e.Ok W) (hb : Below W.heap.size W W') : e.Ok W' := ⟨h.k.below2 hb, h.v.below2 hb, h.nk, h.nv, h.lk, h.lv, h.k8, h.v8, h.zk, h.zv⟩
/-- Entries one behind the other. -/
structure Ens (W : World) (b o : Nat) (L : List Ent) : Prop where
  at0 : ∀ i (h : i < L.length), W.cell? ⟨b, o + i * 2, none⟩ = some L[i].kv
  at1 : ∀ i (h : i < L.length), W.cell? ⟨b, o + i * 2 + 1, none⟩ = some L[i].vv
  ok : ∀ i (h : i < L.length), L[i].Ok W
theorem Ens.below {W W' : World} {b o : Nat} {L : List Ent} (h : Ens W b o L) (hb : Below W.heap.size W W') : Ens W' b o L :=
  ⟨fun i hi => (hb.cell (p := ⟨b, o + i * 2, none⟩) (World.block_lt_of_cell? W ⟨b, o + i * 2, none⟩ (h.at0 i hi))).trans (h.at0 i hi), fun i hi => (hb.cell (p := ⟨b, o + i * 2 + 1, none⟩) (World.block_lt_of_cell? W ⟨b, o + i * 2 + 1, none⟩ (h.at1 i hi))).trans (h.at1 i hi), fun i hi => (h.ok i hi).below hb⟩

end Go.Proofs.YtepjblmjjegpgaaGreat
