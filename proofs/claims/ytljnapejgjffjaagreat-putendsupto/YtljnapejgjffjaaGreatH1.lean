/- Texts of one's own. -/
import Derived.WalkKit
import Derived.Laws.BitsAllLaws
import Derived.OpenShut
namespace Go.Proofs.YtljnapejgjffjaaGreat
open Go.RowKit
set_option maxRecDepth 100000
theorem hide {p : Prop} (h : p) : Hid p := h
theorem ret_int {k : IntKind} {a b : Int} (h : a = b) : Ending.returned (.int k a) = .returned (.int k b) := by rw [h]
def Row (w : World) (k : IntKind) (a : Option Addr) (zs : List Int) : Prop :=
 ∀ i,i < zs.length → ∃ b off,a = some ⟨b,off,none⟩ ∧ w.cell? ⟨b,off + i,none⟩ = some (.int k (zs.getD i 0))
theorem Row.cons {w : World} {k : IntKind} {a : Option Addr} {zs : List Int} (h : Row w k a zs) (hp : 0 < zs.length) :
  ∃ b off,a = some ⟨b,off,none⟩ ∧ b < w.heap.size ∧ ∀ i,i < zs.length → w.cell? ⟨b,off + i,none⟩ = some (.int k (zs.getD i 0)) := by
 obtain ⟨b,off,ha,h0⟩ := h 0 hp
 refine ⟨b,off,ha,World.block_lt_of_cell? w ⟨b,off + 0,none⟩ h0,fun i hi => ?_⟩
 obtain ⟨b',off',ha',hi'⟩ := h i hi
 rw [ha] at ha'
 simp only [Option.some.injEq,Addr.mk.injEq] at ha'
 obtain ⟨rfl,rfl,_⟩ := ha'
 exact hi'
theorem Row.below {w w' : World} {k : IntKind} {a : Option Addr} {zs : List Int} {B : Nat} (h : Row w k a zs) (hb : Below B w w') (hB : ∀ x,a = some x → 0 < zs.length → x.block < B) : Row w' k a zs := by
 intro i hi
 obtain ⟨b,off,ha,hc⟩ := h i hi
 exact ⟨b,off,ha,(hb.cell (p := ⟨b,off + i,none⟩) (hB ⟨b,off,none⟩ ha (by omega))).trans hc⟩
theorem row_take {w : World} {k : IntKind} {x : Addr} {len cap : Nat} {zs : List Int} (hl : len ≤ cap) (hz : zs.length = cap) (hcell : ∀ i,i < zs.length → w.cell? (x.add i) = some (.int k (zs.getD i 0))) :
  (zs.take len).length = len ∧ Row w k (some x) (zs.take len) := by
 have e : (zs.take len).length = len := by rw [List.length_take]; omega
 refine ⟨e,fun i hi => ?_⟩
 obtain ⟨b,off,spot⟩ := x
 have h1 := hcell i (by omega)
 have hspot : spot = none := by simpa [Addr.add] using World.cell?_spot (hcell 0 (by omega))
 subst hspot
 refine ⟨b,off,rfl,?_⟩
 rw [Addr.add_lit] at h1
 rw [h1]
 simp only [List.getD_eq_getElem?_getD]
 rw [List.getElem?_take,if_pos (by omega)]
theorem row_nil (w : World) (k : IntKind) (a : Option Addr) : Row w k a [] := fun i hi => absurd hi (Nat.not_lt_zero i)
theorem block_setCell {w : World} {b : Nat} {cs : Array Value} {T : TypeId} (h : w.heap[b]? = some (.cells cs T (0,0))) (k : Nat) (u : Value) :
  (w.setCell ⟨b,k,none⟩ u).heap[b]? = some (.cells (cs.setIfInBounds k u) T (0,0)) := by
 have hlt := lt_of_block h
 have h' : w.heap[b] = .cells cs T (0,0) := by simpa [Array.getElem?_eq_getElem hlt] using h
 show (w.heap.modify b _)[b]? = _
 rw [Array.getElem?_eq_getElem (by simpa using hlt),Array.getElem_modify_self,h']
 rfl
theorem grownBy_refl (w : World) (row : Option Nat) : w.grownBy w row := ⟨rfl,rfl,rfl,Nat.le_refl _,fun _ _ _ => rfl⟩
theorem grownBy.below {w w' : World} {b B : Nat} (h : w.grownBy w' (some b)) (hb : B ≤ b) (hB : B ≤ w.heap.size) : Below B w w' :=
 (Below.refl B w).grown h hB (fun k e => by cases e; exact hb)
end Go.Proofs.YtljnapejgjffjaaGreat
