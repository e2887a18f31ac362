/- Texts of one's own. -/
import Derived.Test.YtealejbfloacpaaGreatM34
import Derived.WalkMore
import Derived.Deep.LoopGhost
import Derived.Test.YtealejbfloacpaaGreatM8
namespace Go.Proofs.YtealejbfloacpaaGreat
open Go.RowKit
set_option maxRecDepth 100000
theorem own_tyE {w : World} {N : Nat} {e : TypeId} {size : Nat} {v : Value} {n : Nat} {xs : List Value} (h : w.ownsRow N e size v n xs) {k : Nat} (hk : v.ownBlock = some k) : ∃ cur, w.heap[k]? = some (.cells cur e (0, 0)) ∧ N ≤ k := by
 rcases h.2 with ⟨hv, _⟩ | ⟨g, cap, cur, hv, hb, hh, _⟩
 ·rw [hv] at hk; cases hk
 ·rw [hv] at hk
  cases hk
  exact ⟨cur, hh, hb⟩
structure TOwn (W : World) (N : Nat) (t : Tx) : Prop where
 o : OwnB W N 5 t.v t.s
 b : B8 t.s
 z : t.s.length ≤ 140737488351232
theorem TOwn.nil (W : World) (N : Nat) : TOwn W N nilT := ⟨OwnB.nil _ _ _, B8.nil, Nat.zero_le _⟩
theorem TOwn.ok {W : World} {N : Nat} {t : Tx} (h : TOwn W N t) : t.Ok W := ownB_ok h.o h.b h.z
theorem TOwn.below {W W' : World} {N : Nat} {t : Tx} (h : TOwn W N t) (hb : Below W.heap.size W W') : TOwn W' N t := ⟨h.o.below hb, h.b, h.z⟩
theorem TOwn.upd {S : Nat → Prop} {W W' : World} {N : Nat} {t : Tx} (h : TOwn W N t) (hu : Upd S W W') (hs : ∀ k cur, W.heap[k]? = some (.cells cur 5 (0, 0)) → ¬ S k) : TOwn W' N t :=
 ⟨h.o.upd hu (fun k hk => by
  obtain ⟨cur, hh, _⟩ := own_tyE h.o.owns hk
  exact hs k cur hh), h.b, h.z⟩
def EnO (W : World) (N : Nat) (E : List En) : Prop := ∀ x ∈ E, TOwn W N x.1 ∧ TOwn W N x.2
theorem tl_p_getD (t : TL) (i : Nat) : (t.L.getD i nilT).s = t.p.getD i [] := by
 unfold TL.p
 rw [List.getD_eq_getElem?_getD, List.getD_eq_getElem?_getD, List.getElem?_map]
 cases t.L[i]? <;> rfl
def MpP (W : World) (R : List (List Int × List Int)) (e : Ending) (w' : World) : Prop := ∃ (E : List En) (v : Value), e = .returned v ∧ w'.ownsRow W.heap.size 78 2 v E.length (E.flatMap EnC) ∧ EnO w' W.heap.size E ∧ E.map enP = R ∧ Below W.heap.size W w'
section
variable {W0 w w' : World} {N A m : Nat} {F : Nat → Prop} {s : AS} {met : List Int} {ov : Value} {E : List En}
end
end Go.Proofs.YtealejbfloacpaaGreat
namespace Go.Proofs.YtealejbfloacpaaGreat
open Go.RowKit
set_option maxRecDepth 100000
def EnRd (W : World) (oa : Option Addr) (E : List En) : Prop := ∀ j (h : j < E.length), ∃ g, oa = some ⟨g, 0, none⟩ ∧ W.cell? ⟨g, j * 2, none⟩ = some E[j].1.v ∧ W.cell? ⟨g, j * 2 + 1, none⟩ = some E[j].2.v ∧ E[j].1.Ok W ∧ E[j].2.Ok W
theorem EnRd.below {W Y : World} {oa : Option Addr} {E : List En} (h : EnRd W oa E) (hb : Below W.heap.size W Y) : EnRd Y oa E := fun j hj => by
 obtain ⟨g, h1, h2, h3, h4, h5⟩ := h j hj
 exact ⟨g, h1, (hb.cell (p := ⟨g, j * 2, none⟩) (World.block_lt_of_cell? W ⟨g, j * 2, none⟩ h2)).trans h2, (hb.cell (p := ⟨g, j * 2 + 1, none⟩) (World.block_lt_of_cell? W ⟨g, j * 2 + 1, none⟩ h3)).trans h3, h4.below hb, h5.below hb⟩
theorem EnRd.of {W : World} {N : Nat} {oa : Option Addr} {n oc : Nat} {E : List En} (hrow : W.ownsRow N 78 2 (.slice oa n oc) E.length (E.flatMap EnC)) (hown : EnO W N E) : EnRd W oa E := fun j h => by
 rcases hrow.2 with ⟨q1, q2⟩ | ⟨g, cap, cur, q1, q2, q3, q4, q5, q6, q7⟩
 ·omega
 ·simp only [Value.slice.injEq] at q1
  have e0 := enC_at E j 0 h (by omega)
  have e1 := enC_at E j 1 h (by omega)
  have cl : ∀ k u, (E.flatMap EnC)[k]? = some u → W.cell? ⟨g, k, none⟩ = some u := fun k u hu => by
   rw [cell_of_row _ _ _ _ _ _ q3, ← Array.getElem?_toList]
   rw [← q7, List.getElem?_take] at hu
   split at hu
   ·exact hu
   ·cases hu
  have ho := hown E[j] (List.getElem_mem h)
  exact ⟨g, q1.1, cl _ _ e0, cl _ _ e1, ho.1.ok, ho.2.ok⟩
end Go.Proofs.YtealejbfloacpaaGreat
