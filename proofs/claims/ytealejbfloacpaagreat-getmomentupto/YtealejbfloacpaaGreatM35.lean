/- Texts of one's own. -/
import Derived.Test.YtealejbfloacpaaGreatM32
import Derived.Deep.AppendLies
import Derived.Deep.RegionHeld3
import Derived.OneCell
import Derived.Test.YtealejbfloacpaaGreatM8
namespace Go.Proofs.YtealejbfloacpaaGreat
open Go.RowKit
set_option maxRecDepth 100000
theorem five_of {W : World} {b : Nat} {T : TypeId} {x0 x1 x2 x3 x4 : Value} (h : W.heap[b]? = some (.cells #[x0, x1, x2, x3, x4] T (0, 0))) : W.cell? ⟨b, 0, none⟩ = some x0 ∧ W.cell? ⟨b, 1, none⟩ = some x1 ∧ W.cell? ⟨b, 2, none⟩ = some x2 ∧ W.cell? ⟨b, 3, none⟩ = some x3 ∧ W.cell? ⟨b, 4, none⟩ = some x4 :=
 ⟨by rw [cell_of_row _ _ _ _ _ _ h]; rfl, by rw [cell_of_row _ _ _ _ _ _ h]; rfl, by rw [cell_of_row _ _ _ _ _ _ h]; rfl, by rw [cell_of_row _ _ _ _ _ _ h]; rfl, by rw [cell_of_row _ _ _ _ _ _ h]; rfl⟩
section
variable {W : World} {X : Nat → Prop} {B m N A : Nat} {ga la : Option Addr} {gc lc : Nat} {nd lf inn fl bk : Int} {s : AS} {O : List (List Sp)} {ov : List IL} {cur : List Sp}
end
end Go.Proofs.YtealejbfloacpaaGreat
namespace Go.Proofs.YtealejbfloacpaaGreat
open Go.RowKit
set_option maxRecDepth 100000
theorem stray_none {s : AS} {up down : Chn} (h : ∀ i (hi : i < up.length), s.kidsOk down up[i]) : s.stray up down = none := by
 unfold AS.stray
 rw [List.find?_eq_none.2]
 ·rfl
 ·intro x hx
  obtain ⟨i, hi, rfl⟩ := List.getElem_of_mem hx
  simp [h i hi]
theorem stray_at {s : AS} {up down : Chn} {i : Nat} (hi : i < up.length) (h : ∀ j (hj : j < up.length), j < i → s.kidsOk down up[j]) (hn : ¬ s.kidsOk down up[i]) : s.stray up down = some up[i].1 := by
 unfold AS.stray
 have : up.find? (fun x => !decide (s.kidsOk down x)) = some up[i] := by
  rw [List.find?_eq_some_iff_getElem]
  refine ⟨by simp [hn], i, hi, rfl, fun j hj => ?_⟩
  simp [h j (by omega) hj]
 rw [this]
 rfl
section
variable {W : World} {X : Nat → Prop} {B m N A : Nat} {ga : Option Addr} {gc : Nat} {nd lf inn fl bk : Int} {s : AS} {O : List (List Sp)} {ov : List IL} {dn : List Sp} {lev : Int}
end
end Go.Proofs.YtealejbfloacpaaGreat
namespace Go.Proofs.YtealejbfloacpaaGreat
open Go.RowKit
set_option maxRecDepth 100000
def AS.step (s : AS) (ck : NP → Int) (f : Nat) (lev : Int) (outs : List Chn) : (Int × Int) ⊕ Chn → (Int × Int) ⊕ List Chn
 | .inl e => .inl e
 | .inr cur =>
  match s.stray (outs.getLastD []) cur with
  | some up => .inl (up, 113)
  | none => if lev = 0 then .inr (outs ++ [cur]) else s.lvs ck f (lev - 1) (s.first cur) (outs ++ [cur])
theorem lvs_succ (s : AS) (ck : NP → Int) (f : Nat) (lev id : Int) (outs : List Chn) : s.lvs ck (f + 1) lev id outs = s.step ck f lev outs (s.chn ck lev (idsOf outs) (s.sl.length + 1 - (idsOf outs).length) id [] []) := by
 rw [AS.lvs]
 cases s.chn ck lev (idsOf outs) (s.sl.length + 1 - (idsOf outs).length) id [] [] with
 | inl e => rfl
 | inr cur =>
  unfold AS.step
  cases s.stray (outs.getLastD []) cur <;> rfl
theorem chn_succ (s : AS) (ck : NP → Int) (lev : Int) (old : List Int) (f : Nat) (id : Int) (low : List Int) (cur : Chn) : s.chn ck lev old (f + 1) id low cur = (if s.metE ck lev low (old ++ cur.map (·.1)) id ≠ 0 then .inl (id, s.metE ck lev low (old ++ cur.map (·.1)) id) else if (s.n id).ri = 0 then .inr (cur ++ [(id, low)]) else s.chn ck lev old f (s.n id).ri (s.n id).hi (cur ++ [(id, low)])) := rfl
theorem nchk_facts {p : NP} {nd lf inn fl bk : Int} (h : nchkE p nd lf inn fl bk = 0) : 0 ≤ p.lv ∧ p.lv ≤ 32 ∧ (0 < p.lv → p.cs.length = p.ks.length + 1) ∧ (p.lv = 0 → p.cs.length = 0) ∧ KyP p.hi p.ks := by
 unfold nchkE at h
 split at h
 ·split at h
  ·rename_i h2
   obtain ⟨⟨⟨h3, _⟩, _⟩, h4, _, h5⟩ := h2
   refine ⟨h3.1, h3.2, fun hp => ?_, fun hp => ?_, h4⟩
   ·rw [if_neg (by omega)] at h5
    exact h5.1.2
   ·rw [if_pos hp] at h5
    exact h5.1.1
  ·omega
 ·omega
end Go.Proofs.YtealejbfloacpaaGreat
