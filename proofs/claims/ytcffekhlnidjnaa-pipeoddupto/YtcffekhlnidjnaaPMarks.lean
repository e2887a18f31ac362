/- Marks that ranges leave behind them; the parts of a body; frames. -/
import Derived.Test.YtcffekhlnidjnaaPUpd
import Derived.RangeFuncBox
import Derived.Shelf.Abstract
import Derived.Shelf.RegionOpen
import Derived.WalkKit
import Derived.OwnWalkIn
import Derived.TacticsInMore
import Derived.LoopNIn
import Derived.LoopIn
namespace Go.Proofs.Ytcffekhlnidjnaa
open Go.RowKit Go.Shelf

/-! ### Marks -/
/-- The marks that ranges have left behind them: each a block that holds no call, no two the same. -/
def Marks (lo : Nat) : List Deferred → World → Prop
  | [], _ => True
  | d :: ds, W => ∃ D, d = { target := .collected D, args := #[] } ∧ lo ≤ D ∧ W.heap[D]? = some (.deferred (some [])) ∧ d ∉ ds ∧ Marks lo ds W

theorem Marks.mem {lo : Nat} : ∀ {ds : List Deferred} {W : World}, Marks lo ds W → ∀ d ∈ ds, ∃ D, d = { target := .collected D, args := #[] } ∧ lo ≤ D ∧ W.heap[D]? = some (.deferred (some []))
  | [], _, _, d, hd => by simp at hd
  | d :: ds, W, ⟨D, e, hlo, hD, _, h⟩, d', hd => by
    rcases List.mem_cons.1 hd with rfl | hd
    · exact ⟨D, e, hlo, hD⟩
    · exact Marks.mem h d' hd

/-- Marks stay where their blocks stay. -/
theorem Marks.kept {lo : Nat} : ∀ {ds : List Deferred} {W W' : World}, Marks lo ds W → (∀ D, ({ target := .collected D, args := #[] } : Deferred) ∈ ds → W.heap[D]? = some (.deferred (some [])) → W'.heap[D]? = some (.deferred (some []))) → Marks lo ds W'
  | [], _, _, _, _ => trivial
  | d :: ds, W, W', ⟨D, e, hlo, hD, hn, h⟩, hk => ⟨D, e, hlo, hk D (by rw [e]; exact List.mem_cons_self) hD, hn, Marks.kept h (fun D' hD' => hk D' (List.mem_cons_of_mem _ hD'))⟩

theorem Marks.below {lo : Nat} {ds : List Deferred} {A B : World} (h : Marks lo ds A) (hk : Below A.heap.size A B) : Marks lo ds B :=
  h.kept fun D _ hD => (hk.block D (Array.getElem?_eq_some_iff.1 hD).1).trans hD
theorem Marks.push {lo : Nat} {ds : List Deferred} {A W : World} {D : Nat} (h0 : Marks lo ds A) (h : Marks lo ds W) (hA : A.heap.size ≤ D) (hlo : lo ≤ A.heap.size) (hD : W.heap[D]? = some (.deferred (some []))) :
    Marks lo ({ target := .collected D, args := #[] } :: ds) W := by
  refine ⟨D, rfl, by omega, hD, fun hm => ?_, h⟩
  obtain ⟨D', e, _, hD'⟩ := h0.mem _ hm
  have e' : D = D' := by simpa using e
  subst e'
  have := (Array.getElem?_eq_some_iff.1 hD').1
  omega

/-- A function leaves with marks: its result is read behind them. -/
theorem Marks.leave {F : Fence} {n : Nat} {P : Program} {fn : Func} {tmps : Array Value} {R : Ending → World → Prop} {lo : Nat} : ∀ {ds : List Deferred} {W : World}, Marks lo ds W →
    (∀ W', Below lo W W' → (∀ b t v, Boxed W b t v → Boxed W' b t v) → LeavesIn F n P fn tmps R [] .returning W') → LeavesInM F n P fn tmps R ds .returning W
  | [], W, _, hf => hf W (Below.refl _ _) (fun _ _ _ h => h)
  | d :: ds, W, ⟨D, e, hlo, hD, hn, h⟩, hf => by
    subst e
    refine ⟨by simp, .inl ⟨_, _, rfl, run_takeDeferred hD, ?_⟩⟩
    have hp : ∀ j, j ≠ D → (W.putObj D (.deferred none)).heap[j]? = W.heap[j]? := fun j hj => World.putObj_heap_other (by omega)
    refine Marks.leave (h.kept fun D' hm hD' => (hp D' (fun e => hn (by rw [← e]; exact hm))).trans hD') (fun W' hb hbx => hf W' ?_ (fun b t v hv => hbx b t v ((hp b (fun e => ?_)).trans hv)))
    · have hb0 : Below lo W (W.putObj D (.deferred none)) := ⟨rfl, rfl, rfl, by simp, fun k hk => hp k (by omega)⟩
      exact hb0.trans hb
    · subst e
      rw [show W.heap[b]? = _ from hv] at hD
      cases hD

theorem boxed_upd {S : Nat → Prop} {W W' : World} {g : Nat} {t : TypeId} {v : Value} (h : Boxed W g t v) (hu : Upd S W W') (hs : ¬ S g) : Boxed W' g t v := hu.heap h hs
theorem boxed_below {W W' : World} {g : Nat} {t : TypeId} {v : Value} (h : Boxed W g t v) (hb : Below W.heap.size W W') : Boxed W' g t v := (hb.block g h.lt).trans h

/-- The parts of a body that follow one another. -/
def laterOf : Code → Code
  | .seq _ y => y
  | c => c
def partOf : Nat → Code → Code
  | 0, c => c
  | k + 1, c => partOf k (laterOf c)
def firstOf : Code → Code
  | .seq x _ => x
  | c => c
def loopOf : Code → Code
  | .seq _ (.block _ (.loop c)) => c
  | c => c
theorem inBlock_exit {id : Nat} {Q : Exit → Act → World → Prop} {act : Act} {X : World} (h : Q .normal act X) : Exit.inBlock id Q (.exit id) act X := by
  simp only [Exit.inBlock, if_true]
  exact h
theorem getD_of {t : Array Value} {i : Nat} {v : Value} (h : t[i]? = some v) : t.getD i undef = v := by
  rw [Array.getD_eq_getD_getElem?, h]; rfl

end Go.Proofs.Ytcffekhlnidjnaa
