/- Both Outs are told the same: they answer alike. -/
import Derived.Test.YteindoemdonagaaG26
import Derived.Test.YteindoemdonagaaG14
import Derived.Test.YteindoemdonagaaG6
import Derived.Deep.DeepCutAuto
import Derived.Deep.CutBlock
namespace Go.Proofs.Yteindoemdonagaa
open Go.RowKit

/-- The state behind what is told. -/
def opO {τ : Type} (wf : τ → List Int → Int × Int × τ) (k : Int) (ys : List Int) (x : OutS τ) : OutS τ :=
  if k = 0 then layP x ys else if k = 1 then (pushP wf x).2.2 else if k = 2 then flushA wf x else x
theorem lay_ok {τ : Type} {cnt sz : τ → Nat} {C Z : Nat} {x : OutS τ} (h : OutOk cnt sz C Z x) (ys : List Int) : OutOk cnt sz (C + 17 * ys.length) (Z + ys.length) (layP x ys) := by
  unfold layP
  have ha := h.all
  split
  · rename_i he
    refine ⟨fun _ => h.i16 he, fun _ => ?_, fun _ => ?_, ?_⟩
    · have := h.pot he; simp only [List.length_append]; omega
    · have := h.size he; simp only [List.length_append]; omega
    · simp only [List.length_append]; omega
  · rename_i he
    exact ⟨fun e => absurd e he, fun e => absurd e he, fun e => absurd e he, by omega⟩
theorem OutOk.mono {τ : Type} {cnt sz : τ → Nat} {C Z C' Z' : Nat} {x : OutS τ} (h : OutOk cnt sz C Z x) (hC : C ≤ C') (hZ : Z ≤ Z') : OutOk cnt sz C' Z' x :=
  ⟨h.i16, fun e => Nat.le_trans (h.pot e) hC, fun e => Nat.le_trans (h.size e) hZ, Nat.le_trans h.all hZ⟩
theorem opO_ok {τ : Type} {wf : τ → List Int → Int × Int × τ} {cnt sz : τ → Nat} {f : FuncId} {recv : Value} {B : Nat} {Wd : World → τ → (Nat → Prop) → Prop} (T : Writer wf cnt sz f recv B Wd) {C Z : Nat} {x : OutS τ} (h : OutOk cnt sz C Z x) (k : Int) (ys : List Int) : OutOk cnt sz (C + 17 * ys.length) (Z + ys.length) (opO wf k ys x) := by
  unfold opO
  split
  · exact lay_ok h ys
  · split
    · exact (push_ok T x C Z h).1.mono (by omega) (by omega)
    · split
      · exact (flush_ok T C Z _ x h).mono (by omega) (by omega)
      · exact h.mono (by omega) (by omega)

section
variable {τ : Type} {wf : τ → List Int → Int × Int × τ} {cnt sz : τ → Nat} {f1 f2 : FuncId} {recv1 recv2 : Value} {B : Nat} {Wd1 Wd2 : World → τ → (Nat → Prop) → Prop} {gc gd g2 : Nat} {r : Value} {W0 W W1 W2 : World} {x x' : OutS τ} {F G F1 G1 : Nat → Prop}
end

end Go.Proofs.Yteindoemdonagaa
