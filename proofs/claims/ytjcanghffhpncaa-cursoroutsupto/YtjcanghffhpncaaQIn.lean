/- An In: what it asks, and how it is filled. -/
import Derived.Test.YtjcanghffhpncaaQBase
import Derived.Deep.DeepCutAuto
import Derived.Deep.CutBlock
namespace Go.Proofs.Ytjcanghffhpncaa
open Go.RowKit

/-! ### what is asked, as numbers and lists -/
/-- How many calls running moved nothing, behind one that moved n and told er. -/
def idleOf (i n : Nat) (er : Int) : Nat := if 0 < n ∨ er ≠ 0 then 0 else i + 1
def toldOf (i : Nat) (er : Int) : Int := if i = 16 then 33 else er
/-- One call for k bytes: what came, the error, the reader's state, how many running gave nothing. -/
def ask1 {σ : Type} (RD : Nat → σ → Int × Int × List Int × σ) (k : Nat) (s : σ) (i : Nat) : List Int × Int × σ × Nat :=
  if (RD k s).1 < 0 ∨ (k : Int) < (RD k s).1 then ([], 34, (RD k s).2.2.2, i)
  else ((RD k s).2.2.1, toldOf (idleOf i (RD k s).1.toNat (RD k s).2.1) (RD k s).2.1, (RD k s).2.2.2, idleOf i (RD k s).1.toNat (RD k s).2.1)

/-! ### the parts that an In and an Out have in common -/
theorem blk_cell {W : World} {g k : Nat} {cs : Array Value} {T : TypeId} {v : Value} (h : W.heap[g]? = some (.cells cs T (0, 0))) (hc : cs[k]? = some v) : W.cell? ⟨g, k, none⟩ = some v := by
  rw [cell_of_row _ _ _ _ _ _ h]; exact hc
def CalledPost (g : Nat) (cs : Array Value) (T : TypeId) (i x : Nat) (er : Int) (W : World) (e : Ending) (W' : World) : Prop :=
  e = .returned (.int .i64 (toldOf (idleOf i x er) er)) ∧ W'.heap[g]? = some (.cells (cs.setIfInBounds 1 (.int .i64 (idleOf i x er : Nat))) T (0, 0)) ∧ Upd (fun j => j = g) W W'

set_option maxHeartbeats 800000 in
theorem called_any (g : Nat) (cs : Array Value) (T : TypeId) (i x : Nat) (er : Int) (W : World) (hg : W.heap[g]? = some (.cells cs T (0, 0))) (hc : cs[1]? = some (.int .i64 (i : Int))) (hi : i ≤ 16) :
    Calls Try.prog 54 #[.pointer (some ⟨g, 0, none⟩), .int .i64 (x : Int), .int .i64 er] W fun e W' => CalledPost g cs T i x er W e W' := by
  have h1 := blk_cell hg hc
  have f1 := frozen_blk hg 1
  have HG := hide hg
  have HB0 : Hid ((idleOf i x er = 0) → CalledPost g cs T i x er W (.returned (.int .i64 er)) ((W.setCell ⟨g, 1, none⟩ (.int .i64 ((i : Int) + 1))).setCell ⟨g, 1, none⟩ (.int .i64 0))) := hide fun h => by
    refine ⟨by rw [h]; rfl, ?_, ((Upd.refl _ _).set1 1 _).trans ((Upd.refl _ _).set1 1 _)⟩
    have := block_setCell (block_setCell hg 1 (.int .i64 ((i : Int) + 1))) 1 (.int .i64 0)
    rw [h, this]
    simp
  have HB1 : Hid (∀ q, (idleOf i x er = i + 1) → toldOf (i + 1) er = q → CalledPost g cs T i x er W (.returned (.int .i64 q)) (W.setCell ⟨g, 1, none⟩ (.int .i64 ((i : Int) + 1)))) := hide fun q h hq => by
    refine ⟨by rw [h, hq], ?_, (Upd.refl _ _).set1 1 _⟩
    rw [h]
    exact block_setCell hg 1 _
  clear hg hc
  by_cases hx : 0 < x
  · have hx' : (0 : Int) < (x : Int) := by omega
    have HF := hide (HB0.out (by simp [idleOf, hx]))
    clear HB0 HB1
    go_enter Try.func54, Try.ntmps54
    go_wp2_with fail
    go_ret
    exact HF.out
  · have hx' : ¬ (0 : Int) < (x : Int) := by omega
    by_cases he : er = 0
    · subst he
      have hI : idleOf i x 0 = i + 1 := by simp [idleOf, hx]
      by_cases h16 : i = 15
      · subst h16
        have HF := hide (HB1.out 33 hI (by simp [toldOf]))
        clear HB0 HB1 hI
        go_enter Try.func54, Try.ntmps54
        go_wp2_with fail
        go_ret
        exact HF.out
      · have HF := hide (HB1.out 0 hI (by simp [toldOf, h16]))
        have h16' : ¬ (i : Int) + 1 = 16 := by omega
        clear HB0 HB1 hI
        go_enter Try.func54, Try.ntmps54
        go_wp2_with fail
        go_ret
        exact HF.out
    · have he' : (er != 0) = true := by simp [he]
      have HF := hide (HB0.out (by simp [idleOf, he]))
      clear HB0 HB1
      go_enter Try.func54, Try.ntmps54
      go_wp2_with fail
      go_ret
      exact HF.out

set_option maxHeartbeats 400000 in
theorem end_any (g : Nat) (er : Int) (v : Value) (W : World) (h : W.cell? ⟨g, 2, none⟩ = some v) (hf : W.frozen? ⟨g, 2, none⟩ = false) :
    Calls Try.prog 37 #[.pointer (some ⟨g, 0, none⟩), .int .i64 er] W fun e W' => e = .returned (.int .i64 er) ∧ W' = W.setCell ⟨g, 2, none⟩ (.int .i64 er) := by
  go_enter Try.func37, Try.ntmps37
  go_wp2_with fail
  go_ret
  exact ⟨rfl, rfl⟩
set_option maxHeartbeats 400000 in
theorem sat_any (g : Nat) (x : Int) (W : World) (h : W.cell? ⟨g, 0, none⟩ = some (.int .i64 x)) :
    Calls Try.prog 16 #[.pointer (some ⟨g, 0, none⟩)] W fun e W' => e = .returned (.int .i64 x) ∧ W' = W := by
  go_enter Try.func16, Try.ntmps16
  go_wp2_with fail
  go_ret
  exact ⟨rfl, rfl⟩
set_option maxHeartbeats 400000 in
theorem serr_any (g : Nat) (x : Int) (W : World) (h : W.cell? ⟨g, 2, none⟩ = some (.int .i64 x)) :
    Calls Try.prog 31 #[.pointer (some ⟨g, 0, none⟩)] W fun e W' => e = .returned (.int .i64 x) ∧ W' = W := by
  go_enter Try.func31, Try.ntmps31
  go_wp2_with fail
  go_ret
  exact ⟨rfl, rfl⟩

end Go.Proofs.Ytjcanghffhpncaa
