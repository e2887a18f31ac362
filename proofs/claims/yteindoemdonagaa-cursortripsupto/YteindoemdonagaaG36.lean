/- What came in: what is told to an Out (the Upto form). -/
import Derived.Test.YteindoemdonagaaG11
import Derived.Test.YteindoemdonagaaG33
import Derived.Test.YteindoemdonagaaRows
import Derived.WalkKit
import Derived.ProofKit
import Derived.OpenShut
import Derived.Below
import Derived.Deep.Grids
import Derived.Deep.Strs
namespace Go.Proofs.Yteindoemdonagaa
open Go.ChangeShapes Go.WideShapes Go.ChangeAt Go.RowKit Go.Deep

theorem bulk_oneL {H : Type} (d : DataW H) : 1 ≤ Rows.uptoBulk d := by
  cases d with
  | lit l => cases l <;> simp [Rows.uptoBulk]
  | nil => simp [Rows.uptoBulk]
  | ptr d => simp [Rows.uptoBulk]
  | slice elems spare => simp [Rows.uptoBulk]
  | agg parts => simp [Rows.uptoBulk]
  | iface t d => simp [Rows.uptoBulk]
  | map entries => simp [Rows.uptoBulk]
  | held h => simp [Rows.uptoBulk]
theorem bulk_lenL {H : Type} : ∀ l : List (DataW H), l.length ≤ Rows.uptoBulkAll l
  | [] => by simp
  | x :: r => by have := bulk_oneL x; have := bulk_lenL r; simp only [Rows.uptoBulkAll, List.length_cons]; omega
theorem bulk_appendL {H : Type} : ∀ l r : List (DataW H), Rows.uptoBulkAll (l ++ r) = Rows.uptoBulkAll l + Rows.uptoBulkAll r
  | [], r => by simp [Rows.uptoBulkAll]
  | x :: l, r => by
    have := bulk_appendL l r
    simp only [List.cons_append, Rows.uptoBulkAll]
    omega
theorem tot_bulkL {H : Type} (Lf : Nat → Nat) (D : Nat → DataW H) : ∀ n, (∀ i, i < n → Lf i ≤ Rows.uptoBulk (D i)) → tot Lf n ≤ Rows.uptoBulkAll ((List.range n).map D)
  | 0, _ => Nat.zero_le _
  | n + 1, h => by
    have h1 := tot_bulkL Lf D n (fun i hi => h i (by omega))
    have h2 := h n (by omega)
    rw [List.range_succ, List.map_append, bulk_appendL]
    simp only [tot, List.map_cons, List.map_nil, Rows.uptoBulkAll]
    omega

/-- What one step of a script holds. -/
def IsY {H : Type} (W : World) (a : Addr) (i : Nat) (d : DataW H) (q : Int × Option Addr × Nat × Nat × List Int) : Prop :=
  (∃ b o, a = ⟨b, o, none⟩ ∧ W.rangeAt b (o + i * 2) [.int .i64 q.1, .slice q.2.1 q.2.2.1 q.2.2.2.1]) ∧ (q.2.1 = none → q.2.2.1 = 0 ∧ q.2.2.2.1 = 0) ∧ q.2.2.2.2.length = q.2.2.1 ∧ Row W .u8 q.2.1 q.2.2.2.2 ∧ B8 q.2.2.2.2 ∧ q.2.2.1 ≤ Rows.uptoBulk d

end Go.Proofs.Yteindoemdonagaa
