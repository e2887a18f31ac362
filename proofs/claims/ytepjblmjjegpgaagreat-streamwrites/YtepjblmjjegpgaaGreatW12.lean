/- What came in: rows of integers, entries. -/
import Derived.Test.YtepjblmjjegpgaaGreatRows
import Derived.Test.YtepjblmjjegpgaaGreatW3
import Derived.WalkKit
import Derived.ProofKit
import Derived.OpenShut
import Derived.Below
import Derived.Deep.Grids
import Derived.Deep.Strs
import Derived.SizedLaws
namespace Go.Proofs.YtepjblmjjegpgaaGreat
open Go.ChangeShapes Go.WideShapes Go.ChangeAt Go.RowKit Go.Deep

theorem bulk_one {H : Type} (d : DataW H) : 1 ≤ Rows.uptoBulk d := by
  cases d with
  | lit l => cases l <;> simp [Rows.uptoBulk]
  | nil => simp [Rows.uptoBulk]
  | ptr d => simp [Rows.uptoBulk]
  | slice elems spare => simp [Rows.uptoBulk]
  | agg parts => simp [Rows.uptoBulk]
  | iface t d => simp [Rows.uptoBulk]
  | map entries => simp [Rows.uptoBulk]
  | held h => simp [Rows.uptoBulk]
theorem bulk_len {H : Type} : ∀ l : List (DataW H), l.length ≤ Rows.uptoBulkAll l
  | [] => by simp
  | x :: r => by have := bulk_one x; have := bulk_len r; simp only [Rows.uptoBulkAll, List.length_cons]; omega

/-- A slice of integers that came in. -/
structure InRow (W : World) (k : IntKind) (a : Option Addr) (len cap : Nat) (zs : List Int) : Prop where
  hlen : zs.length = len
  hcap : len ≤ cap
  hnone : a = .none → len = 0 ∧ cap = 0
  row : Row W k a zs
  wf : ∀ x ∈ zs, (Lit.int k x).wf = true
/-- Of what size its datum is. -/
def Sz {H : Type} (P : Program) (t : TypeId) (d : DataW H) (n bytes : Nat) : Prop := (∀ L, (DataW.weights P t d).all (· ≤ L) = true → n * bytes ≤ L) ∧ n ≤ Rows.uptoBulk d

theorem in_row {H : Type} {enc : TypeId × Value → H} {P : Program} {W : World} {fuel : Nat} {t e : TypeId} {k : IntKind} {v : Value} {y : DataW H × List MemPlace} (ht : P.underlying t = some (.slice e)) (he : P.underlying e = some (.int k)) (hc : P.cellsOf e = 1)
    (h : DataW.trod enc P W 0 (fun _ => true) true fuel t [v] = some y) : ∃ a len cap zs, v = .slice a len cap ∧ InRow W k a len cap zs ∧ Sz P t y.1 len (P.bytesOf e) := by
  rcases open_ints ht he hc h with ⟨hcs, hy⟩ | ⟨x, l, c, zs, hcs, _, hl, hm, hz, hy, hcl, hwz⟩
  · simp only [List.cons.injEq, and_true] at hcs
    exact ⟨none, 0, 0, [], hcs, ⟨rfl, Nat.le_refl _, fun _ => ⟨rfl, rfl⟩, row_nil _ _ _, fun x hx => by cases hx⟩, fun L _ => by simp, Nat.zero_le _⟩
  · simp only [List.cons.injEq, and_true] at hcs
    simp only [if_true] at hz
    have hrt := row_take hl hz hcl
    refine ⟨some x, l, c, zs.take l, hcs, ⟨hrt.1, hl, (fun h => by cases h), hrt.2, fun x hx => hwz x (List.mem_of_mem_take hx)⟩, fun L hL => ?_, ?_⟩
    · rw [hy] at hL
      simp only [DataW.weights, ht, List.all_cons, Bool.and_eq_true, decide_eq_true_eq, lits, List.length_map, List.length_take, List.length_drop] at hL
      refine Nat.le_trans (Nat.mul_le_mul_right _ ?_) hL.1
      omega
    · rw [hy]
      have hb1 := bulk_len (H := H) (lits k (zs.take l))
      simp only [lits, List.length_map, hrt.1] at hb1
      simp only [Rows.uptoBulk, lits]
      omega

theorem trod_struct4 {H : Type} {enc : TypeId × Value → H} {P : Program} {w : World} {base : Nat} {spare : Nat → Bool} {held : Bool} {t : TypeId} {f0 f1 f2 f3 : Field} {fuel : Nat} {cs : List Value} {x : DataW H × List MemPlace} (ht : P.underlying t = some (.struct #[f0, f1, f2, f3])) (h : DataW.trod enc P w base spare held fuel t cs = some x) :
    ∃ y0 y1 y2 y3 n, x.1 = .agg [y0.1, y1.1, y2.1, y3.1] ∧ cs.length = P.cellsOf t ∧ DataW.trod enc P w base spare held n f0.type ((cs.drop f0.offset).take (P.cellsOf f0.type)) = some y0 ∧
      DataW.trod enc P w base spare held n f1.type ((cs.drop f1.offset).take (P.cellsOf f1.type)) = some y1 ∧ DataW.trod enc P w base spare held n f2.type ((cs.drop f2.offset).take (P.cellsOf f2.type)) = some y2 ∧ DataW.trod enc P w base spare held n f3.type ((cs.drop f3.offset).take (P.cellsOf f3.type)) = some y3 := by
  obtain ⟨xs, n, _, rfl, hl, hlen, hf⟩ := DataW.trod_struct ht h
  match xs, hlen with
  | [y0, y1, y2, y3], _ => exact ⟨y0, y1, y2, y3, n, by simp, hl, by simpa using hf 0 f0 rfl, by simpa using hf 1 f1 rfl, by simpa using hf 2 f2 rfl, by simpa using hf 3 f3 rfl⟩

set_option maxRecDepth 100000 in
/-- An entry that came in. -/
theorem open_entry {H : Type} {enc : TypeId × Value → H} {W : World} {fuel : Nat} {cs : List Value} {y : DataW H × List MemPlace} (h : DataW.trod enc Tryz.prog W 0 (fun _ => true) true fuel 38 cs = some y) :
    ∃ ka lk ck ks va lv cv vs, cs = [.slice ka lk ck, .slice va lv cv] ∧ InRow W .u8 ka lk ck ks ∧ InRow W .u8 va lv cv vs ∧ Sz Tryz.prog 38 y.1 lk 1 ∧ Sz Tryz.prog 38 y.1 lv 1 := by
  obtain ⟨y0, y1, n, hx, hlen, g0, g1⟩ := trod_struct2 Tryz.underlying38 h
  have e0 : Tryz.prog.cellsOf 23 = 1 := by kernel_rfl
  have e4 : Tryz.prog.cellsOf 38 = 2 := by kernel_rfl
  rw [e4] at hlen
  match cs, hlen with
  | [v0, v1], _ =>
    simp only [e0, List.drop_zero, List.drop_succ_cons, List.take_succ_cons, List.take_zero] at g0 g1
    obtain ⟨ka, lk, ck, ks, rfl, hk, sk⟩ := in_row Tryz.underlying23 Tryz.underlying5 (by kernel_rfl) g0
    obtain ⟨va, lv, cv, vs, rfl, hv, sv⟩ := in_row Tryz.underlying23 Tryz.underlying5 (by kernel_rfl) g1
    rw [show Tryz.prog.bytesOf 5 = 1 from by kernel_rfl] at sk sv
    have hx1 : y.1 = .agg [y0.1, y1.1] := by rw [hx]
    refine ⟨ka, lk, ck, ks, va, lv, cv, vs, rfl, hk, hv, ⟨fun L hL => sk.1 L ?_, ?_⟩, ⟨fun L hL => sv.1 L ?_, ?_⟩⟩
    · rw [hx1] at hL
      simp only [DataW.weights, Tryz.underlying38, List.map_cons, DataW.weightsEach, List.all_append, Bool.and_eq_true] at hL
      exact hL.1
    · rw [hx1]; have := sk.2; simp only [Rows.uptoBulk, Rows.uptoBulkAll]; omega
    · rw [hx1] at hL
      simp only [DataW.weights, Tryz.underlying38, List.map_cons, DataW.weightsEach, List.all_append, Bool.and_eq_true] at hL
      exact hL.2.1
    · rw [hx1]; have := sv.2; simp only [Rows.uptoBulk, Rows.uptoBulkAll]; omega
theorem wf_b8 {zs : List Int} (h : ∀ x ∈ zs, (Lit.int .u8 x).wf = true) : B8 zs := b8_mem h

end Go.Proofs.YtepjblmjjegpgaaGreat
