/- Texts of one's own. -/
import Derived.Test.YtljnapejgjffjaaGreatRows
import Derived.Test.YtljnapejgjffjaaGreatH2
import Derived.ProofKit
import Derived.Below
import Derived.Deep.Grids
import Derived.Deep.Strs
import Derived.SizedLaws
namespace Go.Proofs.YtljnapejgjffjaaGreat
open Go.ChangeShapes Go.WideShapes Go.ChangeAt Go.RowKit Go.Deep
theorem bulk_one {H : Type} (d : DataW H) : 1 ≤ Rows.uptoBulk d := by
 cases d with
 | lit l => cases l <;> simp [Rows.uptoBulk]
 | nil => simp [Rows.uptoBulk]
 | ptr d => simp [Rows.uptoBulk]
 | slice elems spare => simp [Rows.uptoBulk]
 | agg parts => simp [Rows.uptoBulk]
 | iface t d => simp [Rows.uptoBulk]
 | map entries => simp [Rows.uptoBulk]
 | held h => simp [Rows.uptoBulk]
theorem bulk_len {H : Type} : ∀ l : List (DataW H),l.length ≤ Rows.uptoBulkAll l
 | [] => by simp
 | x :: r => by have := bulk_one x; have := bulk_len r; simp only [Rows.uptoBulkAll,List.length_cons]; omega
structure InRow (W : World) (k : IntKind) (a : Option Addr) (len cap : Nat) (zs : List Int) : Prop where
 hlen : zs.length = len
 hcap : len ≤ cap
 hnone : a = .none → len = 0 ∧ cap = 0
 row : Row W k a zs
 wf : ∀ x ∈ zs,(Lit.int k x).wf = true
def Sz {H : Type} (P : Program) (t : TypeId) (d : DataW H) (n bytes : Nat) : Prop := (∀ L,(DataW.weights P t d).all (· ≤ L) = true → n * bytes ≤ L) ∧ n ≤ Rows.uptoBulk d
theorem in_row {H : Type} {enc : TypeId × Value → H} {P : Program} {W : World} {fuel : Nat} {t e : TypeId} {k : IntKind} {v : Value} {y : DataW H × List MemPlace} (ht : P.underlying t = some (.slice e)) (he : P.underlying e = some (.int k)) (hc : P.cellsOf e = 1)
  (h : DataW.trod enc P W 0 (fun _ => true) true fuel t [v] = some y) : ∃ a len cap zs,v = .slice a len cap ∧ InRow W k a len cap zs ∧ Sz P t y.1 len (P.bytesOf e) := by
 rcases open_ints ht he hc h with ⟨hcs,hy⟩ | ⟨x,l,c,zs,hcs,_,hl,hm,hz,hy,hcl,hwz⟩
 ·simp only [List.cons.injEq,and_true] at hcs
  exact ⟨none,0,0,[],hcs,⟨rfl,Nat.le_refl _,fun _ => ⟨rfl,rfl⟩,row_nil _ _ _,fun x hx => by cases hx⟩,fun L _ => by simp,Nat.zero_le _⟩
 ·simp only [List.cons.injEq,and_true] at hcs
  simp only [if_true] at hz
  have hrt := row_take hl hz hcl
  refine ⟨some x,l,c,zs.take l,hcs,⟨hrt.1,hl,(fun h => by cases h),hrt.2,fun x hx => hwz x (List.mem_of_mem_take hx)⟩,fun L hL => ?_,?_⟩
  ·rw [hy] at hL
   simp only [DataW.weights,ht,List.all_cons,Bool.and_eq_true,decide_eq_true_eq,lits,List.length_map,List.length_take,List.length_drop] at hL
   refine Nat.le_trans (Nat.mul_le_mul_right _ ?_) hL.1
   omega
  ·rw [hy]
   have hb1 := bulk_len (H := H) (lits k (zs.take l))
   simp only [lits,List.length_map,hrt.1] at hb1
   simp only [Rows.uptoBulk,lits]
   omega
theorem wf_b8 {zs : List Int} (h : ∀ x ∈ zs,(Lit.int .u8 x).wf = true) : B8 zs := b8_mem h
end Go.Proofs.YtljnapejgjffjaaGreat
