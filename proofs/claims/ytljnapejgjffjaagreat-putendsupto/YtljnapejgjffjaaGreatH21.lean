/- Texts of one's own. -/
import Derived.Test.YtljnapejgjffjaaGreatH13
import Derived.Test.YtljnapejgjffjaaGreatH20
namespace Go.Proofs.YtljnapejgjffjaaGreat
open Go.ChangeShapes Go.WideShapes Go.ChangeAt Go.RowKit Go.Deep
set_option maxRecDepth 100000
theorem add_addA (a : Addr) (i j : Nat) : (a.add i).add j = a.add (i + j) := by
 unfold Addr.add
 by_cases h : i = 0
 ·simp [h]
 ·by_cases h' : j = 0
  ·simp [h,h']
  ·simp [h,h',Nat.add_assoc]
instance : Inhabited AOp := ⟨⟨0,0,0,0,false,Nd.zero⟩⟩
def AOp.cs (o : AOp) : List Value := [.int .i64 o.kind,.int .i64 o.a,.int .i64 o.b,.int .u64 (o.w : Nat),.bool o.ch,.int .i64 o.n.lv,o.n.hi.v,.int .i64 o.n.ri,o.n.ks.v,o.n.vs.v,o.n.cs.v]
theorem bulk_memU {H : Type} {d : DataW H} : ∀ {l : List (DataW H)},d ∈ l → Rows.uptoBulk d ≤ Rows.uptoBulkAll l
 | x :: l,hd => by
  simp only [Rows.uptoBulkAll]
  rcases List.mem_cons.1 hd with rfl | h
  ·omega
  ·have := bulk_memU h
   omega
theorem bulk_lenU {H : Type} : ∀ l : List (DataW H),l.length ≤ Rows.uptoBulkAll l
 | [] => Nat.zero_le _
 | x :: r => by have := bulk_one x; have := bulk_lenU r; simp only [Rows.uptoBulkAll,List.length_cons]; omega
theorem open_txU {H : Type} {enc : TypeId × Value → H} {W : World} {fuel : Nat} {v : Value} {y : DataW H × List MemPlace} (hwt : Rows.uptoBulk y.1 ≤ 1048576) (h : DataW.trod enc Tryz.prog W 0 (fun _ => true) true fuel 29 [v] = some y) :
  ∃ t : Tx,v = t.v ∧ t.Ok W := by
 obtain ⟨a',l',c',zs,hv,hr,hs⟩ := in_row Tryz.underlying29 Tryz.underlying5 (by kernel_rfl) h
 rw [show Tryz.prog.bytesOf 5 = 1 from by kernel_rfl] at hs
 have s1 := Nat.le_trans hs.2 hwt
 have hk := hr.hlen
 subst hk
 exact ⟨⟨a',c',zs⟩,hv,hr.row,hr.hnone,hr.hcap,wf_b8 hr.wf,by show zs.length ≤ _; omega⟩
end Go.Proofs.YtljnapejgjffjaaGreat
