/- Texts of one's own. -/
import Derived.Test.YtggaipeojncipaaGreatG31
import Derived.Test.YtggaipeojncipaaGreatG20
namespace Go.Proofs.YtggaipeojncipaaGreat
open Go.ChangeShapes Go.WideShapes Go.ChangeAt Go.RowKit Go.Deep
set_option maxRecDepth 100000
theorem trod_struct6 {H : Type} {enc : TypeId × Value → H} {P : Program} {w : World} {base : Nat} {spare : Nat → Bool} {held : Bool} {t : TypeId} {f0 f1 f2 f3 f4 f5 : Field} {fuel : Nat} {cs : List Value} {x : DataW H × List MemPlace} (ht : P.underlying t = some (.struct #[f0, f1, f2, f3, f4, f5])) (h : DataW.trod enc P w base spare held fuel t cs = some x) :
  ∃ y0 y1 y2 y3 y4 y5 n, x.1 = .agg [y0.1, y1.1, y2.1, y3.1, y4.1, y5.1] ∧ cs.length = P.cellsOf t ∧ DataW.trod enc P w base spare held n f0.type ((cs.drop f0.offset).take (P.cellsOf f0.type)) = some y0 ∧
   DataW.trod enc P w base spare held n f1.type ((cs.drop f1.offset).take (P.cellsOf f1.type)) = some y1 ∧ DataW.trod enc P w base spare held n f2.type ((cs.drop f2.offset).take (P.cellsOf f2.type)) = some y2 ∧ DataW.trod enc P w base spare held n f3.type ((cs.drop f3.offset).take (P.cellsOf f3.type)) = some y3 ∧ DataW.trod enc P w base spare held n f4.type ((cs.drop f4.offset).take (P.cellsOf f4.type)) = some y4 ∧ DataW.trod enc P w base spare held n f5.type ((cs.drop f5.offset).take (P.cellsOf f5.type)) = some y5 := by
 obtain ⟨xs, n, _, rfl, hl, hlen, hf⟩ := DataW.trod_struct ht h
 match xs, hlen with
 | [y0, y1, y2, y3, y4, y5], _ => exact ⟨y0, y1, y2, y3, y4, y5, n, by simp, hl, by simpa using hf 0 f0 rfl, by simpa using hf 1 f1 rfl, by simpa using hf 2 f2 rfl, by simpa using hf 3 f3 rfl, by simpa using hf 4 f4 rfl, by simpa using hf 5 f5 rfl⟩
theorem add_addA (a : Addr) (i j : Nat) : (a.add i).add j = a.add (i + j) := by
 unfold Addr.add
 by_cases h : i = 0
 ·simp [h]
 ·by_cases h' : j = 0
  ·simp [h, h']
  ·simp [h, h', Nat.add_assoc]
instance : Inhabited AOp := ⟨⟨0, 0, 0, 0, false, Nd.zero⟩⟩
def AOp.cs (o : AOp) : List Value := [.int .i64 o.kind, .int .i64 o.a, .int .i64 o.b, .int .u64 (o.w : Nat), .bool o.ch, .int .i64 o.n.lv, o.n.hi.v, .int .i64 o.n.ri, o.n.ks.v, o.n.vs.v, o.n.cs.v]
theorem bulk_memU {H : Type} {d : DataW H} : ∀ {l : List (DataW H)}, d ∈ l → Rows.uptoBulk d ≤ Rows.uptoBulkAll l
 | x :: l, hd => by
  simp only [Rows.uptoBulkAll]
  rcases List.mem_cons.1 hd with rfl | h
  ·omega
  ·have := bulk_memU h
   omega
theorem bulk_lenU {H : Type} : ∀ l : List (DataW H), l.length ≤ Rows.uptoBulkAll l
 | [] => Nat.zero_le _
 | x :: r => by have := bulk_one x; have := bulk_lenU r; simp only [Rows.uptoBulkAll, List.length_cons]; omega
theorem open_txU {H : Type} {enc : TypeId × Value → H} {W : World} {fuel : Nat} {v : Value} {y : DataW H × List MemPlace} (hwt : Rows.uptoBulk y.1 ≤ 1048576) (h : DataW.trod enc Tryz.prog W 0 (fun _ => true) true fuel 30 [v] = some y) :
  ∃ t : Tx, v = t.v ∧ t.Ok W := by
 obtain ⟨a', l', c', zs, hv, hr, hs⟩ := in_row Tryz.underlying30 Tryz.underlying5 (by kernel_rfl) h
 rw [show Tryz.prog.bytesOf 5 = 1 from by kernel_rfl] at hs
 have s1 := Nat.le_trans hs.2 hwt
 have hk := hr.hlen
 subst hk
 exact ⟨⟨a', c', zs⟩, hv, hr.row, hr.hnone, hr.hcap, wf_b8 hr.wf, by show zs.length ≤ _; omega⟩
end Go.Proofs.YtggaipeojncipaaGreat
