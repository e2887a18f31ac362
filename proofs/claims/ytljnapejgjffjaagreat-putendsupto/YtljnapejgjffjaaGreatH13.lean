/- Texts of one's own. -/
import Derived.Test.YtljnapejgjffjaaGreatH9
import Derived.Test.YtljnapejgjffjaaGreatH12
import Derived.Deep.Slices
namespace Go.Proofs.YtljnapejgjffjaaGreat
open Go.ChangeShapes Go.WideShapes Go.ChangeAt Go.RowKit Go.Deep
set_option maxRecDepth 100000
theorem trod_struct5N {H : Type} {enc : TypeId × Value → H} {P : Program} {w : World} {base : Nat} {spare : Nat → Bool} {held : Bool} {t : TypeId} {f0 f1 f2 f3 f4 : Field} {fuel : Nat} {cs : List Value} {x : DataW H × List MemPlace} (ht : P.underlying t = some (.struct #[f0,f1,f2,f3,f4])) (h : DataW.trod enc P w base spare held fuel t cs = some x) :
  ∃ y0 y1 y2 y3 y4 n,x.1 = .agg [y0.1,y1.1,y2.1,y3.1,y4.1] ∧ cs.length = P.cellsOf t ∧ DataW.trod enc P w base spare held n f0.type ((cs.drop f0.offset).take (P.cellsOf f0.type)) = some y0 ∧
   DataW.trod enc P w base spare held n f1.type ((cs.drop f1.offset).take (P.cellsOf f1.type)) = some y1 ∧ DataW.trod enc P w base spare held n f2.type ((cs.drop f2.offset).take (P.cellsOf f2.type)) = some y2 ∧ DataW.trod enc P w base spare held n f3.type ((cs.drop f3.offset).take (P.cellsOf f3.type)) = some y3 ∧ DataW.trod enc P w base spare held n f4.type ((cs.drop f4.offset).take (P.cellsOf f4.type)) = some y4 := by
 obtain ⟨xs,n,_,rfl,hl,hlen,hf⟩ := DataW.trod_struct ht h
 match xs,hlen with
 | [y0,y1,y2,y3,y4],_ => exact ⟨y0,y1,y2,y3,y4,n,by simp,hl,by simpa using hf 0 f0 rfl,by simpa using hf 1 f1 rfl,by simpa using hf 2 f2 rfl,by simpa using hf 3 f3 rfl,by simpa using hf 4 f4 rfl⟩
theorem open_cfg {H : Type} {enc : TypeId × Value → H} {W : World} {fuel : Nat} {cs : List Value} {y : DataW H × List MemPlace} (h : DataW.trod enc Tryz.prog W 0 (fun _ => true) true fuel 23 cs = some y) :
  ∃ a b c d e : Int,cs = [.int .i64 a,.int .i64 b,.int .i64 c,.int .i64 d,.int .i64 e] := by
 obtain ⟨y0,y1,y2,y3,y4,n,hx1,hlen,g0,g1,g2,g3,g4⟩ := trod_struct5N Tryz.underlying23 h
 have e1 : Tryz.prog.cellsOf 3 = 1 := by kernel_rfl
 have e5 : Tryz.prog.cellsOf 23 = 5 := by kernel_rfl
 rw [e5] at hlen
 match cs,hlen with
 | [v0,v1,v2,v3,v4],_ =>
  simp only [e1,List.drop_zero,List.drop_succ_cons,List.take_succ_cons,List.take_zero] at g0 g1 g2 g3 g4
  obtain ⟨a,ha,_,_⟩ := DataW.trod_int Tryz.underlying3 g0
  obtain ⟨b,hb,_,_⟩ := DataW.trod_int Tryz.underlying3 g1
  obtain ⟨c,hc,_,_⟩ := DataW.trod_int Tryz.underlying3 g2
  obtain ⟨d,hd,_,_⟩ := DataW.trod_int Tryz.underlying3 g3
  obtain ⟨e,he,_,_⟩ := DataW.trod_int Tryz.underlying3 g4
  simp only [List.cons.injEq,and_true] at ha hb hc hd he
  exact ⟨a,b,c,d,e,by rw [ha,hb,hc,hd,he]⟩
end Go.Proofs.YtljnapejgjffjaaGreat
