/- Texts of one's own. -/
import Derived.Test.YtljnapejgjffjaaGreatH21
import Derived.Test.YtljnapejgjffjaaGreatH32
namespace Go.Proofs.YtljnapejgjffjaaGreat
open Go.ChangeShapes Go.WideShapes Go.ChangeAt Go.RowKit Go.Deep
set_option maxRecDepth 100000
theorem cfgI_of {H : Type} {enc : TypeId × Value → H} {W : World} {fuel : Nat} {a b c d e : Int} {y : DataW H × List MemPlace} (h : DataW.trod enc Tryz.prog W 0 (fun _ => true) true fuel 23 [.int .i64 a,.int .i64 b,.int .i64 c,.int .i64 d,.int .i64 e] = some y) : CfgI ⟨a,b,c,d,e⟩ := by
 obtain ⟨y0,y1,y2,y3,y4,n,hx1,hlen,g0,g1,g2,g3,g4⟩ := trod_struct5N Tryz.underlying23 h
 have e1 : Tryz.prog.cellsOf 3 = 1 := by kernel_rfl
 simp only [e1,List.drop_zero,List.drop_succ_cons,List.take_succ_cons,List.take_zero] at g0 g1 g2 g3 g4
 obtain ⟨a',ha,_,b0⟩ := DataW.trod_int Tryz.underlying3 g0
 obtain ⟨b',hb,_,b1⟩ := DataW.trod_int Tryz.underlying3 g1
 obtain ⟨c',hc,_,b2⟩ := DataW.trod_int Tryz.underlying3 g2
 obtain ⟨d',hd,_,b3⟩ := DataW.trod_int Tryz.underlying3 g3
 obtain ⟨e',he,_,b4⟩ := DataW.trod_int Tryz.underlying3 g4
 simp only [List.cons.injEq,Value.int.injEq,true_and,and_true] at ha hb hc hd he
 subst ha hb hc hd he
 intro x hx
 simp only [List.mem_cons,List.not_mem_nil,or_false] at hx
 rcases hx with rfl | rfl | rfl | rfl | rfl
 ·exact bounds_i64 b0
 ·exact bounds_i64 b1
 ·exact bounds_i64 b2
 ·exact bounds_i64 b3
 ·exact bounds_i64 b4
end Go.Proofs.YtljnapejgjffjaaGreat
