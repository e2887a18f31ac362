/- Texts of one's own. -/
import Derived.Test.YtljnapejgjffjaaGreatH33
import Derived.Test.YtljnapejgjffjaaGreatH41
namespace Go.Proofs.YtljnapejgjffjaaGreat
open Go.ChangeShapes Go.WideShapes Go.ChangeAt Go.RowKit Go.Deep
set_option maxRecDepth 100000
theorem open_uenU {H : Type} {enc : TypeId × Value → H} {W : World} {fuel : Nat} {cs : List Value} {y : DataW H × List MemPlace} (hwt : Rows.uptoBulk y.1 ≤ 1048576) (h : DataW.trod enc Tryz.prog W 0 (fun _ => true) true fuel 48 cs = some y) :
  ∃ o : En,cs = EnC o ∧ o.1.Ok W ∧ o.2.Ok W := by
 obtain ⟨y0,y1,n,hx1,hlen,g0,g1⟩ := trod_struct2 Tryz.underlying48 h
 have e2 : Tryz.prog.cellsOf 29 = 1 := by kernel_rfl
 have e4 : Tryz.prog.cellsOf 48 = 2 := by kernel_rfl
 rw [e4] at hlen
 have hx2 : y.1 = .agg [y0.1,y1.1] := by rw [hx1]
 rw [hx2] at hwt
 simp only [Rows.uptoBulk,Rows.uptoBulkAll] at hwt
 match cs,hlen with
 | [v0,v1],_ =>
  simp only [e2,List.drop_zero,List.drop_succ_cons,List.take_succ_cons,List.take_zero] at g0 g1
  obtain ⟨k1,h3,o1⟩ := open_txU (by omega) g0
  obtain ⟨k2,h4,o2⟩ := open_txU (by omega) g1
  refine ⟨(k1,k2),?_,o1,o2⟩
  rw [h3,h4]
  rfl
instance : Inhabited Tx := ⟨⟨none,0,[]⟩⟩
theorem open_uensU {H : Type} {enc : TypeId × Value → H} {W : World} {fuel : Nat} {v : Value} {y : DataW H × List MemPlace} (hwt : Rows.uptoBulk y.1 ≤ 1048576)
  (h : DataW.trod enc Tryz.prog W 0 (fun _ => true) true fuel 35 [v] = some y) : ∃ a len cap,v = .slice a len cap ∧ ∃ L : List En,L.length = len ∧ UEns W a L ∧ len ≤ 1048576 := by
 rcases open_slice Tryz.underlying35 h with ⟨hcs,_⟩ | ⟨a,l,c,m,n,D,Pl,hcs,_,hl,hm,hmm,hx,hel⟩
 ·simp only [List.cons.injEq,and_true] at hcs
  exact ⟨none,0,0,hcs,[],rfl,⟨fun i hi => absurd hi (Nat.not_lt_zero i),fun x hx => (by cases hx)⟩,by omega⟩
 ·simp only [List.cons.injEq,and_true] at hcs
  simp only [if_true] at hmm
  subst hmm
  have e47 : Tryz.prog.cellsOf 48 = 2 := by kernel_rfl
  rw [hx] at hwt
  simp only [Rows.uptoBulk] at hwt
  have w1 : l ≤ 1048576 := by have := bulk_lenU ((List.range l).map D); simp only [List.length_map,List.length_range] at this; omega
  have hwD : ∀ i,i < l → Rows.uptoBulk (D i) ≤ 1048576 := fun i hi => by have := bulk_memU (List.mem_map.2 ⟨i,List.mem_range.2 hi,rfl⟩ : D i ∈ (List.range l).map D); omega
  obtain ⟨q,hq⟩ := choose_lt (α := En) (n := l) (p := fun i q => (∀ j v,(EnC q)[j]? = some v → W.cell? (a.add (i * 2 + j)) = some v) ∧ (q.1.Ok W ∧ q.2.Ok W)) (fun i hi => by
   obtain ⟨cs',h1,h2⟩ := hel i (by omega)
   rw [e47] at h1
   obtain ⟨_,hl3,hcell⟩ := World.cells?_some h1
   obtain ⟨qq,hcs,hok⟩ := open_uenU (hwD i hi) h2
   subst hcs
   refine ⟨qq,fun j v hv => ?_,hok⟩
   have hj : j < 2 := by
    have := (List.getElem?_eq_some_iff.1 hv).1
    simpa [EnC] using this
   have := hcell j hj
   rw [add_addA] at this
   rw [this,hv])
  obtain ⟨b,o,sp⟩ := a
  have hsp : 0 < l → sp = none := fun h0 => by simpa [Addr.add] using World.cell?_spot ((hq 0 h0).1 0 _ rfl)
  refine ⟨some ⟨b,o,sp⟩,l,m,hcs,(List.range l).map q,by simp,⟨fun i hi => ?_,fun x hx => ?_⟩,by omega⟩
  ·have hi' : i < l := by simpa using hi
   obtain ⟨h1,h2⟩ := hq i hi'
   obtain rfl := hsp (by omega)
   have f0 := h1 0 _ rfl
   have f1 := h1 1 _ rfl
   rw [Addr.add_lit] at f0 f1
   have e : ((List.range l).map q)[i] = q i := by rw [List.getElem_map,List.getElem_range]
   rw [e]
   exact ⟨b,o,rfl,World.block_lt_of_cell? W ⟨b,o + (i * 2 + 0),none⟩ f0,f0,f1⟩
  ·obtain ⟨i,hi,rfl⟩ := List.mem_map.1 hx
   exact (hq i (List.mem_range.1 hi)).2
end Go.Proofs.YtljnapejgjffjaaGreat
