/- Texts of one's own. -/
import Derived.Test.YtljnapejgjffjaaGreatH10
import Derived.Maps.OwnSet
namespace Go.Proofs.YtljnapejgjffjaaGreat
open Go.RowKit Go.MapKept Go.ChangeMaps
set_option maxRecDepth 100000
structure IM (W : World) (b : Nat) (E : List (Int × Value)) : Prop where
 e : ∃ es clock,W.heap[b]? = some (.map es clock) ∧ es.toList.map (fun e => (e.key,e.val)) = E.map (fun p => (Value.int .i64 p.1,p.2))
 nd : (E.map (·.1)).Nodup
def imAt (E : List (Int × Value)) (z : Int) : Option Value := (E.find? fun p => p.1 == z).map (·.2)
theorem imAt_none {E : List (Int × Value)} {z : Int} (h : z ∉ E.map (·.1)) : imAt E z = none := by
 unfold imAt
 rw [List.find?_eq_none.2 (fun p hp e => h (List.mem_map.2 ⟨p,hp,by simpa using e⟩))]
 rfl
theorem imAt_some : ∀ {E : List (Int × Value)} {z : Int} {v : Value},(E.map (·.1)).Nodup → (z,v) ∈ E → imAt E z = some v
 | (y,u) :: r,z,v,hn,hm => by
  rw [List.map_cons,List.nodup_cons] at hn
  unfold imAt
  rw [List.find?_cons]
  rcases List.mem_cons.1 hm with h | h
  ·cases h; simp
  ·have hne : y ≠ z := fun e => hn.1 (List.mem_map.2 ⟨(z,v),h,e.symm⟩)
   rw [show ((y,u).1 == z) = false from by simpa using hne]
   exact imAt_some hn.2 h
theorem imAt_mem {E : List (Int × Value)} {z : Int} {v : Value} (h : imAt E z = some v) : (z,v) ∈ E := by
 unfold imAt at h
 rw [Option.map_eq_some_iff] at h
 obtain ⟨p,h1,rfl⟩ := h
 have h2 := List.find?_some h1
 have h3 := List.mem_of_find?_eq_some h1
 have : p.1 = z := by simpa using h2
 rw [← this]; exact h3
section
variable {W W' : World} {b : Nat} {E : List (Int × Value)} {P : Program} {t k e : TypeId}
theorem IM.lt (h : IM W b E) : b < W.heap.size := by obtain ⟨es,cl,hb,_⟩ := h.e; exact lt_of_block hb
theorem IM.upd {S : Nat → Prop} (h : IM W b E) (hu : Upd S W W') (hs : ¬ S b) : IM W' b E := by
 obtain ⟨es,cl,hb,he⟩ := h.e
 exact ⟨⟨es,cl,hu.heap hb hs,he⟩,h.nd⟩
theorem IM.below (h : IM W b E) (hb : Below W.heap.size W W') : IM W' b E := h.upd (S := Noth) (Upd.of_below hb _) (fun e => e)
theorem IM.new (W : World) : IM (W.alloc (.map #[] 0)) W.heap.size [] := ⟨⟨#[],0,heap_alloc_new W _,rfl⟩,List.nodup_nil⟩
theorem IM.isKey {es : Array MapEntry} (h : es.toList.map (fun (e : MapEntry) => (e.key,e.val)) = E.map (fun p => (Value.int .i64 p.1,p.2))) : ∀ x ∈ es.toList,∃ z,x.key = .int .i64 z ∧ (z,x.val) ∈ E := by
 intro x hx
 have : (x.key,x.val) ∈ E.map (fun p => (Value.int .i64 p.1,p.2)) := by rw [← h]; exact List.mem_map.2 ⟨x,hx,rfl⟩
 obtain ⟨p,hp,e1⟩ := List.mem_map.1 this
 simp only [Prod.mk.injEq] at e1
 exact ⟨p.1,e1.1.symm,by rw [← e1.2]; exact hp⟩
theorem IM.find (h : IM W b E) (hk : P.underlying k = some (.int .i64)) (z : Int) : ∃ es cl,W.heap[b]? = some (.map es cl) ∧ es.toList.map (fun e => (e.key,e.val)) = E.map (fun p => (Value.int .i64 p.1,p.2)) ∧
  ((z ∉ E.map (·.1) ∧ (Instr.findKey k (.int .i64 z) es.toList).run P W = .ok none W) ∨ ∃ j v,(z,v) ∈ E ∧ (Instr.findKey k (.int .i64 z) es.toList).run P W = .ok (some (j,v)) W) := by
 obtain ⟨es,cl,hb,he⟩ := h.e
 refine ⟨es,cl,hb,he,?_⟩
 have hks : ∀ x ∈ es.toList,IsKey (.int .i64) x.key := fun x hx => by
  obtain ⟨y,hy,_⟩ := IM.isKey he x hx
  rw [hy]; rfl
 rcases findNow_spec (d := .int .i64) (k := .int .i64 z) (show IsKey (.int .i64) (.int .i64 z) from (rfl : IntKind.i64 = IntKind.i64)) es.toList 0 hks with ⟨h1,h2⟩ | ⟨j,e0,h1,h2,h3⟩
 ·refine .inl ⟨fun hm => ?_,run_findKey hk h1⟩
  obtain ⟨p,hp,rfl⟩ := List.mem_map.1 hm
  have : (Value.int .i64 p.1,p.2) ∈ es.toList.map (fun e => (e.key,e.val)) := by rw [he]; exact List.mem_map.2 ⟨p,hp,rfl⟩
  obtain ⟨x,hx,e1⟩ := List.mem_map.1 this
  simp only [Prod.mk.injEq] at e1
  exact h2 x hx e1.1
 ·obtain ⟨y,hy,hm⟩ := IM.isKey he e0 (List.mem_of_getElem? h2)
  rw [h3] at hy
  cases hy
  exact .inr ⟨0 + j,e0.val,hm,run_findKey hk h1⟩
theorem IM.look (h : IM W b E) (ht : P.underlying t = some (.map k e)) (hk : P.underlying k = some (.int .i64)) {z0 : Value} (hz : (zeroValue e).run P W = .ok z0 W) (z : Int) (c : Bool) :
  (Instr.lookup t (.map (some b)) (.int .i64 z) c).run P W = .ok (if c then .tuple #[(imAt E z).getD z0,.bool (imAt E z).isSome] else (imAt E z).getD z0) W := by
 obtain ⟨es,cl,hb,he,h1⟩ := h.find hk z
 have hc2 : ∀ q,(Instr.checkKey q 10000 k (.int .i64 z)).run P W = .ok () W := fun q => run_checkKey hk (show IsKey (.int .i64) (.int .i64 z) from (rfl : IntKind.i64 = IntKind.i64)) _ 9999
 rcases h1 with ⟨h2,h3⟩ | ⟨j,v,h2,h3⟩
 ·rw [imAt_none h2]
  simp [Instr.lookup,run_underlying ht,MapKept.run_getObj_map hb,hc2,h3,hz,Result.andThen]
 ·rw [imAt_some h.nd h2]
  simp [Instr.lookup,run_underlying ht,MapKept.run_getObj_map hb,hc2,h3,Result.andThen]
theorem IM.len (h : IM W b E) (ht : P.underlying t = some (.map k e)) (ty : TypeId) : (Builtin.len_ #[t] ty #[.map (some b)]).run P W = .ok (.int .i64 (E.length : Nat)) W := by
 obtain ⟨es,cl,hb,he⟩ := h.e
 have : es.size = E.length := by have := congrArg List.length he; simpa using this
 rw [← this]
 simp [Builtin.len_,run_underlying ht,MapKept.run_getObj_map hb,goInt,Result.andThen]
theorem IM.store (h : IM W b E) (ht : P.underlying t = some (.map k e)) (hk : P.underlying k = some (.int .i64)) (z : Int) (v : Value) (hz : z ∉ E.map (·.1)) :
  ∃ w',(Instr.mapUpdate t (.map (some b)) (.int .i64 z) v).run P W = .ok () w' ∧ IM w' b (E ++ [(z,v)]) ∧ Upd (fun j => j = b) W w' := by
 obtain ⟨es,cl,hb,he,h1⟩ := h.find hk z
 have hc2 : ∀ q,(Instr.checkKey q 10000 k (.int .i64 z)).run P W = .ok () W := fun q => run_checkKey hk (show IsKey (.int .i64) (.int .i64 z) from (rfl : IntKind.i64 = IntKind.i64)) _ 9999
 rcases h1 with ⟨_,h3⟩ | ⟨j,u,h2,_⟩
 ·refine ⟨setBlock W b (.map (es.push ⟨.int .i64 z,v,cl⟩) (cl + 1)),?_,⟨⟨_,_,heap_setBlock_same hb _,?_⟩,?_⟩,⟨rfl,rfl,rfl,by simp [setBlock],fun j _ hj => heap_setBlock_other hb _ hj⟩⟩
  ·simp [Instr.mapUpdate,run_underlying ht,MapKept.run_getObj_map hb,hc2,h3,MapKept.run_setObj_map _ hb,Result.andThen,setBlock]
  ·rw [Array.toList_push,List.map_append,List.map_append,he]; rfl
  ·rw [List.map_append]
   refine List.nodup_append.2 ⟨h.nd,by simp,fun a ha c hc => ?_⟩
   rw [List.mem_singleton.1 hc]
   exact fun e => hz (by rw [show a = z from e] at ha; exact ha)
 ·exact absurd (List.mem_map.2 ⟨_,h2,rfl⟩) hz
end
end Go.Proofs.YtljnapejgjffjaaGreat
