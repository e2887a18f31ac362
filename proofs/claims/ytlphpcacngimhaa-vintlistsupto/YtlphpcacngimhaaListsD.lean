/- VintLists: its loop, in each round of which a range is left at the number that the document's Read tells. -/
import Derived.Test.YtlphpcacngimhaaListsC
namespace Go.Proofs.Ytlphpcacngimhaa
open Go.RowKit Go.Shelf
attribute [local go_sem] Oper.semAt_some

theorem ownFrom_imp {β : Type} {B : Nat} (p : β → Prop) {I : β → World → Prop} (h : OwnFrom B I) : OwnFrom B (fun s W => p s → I s W) := fun s X Y row hs hg hr hp => h s X Y row (hs hp) hg hr

set_option maxRecDepth 100000 in
/-- A frame of so many temporaries, one by one. -/
theorem frame_list (f : Nat → Value) : (#[f 0, f 1, f 2, f 3, f 4, f 5, f 6, f 7, f 8, f 9, f 10, f 11, f 12, f 13, f 14, f 15, f 16, f 17, f 18, f 19, f 20, f 21, f 22, f 23, f 24, f 25, f 26, f 27, f 28, f 29, f 30, f 31, f 32, f 33, f 34, f 35, f 36, f 37, f 38, f 39, f 40, f 41, f 42, f 43, f 44, f 45, f 46, f 47, f 48, f 49, f 50, f 51, f 52, f 53, f 54, f 55, f 56, f 57, f 58, f 59, f 60, f 61, f 62, f 63, f 64, f 65, f 66, f 67, f 68, f 69, f 70, f 71, f 72, f 73, f 74, f 75, f 76, f 77, f 78, f 79, f 80, f 81, f 82, f 83, f 84, f 85, f 86, f 87, f 88, f 89, f 90, f 91, f 92, f 93, f 94, f 95, f 96, f 97, f 98, f 99, f 100, f 101, f 102, f 103, f 104, f 105, f 106, f 107, f 108, f 109, f 110, f 111, f 112, f 113, f 114, f 115, f 116, f 117, f 118, f 119, f 120, f 121, f 122, f 123, f 124, f 125, f 126, f 127, f 128, f 129, f 130, f 131, f 132, f 133, f 134, f 135, f 136, f 137, f 138, f 139, f 140, f 141, f 142, f 143, f 144, f 145, f 146, f 147, f 148, f 149, f 150, f 151, f 152, f 153, f 154, f 155, f 156, f 157, f 158, f 159, f 160, f 161, f 162, f 163, f 164, f 165, f 166, f 167, f 168, f 169, f 170, f 171, f 172, f 173, f 174, f 175, f 176, f 177, f 178, f 179, f 180, f 181, f 182, f 183, f 184, f 185, f 186, f 187, f 188, f 189, f 190, f 191, f 192, f 193, f 194, f 195, f 196, f 197, f 198, f 199, f 200, f 201, f 202, f 203, f 204, f 205, f 206, f 207, f 208, f 209, f 210, f 211, f 212, f 213, f 214, f 215, f 216, f 217, f 218, f 219, f 220, f 221, f 222, f 223, f 224, f 225, f 226, f 227, f 228, f 229, f 230, f 231, f 232, f 233, f 234, f 235, f 236] : Array Value) = ((List.range 237).map f).toArray := rfl
theorem frame_of (t : Array Value) (hs : t.size = 237) : t = ((List.range 237).map fun i => t.getD i undef).toArray := by
  refine Array.ext (by simp [hs]) (fun i h1 h2 => ?_)
  simp [Array.getD, h1]

/-- What holds of the world all through the statement. -/
structure LW (a : Option Addr) (len cap : Nat) (zs : List Int) (most : Int) (w : World) (g : Nat) (X : World) : Prop where
  bel : Below w.heap.size w X
  lent : Lent X g zs
  b0 : Boxed X w.heap.size 23 (.slice a len cap)
  b1 : Boxed X (w.heap.size + 1) 3 (.int .i64 most)
  b2 : Boxed X (w.heap.size + 1 + 1) 4 (.bool false)

theorem LW.kx {a : Option Addr} {len cap : Nat} {zs : List Int} {most : Int} {w : World} {g : Nat} {X Y : World} {S : List Nat} (h : LW a len cap zs most w g X) (k : Kx S X Y) (hS : ∀ s ∈ S, w.heap.size + 1 + 1 < s ∧ s ≠ g) : LW a len cap zs most w g Y where
  bel := h.bel.trans (k.below (fun s hs => by have := hS s hs; omega) h.bel.size)
  lent := k.lent h.lent (fun e => (hS g e).2 rfl)
  b0 := k.box h.b0 (fun e => by have := hS _ e; omega)
  b1 := k.box h.b1 (fun e => by have := hS _ e; omega)
  b2 := k.box h.b2 (fun e => by have := hS _ e; omega)

/-- Behind the loop. -/
def LEnd (a : Option Addr) (len cap : Nat) (zs : List Int) (most : Int) (w : World) (g : Nat) (act : Act) (X : World) : Prop :=
  ∃ (f : Nat → Value) (ds : List Deferred), act = { tmps := #[f 0, f 1, .pointer (some ⟨w.heap.size, 0, none⟩), .pointer (some ⟨w.heap.size + 1, 0, none⟩), .pointer (some ⟨w.heap.size + 1 + 1, 0, none⟩), f 5, .slice (some ⟨g, 0, none⟩) len (len + 2), f 7, f 8, f 9, f 10, f 11, f 12, f 13, f 14, f 15, f 16, f 17, f 18, f 19, f 20, f 21, f 22, f 23, f 24, f 25, f 26, f 27, f 28, f 29, f 30, f 31, f 32, f 33, f 34, f 35, f 36, f 37, f 38, f 39, f 40, f 41, f 42, f 43, f 44, f 45, f 46, f 47, f 48, f 49, f 50, f 51, f 52, f 53, f 54, f 55, f 56, f 57, f 58, f 59, f 60, f 61, f 62, f 63, f 64, f 65, f 66, f 67, f 68, f 69, f 70, f 71, f 72, f 73, f 74, f 75, f 76, f 77, f 78, f 79, f 80, f 81, f 82, f 83, f 84, f 85, f 86, f 87, f 88, f 89, f 90, f 91, f 92, f 93, f 94, f 95, f 96, f 97, f 98, f 99, f 100, f 101, f 102, f 103, f 104, f 105, f 106, f 107, f 108, f 109, f 110, f 111, f 112, f 113, f 114, f 115, f 116, f 117, f 118, f 119, f 120, f 121, f 122, f 123, f 124, f 125, f 126, f 127, f 128, f 129, f 130, f 131, f 132, f 133, f 134, f 135, f 136, f 137, f 138, f 139, f 140, f 141, f 142, f 143, f 144, f 145, f 146, f 147, f 148, f 149, f 150, f 151, f 152, f 153, f 154, f 155, f 156, f 157, f 158, f 159, f 160, f 161, f 162, f 163, f 164, f 165, f 166, f 167, f 168, f 169, f 170, f 171, f 172, f 173, f 174, f 175, f 176, f 177, f 178, f 179, f 180, f 181, f 182, f 183, f 184, f 185, f 186, f 187, f 188, f 189, f 190, f 191, f 192, f 193, f 194, f 195, f 196, f 197, f 198, f 199, f 200, f 201, f 202, f 203, f 204, f 205, f 206, f 207, f 208, f 209, f 210, f 211, f 212, f 213, f 214, f 215, f 216, f 217, f 218, f 219, f 220, f 221, f 222, f 223, f 224, f 225, f 226, f 227, f 228, f 229, f 230, f 231, f 232, f 233, f 234, f 235, f 236], defers := ds } ∧ Marks w.heap.size ds X ∧ LW a len cap zs most w g X

/-- Ahead of a round that has c numbers behind it. -/
def LAt (a : Option Addr) (len cap : Nat) (zs : List Int) (most : Int) (w : World) (g : Nat) (c : Nat) (act : Act) (X : World) : Prop :=
  ∃ (f : Nat → Value) (ds : List Deferred) (Bc Bi : Nat), act = { tmps := #[f 0, f 1, .pointer (some ⟨w.heap.size, 0, none⟩), .pointer (some ⟨w.heap.size + 1, 0, none⟩), .pointer (some ⟨w.heap.size + 1 + 1, 0, none⟩), f 5, .slice (some ⟨g, 0, none⟩) len (len + 2), f 7, f 8, f 9, f 10, f 11, f 12, f 13, f 14, f 15, f 16, f 17, .pointer (some ⟨Bc, 0, none⟩), .pointer (some ⟨Bi, 0, none⟩), f 20, f 21, f 22, f 23, f 24, f 25, f 26, f 27, f 28, f 29, f 30, f 31, f 32, f 33, f 34, f 35, f 36, f 37, f 38, f 39, f 40, f 41, f 42, f 43, f 44, f 45, f 46, f 47, f 48, f 49, f 50, f 51, f 52, f 53, f 54, f 55, f 56, f 57, f 58, f 59, f 60, f 61, f 62, f 63, f 64, f 65, f 66, f 67, f 68, f 69, f 70, f 71, f 72, f 73, f 74, f 75, f 76, f 77, f 78, f 79, f 80, f 81, f 82, f 83, f 84, f 85, f 86, f 87, f 88, f 89, f 90, f 91, f 92, f 93, f 94, f 95, f 96, f 97, f 98, f 99, f 100, f 101, f 102, f 103, f 104, f 105, f 106, f 107, f 108, f 109, f 110, f 111, f 112, f 113, f 114, f 115, f 116, f 117, f 118, f 119, f 120, f 121, f 122, f 123, f 124, f 125, f 126, f 127, f 128, f 129, f 130, f 131, f 132, f 133, f 134, f 135, f 136, f 137, f 138, f 139, f 140, f 141, f 142, f 143, f 144, f 145, f 146, f 147, f 148, f 149, f 150, f 151, f 152, f 153, f 154, f 155, f 156, f 157, f 158, f 159, f 160, f 161, f 162, f 163, f 164, f 165, f 166, f 167, f 168, f 169, f 170, f 171, f 172, f 173, f 174, f 175, f 176, f 177, f 178, f 179, f 180, f 181, f 182, f 183, f 184, f 185, f 186, f 187, f 188, f 189, f 190, f 191, f 192, f 193, f 194, f 195, f 196, f 197, f 198, f 199, f 200, f 201, f 202, f 203, f 204, f 205, f 206, f 207, f 208, f 209, f 210, f 211, f 212, f 213, f 214, f 215, f 216, f 217, f 218, f 219, f 220, f 221, f 222, f 223, f 224, f 225, f 226, f 227, f 228, f 229, f 230, f 231, f 232, f 233, f 234, f 235, f 236], defers := ds } ∧ Marks w.heap.size ds X ∧ LW a len cap zs most w g X ∧
    Boxed X Bc 3 (.int .i64 (c : Int)) ∧ Boxed X Bi 3 (.int .i64 (pos zs c : Int)) ∧ w.heap.size + 1 + 1 < Bc ∧ g < Bc ∧ Bc < Bi ∧ c ≤ (seq zs).length ∧ c ≤ 20

theorem getD_of {t : Array Value} {i : Nat} {v : Value} (h : t[i]? = some v) : t.getD i undef = v := by
  rw [Array.getD_eq_getD_getElem?, h]; rfl

theorem LEnd.mk {a : Option Addr} {len cap : Nat} {zs : List Int} {most : Int} {w : World} {g : Nat} {X : World} {t : Array Value} {ds : List Deferred} (hs : t.size = 237)
    (h2 : t[2]? = some (.pointer (some ⟨w.heap.size, 0, none⟩))) (h3 : t[3]? = some (.pointer (some ⟨w.heap.size + 1, 0, none⟩))) (h4 : t[4]? = some (.pointer (some ⟨w.heap.size + 1 + 1, 0, none⟩))) (h6 : t[6]? = some (.slice (some ⟨g, 0, none⟩) len (len + 2)))
    (hm : Marks w.heap.size ds X) (hw : LW a len cap zs most w g X) : LEnd a len cap zs most w g { tmps := t, defers := ds } X := by
  refine ⟨fun i => t.getD i undef, ds, ?_, hm, hw⟩
  rw [Act.mk.injEq]
  refine ⟨(frame_of t hs).trans ((frame_list fun i => t.getD i undef).symm.trans ?_), rfl⟩
  rw [getD_of h2, getD_of h3, getD_of h4, getD_of h6]

theorem LAt.mk {a : Option Addr} {len cap : Nat} {zs : List Int} {most : Int} {w : World} {g : Nat} {X : World} {t : Array Value} {ds : List Deferred} {c Bc Bi : Nat} (hs : t.size = 237)
    (h2 : t[2]? = some (.pointer (some ⟨w.heap.size, 0, none⟩))) (h3 : t[3]? = some (.pointer (some ⟨w.heap.size + 1, 0, none⟩))) (h4 : t[4]? = some (.pointer (some ⟨w.heap.size + 1 + 1, 0, none⟩))) (h6 : t[6]? = some (.slice (some ⟨g, 0, none⟩) len (len + 2)))
    (h18 : t[18]? = some (.pointer (some ⟨Bc, 0, none⟩))) (h19 : t[19]? = some (.pointer (some ⟨Bi, 0, none⟩)))
    (hm : Marks w.heap.size ds X) (hw : LW a len cap zs most w g X) (bc : Boxed X Bc 3 (.int .i64 (c : Int))) (bi : Boxed X Bi 3 (.int .i64 (pos zs c : Int))) (o1 : w.heap.size + 1 + 1 < Bc) (o2 : g < Bc) (o3 : Bc < Bi) (o4 : c ≤ (seq zs).length) (o5 : c ≤ 20) :
    LAt a len cap zs most w g c { tmps := t, defers := ds } X := by
  refine ⟨fun i => t.getD i undef, ds, Bc, Bi, ?_, hm, hw, bc, bi, o1, o2, o3, o4, o5⟩
  rw [Act.mk.injEq]
  refine ⟨(frame_of t hs).trans ((frame_list fun i => t.getD i undef).symm.trans ?_), rfl⟩
  rw [getD_of h2, getD_of h3, getD_of h4, getD_of h6, getD_of h18, getD_of h19]

end Go.Proofs.Ytlphpcacngimhaa
