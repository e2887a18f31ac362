/- Texts of one's own. -/
import Derived.Test.YtljnapejgjffjaaGreatH7
import Derived.Lib.BytesEntry
import Derived.Laws.Externs
import Derived.Test.YtljnapejgjffjaaGreatH6
namespace Go.Proofs.YtljnapejgjffjaaGreat
open Go.RowKit
set_option maxRecDepth 100000
theorem row_none {w : World} {k : IntKind} {xs : List Int} (h : Row w k none xs) : xs = [] := by
 cases xs with
 | nil => rfl
 | cons x xs => obtain ⟨b,off,e,_⟩ := h 0 (by simp); cases e
theorem run_bytesRow {w : World} {a : Option Addr} {n : Nat} (c : Nat) {xs : List Int} (hl : xs.length = n) (hr : Row w .u8 a xs) : (Extern.Bytes.bytesOf (.slice a n c)).run Tryz.prog w = .ok (strOfNums xs) w := by
 cases a with
 | none => rw [row_none hr]; rfl
 | some ad =>
  have h := Lib.run_loadBytesX (P := Tryz.prog) w xs ad .empty (fun j x hj => hr.cells ad rfl j (.int .u8 x) (by rw [List.getElem?_map,hj]; rfl))
  rw [hl] at h
  have he : (⟨ByteArray.empty.data ++ (Lib.bytesOf xs).toArray⟩ : ByteArray) = strOfNums xs := by
   apply ByteArray.ext
   show (#[] : Array UInt8) ++ (Lib.bytesOf xs).toArray = (Lib.bytesOf xs).toArray
   simp
  rw [he] at h
  exact h
theorem run_compareRow {w : World} {a b : Option Addr} {l1 l2 : Nat} (c1 c2 : Nat) {xs ys : List Int} (h1 : xs.length = l1) (h2 : ys.length = l2) (r1 : Row w .u8 a xs) (r2 : Row w .u8 b ys) (b1 : B8 xs) (b2 : B8 ys) :
  (Extern.BytealgCompare.compare #[.slice a l1 c1,.slice b l2 c2]).run Tryz.prog w = .ok (.int .i64 (cmpI xs ys)) w := by
 change Sem.run Tryz.prog (do pure (goInt (Extern.BytealgCompare.cmp (← Extern.Bytes.bytesOf (.slice a l1 c1)) (← Extern.Bytes.bytesOf (.slice b l2 c2))))) w = _
 simp only [Sem.run_bind,Sem.run_pure,run_bytesRow c1 h1 r1,run_bytesRow c2 h2 r2,Result.andThen]
 rw [Lib.cmp_eq]
 show Result.ok (Value.int .i64 (Lib.compareBytes (Lib.bytesOf xs) (Lib.bytesOf ys))) w = _
 rw [cmpI_bytes xs ys b1 b2]
set_option maxHeartbeats 400000 in
theorem bcompare_any (a b : Option Addr) (l1 c1 l2 c2 : Nat) (xs ys : List Int) (w : World) (h1 : xs.length = l1) (h2 : ys.length = l2) (r1 : Row w .u8 a xs) (r2 : Row w .u8 b ys) (b1 : B8 xs) (b2 : B8 ys) :
  Calls Tryz.prog 175 #[.slice a l1 c1,.slice b l2 c2] w fun e w' => e = .returned (.int .i64 (cmpI xs ys)) ∧ w' = w := by
 have hrun := run_compareRow c1 c2 h1 h2 r1 r2 b1 b2
 clear r1 r2 b1 b2
 go_enter Tryz.func175,Tryz.ntmps175
 go_wp2
 rw [run_callFunc_extern Tryz.func197 (by kernel_rfl) (by kernel_rfl) (by kernel_rfl) (e := Extern.BytealgCompare.compare) (by kernel_rfl),hrun]
 simp only [Result.andThen]
 rw [Oper.upon_value]
 go_wp2
 go_ret
 exact ⟨rfl,rfl⟩
def cutAt (k : Option Addr) (n c : Nat) : Option Addr := if c = n then k else k.map (·.add n)
end Go.Proofs.YtljnapejgjffjaaGreat
