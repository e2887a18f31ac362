/- Texts of one's own. -/
import Derived.Test.YtealejbfloacpaaGreatRows
import Derived.Test.YtealejbfloacpaaGreatM1
import Derived.Test.YtealejbfloacpaaGreatM0
import Derived.Lib.BytesEntry
import Derived.Laws.Externs
import Derived.WalkKit
import Derived.WalkSpells
import Derived.WalkLawsBesides
import Derived.Deep.QuietTactic
import Derived.BigQuiet
import Derived.Lib.Bytes
import Derived.Lib.SliceRun
import Derived.Lib.SlBytesConst
namespace Go.Proofs.YtealejbfloacpaaGreat
open Go.RowKit
set_option maxRecDepth 100000
theorem row_none {w : World} {k : IntKind} {xs : List Int} (h : Row w k none xs) : xs = [] := by
 cases xs with
 | nil => rfl
 | cons x xs => obtain ⟨b, off, e, _⟩ := h 0 (by simp); cases e
theorem run_bytesRow {w : World} {a : Option Addr} {n : Nat} (c : Nat) {xs : List Int} (hl : xs.length = n) (hr : Row w .u8 a xs) : (Extern.Bytes.bytesOf (.slice a n c)).run Tryz.prog w = .ok (strOfNums xs) w := by
 cases a with
 | none => rw [row_none hr]; rfl
 | some ad =>
  have h := Lib.run_loadBytesX (P := Tryz.prog) w xs ad .empty (fun j x hj => hr.cells ad rfl j (.int .u8 x) (by rw [List.getElem?_map, hj]; rfl))
  rw [hl] at h
  have he : (⟨ByteArray.empty.data ++ (Lib.bytesOf xs).toArray⟩ : ByteArray) = strOfNums xs := by
   apply ByteArray.ext
   show (#[] : Array UInt8) ++ (Lib.bytesOf xs).toArray = (Lib.bytesOf xs).toArray
   simp
  rw [he] at h
  exact h
theorem run_compareRow {w : World} {a b : Option Addr} {l1 l2 : Nat} (c1 c2 : Nat) {xs ys : List Int} (h1 : xs.length = l1) (h2 : ys.length = l2) (r1 : Row w .u8 a xs) (r2 : Row w .u8 b ys) (b1 : B8 xs) (b2 : B8 ys) :
  (Extern.BytealgCompare.compare #[.slice a l1 c1, .slice b l2 c2]).run Tryz.prog w = .ok (.int .i64 (cmpI xs ys)) w := by
 change Sem.run Tryz.prog (do pure (goInt (Extern.BytealgCompare.cmp (← Extern.Bytes.bytesOf (.slice a l1 c1)) (← Extern.Bytes.bytesOf (.slice b l2 c2))))) w = _
 simp only [Sem.run_bind, Sem.run_pure, run_bytesRow c1 h1 r1, run_bytesRow c2 h2 r2, Result.andThen]
 rw [Lib.cmp_eq]
 show Result.ok (Value.int .i64 (Lib.compareBytes (Lib.bytesOf xs) (Lib.bytesOf ys))) w = _
 rw [cmpI_bytes xs ys b1 b2]
set_option maxHeartbeats 400000 in
theorem bcompare_any (a b : Option Addr) (l1 c1 l2 c2 : Nat) (xs ys : List Int) (w : World) (h1 : xs.length = l1) (h2 : ys.length = l2) (r1 : Row w .u8 a xs) (r2 : Row w .u8 b ys) (b1 : B8 xs) (b2 : B8 ys) :
  Calls Tryz.prog 199 #[.slice a l1 c1, .slice b l2 c2] w fun e w' => e = .returned (.int .i64 (cmpI xs ys)) ∧ w' = w := by
 have hrun := run_compareRow c1 c2 h1 h2 r1 r2 b1 b2
 clear r1 r2 b1 b2
 go_enter Tryz.func199, Tryz.ntmps199
 go_wp2
 rw [run_callFunc_extern Tryz.func218 (by kernel_rfl) (by kernel_rfl) (by kernel_rfl) (e := Extern.BytealgCompare.compare) (by kernel_rfl), hrun]
 simp only [Result.andThen]
 rw [Oper.upon_value]
 go_wp2
 go_ret
 exact ⟨rfl, rfl⟩
theorem cmpI_fits (a b : List Int) : -1 ≤ cmpI a b ∧ cmpI a b ≤ 1 := by
 rcases cmpI_range a b with h | h | h <;> omega
end Go.Proofs.YtealejbfloacpaaGreat
namespace Go.Proofs.YtealejbfloacpaaGreat
open Go.RowKit
set_option maxRecDepth 100000
theorem infoByte' : (Tryz.prog.info? 5).map (fun i => (i.zero, i.size, i.bytes)) = some (some (.int .u8 0), 1, 1) := by kernel_rfl
set_option maxHeartbeats 800000 in
theorem bclone_some (x : Addr) (len cap : Nat) (zs : List Int) (w : World) (hl : zs.length = len) (hm : len ≤ 140737488355328) (hr : Row w .u8 (some x) zs) :
  Calls Tryz.prog 65 #[.slice (some x) len cap] w fun e w' => ∃ v, e = .returned v ∧ OwnB w' w.heap.size 5 v zs ∧ Below w.heap.size w w' := by
 obtain ⟨i0, hi, hz0, hz1, hz2⟩ := info_parts infoByte'
 have HR := hide hr
 clear hr
 have qn : ∀ w : World, (binOp .eql 23 (.slice (some x) len cap) (.slice none 0 0)).run Tryz.prog w = .ok (.bool false) w := fun w => Lib.run_eql_slice_nil w _ _ _ _ _ _ _ Tryz.underlying23
 go_enter Tryz.func65, Tryz.ntmps65
 go_wp2_with (first
  | (at_builtin; refine append_b rfl (.tmp 5) (.tmp 6) 23 rfl w.heap.size 5 i0 Tryz.underlying23 hi hz0 hz1 hz2 (.slice (some ⟨w.heap.size, 0, none⟩) 0 0) [] rfl (OwnB.made #[] 0 (Nat.le_refl _) (by unfold maxLen; omega) rfl (by intro u hu; cases hu)) (some x) len cap zs rfl hl (by intro h; cases h) (HR.out.alloc _) (by simp; omega) (by simp) ?_; intro v4 w4 hown4 hg4; simp only [List.nil_append] at hown4)
  | fail)
 go_ret
 exact ⟨v4, rfl, hown4, ((Below.refl _ _).alloc (Nat.le_refl _) _).grown hg4 (by simp) (fun k h => by cases h; exact Nat.le_refl _)⟩
set_option maxHeartbeats 400000 in
theorem bclone_nil (w : World) : Calls Tryz.prog 65 #[.slice none 0 0] w fun e w' => e = .returned (.slice none 0 0) ∧ w' = w := by
 have qn : ∀ w : World, (binOp .eql 23 (.slice none 0 0) (.slice none 0 0)).run Tryz.prog w = .ok (.bool true) w := fun w => Lib.run_eql_slice_nil w _ _ _ _ _ _ _ Tryz.underlying23
 go_enter Tryz.func65, Tryz.ntmps65
 go_wp2
 go_ret
 exact ⟨rfl, rfl⟩
theorem bclone_any (a : Option Addr) (len cap : Nat) (zs : List Int) (w : World) (hl : zs.length = len) (hm : len ≤ 140737488355328) (hn : a = none → len = 0 ∧ cap = 0) (hr : Row w .u8 a zs) :
  Calls Tryz.prog 65 #[.slice a len cap] w fun e w' => ∃ v, e = .returned v ∧ OwnB w' w.heap.size 5 v zs ∧ Below w.heap.size w w' := by
 cases a with
 | none =>
  obtain ⟨rfl, rfl⟩ := hn rfl
  obtain rfl : zs = [] := List.eq_nil_of_length_eq_zero hl
  exact (bclone_nil w).mono fun e w' ⟨h1, h2⟩ => ⟨_, h1, OwnB.nil _ _ _, by rw [h2]; exact Below.refl _ _⟩
 | some x =>
  exact bclone_some x len cap zs w hl hm hr
end Go.Proofs.YtealejbfloacpaaGreat
namespace Go.Proofs.YtealejbfloacpaaGreat
open Go.RowKit
set_option maxRecDepth 100000
theorem conv1 (w : World) (o : Obj) (C : Array Value) (n c : Nat) : (convert 23 23 (.slice (some ⟨w.heap.size + 1, 0, none⟩) n c)).run Tryz.prog ((w.alloc o).alloc (.cells C 5)) = .ok (.slice (some ⟨w.heap.size + 1, 0, none⟩) n c) ((w.alloc o).alloc (.cells C 5 (C.size, C.size + 1))) := by
 have := Lib.run_convert_bytes_const (P := Tryz.prog) (w.alloc o) 23 5 C n c Tryz.underlying23 Tryz.underlying5
 rwa [World.size_alloc] at this
theorem conv2 (w : World) (o o2 : Obj) (C : Array Value) (n c : Nat) : (convert 23 23 (.slice (some ⟨w.heap.size + 1 + 1, 0, none⟩) n c)).run Tryz.prog (((w.alloc o).alloc o2).alloc (.cells C 5)) = .ok (.slice (some ⟨w.heap.size + 1 + 1, 0, none⟩) n c) (((w.alloc o).alloc o2).alloc (.cells C 5 (C.size, C.size + 1))) := by
 have := conv1 (w.alloc o) o2 C n c
 rwa [World.size_alloc] at this
end Go.Proofs.YtealejbfloacpaaGreat
namespace Go.Proofs.YtealejbfloacpaaGreat
open Go.RowKit
set_option maxRecDepth 100000
def cutAt (k : Option Addr) (n c : Nat) : Option Addr := if c = n then k else k.map (·.add n)
end Go.Proofs.YtealejbfloacpaaGreat
