/- bytes.Clone. -/
import Derived.Test.YtepjblmjjegpgaaGreatW7
import Derived.Test.YtepjblmjjegpgaaGreatW5
import Derived.Lib.Bytes
import Derived.Lib.SliceRun
namespace Go.Proofs.YtepjblmjjegpgaaGreat
open Go.RowKit
set_option maxRecDepth 100000

theorem infoByte' : (Tryz.prog.info? 5).map (fun i => (i.zero, i.size, i.bytes)) = some (some (.int .u8 0), 1, 1) := by kernel_rfl
set_option maxHeartbeats 800000 in
theorem bclone_some (x : Addr) (len cap : Nat) (zs : List Int) (w : World) (hl : zs.length = len) (hm : len ≤ 140737488355328) (hr : Row w .u8 (some x) zs) :
    Calls Tryz.prog 63 #[.slice (some x) len cap] w fun e w' => ∃ v, e = .returned v ∧ OwnB w' w.heap.size 5 v zs ∧ Below w.heap.size w w' := by
  obtain ⟨i0, hi, hz0, hz1, hz2⟩ := info_parts infoByte'
  have HR := hide hr
  clear hr
  have qn : ∀ w : World, (binOp .eql 23 (.slice (some x) len cap) (.slice none 0 0)).run Tryz.prog w = .ok (.bool false) w := fun w => Lib.run_eql_slice_nil w _ _ _ _ _ _ _ Tryz.underlying23
  go_enter Tryz.func63, Tryz.ntmps63
  go_wp2_with (first
    | (at_builtin; refine append_b rfl (.tmp 5) (.tmp 6) 23 rfl w.heap.size 5 i0 Tryz.underlying23 hi hz0 hz1 hz2 (.slice (some ⟨w.heap.size, 0, none⟩) 0 0) [] rfl (OwnB.made #[] 0 (Nat.le_refl _) (by unfold maxLen; omega) rfl (by intro u hu; cases hu)) (some x) len cap zs rfl hl (by intro h; cases h) (HR.out.alloc _) (by simp; omega) (by simp) ?_; intro v4 w4 hown4 hg4; simp only [List.nil_append] at hown4)
    | fail)
  go_ret
  exact ⟨v4, rfl, hown4, ((Below.refl _ _).alloc (Nat.le_refl _) _).grown hg4 (by simp) (fun k h => by cases h; exact Nat.le_refl _)⟩
set_option maxHeartbeats 400000 in
theorem bclone_nil (w : World) : Calls Tryz.prog 63 #[.slice none 0 0] w fun e w' => e = .returned (.slice none 0 0) ∧ w' = w := by
  have qn : ∀ w : World, (binOp .eql 23 (.slice none 0 0) (.slice none 0 0)).run Tryz.prog w = .ok (.bool true) w := fun w => Lib.run_eql_slice_nil w _ _ _ _ _ _ _ Tryz.underlying23
  go_enter Tryz.func63, Tryz.ntmps63
  go_wp2
  go_ret
  exact ⟨rfl, rfl⟩
theorem bclone_any (a : Option Addr) (len cap : Nat) (zs : List Int) (w : World) (hl : zs.length = len) (hm : len ≤ 140737488355328) (hn : a = none → len = 0 ∧ cap = 0) (hr : Row w .u8 a zs) :
    Calls Tryz.prog 63 #[.slice a len cap] w fun e w' => ∃ v, e = .returned v ∧ OwnB w' w.heap.size 5 v zs ∧ Below w.heap.size w w' := by
  cases a with
  | none =>
    obtain ⟨rfl, rfl⟩ := hn rfl
    obtain rfl : zs = [] := List.eq_nil_of_length_eq_zero hl
    exact (bclone_nil w).mono fun e w' ⟨h1, h2⟩ => ⟨_, h1, OwnB.nil _ _ _, by rw [h2]; exact Below.refl _ _⟩
  | some x =>
    exact bclone_some x len cap zs w hl hm hr

end Go.Proofs.YtepjblmjjegpgaaGreat
