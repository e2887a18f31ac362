/- bytes.Equal, bytes.Clone, Open. -/
import Derived.Test.YtepjblmjjegpgaaG16
import Derived.Laws.BytesArg
import Derived.Lib.Bytes
import Derived.Lib.SliceRun
import Derived.Deep.RegionHeld3
import Derived.Test.YtepjblmjjegpgaaG5
namespace Go.Proofs.Ytepjblmjjegpgaa
open Go.RowKit

theorem bytesOf_inj {xs ys : List Int} (hx : B8 xs) (hy : B8 ys) (h1 : Lib.bytesOf xs = Lib.bytesOf ys) : xs = ys := by
  unfold Lib.bytesOf at h1
  induction xs generalizing ys with
  | nil => cases ys with
    | nil => rfl
    | cons y ys => simp at h1
  | cons x xs ih => cases ys with
    | nil => simp at h1
    | cons y ys =>
      simp only [List.map_cons, List.cons.injEq] at h1
      have a := hx.head
      have b := hy.head
      have e := congrArg UInt8.toNat h1.1
      simp only [UInt8.toNat_ofNat'] at e
      have e2 : x = y := by omega
      rw [e2, ih hx.tail hy.tail h1.2]
theorem cconv_row {w : World} {a : Option Addr} {len : Nat} (cap : Nat) {zs : List Int} (hl : zs.length = len) (hr : Row w .u8 a zs) :
    (convert 25 9 (.slice a len cap)).run Try.prog w = .ok (.string (strOfNums zs)) w := by
  by_cases h0 : len = 0
  · subst h0
    obtain rfl : zs = [] := List.eq_nil_of_length_eq_zero hl
    rw [run_convert_bytes_string w 25 9 5 _ 0 cap Try.underlying25 Try.underlying5 Try.underlying9]
    cases a <;> simp [Conv.bytesToString, loadCells]
    all_goals rfl
  · obtain ⟨b, o, rfl, _, hc⟩ := hr.cons (by omega)
    exact run_convert_bytes_arg (P := Try.prog) w 25 5 Try.underlying25 Try.underlying5 b o len cap zs hl (by rw [← hl]; exact hc) 9 Try.underlying9

set_option maxHeartbeats 400000 in
theorem clone_some (b o len cap : Nat) (zs : List Int) (w : World) (hl : zs.length = len) (hm : len ≤ 140737488355328) (hr : Row w .u8 (some ⟨b, o, none⟩) zs) :
    Calls Try.prog 45 #[.slice (some ⟨b, o, none⟩) len cap] w fun e w' => ∃ v, e = .returned v ∧ OwnB w' w.heap.size 5 v zs ∧ Below w.heap.size w w' := by
  obtain ⟨i0, hi, hz0, hz1, hz2⟩ := info_parts infoByte
  have HR := hide hr
  clear hr
  have qn : ∀ w : World, (binOp .eql 25 (.slice (some ⟨b, o, none⟩) len cap) (.slice none 0 0)).run Try.prog w = .ok (.bool false) w := fun w => Lib.run_eql_slice_nil w _ _ _ _ _ _ _ Try.underlying25
  go_enter Try.func45, Try.ntmps45
  go_wp2_with (first
    | (at_builtin; refine append_b rfl (.tmp 5) (.tmp 6) 25 rfl w.heap.size 5 i0 Try.underlying25 hi hz0 hz1 hz2 (.slice (some ⟨w.heap.size, 0, none⟩) 0 0) [] rfl (OwnB.made #[] 0 (Nat.le_refl _) (by unfold maxLen; omega) rfl (by intro u hu; cases hu)) (some ⟨b, o, none⟩) len cap zs rfl hl (by intro h; cases h) (HR.out.alloc _) (by simp; omega) (by simp) ?_; intro v4 w4 hown4 hg4; simp only [List.nil_append] at hown4)
    | fail)
  go_ret
  exact ⟨v4, rfl, hown4, ((Below.refl _ _).alloc (Nat.le_refl _) _).grown hg4 (by simp) (fun k h => by cases h; exact Nat.le_refl _)⟩

/-! ### Open -/
def opErr (zs : List Int) : Int := if zs.length < 4 then 21 else if zs.drop (zs.length - 4) = spell (sumOf (zs.take (zs.length - 4))) then 0 else 22
def opVal (zs : List Int) : List Int := if opErr zs = 0 then zs.take (zs.length - 4) else []

end Go.Proofs.Ytepjblmjjegpgaa

namespace Go.Proofs.Ytepjblmjjegpgaa
open Go.RowKit

set_option maxHeartbeats 800000 in
theorem four_any (s : Nat) (w : World) (hs : s < 4294967296) :
    Calls Try.prog 88 #[.int .u32 s] w fun e w' => e = .returned (.slice (some ⟨w.heap.size, 0, none⟩) 4 4) ∧ w' = w.alloc (.cells ((spell s).map (Value.int .u8)).toArray 5) := by
  go_enter Try.func88, Try.ntmps88
  go_wp2
  go_ret
  refine ⟨rfl, ?_⟩
  have e : (#[.int .u8 ((s : Int) % 256), .int .u8 ((s : Int) / 256 % 256), .int .u8 ((s : Int) / 65536 % 256), .int .u8 ((s : Int) / 16777216)] : Array Value) = ((spell s).map (Value.int .u8)).toArray := by
    have h : (s : Int) / 16777216 = ((s / 16777216 % 256 : Nat) : Int) := by omega
    rw [h]
    rfl
  rw [e]

set_option maxHeartbeats 800000 in
theorem rseal_any (a : Option Addr) (len cap : Nat) (zs : List Int) (w : World) (hl : zs.length = len) (hm : len ≤ 140737488351232) (hnone : a = none → len = 0 ∧ cap = 0) (hr : Row w .u8 a zs) (h8 : B8 zs) :
    Calls Try.prog 73 #[.slice a len cap] w fun e w' => ∃ v, e = .returned v ∧ OwnB w' w.heap.size 5 v (zs ++ spell (sumOf zs)) ∧ Below w.heap.size w w' := by
  obtain ⟨i0, hi, hz0, hz1, hz2⟩ := info_parts infoByte
  have HR := hide hr
  have HN := hide hnone
  have hmx : len ≤ maxLen := by unfold maxLen; omega
  clear hr hnone
  have HSUM : Hid (∀ W, Row W .u8 a zs → Calls Try.prog 89 #[.slice a len cap] W fun e w' => e = .returned (.int .u32 (sumOf zs : Nat)) ∧ w' = W) := fun W h => rsum_any a len cap zs W hl hmx h h8
  have hslt := sumOf_lt zs
  generalize sumOf zs = s at *
  go_enter Try.func73, Try.ntmps73
  go_wp2_with (first
    | (at_builtin; refine append_b rfl (.tmp 3) (.tmp 4) 25 rfl w.heap.size 5 i0 Try.underlying25 hi hz0 hz1 hz2 (.slice (some ⟨w.heap.size, 0, none⟩) 0 0) [] rfl (OwnB.made #[] 0 (Nat.le_refl _) (by unfold maxLen; omega) rfl (by intro u hu; cases hu)) a len cap zs rfl hl HN.out (HR.out.alloc _) (by simp; omega) (by simp) ?_; intro v4 w4 hown4 hg4; simp only [List.nil_append] at hown4)
    | fail)
  have hb4 : Below w.heap.size w w4 := ((Below.refl _ _).alloc (Nat.le_refl _) _).grown hg4 (by simp) (fun k h => by cases h; exact Nat.le_refl _)
  refine keep (HSUM.out w4 (HR.out.below2 hb4)) ?_
  have HF := hide (four_any s w4 hslt)
  have HSR := hide (spell_row s w4)
  have HO4 := hide hown4
  clear hown4 hg4
  go_wp2_with fail
  refine HF.out.mono ?_
  rintro e w5 ⟨rfl, hw5⟩
  have hb5 : Below w4.heap.size w4 w5 := by rw [hw5]; exact (Below.refl _ _).alloc (Nat.le_refl _) _
  rw [← hw5] at HSR
  have hbw5 := hb4.trans (hb5.mono hb4.size)
  have HO5 := hide (HO4.out.below hb5)
  clear hw5
  go_wp2_with (first
    | (at_builtin; refine append_b rfl (.tmp 5) (.tmp 8) 25 rfl w.heap.size 5 i0 Try.underlying25 hi hz0 hz1 hz2 v4 zs rfl HO5.out (some ⟨w4.heap.size, 0, none⟩) 4 4 (spell s) rfl (spell_len s) (by intro h; cases h) HSR.out (by omega) hbw5.size ?_; intro v6 w6 hown6 hg6)
    | fail)
  go_ret
  exact ⟨v6, rfl, hown6, hbw5.grown hg6 hbw5.size (fun k h => (HO5.out.owns.lt k h).1)⟩

end Go.Proofs.Ytepjblmjjegpgaa
