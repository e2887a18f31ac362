/- bytes.Equal, bytes.Clone, Open. -/
import Derived.Test.YtepjblmjjegpgaaGreatW16
import Derived.Laws.BytesArg
import Derived.Lib.Bytes
import Derived.Lib.SliceRun
import Derived.Deep.RegionHeld3
import Derived.Test.YtepjblmjjegpgaaGreatW5
namespace Go.Proofs.YtepjblmjjegpgaaGreat
open Go.RowKit
set_option maxRecDepth 100000

theorem bytesOf_inj {xs ys : List Int} (hx : B8 xs) (hy : B8 ys) (h1 : Lib.bytesOf xs = Lib.bytesOf ys) : xs = ys := by
  unfold Lib.bytesOf at h1
  induction xs generalizing ys with
  | nil => cases ys with
    | nil => rfl
    | cons y ys => simp at h1
  | cons x xs ih => cases ys with
    | nil => simp at h1
    | cons y ys =>
      simp only [List.map_cons, List.cons.injEq] at h1
      have a := hx.head
      have b := hy.head
      have e := congrArg UInt8.toNat h1.1
      simp only [UInt8.toNat_ofNat'] at e
      have e2 : x = y := by omega
      rw [e2, ih hx.tail hy.tail h1.2]
theorem cconv_row {w : World} {a : Option Addr} {len : Nat} (cap : Nat) {zs : List Int} (hl : zs.length = len) (hr : Row w .u8 a zs) :
    (convert 23 9 (.slice a len cap)).run Tryz.prog w = .ok (.string (strOfNums zs)) w := by
  by_cases h0 : len = 0
  · subst h0
    obtain rfl : zs = [] := List.eq_nil_of_length_eq_zero hl
    rw [run_convert_bytes_string w 23 9 5 _ 0 cap Tryz.underlying23 Tryz.underlying5 Tryz.underlying9]
    cases a <;> simp [Conv.bytesToString, loadCells]
    all_goals rfl
  · obtain ⟨b, o, rfl, _, hc⟩ := hr.cons (by omega)
    exact run_convert_bytes_arg (P := Tryz.prog) w 23 5 Tryz.underlying23 Tryz.underlying5 b o len cap zs hl (by rw [← hl]; exact hc) 9 Tryz.underlying9

set_option maxHeartbeats 400000 in
theorem equal_any (a1 a2 : Option Addr) (l1 c1 l2 c2 : Nat) (xs ys : List Int) (w : World) (h1 : xs.length = l1) (h2 : ys.length = l2) (r1 : Row w .u8 a1 xs) (r2 : Row w .u8 a2 ys) (b1 : B8 xs) (b2 : B8 ys) :
    Calls Tryz.prog 173 #[.slice a1 l1 c1, .slice a2 l2 c2] w fun e w' => e = .returned (.bool (decide (xs = ys))) ∧ w' = w := by
  have k1 := cconv_row c1 h1 r1
  have k2 := cconv_row c2 h2 r2
  have HE : Hid (((strOfNums xs).toList == (strOfNums ys).toList) = decide (xs = ys)) := by
    show _ = _
    rw [Lib.strOfNums_toList, Lib.strOfNums_toList]
    by_cases h : xs = ys
    · subst h; simp
    · rw [decide_eq_false h, beq_eq_false_iff_ne]
      exact fun e => h (bytesOf_inj b1 b2 e)
  clear r1 r2
  go_enter Tryz.func173, Tryz.ntmps173
  go_wp2
  go_ret
  exact ⟨by rw [← HE.out]; rfl, rfl⟩

set_option maxHeartbeats 400000 in
theorem clone_some (b o len cap : Nat) (zs : List Int) (w : World) (hl : zs.length = len) (hm : len ≤ 140737488355328) (hr : Row w .u8 (some ⟨b, o, none⟩) zs) :
    Calls Tryz.prog 63 #[.slice (some ⟨b, o, none⟩) len cap] w fun e w' => ∃ v, e = .returned v ∧ OwnB w' w.heap.size 5 v zs ∧ Below w.heap.size w w' := by
  obtain ⟨i0, hi, hz0, hz1, hz2⟩ := info_parts infoByte
  have HR := hide hr
  clear hr
  have qn : ∀ w : World, (binOp .eql 23 (.slice (some ⟨b, o, none⟩) len cap) (.slice none 0 0)).run Tryz.prog w = .ok (.bool false) w := fun w => Lib.run_eql_slice_nil w _ _ _ _ _ _ _ Tryz.underlying23
  go_enter Tryz.func63, Tryz.ntmps63
  go_wp2_with (first
    | (at_builtin; refine append_b rfl (.tmp 5) (.tmp 6) 23 rfl w.heap.size 5 i0 Tryz.underlying23 hi hz0 hz1 hz2 (.slice (some ⟨w.heap.size, 0, none⟩) 0 0) [] rfl (OwnB.made #[] 0 (Nat.le_refl _) (by unfold maxLen; omega) rfl (by intro u hu; cases hu)) (some ⟨b, o, none⟩) len cap zs rfl hl (by intro h; cases h) (HR.out.alloc _) (by simp; omega) (by simp) ?_; intro v4 w4 hown4 hg4; simp only [List.nil_append] at hown4)
    | fail)
  go_ret
  exact ⟨v4, rfl, hown4, ((Below.refl _ _).alloc (Nat.le_refl _) _).grown hg4 (by simp) (fun k h => by cases h; exact Nat.le_refl _)⟩

/-! ### Open -/
def opErr (zs : List Int) : Int := if zs.length < 4 then 21 else if zs.drop (zs.length - 4) = spell (sumOf (zs.take (zs.length - 4))) then 0 else 22
def opVal (zs : List Int) : List Int := if opErr zs = 0 then zs.take (zs.length - 4) else []

set_option maxHeartbeats 400000 in
theorem open_short (a : Option Addr) (len cap : Nat) (w : World) (h : len < 4) :
    Calls Tryz.prog 160 #[.slice a len cap] w fun e w' => e = .returned (.tuple #[.slice none 0 0, .int .i64 21]) ∧ w' = w := by
  go_enter Tryz.func160, Tryz.ntmps160
  go_wp2
  go_ret2
  exact ⟨rfl, rfl⟩

set_option maxRecDepth 100000 in
set_option maxHeartbeats 1600000 in
theorem open_some (b o m cap : Nat) (zs : List Int) (w : World) (hl : zs.length = m + 4) (hc : m + 4 ≤ cap) (hm : m + 4 ≤ 140737488355328) (hr : Row w .u8 (some ⟨b, o, none⟩) zs) (h8 : B8 zs) :
    Calls Tryz.prog 160 #[.slice (some ⟨b, o, none⟩) (m + 4) cap] w fun e w' => ∃ v, e = .returned (.tuple #[v, .int .i64 (opErr zs)]) ∧ OwnB w' w.heap.size 5 v (opVal zs) ∧ Below w.heap.size w w' := by
  have HR := hide hr
  have hne : ¬ cap = m := by omega
  have hne2 : ¬ m = cap := by omega
  have i1 : (0 : Int) ≤ (m : Int) := by omega
  have i2 : (m : Int) ≤ (m : Int) + 4 := by omega
  have i3 : (m : Int) ≤ (cap : Int) := by omega
  have i4 : (m : Int) + 4 ≤ (cap : Int) := by omega
  have HS := hide (sum_any (some ⟨b, o, none⟩) m cap (zs.take m) w.drew (by rw [List.length_take]; omega) (by unfold maxLen; omega) (hr.take m) (h8.take m))
  have HP := hide (cspell_any (sumOf (zs.take m)) w.drew (sumOf_lt _))
  have hlt : (zs.take m).length = m := by rw [List.length_take]; omega
  have hld : (zs.drop m).length = 4 := by rw [List.length_drop]; omega
  have HE : Hid (∀ w1, w1 = w.drew.alloc (.cells ((spell (sumOf (zs.take m))).map (Value.int .u8)).toArray 5) → Calls Tryz.prog 173 #[.slice (some ⟨b, o + m, none⟩) 4 (cap - m), .slice (some ⟨w.heap.size, 0, none⟩) 4 4] w1 fun e w' => e = .returned (.bool (decide (zs.drop m = spell (sumOf (zs.take m))))) ∧ w' = w1) := by
    intro w1 hw1
    rw [hw1]
    have hr2 : Row w.drew .u8 (some ⟨b, o, none⟩) zs := hr
    exact equal_any _ _ 4 (cap - m) 4 4 (zs.drop m) (spell (sumOf (zs.take m))) _ hld rfl ((hr2.drop m).alloc _) (spell_row _ w.drew) (h8.drop m) (spell_b8 _)
  have HOE : Hid (opErr zs = if zs.drop m = spell (sumOf (zs.take m)) then 0 else 22) := by
    show opErr zs = _
    unfold opErr
    rw [if_neg (by omega), show zs.length - 4 = m by omega]
  have HOV : Hid (opVal zs = if opErr zs = 0 then zs.take m else []) := by
    show opVal zs = _
    unfold opVal
    rw [show zs.length - 4 = m by omega]
  by_cases hq : zs.drop m = spell (sumOf (zs.take m))
  · rw [if_pos hq] at HOE
    rw [HOE.out, if_pos rfl] at HOV
    rw [decide_eq_true hq] at HE
    rw [HOE.out, HOV.out]
    clear hq HOE HOV hr
    generalize sumOf (zs.take m) = s at *
    go_enter Tryz.func160, Tryz.ntmps160
    go_wp2_with fail
    go_region_held3 (fun _ => True) (trivial) (first
      | (go_at_call 115; refine keep HS.out ?_)
      | (go_at_call 114; refine HP.out.mono ?_; rintro e w1 ⟨rfl, hw1⟩; have HW := hide hw1; clear hw1)
      | (go_at_call 173; refine keep (HE.out w1 HW.out) ?_)
      | fail)
    have hb1 : Below w.heap.size w w1 := by rw [HW.out]; exact (Below.refl _ _).drew.alloc (Nat.le_refl _) _
    have HC := hide (clone_some b o m cap (zs.take m) w1 hlt (by omega) ((HR.out.below2 hb1).take m))
    go_wp2_with fail
    refine HC.out.mono ?_
    rintro e w2 ⟨v, rfl, hown, hb2⟩
    go_wp2_with fail
    go_ret2
    exact ⟨v, rfl, hown.mono hb1.size, hb1.trans (hb2.mono hb1.size)⟩
  · rw [if_neg hq] at HOE
    rw [HOE.out, if_neg (by decide)] at HOV
    rw [decide_eq_false hq] at HE
    rw [HOE.out, HOV.out]
    clear hq HOE HOV hr
    generalize sumOf (zs.take m) = s at *
    go_enter Tryz.func160, Tryz.ntmps160
    go_wp2_with fail
    go_region_held3 (fun _ => True) (trivial) (first
      | (go_at_call 115; refine keep HS.out ?_)
      | (go_at_call 114; refine HP.out.mono ?_; rintro e w1 ⟨rfl, hw1⟩; have HW := hide hw1; clear hw1)
      | (go_at_call 173; refine keep (HE.out w1 HW.out) ?_)
      | fail)
    have hb1 : Below w.heap.size w w1 := by rw [HW.out]; exact (Below.refl _ _).drew.alloc (Nat.le_refl _) _
    go_wp2_with fail
    go_ret2
    exact ⟨_, rfl, OwnB.nil _ _ _, hb1⟩

theorem open_any (a : Option Addr) (len cap : Nat) (zs : List Int) (w : World) (hl : zs.length = len) (hc : len ≤ cap) (hm : len ≤ 140737488355328) (hr : Row w .u8 a zs) (h8 : B8 zs) :
    Calls Tryz.prog 160 #[.slice a len cap] w fun e w' => ∃ v, e = .returned (.tuple #[v, .int .i64 (opErr zs)]) ∧ OwnB w' w.heap.size 5 v (opVal zs) ∧ Below w.heap.size w w' := by
  by_cases h4 : len < 4
  · have e1 : opErr zs = 21 := by unfold opErr; rw [if_pos (by omega)]
    have e2 : opVal zs = [] := by unfold opVal; rw [e1, if_neg (by decide)]
    rw [e1, e2]
    exact (open_short a len cap w h4).mono fun e w' ⟨h1, h2⟩ => ⟨_, h1, OwnB.nil _ _ _, by rw [h2]; exact Below.refl _ _⟩
  · obtain ⟨b, o, rfl, _, _⟩ := hr.cons (by omega)
    obtain ⟨m, rfl⟩ : ∃ m, len = m + 4 := ⟨len - 4, by omega⟩
    exact open_some b o m cap zs w hl hc hm hr h8

end Go.Proofs.YtepjblmjjegpgaaGreat

namespace Go.Proofs.YtepjblmjjegpgaaGreat
open Go.RowKit
set_option maxRecDepth 100000

set_option maxHeartbeats 800000 in
theorem four_any (s : Nat) (w : World) (hs : s < 4294967296) :
    Calls Tryz.prog 109 #[.int .u32 s] w fun e w' => e = .returned (.slice (some ⟨w.heap.size, 0, none⟩) 4 4) ∧ w' = w.alloc (.cells ((spell s).map (Value.int .u8)).toArray 5) := by
  go_enter Tryz.func109, Tryz.ntmps109
  go_wp2
  go_ret
  refine ⟨rfl, ?_⟩
  have e : (#[.int .u8 ((s : Int) % 256), .int .u8 ((s : Int) / 256 % 256), .int .u8 ((s : Int) / 65536 % 256), .int .u8 ((s : Int) / 16777216)] : Array Value) = ((spell s).map (Value.int .u8)).toArray := by
    have h : (s : Int) / 16777216 = ((s / 16777216 % 256 : Nat) : Int) := by omega
    rw [h]
    rfl
  rw [e]

set_option maxHeartbeats 800000 in
theorem rseal_any (a : Option Addr) (len cap : Nat) (zs : List Int) (w : World) (hl : zs.length = len) (hm : len ≤ 140737488351232) (hnone : a = none → len = 0 ∧ cap = 0) (hr : Row w .u8 a zs) (h8 : B8 zs) :
    Calls Tryz.prog 72 #[.slice a len cap] w fun e w' => ∃ v, e = .returned v ∧ OwnB w' w.heap.size 5 v (zs ++ spell (sumOf zs)) ∧ Below w.heap.size w w' := by
  obtain ⟨i0, hi, hz0, hz1, hz2⟩ := info_parts infoByte
  have HR := hide hr
  have HN := hide hnone
  have hmx : len ≤ maxLen := by unfold maxLen; omega
  clear hr hnone
  have HSUM : Hid (∀ W, Row W .u8 a zs → Calls Tryz.prog 110 #[.slice a len cap] W fun e w' => e = .returned (.int .u32 (sumOf zs : Nat)) ∧ w' = W) := fun W h => rsum_any a len cap zs W hl hmx h h8
  have hslt := sumOf_lt zs
  generalize sumOf zs = s at *
  go_enter Tryz.func72, Tryz.ntmps72
  go_wp2_with (first
    | (at_builtin; refine append_b rfl (.tmp 3) (.tmp 4) 23 rfl w.heap.size 5 i0 Tryz.underlying23 hi hz0 hz1 hz2 (.slice (some ⟨w.heap.size, 0, none⟩) 0 0) [] rfl (OwnB.made #[] 0 (Nat.le_refl _) (by unfold maxLen; omega) rfl (by intro u hu; cases hu)) a len cap zs rfl hl HN.out (HR.out.alloc _) (by simp; omega) (by simp) ?_; intro v4 w4 hown4 hg4; simp only [List.nil_append] at hown4)
    | fail)
  have hb4 : Below w.heap.size w w4 := ((Below.refl _ _).alloc (Nat.le_refl _) _).grown hg4 (by simp) (fun k h => by cases h; exact Nat.le_refl _)
  refine keep (HSUM.out w4 (HR.out.below2 hb4)) ?_
  have HF := hide (four_any s w4 hslt)
  have HSR := hide (spell_row s w4)
  have HO4 := hide hown4
  clear hown4 hg4
  go_wp2_with fail
  refine HF.out.mono ?_
  rintro e w5 ⟨rfl, hw5⟩
  have hb5 : Below w4.heap.size w4 w5 := by rw [hw5]; exact (Below.refl _ _).alloc (Nat.le_refl _) _
  rw [← hw5] at HSR
  have hbw5 := hb4.trans (hb5.mono hb4.size)
  have HO5 := hide (HO4.out.below hb5)
  clear hw5
  go_wp2_with (first
    | (at_builtin; refine append_b rfl (.tmp 5) (.tmp 8) 23 rfl w.heap.size 5 i0 Tryz.underlying23 hi hz0 hz1 hz2 v4 zs rfl HO5.out (some ⟨w4.heap.size, 0, none⟩) 4 4 (spell s) rfl (spell_len s) (by intro h; cases h) HSR.out (by omega) hbw5.size ?_; intro v6 w6 hown6 hg6)
    | fail)
  go_ret
  exact ⟨v6, rfl, hown6, hbw5.grown hg6 hbw5.size (fun k h => (HO5.out.owns.lt k h).1)⟩

end Go.Proofs.YtepjblmjjegpgaaGreat
