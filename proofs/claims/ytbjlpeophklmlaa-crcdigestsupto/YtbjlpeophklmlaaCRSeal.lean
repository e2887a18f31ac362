/- The document's Seal and Open. -/
import Derived.Test.YtbjlpeophklmlaaCOpen
import Derived.Test.YtbjlpeophklmlaaCRef
namespace Go.Proofs.Ytbjlpeophklmlaa
open Go.RowKit

set_option maxHeartbeats 800000 in
theorem four_any (s : Nat) (w : World) (hs : s < 4294967296) :
    Calls Try.prog 41 #[.int .u32 s] w fun e w' => e = .returned (.slice (some ⟨w.heap.size, 0, none⟩) 4 4) ∧ w' = w.alloc (.cells ((spell s).map (Value.int .u8)).toArray 5) := by
  go_enter Try.func41, Try.ntmps41
  go_wp2
  go_ret
  refine ⟨rfl, ?_⟩
  have e : (#[.int .u8 ((s : Int) % 256), .int .u8 ((s : Int) / 256 % 256), .int .u8 ((s : Int) / 65536 % 256), .int .u8 ((s : Int) / 16777216)] : Array Value) = ((spell s).map (Value.int .u8)).toArray := by
    have h : (s : Int) / 16777216 = ((s / 16777216 % 256 : Nat) : Int) := by omega
    rw [h]
    rfl
  rw [e]

set_option maxHeartbeats 800000 in
theorem rseal_any (a : Option Addr) (len cap : Nat) (zs : List Int) (w : World) (hl : zs.length = len) (hm : len ≤ 140737488351232) (hnone : a = none → len = 0 ∧ cap = 0) (hr : Row w .u8 a zs) (h8 : B8 zs) :
    Calls Try.prog 23 #[.slice a len cap] w fun e w' => ∃ v, e = .returned v ∧ OwnB w' w.heap.size 5 v (zs ++ spell (sumOf zs)) ∧ Below w.heap.size w w' := by
  obtain ⟨i0, hi, hz0, hz1, hz2⟩ := info_parts infoByte
  have HR := hide hr
  have HN := hide hnone
  have hmx : len ≤ maxLen := by unfold maxLen; omega
  clear hr hnone
  have HSUM : Hid (∀ W, Row W .u8 a zs → Calls Try.prog 18 #[.slice a len cap] W fun e w' => e = .returned (.int .u32 (sumOf zs : Nat)) ∧ w' = W) := fun W h => rsum_any a len cap zs W hl hmx h h8
  have hslt := sumOf_lt zs
  generalize sumOf zs = s at *
  go_enter Try.func23, Try.ntmps23
  go_wp2_with (first
    | (at_builtin; refine append_b rfl (.tmp 3) (.tmp 4) 23 rfl w.heap.size 5 i0 Try.underlying23 hi hz0 hz1 hz2 (.slice (some ⟨w.heap.size, 0, none⟩) 0 0) [] rfl (OwnB.made #[] 0 (Nat.le_refl _) (by unfold maxLen; omega) rfl (by intro u hu; cases hu)) a len cap zs rfl hl HN.out (HR.out.alloc _) (by simp; omega) (by simp) ?_; intro v4 w4 hown4 hg4; simp only [List.nil_append] at hown4)
    | fail)
  have hb4 : Below w.heap.size w w4 := ((Below.refl _ _).alloc (Nat.le_refl _) _).grown hg4 (by simp) (fun k h => by cases h; exact Nat.le_refl _)
  refine keep (HSUM.out w4 (HR.out.below2 hb4)) ?_
  have HF := hide (four_any s w4 hslt)
  have HSR := hide (spell_row s w4)
  have HO4 := hide hown4
  clear hown4 hg4
  go_wp2_with fail
  refine HF.out.mono ?_
  rintro e w5 ⟨rfl, hw5⟩
  have hb5 : Below w4.heap.size w4 w5 := by rw [hw5]; exact (Below.refl _ _).alloc (Nat.le_refl _) _
  rw [← hw5] at HSR
  have hbw5 := hb4.trans (hb5.mono hb4.size)
  have HO5 := hide (HO4.out.below hb5)
  clear hw5
  go_wp2_with (first
    | (at_builtin; refine append_b rfl (.tmp 5) (.tmp 8) 23 rfl w.heap.size 5 i0 Try.underlying23 hi hz0 hz1 hz2 v4 zs rfl HO5.out (some ⟨w4.heap.size, 0, none⟩) 4 4 (spell s) rfl (spell_len s) (by intro h; cases h) HSR.out (by omega) hbw5.size ?_; intro v6 w6 hown6 hg6)
    | fail)
  go_ret
  exact ⟨v6, rfl, hown6, hbw5.grown hg6 hbw5.size (fun k h => (HO5.out.owns.lt k h).1)⟩

set_option maxHeartbeats 400000 in
theorem ropen_short (a : Option Addr) (len cap : Nat) (w : World) (h : len < 4) :
    Calls Try.prog 22 #[.slice a len cap] w fun e w' => e = .returned (.tuple #[.slice none 0 0, .int .i64 21]) ∧ w' = w := by
  go_enter Try.func22, Try.ntmps22
  go_wp2
  go_ret2
  exact ⟨rfl, rfl⟩

set_option maxRecDepth 100000 in
set_option maxHeartbeats 1600000 in
theorem ropen_some (b o m cap : Nat) (zs : List Int) (w : World) (hl : zs.length = m + 4) (hc : m + 4 ≤ cap) (hm : m + 4 ≤ 140737488355328) (hr : Row w .u8 (some ⟨b, o, none⟩) zs) (h8 : B8 zs) :
    Calls Try.prog 22 #[.slice (some ⟨b, o, none⟩) (m + 4) cap] w fun e w' => ∃ v, e = .returned (.tuple #[v, .int .i64 (opErr zs)]) ∧ OwnB w' w.heap.size 5 v (opVal zs) ∧ Below w.heap.size w w' := by
  obtain ⟨i0, hi, hz0, hz1, hz2⟩ := info_parts infoByte
  have HR := hide hr
  have hne : ¬ cap = m := by omega
  have hne2 : ¬ m = cap := by omega
  have i1 : (0 : Int) ≤ (m : Int) := by omega
  have i2 : (m : Int) ≤ (m : Int) + 4 := by omega
  have i3 : (m : Int) ≤ (cap : Int) := by omega
  have i4 : (m : Int) + 4 ≤ (cap : Int) := by omega
  have hlt : (zs.take m).length = m := by rw [List.length_take]; omega
  have hld : (zs.drop m).length = 4 := by rw [List.length_drop]; omega
  have hdr : Row w .u8 (some ⟨b, o + m, none⟩) (zs.drop m) := hr.drop m
  have HS := hide (rsum_any (some ⟨b, o, none⟩) m cap (zs.take m) w.drew hlt (by unfold maxLen; omega) (hr.take m) (h8.take m))
  have HP := hide (four_any (sumOf (zs.take m)) w.drew (sumOf_lt _))
  have HDR : Hid (Row w.drew .u8 (some ⟨b, o + m, none⟩) (zs.drop m)) := hdr
  have HOE : Hid (opErr zs = if zs.drop m = spell (sumOf (zs.take m)) then 0 else 22) := by
    show opErr zs = _
    unfold opErr
    rw [if_neg (by omega), show zs.length - 4 = m by omega]
  have HOV : Hid (opVal zs = if opErr zs = 0 then zs.take m else []) := by
    show opVal zs = _
    unfold opVal
    rw [show zs.length - 4 = m by omega]
  have K1 : Hid (∀ W : World, Row W .u8 (some ⟨b, o + m, none⟩) (zs.drop m) → (convert 23 9 (.slice (some ⟨b, o + m, none⟩) 4 (cap - m))).run Try.prog W = .ok (.string (strOfNums (zs.drop m))) W) := fun W h => conv_row _ hld h
  have K2 : Hid (∀ w1 : World, w1 = w.drew.alloc (.cells ((spell (sumOf (zs.take m))).map (Value.int .u8)).toArray 5) → (convert 23 9 (.slice (some ⟨w.heap.size, 0, none⟩) 4 4)).run Try.prog w1 = .ok (.string (strOfNums (spell (sumOf (zs.take m))))) w1) := fun w1 hw1 => by
    rw [hw1]; exact conv_row 4 (spell_len _) (spell_row _ w.drew)
  have HEQ : Hid (((strOfNums (spell (sumOf (zs.take m)))).toList == (strOfNums (zs.drop m)).toList) = decide (zs.drop m = spell (sumOf (zs.take m)))) := by
    show _ = _
    rw [Lib.strOfNums_toList, Lib.strOfNums_toList]
    by_cases h : zs.drop m = spell (sumOf (zs.take m))
    · rw [decide_eq_true h, h]; simp
    · rw [decide_eq_false h, beq_eq_false_iff_ne]
      exact fun e => h (bytesOf_inj (h8.drop m) (spell_b8 _) e.symm)
  clear hr hdr
  by_cases hq : zs.drop m = spell (sumOf (zs.take m))
  · rw [if_pos hq] at HOE
    rw [HOE.out, if_pos rfl] at HOV
    have hneq := HEQ.out
    rw [decide_eq_true hq] at hneq
    rw [HOE.out, HOV.out]
    clear hq HOE HOV HEQ
    generalize strOfNums (spell (sumOf (zs.take m))) = sA at *
    generalize strOfNums (zs.drop m) = sB at *
    generalize sumOf (zs.take m) = s at *
    go_enter Try.func22, Try.ntmps22
    go_wp2_with fail
    have kA := K1.out w.drew HDR.out
    go_region_with (first
        | (go_at_call 18; refine keep HS.out ?_)
        | (go_at_call 41; refine HP.out.mono ?_; rintro e w1 ⟨rfl, hw1⟩; have HW := hide hw1; clear hw1; have k2 := K2.out w1 HW.out; have kB := K1.out w1 (by rw [HW.out]; exact Row.alloc HDR.out _))
        | fail)
    all_goals
      have hb1 : Below w.heap.size w w1 := by rw [HW.out]; exact (Below.refl _ _).drew.alloc (Nat.le_refl _) _
      clear k2 kA kB
      go_wp2_with (first
        | (at_builtin; refine append_b rfl (.tmp 22) (.tmp 25) 23 rfl w1.heap.size 5 i0 Try.underlying23 hi hz0 hz1 hz2 (.slice (some ⟨w1.heap.size, 0, none⟩) 0 0) [] rfl (OwnB.made #[] 0 (Nat.le_refl _) (by unfold maxLen; omega) rfl (by intro u hu; cases hu)) (some ⟨b, o, none⟩) m cap (zs.take m) rfl hlt (by intro h; cases h) (((HR.out.below2 hb1).take m).alloc _) (by simp; omega) (by simp) ?_; intro v4 w4 hown4 hg4; simp only [List.nil_append] at hown4)
        | fail)
      go_ret2
      exact ⟨v4, rfl, hown4.mono hb1.size, (hb1.alloc hb1.size _).grown hg4 (by have := hb1.size; simp; omega) (fun k h => by cases h; exact hb1.size)⟩
  · rw [if_neg hq] at HOE
    rw [HOE.out, if_neg (by decide)] at HOV
    have hneq := HEQ.out
    rw [decide_eq_false hq] at hneq
    rw [HOE.out, HOV.out]
    clear hq HOE HOV HEQ
    generalize strOfNums (spell (sumOf (zs.take m))) = sA at *
    generalize strOfNums (zs.drop m) = sB at *
    generalize sumOf (zs.take m) = s at *
    go_enter Try.func22, Try.ntmps22
    go_wp2_with fail
    have kA := K1.out w.drew HDR.out
    go_region_with (first
        | (go_at_call 18; refine keep HS.out ?_)
        | (go_at_call 41; refine HP.out.mono ?_; rintro e w1 ⟨rfl, hw1⟩; have HW := hide hw1; clear hw1; have k2 := K2.out w1 HW.out; have kB := K1.out w1 (by rw [HW.out]; exact Row.alloc HDR.out _))
        | fail)
    all_goals
      have hb1 : Below w.heap.size w w1 := by rw [HW.out]; exact (Below.refl _ _).drew.alloc (Nat.le_refl _) _
      clear k2 kA kB
      go_wp2_with fail
      go_ret2
      exact ⟨_, rfl, OwnB.nil _ _ _, hb1⟩

theorem ropen_any (a : Option Addr) (len cap : Nat) (zs : List Int) (w : World) (hl : zs.length = len) (hc : len ≤ cap) (hm : len ≤ 140737488355328) (hr : Row w .u8 a zs) (h8 : B8 zs) :
    Calls Try.prog 22 #[.slice a len cap] w fun e w' => ∃ v, e = .returned (.tuple #[v, .int .i64 (opErr zs)]) ∧ OwnB w' w.heap.size 5 v (opVal zs) ∧ Below w.heap.size w w' := by
  by_cases h4 : len < 4
  · have e1 : opErr zs = 21 := by unfold opErr; rw [if_pos (by omega)]
    have e2 : opVal zs = [] := by unfold opVal; rw [e1, if_neg (by decide)]
    rw [e1, e2]
    exact (ropen_short a len cap w h4).mono fun e w' ⟨h1, h2⟩ => ⟨_, h1, OwnB.nil _ _ _, by rw [h2]; exact Below.refl _ _⟩
  · obtain ⟨b, o, rfl, _, _⟩ := hr.cons (by omega)
    obtain ⟨m, rfl⟩ : ∃ m, len = m + 4 := ⟨len - 4, by omega⟩
    exact ropen_some b o m cap zs w hl hc hm hr h8

end Go.Proofs.Ytbjlpeophklmlaa
