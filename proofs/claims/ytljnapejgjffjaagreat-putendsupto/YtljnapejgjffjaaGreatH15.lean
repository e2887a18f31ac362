/- Texts of one's own. -/
import Derived.Test.YtljnapejgjffjaaGreatH12
import Derived.Laws.LoneSync
namespace Go.Proofs.YtljnapejgjffjaaGreat
open Go.RowKit
set_option maxRecDepth 100000
theorem a_and1 (x : Nat) (h : x < 18446744073709551616) : bits .and .u64 (x : Int) 1 = ((x % 2 : Nat) : Int) := by
 have := u64_and_nat x 1 h (by decide)
 rw [show ((1 : Nat) : Int) = 1 from rfl] at this
 rw [this,nat_mask1]
theorem a_or1 (x : Nat) (h : x < 18446744073709551616) (he : x % 2 = 0) : bits .or .u64 (x : Int) 1 = ((x + 1 : Nat) : Int) := by
 have := u64_or_nat x 1 h (by decide)
 rw [show ((1 : Nat) : Int) = 1 from rfl] at this
 rw [this,nat_join 1 x 1 (by simpa using he) (by decide)]
theorem a_andNot1 (x : Nat) (h : x < 18446744073709551616) (ho : x % 2 = 1) : bits .andNot .u64 (x : Int) 1 = ((x - 1 : Nat) : Int) := by
 have := u64_andNot_nat x 1 h (by decide)
 rw [show ((1 : Nat) : Int) = 1 from rfl] at this
 rw [this]
 congr 1
 apply Nat.eq_of_testBit_eq
 intro i
 rw [Nat.testBit_and]
 cases i with
 | zero =>
  rw [show (18446744073709551615 - 1 : Nat).testBit 0 = false by decide,Bool.and_false,Nat.testBit_zero]
  have : (x - 1) % 2 = 0 := by omega
  rw [this]; rfl
 | succ j =>
  rw [Nat.testBit_succ,Nat.testBit_succ,Nat.testBit_succ,show (x - 1) / 2 = x / 2 by omega,show ((18446744073709551615 - 1 : Nat) / 2) = 2 ^ 63 - 1 by decide,Nat.testBit_two_pow_sub_one]
  by_cases hj : j < 63
  ·simp [hj]
  ·have : x / 2 < 2 ^ j := Nat.lt_of_lt_of_le (show x / 2 < 2 ^ 63 by omega) (Nat.pow_le_pow_right (by decide) (by omega))
   rw [Nat.testBit_lt_two_pow this]; simp
theorem held_true {x : Nat} (h : x < 18446744073709551616) (ho : x % 2 = 1) : (!(bits .and .u64 (x : Int) 1 == 0)) = true := by rw [a_and1 x h,ho]; rfl
theorem held_false {x : Nat} (h : x < 18446744073709551616) (ho : x % 2 = 0) : (!(bits .and .u64 (x : Int) 1 == 0)) = false := by rw [a_and1 x h,ho]; rfl
set_option maxHeartbeats 400000 in
theorem isHeldW_any (x : Nat) (w : World) (h : x < 18446744073709551616) : Calls Tryz.prog 88 #[.int .u64 (x : Nat)] w fun e w' => e = .returned (.bool (decide (x % 2 = 1))) ∧ w' = w := by
 have HE : Hid ((!(bits .and .u64 (x : Int) 1 == 0)) = decide (x % 2 = 1)) := by
  show _ = _
  rcases Nat.mod_two_eq_zero_or_one x with e | e
  ·rw [held_false h e,e]; rfl
  ·rw [held_true h e,e]; rfl
 rw [← HE.out]
 go_enter Tryz.func88,Tryz.ntmps88
 go_wp2
 go_ret
 exact ⟨rfl,rfl⟩
set_option maxHeartbeats 400000 in
theorem aload_any (b : Nat) (x : Int) (w : World) (hc : w.cell? ⟨b,0,none⟩ = some (.int .u64 x)) : Calls Tryz.prog 107 #[.pointer (some ⟨b,0,none⟩)] w fun e w' => e = .returned (.int .u64 x) ∧ w' = w := by
 go_enter Tryz.func107,Tryz.ntmps107
 go_wp2
 rw [run_call_load Tryz.func134 (by kernel_rfl) (by kernel_rfl) (by kernel_rfl) .u64 (by kernel_rfl) hc]
 rw [Oper.upon_value]
 go_wp2
 go_ret
 exact ⟨rfl,rfl⟩
set_option maxHeartbeats 400000 in
theorem acas_hit (b : Nat) (x y : Int) (w : World) (hc : w.cell? ⟨b,0,none⟩ = some (.int .u64 x)) (hz : w.frozen? ⟨b,0,none⟩ = false) : Calls Tryz.prog 183 #[.pointer (some ⟨b,0,none⟩),.int .u64 x,.int .u64 y] w fun e w' => e = .returned (.bool true) ∧ w' = w.setCell ⟨b,0,none⟩ (.int .u64 y) := by
 go_enter Tryz.func183,Tryz.ntmps183
 go_wp2
 rw [run_call_cas_hit Tryz.func200 (by kernel_rfl) (by kernel_rfl) (by kernel_rfl) .u64 (by kernel_rfl) hc hz]
 rw [Oper.upon_value]
 go_wp2
 go_ret
 exact ⟨rfl,rfl⟩
set_option maxHeartbeats 400000 in
theorem acas_miss (b : Nat) (x o y : Int) (w : World) (hc : w.cell? ⟨b,0,none⟩ = some (.int .u64 x)) (hz : w.frozen? ⟨b,0,none⟩ = false) (hne : ¬ x = o) : Calls Tryz.prog 183 #[.pointer (some ⟨b,0,none⟩),.int .u64 o,.int .u64 y] w fun e w' => e = .returned (.bool false) ∧ w' = w := by
 have HN := hide hne
 clear hne
 go_enter Tryz.func183,Tryz.ntmps183
 go_wp2
 rw [run_call_cas_miss Tryz.func200 (by kernel_rfl) (by kernel_rfl) (by kernel_rfl) .u64 (by kernel_rfl) hc hz HN.out]
 rw [Oper.upon_value]
 go_wp2
 go_ret
 exact ⟨rfl,rfl⟩
set_option maxHeartbeats 400000 in
theorem lread_any (b : Nat) (x : Int) (w : World) (hc : w.cell? ⟨b,0,none⟩ = some (.int .u64 x)) : Calls Tryz.prog 70 #[.pointer (some ⟨b,0,none⟩)] w fun e w' => e = .returned (.int .u64 x) ∧ w' = w := by
 have HC := hide (aload_any b x w hc)
 go_enter Tryz.func70,Tryz.ntmps70
 go_wp2_with fail
 refine keep HC.out ?_
 go_wp2
 go_ret
 exact ⟨rfl,rfl⟩
set_option maxHeartbeats 400000 in
theorem lheld_any (b x : Nat) (w : World) (hc : w.cell? ⟨b,0,none⟩ = some (.int .u64 (x : Nat))) (hx : x < 18446744073709551616) : Calls Tryz.prog 52 #[.pointer (some ⟨b,0,none⟩)] w fun e w' => e = .returned (.bool (decide (x % 2 = 1))) ∧ w' = w := by
 have HC := hide (lread_any b x w hc)
 have HI := hide (isHeldW_any x w hx)
 generalize decide (x % 2 = 1) = d at *
 go_enter Tryz.func52,Tryz.ntmps52
 go_wp2_with fail
 refine keep HC.out ?_
 go_wp2_with fail
 refine keep HI.out ?_
 go_wp2
 go_ret
 exact ⟨rfl,rfl⟩
set_option maxHeartbeats 800000 in
theorem take_hit (b x : Nat) (w : World) (hc : w.cell? ⟨b,0,none⟩ = some (.int .u64 (x : Nat))) (hz : w.frozen? ⟨b,0,none⟩ = false) (hx : x < 18446744073709551616) (he : x % 2 = 0) :
  Calls Tryz.prog 164 #[.pointer (some ⟨b,0,none⟩),.int .u64 (x : Nat)] w fun e w' => e = .returned (.bool true) ∧ w' = w.setCell ⟨b,0,none⟩ (.int .u64 ((x + 1 : Nat) : Int)) := by
 have HI := hide (isHeldW_any x w hx)
 rw [show decide (x % 2 = 1) = false by rw [he]; rfl] at HI
 have HC := hide (acas_hit b (x : Int) ((x + 1 : Nat) : Int) w hc hz)
 have HO : Hid (bits .or .u64 (x : Int) 1 = ((x + 1 : Nat) : Int)) := a_or1 x hx he
 clear hc hz hx he
 go_enter Tryz.func164,Tryz.ntmps164
 go_wp2_with fail
 refine keep HI.out ?_
 go_wp2_with fail
 rw [HO.out]
 refine HC.out.mono ?_
 rintro e w1 ⟨rfl,rfl⟩
 go_wp2
 go_ret
 exact ⟨rfl,rfl⟩
set_option maxHeartbeats 800000 in
theorem take_odd (b x : Nat) (w : World) (hx : x < 18446744073709551616) (he : x % 2 = 1) :
  Calls Tryz.prog 164 #[.pointer (some ⟨b,0,none⟩),.int .u64 (x : Nat)] w fun e w' => e = .returned (.bool false) ∧ w' = w := by
 have HI := hide (isHeldW_any x w hx)
 rw [show decide (x % 2 = 1) = true by rw [he]; rfl] at HI
 clear hx he
 go_enter Tryz.func164,Tryz.ntmps164
 go_wp2_with fail
 refine keep HI.out ?_
 go_wp2_with fail
 go_ret
 exact ⟨rfl,rfl⟩
set_option maxHeartbeats 800000 in
theorem take_miss (b x y : Nat) (w : World) (hc : w.cell? ⟨b,0,none⟩ = some (.int .u64 (y : Nat))) (hz : w.frozen? ⟨b,0,none⟩ = false) (hx : x < 18446744073709551616) (he : x % 2 = 0) (hne : ¬ y = x) :
  Calls Tryz.prog 164 #[.pointer (some ⟨b,0,none⟩),.int .u64 (x : Nat)] w fun e w' => e = .returned (.bool false) ∧ w' = w := by
 have HI := hide (isHeldW_any x w hx)
 rw [show decide (x % 2 = 1) = false by rw [he]; rfl] at HI
 have HC := hide (acas_miss b (y : Int) (x : Int) ((x + 1 : Nat) : Int) w hc hz (by omega))
 have HO : Hid (bits .or .u64 (x : Int) 1 = ((x + 1 : Nat) : Int)) := a_or1 x hx he
 clear hc hz hx he hne
 go_enter Tryz.func164,Tryz.ntmps164
 go_wp2_with fail
 refine keep HI.out ?_
 go_wp2_with fail
 rw [HO.out]
 refine keep HC.out ?_
 go_wp2
 go_ret
 exact ⟨rfl,rfl⟩
def freeW (x : Nat) (ch : Bool) : Nat := if ch then (x + 1) % 18446744073709551616 else x - 1
theorem wrap_two {x : Nat} (h : x < 18446744073709551616) (ho : x % 2 = 1) : IntKind.u64.wrap (((x - 1 : Nat) : Int) + 2) = ((freeW x true : Nat) : Int) := by
 rw [IntKind.wrap_u64]
 unfold freeW
 simp only [if_true]
 omega
set_option maxHeartbeats 800000 in
theorem give_free (b x : Nat) (ch : Bool) (w : World) (hc : w.cell? ⟨b,0,none⟩ = some (.int .u64 (x : Nat))) (hx : x < 18446744073709551616) (he : x % 2 = 0) :
  Calls Tryz.prog 203 #[.pointer (some ⟨b,0,none⟩),.bool ch] w fun e w' => e = .returned (.bool false) ∧ w' = w := by
 have HR := hide (lread_any b x w hc)
 have HI := hide (isHeldW_any x w hx)
 rw [show decide (x % 2 = 1) = false by rw [he]; rfl] at HI
 clear hc hx he
 go_enter Tryz.func203,Tryz.ntmps203
 go_wp2_with fail
 refine keep HR.out ?_
 go_wp2_with fail
 refine keep HI.out ?_
 go_wp2_with fail
 go_ret
 exact ⟨rfl,rfl⟩
set_option maxHeartbeats 800000 in
theorem give_held (b x : Nat) (ch : Bool) (w : World) (hc : w.cell? ⟨b,0,none⟩ = some (.int .u64 (x : Nat))) (hz : w.frozen? ⟨b,0,none⟩ = false) (hx : x < 18446744073709551616) (he : x % 2 = 1) :
  Calls Tryz.prog 203 #[.pointer (some ⟨b,0,none⟩),.bool ch] w fun e w' => e = .returned (.bool true) ∧ w' = w.setCell ⟨b,0,none⟩ (.int .u64 ((freeW x ch : Nat) : Int)) := by
 have HR := hide (lread_any b x w hc)
 have HI := hide (isHeldW_any x w hx)
 rw [show decide (x % 2 = 1) = true by rw [he]; rfl] at HI
 have HC := hide (acas_hit b (x : Int) ((freeW x ch : Nat) : Int) w hc hz)
 have HO : Hid (bits .andNot .u64 (x : Int) 1 = ((x - 1 : Nat) : Int)) := a_andNot1 x hx he
 have HT : Hid (IntKind.u64.wrap (((x - 1 : Nat) : Int) + 2) = ((freeW x true : Nat) : Int)) := wrap_two hx he
 have HF : Hid (freeW x false = x - 1) := rfl
 clear hc hz hx he
 cases ch with
 | true =>
  go_enter Tryz.func203,Tryz.ntmps203
  go_wp2_with fail
  refine keep HR.out ?_
  go_wp2_with fail
  refine keep HI.out ?_
  go_wp2_with fail
  rw [HO.out,HT.out]
  refine HC.out.mono ?_
  rintro e w1 ⟨rfl,rfl⟩
  go_wp2
  go_ret
  exact ⟨rfl,rfl⟩
 | false =>
  go_enter Tryz.func203,Tryz.ntmps203
  go_wp2_with fail
  refine keep HR.out ?_
  go_wp2_with fail
  refine keep HI.out ?_
  go_wp2_with fail
  rw [HO.out,← HF.out]
  refine HC.out.mono ?_
  rintro e w1 ⟨rfl,rfl⟩
  go_wp2
  go_ret
  exact ⟨rfl,rfl⟩
end Go.Proofs.YtljnapejgjffjaaGreat
