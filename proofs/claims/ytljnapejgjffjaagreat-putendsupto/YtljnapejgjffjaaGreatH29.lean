/- Texts of one's own. -/
import Derived.Test.YtljnapejgjffjaaGreatH28
namespace Go.Proofs.YtljnapejgjffjaaGreat
open Go.RowKit
set_option maxRecDepth 100000
section
variable {W : World} {P A : Nat} {F : Nat → Prop} {s : AS} {id : Int} {wd an : Nat} {a0 a1 a2 a3 a4 a5 a6 a7 a8 a9 a10 a11 a12 a13 : Value}
set_option maxHeartbeats 1600000 in
theorem readAgain_not (h : W.heap[P]? = some (.cells #[a0,a1,a2,a3,a4,a5,a6,a7,a8,a9,a10,a11,a12,a13] 195 (0,0))) (ha : a0 = .pointer (some ⟨A,0,none⟩)) (hi : a4 = .int .i64 id) (hp : PX W A F s) (hin : ¬ s.inn id) : Calls Tryz.prog 208 #[.pointer (some ⟨P,0,none⟩)] W (MbP W P #[a0,a1,a2,a3,a4,a5,a6,a7,a8,a9,a10,a11,a12,a13] (.bool false)) := by
 have HQ := hide (wordQ hp id)
 rw [show s.wordE id = 101 from if_neg hin,show s.wordW id = 0 from if_neg hin] at HQ
 subst ha
 subst hi
 have c0 : W.cell? ⟨P,0,none⟩ = some (.pointer (some ⟨A,0,none⟩)) := by rw [cell_of_row _ _ _ _ _ _ h]; rfl
 have c4 : W.cell? ⟨P,4,none⟩ = some (.int .i64 id) := by rw [cell_of_row _ _ _ _ _ _ h]; rfl
 have HH := hide h
 clear h hp
 go_enter Tryz.func208,Tryz.ntmps208
 go_wp2_with fail
 go_quiet ((go_at_call 31; with_reducible exact HQ.out _))
 clear HQ
 go_wp2_with fail
 go_ret
 exact ⟨rfl,HH.out,upd_drewN _ _ _⟩
set_option maxHeartbeats 1600000 in
theorem readAgain_anew (h : W.heap[P]? = some (.cells #[a0,a1,a2,a3,a4,a5,a6,a7,a8,a9,a10,a11,a12,a13] 195 (0,0))) (ha : a0 = .pointer (some ⟨A,0,none⟩)) (hi : a4 = .int .i64 id) (hp : PX W A F s) (hw : a5 = .int .u64 (wd : Nat)) (hn : a12 = .int .i64 (an : Nat)) (han : an < 4611686018427387904) (hin : s.inn id) (hne : ¬ s.w id = wd) : Calls Tryz.prog 208 #[.pointer (some ⟨P,0,none⟩)] W (MbP W P #[a0,a1,a2,.func (.func 115) #[.pointer (some ⟨P,0,none⟩)] #[],.int .i64 0,.int .u64 0,.int .i64 0,.slice none 0 0,.int .i64 0,.slice none 0 0,.slice none 0 0,.slice none 0 0,.int .i64 ((an + 1 : Nat) : Int),a13] (.bool true)) := by
 have HQ := hide (wordQ hp id)
 rw [show s.wordE id = 0 from if_pos hin,show s.wordW id = s.w id from if_pos hin] at HQ
 generalize s.w id = x at *
 have j1 : ¬ (x : Int) = (wd : Int) := by omega
 subst ha
 subst hi
 subst hw
 subst hn
 have c0 : W.cell? ⟨P,0,none⟩ = some (.pointer (some ⟨A,0,none⟩)) := by rw [cell_of_row _ _ _ _ _ _ h]; rfl
 have c3 : W.cell? ⟨P,3,none⟩ = some (a3) := by rw [cell_of_row _ _ _ _ _ _ h]; rfl
 have c4 : W.cell? ⟨P,4,none⟩ = some (.int .i64 id) := by rw [cell_of_row _ _ _ _ _ _ h]; rfl
 have c5 : W.cell? ⟨P,5,none⟩ = some (.int .u64 (wd : Nat)) := by rw [cell_of_row _ _ _ _ _ _ h]; rfl
 have c6 : W.cell? ⟨P,6,none⟩ = some (a6) := by rw [cell_of_row _ _ _ _ _ _ h]; rfl
 have c7 : W.cell? ⟨P,7,none⟩ = some (a7) := by rw [cell_of_row _ _ _ _ _ _ h]; rfl
 have c8 : W.cell? ⟨P,8,none⟩ = some (a8) := by rw [cell_of_row _ _ _ _ _ _ h]; rfl
 have c9 : W.cell? ⟨P,9,none⟩ = some (a9) := by rw [cell_of_row _ _ _ _ _ _ h]; rfl
 have c10 : W.cell? ⟨P,10,none⟩ = some (a10) := by rw [cell_of_row _ _ _ _ _ _ h]; rfl
 have c11 : W.cell? ⟨P,11,none⟩ = some (a11) := by rw [cell_of_row _ _ _ _ _ _ h]; rfl
 have c12 : W.cell? ⟨P,12,none⟩ = some (.int .i64 (an : Nat)) := by rw [cell_of_row _ _ _ _ _ _ h]; rfl
 have F0 := fun j => frozen_of h j
 have HH := hide h
 have han' := hide han
 clear h hp hne han
 go_enter Tryz.func208,Tryz.ntmps208
 go_wp2_with fail
 go_quiet ((go_at_call 31; with_reducible exact HQ.out _))
 clear HQ
 have j2 : IntKind.i64.wrap ((an : Int) + 1) = (an : Int) + 1 := by have := han'.out; rw [IntKind.wrap_i64]; omega
 clear han'
 go_wp2_with fail
 go_ret
 exact ⟨rfl,(m14_3 (m14_11 (m14_10 (m14_9 (m14_8 (m14_7 (m14_6 (m14_5 (m14_4 (m14_12 HH.out _) _) _) _) _) _) _) _) _) _),(updP (updP (updP (updP (updP (updP (updP (updP (updP (updP (upd_drewN _ _ _) _ _) _ _) _ _) _ _) _ _) _ _) _ _) _ _) _ _) _ _)⟩
set_option maxHeartbeats 1600000 in
theorem readAgain_same (h : W.heap[P]? = some (.cells #[a0,a1,a2,a3,a4,a5,a6,a7,a8,a9,a10,a11,a12,a13] 195 (0,0))) (ha : a0 = .pointer (some ⟨A,0,none⟩)) (hi : a4 = .int .i64 id) (hp : PX W A F s) (hw : a5 = .int .u64 (wd : Nat)) (hin : s.inn id) (heq : s.w id = wd) {cs : Array Value} {r : Bool} (hc : ∀ q,Calls Tryz.prog 212 #[.pointer (some ⟨P,0,none⟩)] (W.drewN q) (MbP (W.drewN q) P cs (.bool r))) : Calls Tryz.prog 208 #[.pointer (some ⟨P,0,none⟩)] W (MbP W P cs (.bool r)) := by
 have HQ := hide (wordQ hp id)
 rw [show s.wordE id = 0 from if_pos hin,show s.wordW id = s.w id from if_pos hin,heq] at HQ
 subst ha
 subst hi
 subst hw
 have c0 : W.cell? ⟨P,0,none⟩ = some (.pointer (some ⟨A,0,none⟩)) := by rw [cell_of_row _ _ _ _ _ _ h]; rfl
 have c4 : W.cell? ⟨P,4,none⟩ = some (.int .i64 id) := by rw [cell_of_row _ _ _ _ _ _ h]; rfl
 have c5 : W.cell? ⟨P,5,none⟩ = some (.int .u64 (wd : Nat)) := by rw [cell_of_row _ _ _ _ _ _ h]; rfl
 have HC := hide hc
 clear h hp heq hc
 go_enter Tryz.func208,Tryz.ntmps208
 go_wp2_with fail
 go_quiet ((go_at_call 31; with_reducible exact HQ.out _))
 clear HQ
 go_wp2_with fail
 refine (HC.out _).mono ?_
 rintro e w9 ⟨rfl,g9,u9⟩
 have HG := hide g9
 have HU : Hid (Upd (fun k => k = P) W w9) := (upd_drewN _ _ _).trans u9
 clear g9 u9 HC
 go_wp2_with fail
 go_ret
 exact ⟨rfl,HG.out,HU.out⟩
theorem fneq (f : FuncId) (r c : Array Value) (W : World) : (binOp .neq 25 (.func (.func f) r c) .nilFunc).run Tryz.prog W = .ok (.bool true) W := by kernel_rfl
theorem feql (f : FuncId) (r c : Array Value) (W : World) : (binOp .eql 25 (.func (.func f) r c) .nilFunc).run Tryz.prog W = .ok (.bool false) W := by kernel_rfl
theorem fneq0 (W : World) : (binOp .neq 25 .nilFunc .nilFunc).run Tryz.prog W = .ok (.bool false) W := by kernel_rfl
theorem feql0 (W : World) : (binOp .eql 25 .nilFunc .nilFunc).run Tryz.prog W = .ok (.bool true) W := by kernel_rfl
set_option maxHeartbeats 1600000 in
theorem step_idle (h : W.heap[P]? = some (.cells #[a0,a1,a2,a3,a4,a5,a6,a7,a8,a9,a10,a11,a12,a13] 195 (0,0))) (hn : a3 = .nilFunc) : Calls Tryz.prog 110 #[.pointer (some ⟨P,0,none⟩)] W fun e w' => e = .returned (.bool true) ∧ w' = W := by
 subst hn
 have c3 : W.cell? ⟨P,3,none⟩ = some (.nilFunc) := by rw [cell_of_row _ _ _ _ _ _ h]; rfl
 have q1 := fneq0 W
 have q2 := feql0 W
 clear h
 go_enter Tryz.func110,Tryz.ntmps110
 go_wp2_with fail
 go_ret
 exact ⟨rfl,rfl⟩
set_option maxHeartbeats 1600000 in
theorem step_go_readRoot (h : W.heap[P]? = some (.cells #[a0,a1,a2,a3,a4,a5,a6,a7,a8,a9,a10,a11,a12,a13] 195 (0,0))) (hn : a3 = .func (.func 115) #[.pointer (some ⟨P,0,none⟩)] #[]) (Q : World → Prop) (hc : Calls Tryz.prog 115 #[.pointer (some ⟨P,0,none⟩)] W fun e w' => e = .returned (.bool true) ∧ Q w') (hq : ∀ w',Q w' → ∃ g,w'.cell? ⟨P,3,none⟩ = some (.func (.func g) #[.pointer (some ⟨P,0,none⟩)] #[])) : Calls Tryz.prog 110 #[.pointer (some ⟨P,0,none⟩)] W fun e w' => e = .returned (.bool false) ∧ Q w' := by
 subst hn
 have c3 : W.cell? ⟨P,3,none⟩ = some (.func (.func 115) #[.pointer (some ⟨P,0,none⟩)] #[]) := by rw [cell_of_row _ _ _ _ _ _ h]; rfl
 have HC := hide hc
 have HQ := hide hq
 have q1 := fneq 115 #[.pointer (some ⟨P,0,none⟩)] #[] W
 clear h hc hq
 go_enter Tryz.func110,Tryz.ntmps110
 go_wp2_with fail
 refine HC.out.mono ?_
 rintro e w9 ⟨rfl,q9⟩
 obtain ⟨g,d3⟩ := HQ.out w9 q9
 have q2 := feql g #[.pointer (some ⟨P,0,none⟩)] #[] w9
 have HQ9 := hide q9
 clear q9 HC HQ
 go_wp2_with fail
 go_ret
 exact ⟨rfl,HQ9.out⟩
set_option maxHeartbeats 1600000 in
theorem step_go_readWord (h : W.heap[P]? = some (.cells #[a0,a1,a2,a3,a4,a5,a6,a7,a8,a9,a10,a11,a12,a13] 195 (0,0))) (hn : a3 = .func (.func 161) #[.pointer (some ⟨P,0,none⟩)] #[]) (Q : World → Prop) (hc : Calls Tryz.prog 161 #[.pointer (some ⟨P,0,none⟩)] W fun e w' => e = .returned (.bool true) ∧ Q w') (hq : ∀ w',Q w' → ∃ g,w'.cell? ⟨P,3,none⟩ = some (.func (.func g) #[.pointer (some ⟨P,0,none⟩)] #[])) : Calls Tryz.prog 110 #[.pointer (some ⟨P,0,none⟩)] W fun e w' => e = .returned (.bool false) ∧ Q w' := by
 subst hn
 have c3 : W.cell? ⟨P,3,none⟩ = some (.func (.func 161) #[.pointer (some ⟨P,0,none⟩)] #[]) := by rw [cell_of_row _ _ _ _ _ _ h]; rfl
 have HC := hide hc
 have HQ := hide hq
 have q1 := fneq 161 #[.pointer (some ⟨P,0,none⟩)] #[] W
 clear h hc hq
 go_enter Tryz.func110,Tryz.ntmps110
 go_wp2_with fail
 refine HC.out.mono ?_
 rintro e w9 ⟨rfl,q9⟩
 obtain ⟨g,d3⟩ := HQ.out w9 q9
 have q2 := feql g #[.pointer (some ⟨P,0,none⟩)] #[] w9
 have HQ9 := hide q9
 clear q9 HC HQ
 go_wp2_with fail
 go_ret
 exact ⟨rfl,HQ9.out⟩
set_option maxHeartbeats 1600000 in
theorem step_go_readHead (h : W.heap[P]? = some (.cells #[a0,a1,a2,a3,a4,a5,a6,a7,a8,a9,a10,a11,a12,a13] 195 (0,0))) (hn : a3 = .func (.func 181) #[.pointer (some ⟨P,0,none⟩)] #[]) (Q : World → Prop) (hc : Calls Tryz.prog 181 #[.pointer (some ⟨P,0,none⟩)] W fun e w' => e = .returned (.bool true) ∧ Q w') (hq : ∀ w',Q w' → ∃ g,w'.cell? ⟨P,3,none⟩ = some (.func (.func g) #[.pointer (some ⟨P,0,none⟩)] #[])) : Calls Tryz.prog 110 #[.pointer (some ⟨P,0,none⟩)] W fun e w' => e = .returned (.bool false) ∧ Q w' := by
 subst hn
 have c3 : W.cell? ⟨P,3,none⟩ = some (.func (.func 181) #[.pointer (some ⟨P,0,none⟩)] #[]) := by rw [cell_of_row _ _ _ _ _ _ h]; rfl
 have HC := hide hc
 have HQ := hide hq
 have q1 := fneq 181 #[.pointer (some ⟨P,0,none⟩)] #[] W
 clear h hc hq
 go_enter Tryz.func110,Tryz.ntmps110
 go_wp2_with fail
 refine HC.out.mono ?_
 rintro e w9 ⟨rfl,q9⟩
 obtain ⟨g,d3⟩ := HQ.out w9 q9
 have q2 := feql g #[.pointer (some ⟨P,0,none⟩)] #[] w9
 have HQ9 := hide q9
 clear q9 HC HQ
 go_wp2_with fail
 go_ret
 exact ⟨rfl,HQ9.out⟩
set_option maxHeartbeats 1600000 in
theorem step_go_readBody (h : W.heap[P]? = some (.cells #[a0,a1,a2,a3,a4,a5,a6,a7,a8,a9,a10,a11,a12,a13] 195 (0,0))) (hn : a3 = .func (.func 199) #[.pointer (some ⟨P,0,none⟩)] #[]) (Q : World → Prop) (hc : Calls Tryz.prog 199 #[.pointer (some ⟨P,0,none⟩)] W fun e w' => e = .returned (.bool true) ∧ Q w') (hq : ∀ w',Q w' → ∃ g,w'.cell? ⟨P,3,none⟩ = some (.func (.func g) #[.pointer (some ⟨P,0,none⟩)] #[])) : Calls Tryz.prog 110 #[.pointer (some ⟨P,0,none⟩)] W fun e w' => e = .returned (.bool false) ∧ Q w' := by
 subst hn
 have c3 : W.cell? ⟨P,3,none⟩ = some (.func (.func 199) #[.pointer (some ⟨P,0,none⟩)] #[]) := by rw [cell_of_row _ _ _ _ _ _ h]; rfl
 have HC := hide hc
 have HQ := hide hq
 have q1 := fneq 199 #[.pointer (some ⟨P,0,none⟩)] #[] W
 clear h hc hq
 go_enter Tryz.func110,Tryz.ntmps110
 go_wp2_with fail
 refine HC.out.mono ?_
 rintro e w9 ⟨rfl,q9⟩
 obtain ⟨g,d3⟩ := HQ.out w9 q9
 have q2 := feql g #[.pointer (some ⟨P,0,none⟩)] #[] w9
 have HQ9 := hide q9
 clear q9 HC HQ
 go_wp2_with fail
 go_ret
 exact ⟨rfl,HQ9.out⟩
set_option maxHeartbeats 1600000 in
theorem step_go_readWordAgain (h : W.heap[P]? = some (.cells #[a0,a1,a2,a3,a4,a5,a6,a7,a8,a9,a10,a11,a12,a13] 195 (0,0))) (hn : a3 = .func (.func 208) #[.pointer (some ⟨P,0,none⟩)] #[]) (Q : World → Prop) (hc : Calls Tryz.prog 208 #[.pointer (some ⟨P,0,none⟩)] W fun e w' => e = .returned (.bool true) ∧ Q w') (hq : ∀ w',Q w' → ∃ g,w'.cell? ⟨P,3,none⟩ = some (.func (.func g) #[.pointer (some ⟨P,0,none⟩)] #[])) : Calls Tryz.prog 110 #[.pointer (some ⟨P,0,none⟩)] W fun e w' => e = .returned (.bool false) ∧ Q w' := by
 subst hn
 have c3 : W.cell? ⟨P,3,none⟩ = some (.func (.func 208) #[.pointer (some ⟨P,0,none⟩)] #[]) := by rw [cell_of_row _ _ _ _ _ _ h]; rfl
 have HC := hide hc
 have HQ := hide hq
 have q1 := fneq 208 #[.pointer (some ⟨P,0,none⟩)] #[] W
 clear h hc hq
 go_enter Tryz.func110,Tryz.ntmps110
 go_wp2_with fail
 refine HC.out.mono ?_
 rintro e w9 ⟨rfl,q9⟩
 obtain ⟨g,d3⟩ := HQ.out w9 q9
 have q2 := feql g #[.pointer (some ⟨P,0,none⟩)] #[] w9
 have HQ9 := hide q9
 clear q9 HC HQ
 go_wp2_with fail
 go_ret
 exact ⟨rfl,HQ9.out⟩
set_option maxHeartbeats 1600000 in
theorem step_end_readWordAgain (h : W.heap[P]? = some (.cells #[a0,a1,a2,a3,a4,a5,a6,a7,a8,a9,a10,a11,a12,a13] 195 (0,0))) (hn : a3 = .func (.func 208) #[.pointer (some ⟨P,0,none⟩)] #[]) (Q : World → Prop) (hc : Calls Tryz.prog 208 #[.pointer (some ⟨P,0,none⟩)] W fun e w' => e = .returned (.bool true) ∧ Q w') (hq : ∀ w',Q w' → w'.cell? ⟨P,3,none⟩ = some .nilFunc) : Calls Tryz.prog 110 #[.pointer (some ⟨P,0,none⟩)] W fun e w' => e = .returned (.bool true) ∧ Q w' := by
 subst hn
 have c3 : W.cell? ⟨P,3,none⟩ = some (.func (.func 208) #[.pointer (some ⟨P,0,none⟩)] #[]) := by rw [cell_of_row _ _ _ _ _ _ h]; rfl
 have HC := hide hc
 have HQ := hide hq
 have q1 := fneq 208 #[.pointer (some ⟨P,0,none⟩)] #[] W
 clear h hc hq
 go_enter Tryz.func110,Tryz.ntmps110
 go_wp2_with fail
 refine HC.out.mono ?_
 rintro e w9 ⟨rfl,q9⟩
 have d3 := HQ.out w9 q9
 have q2 := feql0 w9
 have HQ9 := hide q9
 clear q9 HC HQ
 go_wp2_with fail
 go_ret
 exact ⟨rfl,HQ9.out⟩
set_option maxHeartbeats 1600000 in
theorem step_not_readWord (h : W.heap[P]? = some (.cells #[a0,a1,a2,a3,a4,a5,a6,a7,a8,a9,a10,a11,a12,a13] 195 (0,0))) (hn : a3 = .func (.func 161) #[.pointer (some ⟨P,0,none⟩)] #[]) (hc : Calls Tryz.prog 161 #[.pointer (some ⟨P,0,none⟩)] W fun e w' => e = .returned (.bool false) ∧ (∃ x3 x4 x5 x6 x7 x8 x9 x10 x11,w'.heap[P]? = some (.cells #[a0,a1,a2,x3,x4,x5,x6,x7,x8,x9,x10,x11,a12,a13] 195 (0,0))) ∧ Upd (fun k => k = P) W w') : Calls Tryz.prog 110 #[.pointer (some ⟨P,0,none⟩)] W (MbP W P #[a0,a1,a2,.nilFunc,.int .i64 0,.int .u64 0,.int .i64 0,.slice none 0 0,.int .i64 0,.slice none 0 0,.slice none 0 0,.slice none 0 0,a12,a13] (.bool true)) := by
 subst hn
 have c3 : W.cell? ⟨P,3,none⟩ = some (.func (.func 161) #[.pointer (some ⟨P,0,none⟩)] #[]) := by rw [cell_of_row _ _ _ _ _ _ h]; rfl
 have HC := hide hc
 have q1 := fneq 161 #[.pointer (some ⟨P,0,none⟩)] #[] W
 clear h hc
 go_enter Tryz.func110,Tryz.ntmps110
 go_wp2_with fail
 refine HC.out.mono ?_
 rintro e w9 ⟨rfl,⟨x3,x4,x5,x6,x7,x8,x9,x10,x11,g9⟩,u9⟩
 have q2 := feql0
 have d3 : w9.cell? ⟨P,3,none⟩ = some x3 := by rw [cell_of_row _ _ _ _ _ _ g9]; rfl
 have d4 : w9.cell? ⟨P,4,none⟩ = some x4 := by rw [cell_of_row _ _ _ _ _ _ g9]; rfl
 have d5 : w9.cell? ⟨P,5,none⟩ = some x5 := by rw [cell_of_row _ _ _ _ _ _ g9]; rfl
 have d6 : w9.cell? ⟨P,6,none⟩ = some x6 := by rw [cell_of_row _ _ _ _ _ _ g9]; rfl
 have d7 : w9.cell? ⟨P,7,none⟩ = some x7 := by rw [cell_of_row _ _ _ _ _ _ g9]; rfl
 have d8 : w9.cell? ⟨P,8,none⟩ = some x8 := by rw [cell_of_row _ _ _ _ _ _ g9]; rfl
 have d9 : w9.cell? ⟨P,9,none⟩ = some x9 := by rw [cell_of_row _ _ _ _ _ _ g9]; rfl
 have d10 : w9.cell? ⟨P,10,none⟩ = some x10 := by rw [cell_of_row _ _ _ _ _ _ g9]; rfl
 have d11 : w9.cell? ⟨P,11,none⟩ = some x11 := by rw [cell_of_row _ _ _ _ _ _ g9]; rfl
 have F0 := fun j => frozen_of g9 j
 have HG := hide g9
 have HU := hide u9
 clear g9 u9 HC
 go_wp2_with fail
 go_ret
 exact ⟨rfl,(m14_11 (m14_10 (m14_9 (m14_8 (m14_7 (m14_6 (m14_5 (m14_4 (m14_3 HG.out _) _) _) _) _) _) _) _) _),(updP (updP (updP (updP (updP (updP (updP (updP (updP HU.out _ _) _ _) _ _) _ _) _ _) _ _) _ _) _ _) _ _)⟩
set_option maxHeartbeats 1600000 in
theorem step_not_readHead (h : W.heap[P]? = some (.cells #[a0,a1,a2,a3,a4,a5,a6,a7,a8,a9,a10,a11,a12,a13] 195 (0,0))) (hn : a3 = .func (.func 181) #[.pointer (some ⟨P,0,none⟩)] #[]) (hc : Calls Tryz.prog 181 #[.pointer (some ⟨P,0,none⟩)] W fun e w' => e = .returned (.bool false) ∧ (∃ x3 x4 x5 x6 x7 x8 x9 x10 x11,w'.heap[P]? = some (.cells #[a0,a1,a2,x3,x4,x5,x6,x7,x8,x9,x10,x11,a12,a13] 195 (0,0))) ∧ Upd (fun k => k = P) W w') : Calls Tryz.prog 110 #[.pointer (some ⟨P,0,none⟩)] W (MbP W P #[a0,a1,a2,.nilFunc,.int .i64 0,.int .u64 0,.int .i64 0,.slice none 0 0,.int .i64 0,.slice none 0 0,.slice none 0 0,.slice none 0 0,a12,a13] (.bool true)) := by
 subst hn
 have c3 : W.cell? ⟨P,3,none⟩ = some (.func (.func 181) #[.pointer (some ⟨P,0,none⟩)] #[]) := by rw [cell_of_row _ _ _ _ _ _ h]; rfl
 have HC := hide hc
 have q1 := fneq 181 #[.pointer (some ⟨P,0,none⟩)] #[] W
 clear h hc
 go_enter Tryz.func110,Tryz.ntmps110
 go_wp2_with fail
 refine HC.out.mono ?_
 rintro e w9 ⟨rfl,⟨x3,x4,x5,x6,x7,x8,x9,x10,x11,g9⟩,u9⟩
 have q2 := feql0
 have d3 : w9.cell? ⟨P,3,none⟩ = some x3 := by rw [cell_of_row _ _ _ _ _ _ g9]; rfl
 have d4 : w9.cell? ⟨P,4,none⟩ = some x4 := by rw [cell_of_row _ _ _ _ _ _ g9]; rfl
 have d5 : w9.cell? ⟨P,5,none⟩ = some x5 := by rw [cell_of_row _ _ _ _ _ _ g9]; rfl
 have d6 : w9.cell? ⟨P,6,none⟩ = some x6 := by rw [cell_of_row _ _ _ _ _ _ g9]; rfl
 have d7 : w9.cell? ⟨P,7,none⟩ = some x7 := by rw [cell_of_row _ _ _ _ _ _ g9]; rfl
 have d8 : w9.cell? ⟨P,8,none⟩ = some x8 := by rw [cell_of_row _ _ _ _ _ _ g9]; rfl
 have d9 : w9.cell? ⟨P,9,none⟩ = some x9 := by rw [cell_of_row _ _ _ _ _ _ g9]; rfl
 have d10 : w9.cell? ⟨P,10,none⟩ = some x10 := by rw [cell_of_row _ _ _ _ _ _ g9]; rfl
 have d11 : w9.cell? ⟨P,11,none⟩ = some x11 := by rw [cell_of_row _ _ _ _ _ _ g9]; rfl
 have F0 := fun j => frozen_of g9 j
 have HG := hide g9
 have HU := hide u9
 clear g9 u9 HC
 go_wp2_with fail
 go_ret
 exact ⟨rfl,(m14_11 (m14_10 (m14_9 (m14_8 (m14_7 (m14_6 (m14_5 (m14_4 (m14_3 HG.out _) _) _) _) _) _) _) _) _),(updP (updP (updP (updP (updP (updP (updP (updP (updP HU.out _ _) _ _) _ _) _ _) _ _) _ _) _ _) _ _) _ _)⟩
set_option maxHeartbeats 1600000 in
theorem step_not_readBody (h : W.heap[P]? = some (.cells #[a0,a1,a2,a3,a4,a5,a6,a7,a8,a9,a10,a11,a12,a13] 195 (0,0))) (hn : a3 = .func (.func 199) #[.pointer (some ⟨P,0,none⟩)] #[]) (hc : Calls Tryz.prog 199 #[.pointer (some ⟨P,0,none⟩)] W fun e w' => e = .returned (.bool false) ∧ (∃ x3 x4 x5 x6 x7 x8 x9 x10 x11,w'.heap[P]? = some (.cells #[a0,a1,a2,x3,x4,x5,x6,x7,x8,x9,x10,x11,a12,a13] 195 (0,0))) ∧ Upd (fun k => k = P) W w') : Calls Tryz.prog 110 #[.pointer (some ⟨P,0,none⟩)] W (MbP W P #[a0,a1,a2,.nilFunc,.int .i64 0,.int .u64 0,.int .i64 0,.slice none 0 0,.int .i64 0,.slice none 0 0,.slice none 0 0,.slice none 0 0,a12,a13] (.bool true)) := by
 subst hn
 have c3 : W.cell? ⟨P,3,none⟩ = some (.func (.func 199) #[.pointer (some ⟨P,0,none⟩)] #[]) := by rw [cell_of_row _ _ _ _ _ _ h]; rfl
 have HC := hide hc
 have q1 := fneq 199 #[.pointer (some ⟨P,0,none⟩)] #[] W
 clear h hc
 go_enter Tryz.func110,Tryz.ntmps110
 go_wp2_with fail
 refine HC.out.mono ?_
 rintro e w9 ⟨rfl,⟨x3,x4,x5,x6,x7,x8,x9,x10,x11,g9⟩,u9⟩
 have q2 := feql0
 have d3 : w9.cell? ⟨P,3,none⟩ = some x3 := by rw [cell_of_row _ _ _ _ _ _ g9]; rfl
 have d4 : w9.cell? ⟨P,4,none⟩ = some x4 := by rw [cell_of_row _ _ _ _ _ _ g9]; rfl
 have d5 : w9.cell? ⟨P,5,none⟩ = some x5 := by rw [cell_of_row _ _ _ _ _ _ g9]; rfl
 have d6 : w9.cell? ⟨P,6,none⟩ = some x6 := by rw [cell_of_row _ _ _ _ _ _ g9]; rfl
 have d7 : w9.cell? ⟨P,7,none⟩ = some x7 := by rw [cell_of_row _ _ _ _ _ _ g9]; rfl
 have d8 : w9.cell? ⟨P,8,none⟩ = some x8 := by rw [cell_of_row _ _ _ _ _ _ g9]; rfl
 have d9 : w9.cell? ⟨P,9,none⟩ = some x9 := by rw [cell_of_row _ _ _ _ _ _ g9]; rfl
 have d10 : w9.cell? ⟨P,10,none⟩ = some x10 := by rw [cell_of_row _ _ _ _ _ _ g9]; rfl
 have d11 : w9.cell? ⟨P,11,none⟩ = some x11 := by rw [cell_of_row _ _ _ _ _ _ g9]; rfl
 have F0 := fun j => frozen_of g9 j
 have HG := hide g9
 have HU := hide u9
 clear g9 u9 HC
 go_wp2_with fail
 go_ret
 exact ⟨rfl,(m14_11 (m14_10 (m14_9 (m14_8 (m14_7 (m14_6 (m14_5 (m14_4 (m14_3 HG.out _) _) _) _) _) _) _) _) _),(updP (updP (updP (updP (updP (updP (updP (updP (updP HU.out _ _) _ _) _ _) _ _) _ _) _ _) _ _) _ _) _ _)⟩
set_option maxHeartbeats 1600000 in
theorem step_not_readWordAgain (h : W.heap[P]? = some (.cells #[a0,a1,a2,a3,a4,a5,a6,a7,a8,a9,a10,a11,a12,a13] 195 (0,0))) (hn : a3 = .func (.func 208) #[.pointer (some ⟨P,0,none⟩)] #[]) (hc : Calls Tryz.prog 208 #[.pointer (some ⟨P,0,none⟩)] W fun e w' => e = .returned (.bool false) ∧ (∃ x3 x4 x5 x6 x7 x8 x9 x10 x11,w'.heap[P]? = some (.cells #[a0,a1,a2,x3,x4,x5,x6,x7,x8,x9,x10,x11,a12,a13] 195 (0,0))) ∧ Upd (fun k => k = P) W w') : Calls Tryz.prog 110 #[.pointer (some ⟨P,0,none⟩)] W (MbP W P #[a0,a1,a2,.nilFunc,.int .i64 0,.int .u64 0,.int .i64 0,.slice none 0 0,.int .i64 0,.slice none 0 0,.slice none 0 0,.slice none 0 0,a12,a13] (.bool true)) := by
 subst hn
 have c3 : W.cell? ⟨P,3,none⟩ = some (.func (.func 208) #[.pointer (some ⟨P,0,none⟩)] #[]) := by rw [cell_of_row _ _ _ _ _ _ h]; rfl
 have HC := hide hc
 have q1 := fneq 208 #[.pointer (some ⟨P,0,none⟩)] #[] W
 clear h hc
 go_enter Tryz.func110,Tryz.ntmps110
 go_wp2_with fail
 refine HC.out.mono ?_
 rintro e w9 ⟨rfl,⟨x3,x4,x5,x6,x7,x8,x9,x10,x11,g9⟩,u9⟩
 have q2 := feql0
 have d3 : w9.cell? ⟨P,3,none⟩ = some x3 := by rw [cell_of_row _ _ _ _ _ _ g9]; rfl
 have d4 : w9.cell? ⟨P,4,none⟩ = some x4 := by rw [cell_of_row _ _ _ _ _ _ g9]; rfl
 have d5 : w9.cell? ⟨P,5,none⟩ = some x5 := by rw [cell_of_row _ _ _ _ _ _ g9]; rfl
 have d6 : w9.cell? ⟨P,6,none⟩ = some x6 := by rw [cell_of_row _ _ _ _ _ _ g9]; rfl
 have d7 : w9.cell? ⟨P,7,none⟩ = some x7 := by rw [cell_of_row _ _ _ _ _ _ g9]; rfl
 have d8 : w9.cell? ⟨P,8,none⟩ = some x8 := by rw [cell_of_row _ _ _ _ _ _ g9]; rfl
 have d9 : w9.cell? ⟨P,9,none⟩ = some x9 := by rw [cell_of_row _ _ _ _ _ _ g9]; rfl
 have d10 : w9.cell? ⟨P,10,none⟩ = some x10 := by rw [cell_of_row _ _ _ _ _ _ g9]; rfl
 have d11 : w9.cell? ⟨P,11,none⟩ = some x11 := by rw [cell_of_row _ _ _ _ _ _ g9]; rfl
 have F0 := fun j => frozen_of g9 j
 have HG := hide g9
 have HU := hide u9
 clear g9 u9 HC
 go_wp2_with fail
 go_ret
 exact ⟨rfl,(m14_11 (m14_10 (m14_9 (m14_8 (m14_7 (m14_6 (m14_5 (m14_4 (m14_3 HG.out _) _) _) _) _) _) _) _) _),(updP (updP (updP (updP (updP (updP (updP (updP (updP HU.out _ _) _ _) _ _) _ _) _ _) _ _) _ _) _ _) _ _)⟩
end
end Go.Proofs.YtljnapejgjffjaaGreat
