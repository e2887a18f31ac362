/- Texts of one's own. -/
import Derived.Test.YtealejbfloacpaaGreatM24
import Derived.Test.YtealejbfloacpaaGreatM16
import Derived.Test.YtealejbfloacpaaGreatM23
import Derived.Test.YtealejbfloacpaaGreatM11
import Derived.Test.YtealejbfloacpaaGreatM12
namespace Go.Proofs.YtealejbfloacpaaGreat
open Go.RowKit
set_option maxRecDepth 100000
section
variable {W : World} {P A : Nat} {F : Nat → Prop} {s : AS} {id : Int} {wd an : Nat} {a0 a1 a2 a3 a4 a5 a6 a7 a8 a9 a10 a11 a12 a13 : Value}
set_option maxHeartbeats 1600000 in
theorem readAgain_not (h : W.heap[P]? = some (.cells #[a0, a1, a2, a3, a4, a5, a6, a7, a8, a9, a10, a11, a12, a13] 206 (0, 0))) (ha : a0 = .pointer (some ⟨A, 0, none⟩)) (hi : a4 = .int .i64 id) (hp : PX W A F s) (hin : ¬ s.inn id) : Calls Tryz.prog 219 #[.pointer (some ⟨P, 0, none⟩)] W (MbP W P #[a0, a1, a2, a3, a4, a5, a6, a7, a8, a9, a10, a11, a12, a13] (.bool false)) := by
 have HQ := hide (wordQ hp id)
 rw [show s.wordE id = 101 from if_neg hin, show s.wordW id = 0 from if_neg hin] at HQ
 subst ha
 subst hi
 have c0 : W.cell? ⟨P, 0, none⟩ = some (.pointer (some ⟨A, 0, none⟩)) := by rw [cell_of_row _ _ _ _ _ _ h]; rfl
 have c4 : W.cell? ⟨P, 4, none⟩ = some (.int .i64 id) := by rw [cell_of_row _ _ _ _ _ _ h]; rfl
 have HH := hide h
 clear h hp
 go_enter Tryz.func219, Tryz.ntmps219
 go_wp2_with fail
 go_quiet ((go_at_call 44; with_reducible exact HQ.out _))
 clear HQ
 go_wp2_with fail
 go_ret
 exact ⟨rfl, HH.out, upd_drewN _ _ _⟩
set_option maxHeartbeats 1600000 in
theorem readAgain_anew (h : W.heap[P]? = some (.cells #[a0, a1, a2, a3, a4, a5, a6, a7, a8, a9, a10, a11, a12, a13] 206 (0, 0))) (ha : a0 = .pointer (some ⟨A, 0, none⟩)) (hi : a4 = .int .i64 id) (hp : PX W A F s) (hw : a5 = .int .u64 (wd : Nat)) (hn : a12 = .int .i64 (an : Nat)) (han : an < 4611686018427387904) (hin : s.inn id) (hne : ¬ s.w id = wd) : Calls Tryz.prog 219 #[.pointer (some ⟨P, 0, none⟩)] W (MbP W P #[a0, a1, a2, .func (.func 119) #[.pointer (some ⟨P, 0, none⟩)] #[], .int .i64 0, .int .u64 0, .int .i64 0, .slice none 0 0, .int .i64 0, .slice none 0 0, .slice none 0 0, .slice none 0 0, .int .i64 ((an + 1 : Nat) : Int), a13] (.bool true)) := by
 have HQ := hide (wordQ hp id)
 rw [show s.wordE id = 0 from if_pos hin, show s.wordW id = s.w id from if_pos hin] at HQ
 generalize s.w id = x at *
 have j1 : ¬ (x : Int) = (wd : Int) := by omega
 subst ha
 subst hi
 subst hw
 subst hn
 have c0 : W.cell? ⟨P, 0, none⟩ = some (.pointer (some ⟨A, 0, none⟩)) := by rw [cell_of_row _ _ _ _ _ _ h]; rfl
 have c3 : W.cell? ⟨P, 3, none⟩ = some (a3) := by rw [cell_of_row _ _ _ _ _ _ h]; rfl
 have c4 : W.cell? ⟨P, 4, none⟩ = some (.int .i64 id) := by rw [cell_of_row _ _ _ _ _ _ h]; rfl
 have c5 : W.cell? ⟨P, 5, none⟩ = some (.int .u64 (wd : Nat)) := by rw [cell_of_row _ _ _ _ _ _ h]; rfl
 have c6 : W.cell? ⟨P, 6, none⟩ = some (a6) := by rw [cell_of_row _ _ _ _ _ _ h]; rfl
 have c7 : W.cell? ⟨P, 7, none⟩ = some (a7) := by rw [cell_of_row _ _ _ _ _ _ h]; rfl
 have c8 : W.cell? ⟨P, 8, none⟩ = some (a8) := by rw [cell_of_row _ _ _ _ _ _ h]; rfl
 have c9 : W.cell? ⟨P, 9, none⟩ = some (a9) := by rw [cell_of_row _ _ _ _ _ _ h]; rfl
 have c10 : W.cell? ⟨P, 10, none⟩ = some (a10) := by rw [cell_of_row _ _ _ _ _ _ h]; rfl
 have c11 : W.cell? ⟨P, 11, none⟩ = some (a11) := by rw [cell_of_row _ _ _ _ _ _ h]; rfl
 have c12 : W.cell? ⟨P, 12, none⟩ = some (.int .i64 (an : Nat)) := by rw [cell_of_row _ _ _ _ _ _ h]; rfl
 have F0 := fun j => frozen_of h j
 have HH := hide h
 have han' := hide han
 clear h hp hne han
 go_enter Tryz.func219, Tryz.ntmps219
 go_wp2_with fail
 go_quiet ((go_at_call 44; with_reducible exact HQ.out _))
 clear HQ
 have j2 : IntKind.i64.wrap ((an : Int) + 1) = (an : Int) + 1 := by have := han'.out; rw [IntKind.wrap_i64]; omega
 clear han'
 go_wp2_with fail
 go_ret
 exact ⟨rfl, (m14_3 (m14_11 (m14_10 (m14_9 (m14_8 (m14_7 (m14_6 (m14_5 (m14_4 (m14_12 HH.out _) _) _) _) _) _) _) _) _) _), (updP (updP (updP (updP (updP (updP (updP (updP (updP (updP (upd_drewN _ _ _) _ _) _ _) _ _) _ _) _ _) _ _) _ _) _ _) _ _) _ _)⟩
set_option maxHeartbeats 1600000 in
theorem readAgain_same (h : W.heap[P]? = some (.cells #[a0, a1, a2, a3, a4, a5, a6, a7, a8, a9, a10, a11, a12, a13] 206 (0, 0))) (ha : a0 = .pointer (some ⟨A, 0, none⟩)) (hi : a4 = .int .i64 id) (hp : PX W A F s) (hw : a5 = .int .u64 (wd : Nat)) (hin : s.inn id) (heq : s.w id = wd) {cs : Array Value} {r : Bool} (hc : ∀ q, Calls Tryz.prog 226 #[.pointer (some ⟨P, 0, none⟩)] (W.drewN q) (MbP (W.drewN q) P cs (.bool r))) : Calls Tryz.prog 219 #[.pointer (some ⟨P, 0, none⟩)] W (MbP W P cs (.bool r)) := by
 have HQ := hide (wordQ hp id)
 rw [show s.wordE id = 0 from if_pos hin, show s.wordW id = s.w id from if_pos hin, heq] at HQ
 subst ha
 subst hi
 subst hw
 have c0 : W.cell? ⟨P, 0, none⟩ = some (.pointer (some ⟨A, 0, none⟩)) := by rw [cell_of_row _ _ _ _ _ _ h]; rfl
 have c4 : W.cell? ⟨P, 4, none⟩ = some (.int .i64 id) := by rw [cell_of_row _ _ _ _ _ _ h]; rfl
 have c5 : W.cell? ⟨P, 5, none⟩ = some (.int .u64 (wd : Nat)) := by rw [cell_of_row _ _ _ _ _ _ h]; rfl
 have HC := hide hc
 clear h hp heq hc
 go_enter Tryz.func219, Tryz.ntmps219
 go_wp2_with fail
 go_quiet ((go_at_call 44; with_reducible exact HQ.out _))
 clear HQ
 go_wp2_with fail
 refine (HC.out _).mono ?_
 rintro e w9 ⟨rfl, g9, u9⟩
 have HG := hide g9
 have HU : Hid (Upd (fun k => k = P) W w9) := (upd_drewN _ _ _).trans u9
 clear g9 u9 HC
 go_wp2_with fail
 go_ret
 exact ⟨rfl, HG.out, HU.out⟩
theorem fneq (f : FuncId) (r c : Array Value) (W : World) : (binOp .neq 24 (.func (.func f) r c) .nilFunc).run Tryz.prog W = .ok (.bool true) W := by kernel_rfl
theorem feql (f : FuncId) (r c : Array Value) (W : World) : (binOp .eql 24 (.func (.func f) r c) .nilFunc).run Tryz.prog W = .ok (.bool false) W := by kernel_rfl
theorem fneq0 (W : World) : (binOp .neq 24 .nilFunc .nilFunc).run Tryz.prog W = .ok (.bool false) W := by kernel_rfl
theorem feql0 (W : World) : (binOp .eql 24 .nilFunc .nilFunc).run Tryz.prog W = .ok (.bool true) W := by kernel_rfl
set_option maxHeartbeats 1600000 in
theorem step_idle (h : W.heap[P]? = some (.cells #[a0, a1, a2, a3, a4, a5, a6, a7, a8, a9, a10, a11, a12, a13] 206 (0, 0))) (hn : a3 = .nilFunc) : Calls Tryz.prog 67 #[.pointer (some ⟨P, 0, none⟩)] W fun e w' => e = .returned (.bool true) ∧ w' = W := by
 subst hn
 have c3 : W.cell? ⟨P, 3, none⟩ = some (.nilFunc) := by rw [cell_of_row _ _ _ _ _ _ h]; rfl
 have q1 := fneq0 W
 have q2 := feql0 W
 clear h
 go_enter Tryz.func67, Tryz.ntmps67
 go_wp2_with fail
 go_ret
 exact ⟨rfl, rfl⟩
set_option maxHeartbeats 1600000 in
theorem step_go_readRoot (h : W.heap[P]? = some (.cells #[a0, a1, a2, a3, a4, a5, a6, a7, a8, a9, a10, a11, a12, a13] 206 (0, 0))) (hn : a3 = .func (.func 119) #[.pointer (some ⟨P, 0, none⟩)] #[]) (Q : World → Prop) (hc : Calls Tryz.prog 119 #[.pointer (some ⟨P, 0, none⟩)] W fun e w' => e = .returned (.bool true) ∧ Q w') (hq : ∀ w', Q w' → ∃ g, w'.cell? ⟨P, 3, none⟩ = some (.func (.func g) #[.pointer (some ⟨P, 0, none⟩)] #[])) : Calls Tryz.prog 67 #[.pointer (some ⟨P, 0, none⟩)] W fun e w' => e = .returned (.bool false) ∧ Q w' := by
 subst hn
 have c3 : W.cell? ⟨P, 3, none⟩ = some (.func (.func 119) #[.pointer (some ⟨P, 0, none⟩)] #[]) := by rw [cell_of_row _ _ _ _ _ _ h]; rfl
 have HC := hide hc
 have HQ := hide hq
 have q1 := fneq 119 #[.pointer (some ⟨P, 0, none⟩)] #[] W
 clear h hc hq
 go_enter Tryz.func67, Tryz.ntmps67
 go_wp2_with fail
 refine HC.out.mono ?_
 rintro e w9 ⟨rfl, q9⟩
 obtain ⟨g, d3⟩ := HQ.out w9 q9
 have q2 := feql g #[.pointer (some ⟨P, 0, none⟩)] #[] w9
 have HQ9 := hide q9
 clear q9 HC HQ
 go_wp2_with fail
 go_ret
 exact ⟨rfl, HQ9.out⟩
set_option maxHeartbeats 1600000 in
theorem step_go_readWord (h : W.heap[P]? = some (.cells #[a0, a1, a2, a3, a4, a5, a6, a7, a8, a9, a10, a11, a12, a13] 206 (0, 0))) (hn : a3 = .func (.func 173) #[.pointer (some ⟨P, 0, none⟩)] #[]) (Q : World → Prop) (hc : Calls Tryz.prog 173 #[.pointer (some ⟨P, 0, none⟩)] W fun e w' => e = .returned (.bool true) ∧ Q w') (hq : ∀ w', Q w' → ∃ g, w'.cell? ⟨P, 3, none⟩ = some (.func (.func g) #[.pointer (some ⟨P, 0, none⟩)] #[])) : Calls Tryz.prog 67 #[.pointer (some ⟨P, 0, none⟩)] W fun e w' => e = .returned (.bool false) ∧ Q w' := by
 subst hn
 have c3 : W.cell? ⟨P, 3, none⟩ = some (.func (.func 173) #[.pointer (some ⟨P, 0, none⟩)] #[]) := by rw [cell_of_row _ _ _ _ _ _ h]; rfl
 have HC := hide hc
 have HQ := hide hq
 have q1 := fneq 173 #[.pointer (some ⟨P, 0, none⟩)] #[] W
 clear h hc hq
 go_enter Tryz.func67, Tryz.ntmps67
 go_wp2_with fail
 refine HC.out.mono ?_
 rintro e w9 ⟨rfl, q9⟩
 obtain ⟨g, d3⟩ := HQ.out w9 q9
 have q2 := feql g #[.pointer (some ⟨P, 0, none⟩)] #[] w9
 have HQ9 := hide q9
 clear q9 HC HQ
 go_wp2_with fail
 go_ret
 exact ⟨rfl, HQ9.out⟩
set_option maxHeartbeats 1600000 in
theorem step_go_readHead (h : W.heap[P]? = some (.cells #[a0, a1, a2, a3, a4, a5, a6, a7, a8, a9, a10, a11, a12, a13] 206 (0, 0))) (hn : a3 = .func (.func 188) #[.pointer (some ⟨P, 0, none⟩)] #[]) (Q : World → Prop) (hc : Calls Tryz.prog 188 #[.pointer (some ⟨P, 0, none⟩)] W fun e w' => e = .returned (.bool true) ∧ Q w') (hq : ∀ w', Q w' → ∃ g, w'.cell? ⟨P, 3, none⟩ = some (.func (.func g) #[.pointer (some ⟨P, 0, none⟩)] #[])) : Calls Tryz.prog 67 #[.pointer (some ⟨P, 0, none⟩)] W fun e w' => e = .returned (.bool false) ∧ Q w' := by
 subst hn
 have c3 : W.cell? ⟨P, 3, none⟩ = some (.func (.func 188) #[.pointer (some ⟨P, 0, none⟩)] #[]) := by rw [cell_of_row _ _ _ _ _ _ h]; rfl
 have HC := hide hc
 have HQ := hide hq
 have q1 := fneq 188 #[.pointer (some ⟨P, 0, none⟩)] #[] W
 clear h hc hq
 go_enter Tryz.func67, Tryz.ntmps67
 go_wp2_with fail
 refine HC.out.mono ?_
 rintro e w9 ⟨rfl, q9⟩
 obtain ⟨g, d3⟩ := HQ.out w9 q9
 have q2 := feql g #[.pointer (some ⟨P, 0, none⟩)] #[] w9
 have HQ9 := hide q9
 clear q9 HC HQ
 go_wp2_with fail
 go_ret
 exact ⟨rfl, HQ9.out⟩
set_option maxHeartbeats 1600000 in
theorem step_go_readBody (h : W.heap[P]? = some (.cells #[a0, a1, a2, a3, a4, a5, a6, a7, a8, a9, a10, a11, a12, a13] 206 (0, 0))) (hn : a3 = .func (.func 206) #[.pointer (some ⟨P, 0, none⟩)] #[]) (Q : World → Prop) (hc : Calls Tryz.prog 206 #[.pointer (some ⟨P, 0, none⟩)] W fun e w' => e = .returned (.bool true) ∧ Q w') (hq : ∀ w', Q w' → ∃ g, w'.cell? ⟨P, 3, none⟩ = some (.func (.func g) #[.pointer (some ⟨P, 0, none⟩)] #[])) : Calls Tryz.prog 67 #[.pointer (some ⟨P, 0, none⟩)] W fun e w' => e = .returned (.bool false) ∧ Q w' := by
 subst hn
 have c3 : W.cell? ⟨P, 3, none⟩ = some (.func (.func 206) #[.pointer (some ⟨P, 0, none⟩)] #[]) := by rw [cell_of_row _ _ _ _ _ _ h]; rfl
 have HC := hide hc
 have HQ := hide hq
 have q1 := fneq 206 #[.pointer (some ⟨P, 0, none⟩)] #[] W
 clear h hc hq
 go_enter Tryz.func67, Tryz.ntmps67
 go_wp2_with fail
 refine HC.out.mono ?_
 rintro e w9 ⟨rfl, q9⟩
 obtain ⟨g, d3⟩ := HQ.out w9 q9
 have q2 := feql g #[.pointer (some ⟨P, 0, none⟩)] #[] w9
 have HQ9 := hide q9
 clear q9 HC HQ
 go_wp2_with fail
 go_ret
 exact ⟨rfl, HQ9.out⟩
set_option maxHeartbeats 1600000 in
theorem step_go_readWordAgain (h : W.heap[P]? = some (.cells #[a0, a1, a2, a3, a4, a5, a6, a7, a8, a9, a10, a11, a12, a13] 206 (0, 0))) (hn : a3 = .func (.func 219) #[.pointer (some ⟨P, 0, none⟩)] #[]) (Q : World → Prop) (hc : Calls Tryz.prog 219 #[.pointer (some ⟨P, 0, none⟩)] W fun e w' => e = .returned (.bool true) ∧ Q w') (hq : ∀ w', Q w' → ∃ g, w'.cell? ⟨P, 3, none⟩ = some (.func (.func g) #[.pointer (some ⟨P, 0, none⟩)] #[])) : Calls Tryz.prog 67 #[.pointer (some ⟨P, 0, none⟩)] W fun e w' => e = .returned (.bool false) ∧ Q w' := by
 subst hn
 have c3 : W.cell? ⟨P, 3, none⟩ = some (.func (.func 219) #[.pointer (some ⟨P, 0, none⟩)] #[]) := by rw [cell_of_row _ _ _ _ _ _ h]; rfl
 have HC := hide hc
 have HQ := hide hq
 have q1 := fneq 219 #[.pointer (some ⟨P, 0, none⟩)] #[] W
 clear h hc hq
 go_enter Tryz.func67, Tryz.ntmps67
 go_wp2_with fail
 refine HC.out.mono ?_
 rintro e w9 ⟨rfl, q9⟩
 obtain ⟨g, d3⟩ := HQ.out w9 q9
 have q2 := feql g #[.pointer (some ⟨P, 0, none⟩)] #[] w9
 have HQ9 := hide q9
 clear q9 HC HQ
 go_wp2_with fail
 go_ret
 exact ⟨rfl, HQ9.out⟩
set_option maxHeartbeats 1600000 in
theorem step_end_readWordAgain (h : W.heap[P]? = some (.cells #[a0, a1, a2, a3, a4, a5, a6, a7, a8, a9, a10, a11, a12, a13] 206 (0, 0))) (hn : a3 = .func (.func 219) #[.pointer (some ⟨P, 0, none⟩)] #[]) (Q : World → Prop) (hc : Calls Tryz.prog 219 #[.pointer (some ⟨P, 0, none⟩)] W fun e w' => e = .returned (.bool true) ∧ Q w') (hq : ∀ w', Q w' → w'.cell? ⟨P, 3, none⟩ = some .nilFunc) : Calls Tryz.prog 67 #[.pointer (some ⟨P, 0, none⟩)] W fun e w' => e = .returned (.bool true) ∧ Q w' := by
 subst hn
 have c3 : W.cell? ⟨P, 3, none⟩ = some (.func (.func 219) #[.pointer (some ⟨P, 0, none⟩)] #[]) := by rw [cell_of_row _ _ _ _ _ _ h]; rfl
 have HC := hide hc
 have HQ := hide hq
 have q1 := fneq 219 #[.pointer (some ⟨P, 0, none⟩)] #[] W
 clear h hc hq
 go_enter Tryz.func67, Tryz.ntmps67
 go_wp2_with fail
 refine HC.out.mono ?_
 rintro e w9 ⟨rfl, q9⟩
 have d3 := HQ.out w9 q9
 have q2 := feql0 w9
 have HQ9 := hide q9
 clear q9 HC HQ
 go_wp2_with fail
 go_ret
 exact ⟨rfl, HQ9.out⟩
set_option maxHeartbeats 1600000 in
theorem step_not_readWord (h : W.heap[P]? = some (.cells #[a0, a1, a2, a3, a4, a5, a6, a7, a8, a9, a10, a11, a12, a13] 206 (0, 0))) (hn : a3 = .func (.func 173) #[.pointer (some ⟨P, 0, none⟩)] #[]) (hc : Calls Tryz.prog 173 #[.pointer (some ⟨P, 0, none⟩)] W fun e w' => e = .returned (.bool false) ∧ (∃ x3 x4 x5 x6 x7 x8 x9 x10 x11, w'.heap[P]? = some (.cells #[a0, a1, a2, x3, x4, x5, x6, x7, x8, x9, x10, x11, a12, a13] 206 (0, 0))) ∧ Upd (fun k => k = P) W w') : Calls Tryz.prog 67 #[.pointer (some ⟨P, 0, none⟩)] W (MbP W P #[a0, a1, a2, .nilFunc, .int .i64 0, .int .u64 0, .int .i64 0, .slice none 0 0, .int .i64 0, .slice none 0 0, .slice none 0 0, .slice none 0 0, a12, a13] (.bool true)) := by
 subst hn
 have c3 : W.cell? ⟨P, 3, none⟩ = some (.func (.func 173) #[.pointer (some ⟨P, 0, none⟩)] #[]) := by rw [cell_of_row _ _ _ _ _ _ h]; rfl
 have HC := hide hc
 have q1 := fneq 173 #[.pointer (some ⟨P, 0, none⟩)] #[] W
 clear h hc
 go_enter Tryz.func67, Tryz.ntmps67
 go_wp2_with fail
 refine HC.out.mono ?_
 rintro e w9 ⟨rfl, ⟨x3, x4, x5, x6, x7, x8, x9, x10, x11, g9⟩, u9⟩
 have q2 := feql0
 have d3 : w9.cell? ⟨P, 3, none⟩ = some x3 := by rw [cell_of_row _ _ _ _ _ _ g9]; rfl
 have d4 : w9.cell? ⟨P, 4, none⟩ = some x4 := by rw [cell_of_row _ _ _ _ _ _ g9]; rfl
 have d5 : w9.cell? ⟨P, 5, none⟩ = some x5 := by rw [cell_of_row _ _ _ _ _ _ g9]; rfl
 have d6 : w9.cell? ⟨P, 6, none⟩ = some x6 := by rw [cell_of_row _ _ _ _ _ _ g9]; rfl
 have d7 : w9.cell? ⟨P, 7, none⟩ = some x7 := by rw [cell_of_row _ _ _ _ _ _ g9]; rfl
 have d8 : w9.cell? ⟨P, 8, none⟩ = some x8 := by rw [cell_of_row _ _ _ _ _ _ g9]; rfl
 have d9 : w9.cell? ⟨P, 9, none⟩ = some x9 := by rw [cell_of_row _ _ _ _ _ _ g9]; rfl
 have d10 : w9.cell? ⟨P, 10, none⟩ = some x10 := by rw [cell_of_row _ _ _ _ _ _ g9]; rfl
 have d11 : w9.cell? ⟨P, 11, none⟩ = some x11 := by rw [cell_of_row _ _ _ _ _ _ g9]; rfl
 have F0 := fun j => frozen_of g9 j
 have HG := hide g9
 have HU := hide u9
 clear g9 u9 HC
 go_wp2_with fail
 go_ret
 exact ⟨rfl, (m14_11 (m14_10 (m14_9 (m14_8 (m14_7 (m14_6 (m14_5 (m14_4 (m14_3 HG.out _) _) _) _) _) _) _) _) _), (updP (updP (updP (updP (updP (updP (updP (updP (updP HU.out _ _) _ _) _ _) _ _) _ _) _ _) _ _) _ _) _ _)⟩
set_option maxHeartbeats 1600000 in
theorem step_not_readHead (h : W.heap[P]? = some (.cells #[a0, a1, a2, a3, a4, a5, a6, a7, a8, a9, a10, a11, a12, a13] 206 (0, 0))) (hn : a3 = .func (.func 188) #[.pointer (some ⟨P, 0, none⟩)] #[]) (hc : Calls Tryz.prog 188 #[.pointer (some ⟨P, 0, none⟩)] W fun e w' => e = .returned (.bool false) ∧ (∃ x3 x4 x5 x6 x7 x8 x9 x10 x11, w'.heap[P]? = some (.cells #[a0, a1, a2, x3, x4, x5, x6, x7, x8, x9, x10, x11, a12, a13] 206 (0, 0))) ∧ Upd (fun k => k = P) W w') : Calls Tryz.prog 67 #[.pointer (some ⟨P, 0, none⟩)] W (MbP W P #[a0, a1, a2, .nilFunc, .int .i64 0, .int .u64 0, .int .i64 0, .slice none 0 0, .int .i64 0, .slice none 0 0, .slice none 0 0, .slice none 0 0, a12, a13] (.bool true)) := by
 subst hn
 have c3 : W.cell? ⟨P, 3, none⟩ = some (.func (.func 188) #[.pointer (some ⟨P, 0, none⟩)] #[]) := by rw [cell_of_row _ _ _ _ _ _ h]; rfl
 have HC := hide hc
 have q1 := fneq 188 #[.pointer (some ⟨P, 0, none⟩)] #[] W
 clear h hc
 go_enter Tryz.func67, Tryz.ntmps67
 go_wp2_with fail
 refine HC.out.mono ?_
 rintro e w9 ⟨rfl, ⟨x3, x4, x5, x6, x7, x8, x9, x10, x11, g9⟩, u9⟩
 have q2 := feql0
 have d3 : w9.cell? ⟨P, 3, none⟩ = some x3 := by rw [cell_of_row _ _ _ _ _ _ g9]; rfl
 have d4 : w9.cell? ⟨P, 4, none⟩ = some x4 := by rw [cell_of_row _ _ _ _ _ _ g9]; rfl
 have d5 : w9.cell? ⟨P, 5, none⟩ = some x5 := by rw [cell_of_row _ _ _ _ _ _ g9]; rfl
 have d6 : w9.cell? ⟨P, 6, none⟩ = some x6 := by rw [cell_of_row _ _ _ _ _ _ g9]; rfl
 have d7 : w9.cell? ⟨P, 7, none⟩ = some x7 := by rw [cell_of_row _ _ _ _ _ _ g9]; rfl
 have d8 : w9.cell? ⟨P, 8, none⟩ = some x8 := by rw [cell_of_row _ _ _ _ _ _ g9]; rfl
 have d9 : w9.cell? ⟨P, 9, none⟩ = some x9 := by rw [cell_of_row _ _ _ _ _ _ g9]; rfl
 have d10 : w9.cell? ⟨P, 10, none⟩ = some x10 := by rw [cell_of_row _ _ _ _ _ _ g9]; rfl
 have d11 : w9.cell? ⟨P, 11, none⟩ = some x11 := by rw [cell_of_row _ _ _ _ _ _ g9]; rfl
 have F0 := fun j => frozen_of g9 j
 have HG := hide g9
 have HU := hide u9
 clear g9 u9 HC
 go_wp2_with fail
 go_ret
 exact ⟨rfl, (m14_11 (m14_10 (m14_9 (m14_8 (m14_7 (m14_6 (m14_5 (m14_4 (m14_3 HG.out _) _) _) _) _) _) _) _) _), (updP (updP (updP (updP (updP (updP (updP (updP (updP HU.out _ _) _ _) _ _) _ _) _ _) _ _) _ _) _ _) _ _)⟩
set_option maxHeartbeats 1600000 in
theorem step_not_readBody (h : W.heap[P]? = some (.cells #[a0, a1, a2, a3, a4, a5, a6, a7, a8, a9, a10, a11, a12, a13] 206 (0, 0))) (hn : a3 = .func (.func 206) #[.pointer (some ⟨P, 0, none⟩)] #[]) (hc : Calls Tryz.prog 206 #[.pointer (some ⟨P, 0, none⟩)] W fun e w' => e = .returned (.bool false) ∧ (∃ x3 x4 x5 x6 x7 x8 x9 x10 x11, w'.heap[P]? = some (.cells #[a0, a1, a2, x3, x4, x5, x6, x7, x8, x9, x10, x11, a12, a13] 206 (0, 0))) ∧ Upd (fun k => k = P) W w') : Calls Tryz.prog 67 #[.pointer (some ⟨P, 0, none⟩)] W (MbP W P #[a0, a1, a2, .nilFunc, .int .i64 0, .int .u64 0, .int .i64 0, .slice none 0 0, .int .i64 0, .slice none 0 0, .slice none 0 0, .slice none 0 0, a12, a13] (.bool true)) := by
 subst hn
 have c3 : W.cell? ⟨P, 3, none⟩ = some (.func (.func 206) #[.pointer (some ⟨P, 0, none⟩)] #[]) := by rw [cell_of_row _ _ _ _ _ _ h]; rfl
 have HC := hide hc
 have q1 := fneq 206 #[.pointer (some ⟨P, 0, none⟩)] #[] W
 clear h hc
 go_enter Tryz.func67, Tryz.ntmps67
 go_wp2_with fail
 refine HC.out.mono ?_
 rintro e w9 ⟨rfl, ⟨x3, x4, x5, x6, x7, x8, x9, x10, x11, g9⟩, u9⟩
 have q2 := feql0
 have d3 : w9.cell? ⟨P, 3, none⟩ = some x3 := by rw [cell_of_row _ _ _ _ _ _ g9]; rfl
 have d4 : w9.cell? ⟨P, 4, none⟩ = some x4 := by rw [cell_of_row _ _ _ _ _ _ g9]; rfl
 have d5 : w9.cell? ⟨P, 5, none⟩ = some x5 := by rw [cell_of_row _ _ _ _ _ _ g9]; rfl
 have d6 : w9.cell? ⟨P, 6, none⟩ = some x6 := by rw [cell_of_row _ _ _ _ _ _ g9]; rfl
 have d7 : w9.cell? ⟨P, 7, none⟩ = some x7 := by rw [cell_of_row _ _ _ _ _ _ g9]; rfl
 have d8 : w9.cell? ⟨P, 8, none⟩ = some x8 := by rw [cell_of_row _ _ _ _ _ _ g9]; rfl
 have d9 : w9.cell? ⟨P, 9, none⟩ = some x9 := by rw [cell_of_row _ _ _ _ _ _ g9]; rfl
 have d10 : w9.cell? ⟨P, 10, none⟩ = some x10 := by rw [cell_of_row _ _ _ _ _ _ g9]; rfl
 have d11 : w9.cell? ⟨P, 11, none⟩ = some x11 := by rw [cell_of_row _ _ _ _ _ _ g9]; rfl
 have F0 := fun j => frozen_of g9 j
 have HG := hide g9
 have HU := hide u9
 clear g9 u9 HC
 go_wp2_with fail
 go_ret
 exact ⟨rfl, (m14_11 (m14_10 (m14_9 (m14_8 (m14_7 (m14_6 (m14_5 (m14_4 (m14_3 HG.out _) _) _) _) _) _) _) _) _), (updP (updP (updP (updP (updP (updP (updP (updP (updP HU.out _ _) _ _) _ _) _ _) _ _) _ _) _ _) _ _) _ _)⟩
set_option maxHeartbeats 1600000 in
theorem step_not_readWordAgain (h : W.heap[P]? = some (.cells #[a0, a1, a2, a3, a4, a5, a6, a7, a8, a9, a10, a11, a12, a13] 206 (0, 0))) (hn : a3 = .func (.func 219) #[.pointer (some ⟨P, 0, none⟩)] #[]) (hc : Calls Tryz.prog 219 #[.pointer (some ⟨P, 0, none⟩)] W fun e w' => e = .returned (.bool false) ∧ (∃ x3 x4 x5 x6 x7 x8 x9 x10 x11, w'.heap[P]? = some (.cells #[a0, a1, a2, x3, x4, x5, x6, x7, x8, x9, x10, x11, a12, a13] 206 (0, 0))) ∧ Upd (fun k => k = P) W w') : Calls Tryz.prog 67 #[.pointer (some ⟨P, 0, none⟩)] W (MbP W P #[a0, a1, a2, .nilFunc, .int .i64 0, .int .u64 0, .int .i64 0, .slice none 0 0, .int .i64 0, .slice none 0 0, .slice none 0 0, .slice none 0 0, a12, a13] (.bool true)) := by
 subst hn
 have c3 : W.cell? ⟨P, 3, none⟩ = some (.func (.func 219) #[.pointer (some ⟨P, 0, none⟩)] #[]) := by rw [cell_of_row _ _ _ _ _ _ h]; rfl
 have HC := hide hc
 have q1 := fneq 219 #[.pointer (some ⟨P, 0, none⟩)] #[] W
 clear h hc
 go_enter Tryz.func67, Tryz.ntmps67
 go_wp2_with fail
 refine HC.out.mono ?_
 rintro e w9 ⟨rfl, ⟨x3, x4, x5, x6, x7, x8, x9, x10, x11, g9⟩, u9⟩
 have q2 := feql0
 have d3 : w9.cell? ⟨P, 3, none⟩ = some x3 := by rw [cell_of_row _ _ _ _ _ _ g9]; rfl
 have d4 : w9.cell? ⟨P, 4, none⟩ = some x4 := by rw [cell_of_row _ _ _ _ _ _ g9]; rfl
 have d5 : w9.cell? ⟨P, 5, none⟩ = some x5 := by rw [cell_of_row _ _ _ _ _ _ g9]; rfl
 have d6 : w9.cell? ⟨P, 6, none⟩ = some x6 := by rw [cell_of_row _ _ _ _ _ _ g9]; rfl
 have d7 : w9.cell? ⟨P, 7, none⟩ = some x7 := by rw [cell_of_row _ _ _ _ _ _ g9]; rfl
 have d8 : w9.cell? ⟨P, 8, none⟩ = some x8 := by rw [cell_of_row _ _ _ _ _ _ g9]; rfl
 have d9 : w9.cell? ⟨P, 9, none⟩ = some x9 := by rw [cell_of_row _ _ _ _ _ _ g9]; rfl
 have d10 : w9.cell? ⟨P, 10, none⟩ = some x10 := by rw [cell_of_row _ _ _ _ _ _ g9]; rfl
 have d11 : w9.cell? ⟨P, 11, none⟩ = some x11 := by rw [cell_of_row _ _ _ _ _ _ g9]; rfl
 have F0 := fun j => frozen_of g9 j
 have HG := hide g9
 have HU := hide u9
 clear g9 u9 HC
 go_wp2_with fail
 go_ret
 exact ⟨rfl, (m14_11 (m14_10 (m14_9 (m14_8 (m14_7 (m14_6 (m14_5 (m14_4 (m14_3 HG.out _) _) _) _) _) _) _) _) _), (updP (updP (updP (updP (updP (updP (updP (updP (updP HU.out _ _) _ _) _ _) _ _) _ _) _ _) _ _) _ _) _ _)⟩
end
end Go.Proofs.YtealejbfloacpaaGreat
namespace Go.Proofs.YtealejbfloacpaaGreat
open Go.RowKit
set_option maxRecDepth 100000
def nxV (P : Nat) : Nat → Value
 | 0 => .func (.func 119) #[.pointer (some ⟨P, 0, none⟩)] #[]
 | 1 => .func (.func 173) #[.pointer (some ⟨P, 0, none⟩)] #[]
 | 2 => .func (.func 188) #[.pointer (some ⟨P, 0, none⟩)] #[]
 | 3 => .func (.func 206) #[.pointer (some ⟨P, 0, none⟩)] #[]
 | 4 => .func (.func 219) #[.pointer (some ⟨P, 0, none⟩)] #[]
 | _ + 5 => .nilFunc
def mcel (P A : Nat) (k : Tx) (n : Nd) (m : MS) : Array Value :=
 #[.pointer (some ⟨A, 0, none⟩), k.v, .int .i64 m.lev, nxV P m.nx, .int .i64 m.id, .int .u64 (m.wd : Nat), .int .i64 n.lv, n.hi.v, .int .i64 n.ri, n.ks.v, n.vs.v, n.cs.v, .int .i64 (m.an : Nat), .int .i64 (m.mo : Nat)]
structure PM (W : World) (P A : Nat) (k : Tx) (n : Nd) (D : Nat → Prop) (m : MS) : Prop where
 c : W.heap[P]? = some (.cells (mcel P A k n m) 206 (0, 0))
 np : n.p = m.nd
 no : n.Ok W
 ni : n.In D
 ko : k.Ok W
 ks : k.s = m.key
 ki : ∀ x, k.a = some x → 0 < k.s.length → D x.block
 pd : ¬ D P
 lt : ∀ x, D x → x < W.heap.size
def MNx (W : World) (P A : Nat) (k : Tx) (D : Nat → Prop) (m : MS) (w' : World) : Prop := ∃ n D', PM w' P A k n D' m ∧ (∀ x, D' x → D x ∨ W.heap.size ≤ x) ∧ Upd (fun k => k = P) W w'
section
variable {W w' : World} {P A : Nat} {k : Tx} {n n' : Nd} {D F : Nat → Prop} {m m' : MS} {s : AS}
theorem PM.upd {S : Nat → Prop} (h : PM W P A k n D m) (hu : Upd S W w') (hs : ∀ x, x = P ∨ D x → ¬ S x) : PM w' P A k n D m :=
 ⟨hu.heap h.c (hs P (.inl rfl)), h.np, h.no.upd h.ni hu (fun x hx => hs x (.inr hx)), h.ni, h.ko.updL hu (fun x e l => hs _ (.inr (h.ki x e l))), h.ks, h.ki, h.pd, fun x hx => Nat.lt_of_lt_of_le (h.lt x hx) hu.size⟩
theorem PM.next (h : PM W P A k n D m) (hc : w'.heap[P]? = some (.cells (mcel P A k n' m') 206 (0, 0))) (hu : Upd (fun k => k = P) W w') (hk : m'.key = m.key) (hp : n'.p = m'.nd) (hn : n'.Ok w') (hi : n'.In (fun x => D x ∨ (W.heap.size ≤ x ∧ x < w'.heap.size))) : MNx W P A k D m' w' := by
 have hl := lt_of_block h.c
 refine ⟨n', fun x => D x ∨ (W.heap.size ≤ x ∧ x < w'.heap.size), ⟨hc, hp, hn, hi, h.ko.updL hu (fun x e l e' => h.pd (e' ▸ h.ki x e l)), by rw [hk]; exact h.ks, fun x e l => .inl (h.ki x e l), ?_, ?_⟩, ?_, hu⟩
 ·rintro (h1 | h1)
  ·exact h.pd h1
  ·omega
 ·rintro x (h1 | h1)
  ·exact Nat.lt_of_lt_of_le (h.lt x h1) hu.size
  ·exact h1.2
 ·rintro x (h1 | h1)
  ·exact .inl h1
  ·exact .inr h1.1
theorem PM.keepN (h : PM W P A k n D m) (hc : w'.heap[P]? = some (.cells (mcel P A k n m') 206 (0, 0))) (hu : Upd (fun k => k = P) W w') (hk : m'.key = m.key) (hp : m'.nd = m.nd) : MNx W P A k D m' w' :=
 h.next hc hu hk (by rw [hp]; exact h.np) (h.no.upd h.ni hu (fun x hx e => h.pd (e ▸ hx))) (h.ni.mono fun x hx => .inl hx)
theorem PM.zeroN (h : PM W P A k n D m) (hc : w'.heap[P]? = some (.cells (mcel P A k Nd.zero m') 206 (0, 0))) (hu : Upd (fun k => k = P) W w') (hk : m'.key = m.key) (hp : m'.nd = NP.zero) : MNx W P A k D m' w' :=
 h.next hc hu hk (by rw [hp]; rfl) (Nd.zero_ok _) (Nd.zero_in _)
theorem PM.headN (h : PM W P A k n D m) {lv ri : Int} {t : Tx} (hc : w'.heap[P]? = some (.cells (mcel P A k ⟨lv, t, ri, n.ks, n.vs, n.cs⟩ m') 206 (0, 0))) (hu : Upd (fun k => k = P) W w') (hk : m'.key = m.key) (hp : m'.nd = m.nd.setH lv t.s ri) (ho : OwnB w' W.heap.size 5 t.v t.s) (h8 : B8 t.s) (hz : t.s.length ≤ 140737488351232) : MNx W P A k D m' w' := by
 have hn := h.no.upd h.ni hu (fun x hx e => h.pd (e ▸ hx))
 refine h.next hc hu hk ?_ ⟨ownB_ok ho h8 hz, hn.k, hn.v, hn.c, hn.kz, hn.vz, hn.cz⟩ ⟨fun x e _ => .inr (ownB_in ho x e), fun x e l => .inl (h.ni.k x e l), fun y hy x e l => .inl (h.ni.ke y hy x e l), fun x e l => .inl (h.ni.v x e l), fun y hy x e l => .inl (h.ni.ve y hy x e l), fun x e l => .inl (h.ni.c x e l)⟩
 rw [hp, ← h.np]
 rfl
theorem PM.bodyN (h : PM W P A k n D m) {ks vs : TL} {cs : IL} (hc : w'.heap[P]? = some (.cells (mcel P A k ⟨n.lv, n.hi, n.ri, ks, vs, cs⟩ m') 206 (0, 0))) (hu : Upd (fun k => k = P) W w') (hk : m'.key = m.key) (hp : m'.nd = m.nd.setB ks.p vs.p cs.s) (h1 : ks.Own w' W.heap.size) (h2 : vs.Own w' W.heap.size) (h3 : w'.ownsRow W.heap.size 3 1 cs.v cs.s.length (cs.s.map (Value.int .i64))) (hz : ks.L.length * 24 ≤ 140737488352000 ∧ vs.L.length * 24 ≤ 140737488352000 ∧ cs.s.length * 8 ≤ 140737488352000) : MNx W P A k D m' w' := by
 have hn := h.no.upd h.ni hu (fun x hx e => h.pd (e ▸ hx))
 refine h.next hc hu hk ?_ ⟨hn.h, h1.ok, h2.ok, il_of_owns h3, hz.1, hz.2.1, hz.2.2⟩ ⟨fun x e l => .inl (h.ni.h x e l), fun x e _ => .inr (owns_in h1.row x e), fun t ht x e _ => .inr (ownB_in (h1.each t ht) x e), fun x e _ => .inr (owns_in h2.row x e), fun t ht x e _ => .inr (ownB_in (h2.each t ht) x e), fun x e _ => .inr (owns_in h3 x e)⟩
 rw [hp, ← h.np]
 rfl
theorem calls3 {f : FuncId} {args : Array Value} {cs : Array Value} {r : Value} (h : Calls Tryz.prog f args W (MbP W P cs r)) : Calls Tryz.prog f args W fun e w' => e = .returned r ∧ (w'.heap[P]? = some (.cells cs 206 (0, 0)) ∧ Upd (fun k => k = P) W w') := h.mono fun _ _ h => ⟨h.1, h.2.1, h.2.2⟩
theorem cell3 {W : World} {P : Nat} {T : TypeId} {a0 a1 a2 a3 a4 a5 a6 a7 a8 a9 a10 a11 a12 a13 : Value} (h : W.heap[P]? = some (.cells #[a0, a1, a2, a3, a4, a5, a6, a7, a8, a9, a10, a11, a12, a13] T (0, 0))) : W.cell? ⟨P, 3, none⟩ = some a3 := by rw [cell_of_row _ _ _ _ _ _ h]; rfl
def SpP (W : World) (P A : Nat) (k : Tx) (D : Nat → Prop) (m : MS) (e : Ending) (w' : World) : Prop := e = .returned (.bool (decide (5 ≤ m.nx))) ∧ MNx W P A k D m w'
theorem step_any (h : PM W P A k n D m) (hp : PX W A F s) (han : m.an < 4611686018427387904) (hmo : m.mo < 4611686018427387904) : Calls Tryz.prog 67 #[.pointer (some ⟨P, 0, none⟩)] W (SpP W P A k D (m.step s)) := by
 obtain ⟨key, lev, nx, id, wd, nd, an, mo⟩ := m
 simp only at han hmo
 unfold MS.step
 simp only
 match nx, h with
 | 0, h =>
  rw [if_pos rfl]
  refine (step_go_readRoot h.c rfl _ (calls3 (readRoot_any h.c rfl hp)) (fun w' hq => ⟨_, cell3 hq.1⟩)).mono ?_
  rintro e w' ⟨rfl, h1, h2⟩
  exact ⟨rfl, h.zeroN h1 h2 rfl rfl⟩
 | nx + 5, h =>
  rw [if_neg (by omega), if_pos (by omega)]
  refine (step_idle h.c rfl).mono ?_
  rintro e w' ⟨rfl, rfl⟩
  exact ⟨by simp, h.keepN h.c (Upd.refl _ _) rfl rfl⟩
 | 1, h =>
  rw [if_neg (by omega), if_neg (by omega)]
  by_cases hin : s.inn id
  ·rw [if_neg (fun e => e hin), if_pos rfl]
   by_cases ho : s.w id % 2 = 0
   ·rw [if_pos ho]
    refine (step_go_readWord h.c rfl _ (calls3 (readWord_even h.c rfl rfl hp hin ho)) (fun w' hq => ⟨_, cell3 hq.1⟩)).mono ?_
    rintro e w' ⟨rfl, h1, h2⟩
    exact ⟨rfl, h.keepN h1 h2 rfl rfl⟩
   ·rw [if_neg ho]
    refine (step_go_readWord h.c rfl _ (calls3 (readWord_odd h.c rfl rfl hp hin ho)) (fun w' hq => ⟨_, cell3 hq.1⟩)).mono ?_
    rintro e w' ⟨rfl, h1, h2⟩
    exact ⟨rfl, h.keepN h1 h2 rfl rfl⟩
  ·rw [if_pos hin]
   refine (step_not_readWord h.c rfl ((readWord_not h.c rfl rfl hp hin).mono fun _ _ h => ⟨h.1, ⟨_, _, _, _, _, _, _, _, _, h.2.1⟩, h.2.2⟩)).mono ?_
   rintro e w' ⟨rfl, h1, h2⟩
   exact ⟨rfl, h.zeroN h1 h2 rfl rfl⟩
 | 2, h =>
  rw [if_neg (by omega), if_neg (by omega)]
  by_cases hin : s.inn id
  ·rw [if_neg (fun e => e hin), if_neg (by omega), if_pos rfl]
   have hc := readHead_any h.c rfl rfl hp (id := id)
   rw [decide_eq_true hin, show s.rd id = s.n id from if_pos hin] at hc
   refine (step_go_readHead h.c rfl (fun w' => ∃ t : Tx, _ ∧ _) (hc.mono fun e w' h => by obtain ⟨t, h1, h2⟩ := h; exact ⟨h1.1, t, h1.2, h2⟩) (fun w' hq => by obtain ⟨t, h1, _⟩ := hq; exact ⟨_, cell3 h1.1⟩)).mono ?_
   rintro e w' ⟨rfl, t, ⟨h1, h2⟩, h3, h4, h5, h6⟩
   refine ⟨rfl, h.headN h1 h2 rfl (by rw [← h3]) h4 h5 h6⟩
  ·rw [if_pos hin]
   have hc := readHead_any h.c rfl rfl hp (id := id)
   rw [decide_eq_false hin] at hc
   refine (step_not_readHead h.c rfl (hc.mono fun _ _ h => by obtain ⟨t, h1, h2⟩ := h; exact ⟨h1.1, ⟨_, _, _, _, _, _, _, _, _, h1.2.1⟩, h1.2.2⟩)).mono ?_
   rintro e w' ⟨rfl, h1, h2⟩
   exact ⟨rfl, h.zeroN h1 h2 rfl rfl⟩
 | 3, h =>
  rw [if_neg (by omega), if_neg (by omega)]
  by_cases hin : s.inn id
  ·rw [if_neg (fun e => e hin), if_neg (by omega), if_neg (by omega), if_pos rfl]
   have hc := readBody_any h.c rfl rfl hp (id := id)
   rw [decide_eq_true hin, show s.rd id = s.n id from if_pos hin] at hc
   refine (step_go_readBody h.c rfl (fun w' => ∃ (x y : TL) (z : IL), _ ∧ _) (hc.mono fun e w' h => by obtain ⟨x, y, z, h1, h2⟩ := h; exact ⟨h1.1, x, y, z, h1.2, h2⟩) (fun w' hq => by obtain ⟨_, _, _, h1, _⟩ := hq; exact ⟨_, cell3 h1.1⟩)).mono ?_
   rintro e w' ⟨rfl, x, y, z, ⟨h1, h2⟩, h3, h4, h5, h6, h7, h8, h9⟩
   refine ⟨rfl, h.bodyN (ks := x) (vs := y) (cs := z) h1 h2 rfl (by rw [← h3, ← h4, ← h5]) h6 h7 h8 h9⟩
  ·rw [if_pos hin]
   have hc := readBody_any h.c rfl rfl hp (id := id)
   rw [decide_eq_false hin] at hc
   refine (step_not_readBody h.c rfl (hc.mono fun _ _ h => by obtain ⟨x, y, z, h1, h2⟩ := h; exact ⟨h1.1, ⟨_, _, _, _, _, _, _, _, _, h1.2.1⟩, h1.2.2⟩)).mono ?_
   rintro e w' ⟨rfl, h1, h2⟩
   exact ⟨rfl, h.zeroN h1 h2 rfl rfl⟩
 | 4, h =>
  rw [if_neg (by omega), if_neg (by omega)]
  by_cases hin : s.inn id
  ·rw [if_neg (fun e => e hin), if_neg (by omega), if_neg (by omega), if_neg (by omega)]
   unfold MS.valid
   simp only
   by_cases hw : s.w id = wd
   ·rw [if_pos hw]
    unfold MS.choose
    simp only
    have hnp : n.p = nd := h.np
    have hks : k.s = key := h.ks
    have e1 : n.lv = nd.lv := by rw [← hnp]; rfl
    have e2 : n.hi.s = nd.hi := by rw [← hnp]; rfl
    have e3 : n.ri = nd.ri := by rw [← hnp]; rfl
    have e4 : n.ks.p = nd.ks := by rw [← hnp]; rfl
    have e5 : n.cs.s = nd.cs := by rw [← hnp]; rfl
    have HQ : ∀ q, PM (W.drewN q) P A k n D ⟨key, lev, 4, id, wd, nd, an, mo⟩ := fun q => h.upd (S := Noth) (upd_drewN _ _ _) (fun _ _ e => e)
    by_cases h1 : nd.lv < lev
    ·rw [if_pos h1]
     have hc := readAgain_same h.c rfl rfl hp rfl hin hw (fun q => choose_low n k (HQ q).c (HQ q).no (HQ q).ko (by rw [e1]; exact h1))
     refine (step_not_readWordAgain h.c rfl (hc.mono fun _ _ h => ⟨h.1, ⟨_, _, _, _, _, _, _, _, _, h.2.1⟩, h.2.2⟩)).mono ?_
     rintro e w' ⟨rfl, h1, h2⟩
     exact ⟨rfl, h.zeroN h1 h2 rfl rfl⟩
    rw [if_neg h1]
    by_cases h2 : beyB nd.hi key = true
    ·rw [if_pos h2]
     have hc := readAgain_same h.c rfl rfl hp rfl hin hw (fun q => choose_right n k (HQ q).c (HQ q).no (HQ q).ko hmo (by rw [e1]; exact h1) (by rw [e2, hks]; exact h2))
     refine (step_go_readWordAgain h.c rfl _ (calls3 hc) (fun w' hq => ⟨_, cell3 hq.1⟩)).mono ?_
     rintro e w' ⟨rfl, h1, h2⟩
     rw [e3] at h1
     exact ⟨rfl, h.zeroN h1 h2 rfl rfl⟩
    rw [if_neg h2]
    have h2' : beyB nd.hi key = false := by simpa using h2
    by_cases h3 : nd.lv = lev
    ·rw [if_pos h3]
     have hc := readAgain_same h.c rfl rfl hp rfl hin hw (fun q => choose_here n k (HQ q).c (HQ q).no (HQ q).ko (by rw [e1]; exact h1) (by rw [e2, hks]; exact h2') (by rw [e1]; exact h3))
     refine (step_end_readWordAgain h.c rfl _ (calls3 hc) (fun w' hq => cell3 hq.1)).mono ?_
     rintro e w' ⟨rfl, h1, h2⟩
     exact ⟨rfl, h.keepN h1 h2 rfl rfl⟩
    ·rw [if_neg h3]
     have hc := readAgain_same h.c rfl rfl hp rfl hin hw (fun q => choose_child n k (HQ q).c (HQ q).no (HQ q).ko (by rw [e1]; exact h1) (by rw [e2, hks]; exact h2') (by rw [e1]; exact h3))
     refine (step_go_readWordAgain h.c rfl _ (calls3 hc) (fun w' hq => ⟨_, cell3 hq.1⟩)).mono ?_
     rintro e w' ⟨rfl, h1, h2⟩
     rw [e4, e5, hks] at h1
     exact ⟨rfl, h.zeroN h1 h2 rfl rfl⟩
   ·rw [if_neg hw]
    refine (step_go_readWordAgain h.c rfl _ (calls3 (readAgain_anew h.c rfl rfl hp rfl rfl han hin hw)) (fun w' hq => ⟨_, cell3 hq.1⟩)).mono ?_
    rintro e w' ⟨rfl, h1, h2⟩
    exact ⟨rfl, h.zeroN h1 h2 rfl rfl⟩
  ·rw [if_pos hin]
   refine (step_not_readWordAgain h.c rfl ((readAgain_not h.c rfl rfl hp hin).mono fun _ _ h => ⟨h.1, ⟨_, _, _, _, _, _, _, _, _, h.2.1⟩, h.2.2⟩)).mono ?_
   rintro e w' ⟨rfl, h1, h2⟩
   exact ⟨rfl, h.zeroN h1 h2 rfl rfl⟩
end
end Go.Proofs.YtealejbfloacpaaGreat
namespace Go.Proofs.YtealejbfloacpaaGreat
open Go.RowKit
set_option maxRecDepth 100000
theorem Nd.zero_own (W : World) (N : Nat) : Nd.zero.Own W N := ⟨OwnB.nil _ _ _, ⟨B8.nil, Nat.zero_le _⟩, tl_own_nil _ _, tl_own_nil _ _, World.ownsRow_nil _ _ _ _, Nat.zero_le _, Nat.zero_le _, Nat.zero_le _⟩
def DNewP (W : World) (A : Nat) (key : List Int) (lev : Int) (e : Ending) (w' : World) : Prop := ∃ P k n D, e = .returned (.pointer (some ⟨P, 0, none⟩)) ∧ PM w' P A k n D (MS.new key lev) ∧ W.heap.size ≤ P ∧ (∀ x, D x → W.heap.size ≤ x) ∧ Below W.heap.size W w'
section
variable {W w' : World} {P A : Nat} {k : Tx} {n : Nd} {D F : Nat → Prop} {m : MS} {s : AS}
set_option maxHeartbeats 1600000 in
theorem dnew_any (k : Tx) (lev : Int) (hk : k.Ok W) : Calls Tryz.prog 64 #[.pointer (some ⟨A, 0, none⟩), k.v, .int .i64 lev] W (DNewP W A k.s lev) := by
 have HC := hide (bclone_any k.a k.s.length k.c k.s W rfl (by have := hk.z; omega) hk.n hk.r)
 have H8 : Hid (B8 k.s ∧ k.s.length ≤ 140737488351232) := ⟨hk.b8, hk.z⟩
 clear hk
 obtain ⟨xa, xc, xs⟩ := k
 simp only [Tx.v] at HC H8 ⊢
 generalize xs.length = lx at HC ⊢
 go_enter Tryz.func64, Tryz.ntmps64
 go_wp2_with fail
 refine HC.out.mono ?_
 rintro e w1 ⟨v, rfl, ho, hb⟩
 obtain ⟨na, nc, rfl, _, _⟩ := ho.slice
 have HO := hide ho
 have HB := hide hb
 clear ho hb HC
 obtain ⟨l2, hl2⟩ : ∃ l2, xs.length = l2 := ⟨_, rfl⟩
 rw [hl2] at HO
 try rw [hl2]
 replace hl2 := hide hl2
 go_wp2_with fail
 go_ret
 have b2 : Below w1.heap.size w1 (w1.alloc (.cells #[.pointer (some ⟨A, 0, none⟩), .slice na l2 nc, .int .i64 lev, .func (.func 119) #[.pointer (some ⟨w1.heap.size, 0, none⟩)] #[], .int .i64 0, .int .u64 0, .int .i64 0, .slice none 0 0, .int .i64 0, .slice none 0 0, .slice none 0 0, .slice none 0 0, .int .i64 0, .int .i64 0] 206)) := (Below.refl _ _).alloc (Nat.le_refl _) _
 have g2 := heap_alloc_new w1 (.cells #[.pointer (some ⟨A, 0, none⟩), .slice na l2 nc, .int .i64 lev, .func (.func 119) #[.pointer (some ⟨w1.heap.size, 0, none⟩)] #[], .int .i64 0, .int .u64 0, .int .i64 0, .slice none 0 0, .int .i64 0, .slice none 0 0, .slice none 0 0, .slice none 0 0, .int .i64 0, .int .i64 0] 206)
 have ho : OwnB w1 W.heap.size 5 (⟨na, nc, xs⟩ : Tx).v xs := by simp only [Tx.v, hl2.out]; exact HO.out
 have hin := ownB_in (x := ⟨na, nc, xs⟩) ho
 refine ⟨w1.heap.size, ⟨na, nc, xs⟩, Nd.zero, fun x => W.heap.size ≤ x ∧ x < w1.heap.size, rfl, ⟨?_, rfl, Nd.zero_ok _, Nd.zero_in _, (ownB_ok (x := ⟨na, nc, xs⟩) ho H8.out.1 H8.out.2).below b2, rfl, fun x e _ => hin x e, fun h => Nat.lt_irrefl _ h.2, fun x h => Nat.lt_of_lt_of_le h.2 b2.size⟩, HB.out.size, fun x h => h.1, HB.out.trans (b2.mono HB.out.size)⟩
 rw [← hl2.out] at g2 ⊢
 exact g2
def AtP (W : World) (id : Int) (wd : Nat) (p : NP) (e : Ending) (w' : World) : Prop := ∃ n : Nd, e = .returned (.tuple #[.int .i64 id, .int .u64 (wd : Nat), n.v]) ∧ n.p = p ∧ n.Own w' W.heap.size ∧ Below W.heap.size W w'
set_option maxHeartbeats 1600000 in
theorem dat_not (h : PM W P A k n D m) (hx : m.nx < 5) : Calls Tryz.prog 120 #[.pointer (some ⟨P, 0, none⟩)] W (AtP W 0 0 NP.zero) := by
 have hl := lt_of_block h.c
 have hv : ∃ f, nxV P m.nx = .func (.func f) #[.pointer (some ⟨P, 0, none⟩)] #[] := by
  match hm : m.nx, hx with
  | 0, _ => exact ⟨_, rfl⟩
  | 1, _ => exact ⟨_, rfl⟩
  | 2, _ => exact ⟨_, rfl⟩
  | 3, _ => exact ⟨_, rfl⟩
  | 4, _ => exact ⟨_, rfl⟩
 obtain ⟨f, hf⟩ := hv
 have h0 := h.c
 unfold mcel at h0
 rw [hf] at h0
 obtain ⟨w1, hw1⟩ : ∃ w1, w1 = W.alloc (.cells #[.int .i64 0, .slice none 0 0, .int .i64 0, .slice none 0 0, .slice none 0 0, .slice none 0 0] 35) := ⟨_, rfl⟩
 have b1 : Below W.heap.size W w1 := by rw [hw1]; exact (Below.refl _ _).alloc (Nat.le_refl _) _
 have c3 : w1.cell? ⟨P, 3, none⟩ = some (.func (.func f) #[.pointer (some ⟨P, 0, none⟩)] #[]) := (b1.cell (p := ⟨P, 3, none⟩) hl).trans (by rw [cell_of_row _ _ _ _ _ _ h0]; rfl)
 have q1 := fneq f #[.pointer (some ⟨P, 0, none⟩)] #[] w1
 have G1 : Hid (w1.heap[W.heap.size]? = some (.cells #[.int .i64 0, .slice none 0 0, .int .i64 0, .slice none 0 0, .slice none 0 0, .slice none 0 0] 35 (0, 0))) := by show _ = _; rw [hw1]; exact heap_alloc_new W _
 obtain ⟨y0, y1, y2, y3, y4, y5⟩ := Six.of G1.out
 have F5 := fun j => frozen_of G1.out j
 have HW := hide hw1
 have B1 := hide b1
 clear h h0 hf hw1 b1 hx hl
 go_enter Tryz.func120, Tryz.ntmps120
 go_upto_region 1 with fail
 rw [← HW.out]
 go_wp2_with fail
 have G6 := six_block G1.out (.int .i64 0) (.slice none 0 0) (.int .i64 0) (.slice none 0 0) (.slice none 0 0) (.slice none 0 0)
 have U6 : Upd (fun b => b = W.heap.size) w1 (six6 w1 W.heap.size (.int .i64 0) (.slice none 0 0) (.int .i64 0) (.slice none 0 0) (.slice none 0 0) (.slice none 0 0)) := six_upd _ _ _ _ _ _ _ _ _ rfl
 obtain ⟨q0, q1, q2, q3, q4, q5⟩ := Six.of G6
 show bodyPost _ _ _ _ _ (six6 w1 W.heap.size (.int .i64 0) (.slice none 0 0) (.int .i64 0) (.slice none 0 0) (.slice none 0 0) (.slice none 0 0))
 generalize six6 w1 W.heap.size (.int .i64 0) (.slice none 0 0) (.int .i64 0) (.slice none 0 0) (.slice none 0 0) (.slice none 0 0) = w6 at *
 refine bodyPost_ret (v := .tuple #[.int .i64 0, .int .u64 0, .agg #[.int .i64 0, .slice none 0 0, .int .i64 0, .slice none 0 0, .slice none 0 0, .slice none 0 0]]) (by simp [results, Tryz.results120, go_sem, q0, q1, q2, q3, q4, q5]) rfl ⟨Nd.zero, rfl, rfl, Nd.zero_own _ _, ?_⟩
 exact B1.out.trans (U6.below B1.out.size (fun k hk e => by omega))
set_option maxRecDepth 100000 in
set_option maxHeartbeats 3200000 in
theorem dat_any (h : PM W P A k n D m) (hx : 5 ≤ m.nx) : Calls Tryz.prog 120 #[.pointer (some ⟨P, 0, none⟩)] W (AtP W m.id m.wd m.nd) := by
 have hl := lt_of_block h.c
 have hf : nxV P m.nx = .nilFunc := by obtain ⟨q, hq⟩ : ∃ q, m.nx = q + 5 := ⟨m.nx - 5, by omega⟩; rw [hq]; rfl
 have h0 := h.c
 unfold mcel at h0
 rw [hf] at h0
 have HCL : Hid (∀ W', Below W.heap.size W W' → Calls Tryz.prog 149 #[n.v] W' (ClPost W' n)) := fun W' hb => clone_any n W' (h.no.below hb)
 have HNP := hide h.np
 generalize m.id = id at *
 generalize m.wd = wd at *
 generalize m.nd = nd at *
 generalize m.an = an at *
 generalize m.mo = mo at *
 generalize m.lev = lev at *
 generalize k.v = kv at *
 clear h hf hx
 obtain ⟨w1, hw1⟩ : ∃ w1, w1 = W.alloc (.cells #[.int .i64 0, .slice none 0 0, .int .i64 0, .slice none 0 0, .slice none 0 0, .slice none 0 0] 35) := ⟨_, rfl⟩
 have b1 : Below W.heap.size W w1 := by rw [hw1]; exact (Below.refl _ _).alloc (Nat.le_refl _) _
 have h1 := (b1.block P hl).trans h0
 have HNN : Hid (n.v = .agg #[.int .i64 n.lv, n.hi.v, .int .i64 n.ri, n.ks.v, n.vs.v, n.cs.v]) := rfl
 rw [HNN.out] at HCL
 clear HNN
 have HN : Hid (∃ nn, nn = n) := ⟨n, rfl⟩
 obtain ⟨lv, ⟨ha, hc, hs⟩, ri, ⟨ka, kc, K⟩, ⟨va, vc, V⟩, ⟨ca, cc, C⟩⟩ := n
 simp only [Tx.v, TL.v, IL.v] at h1 HCL
 generalize hs.length = lh at *
 generalize K.length = lk at *
 generalize V.length = lw at *
 generalize C.length = lc at *
 have G1 : Hid (w1.heap[W.heap.size]? = some (.cells #[.int .i64 0, .slice none 0 0, .int .i64 0, .slice none 0 0, .slice none 0 0, .slice none 0 0] 35 (0, 0))) := by show _ = _; rw [hw1]; exact heap_alloc_new W _
 have c3 : w1.cell? ⟨P, 3, none⟩ = some .nilFunc := by rw [cell_of_row _ _ _ _ _ _ h1]; rfl
 have c4 : w1.cell? ⟨P, 4, none⟩ = some (.int .i64 id) := by rw [cell_of_row _ _ _ _ _ _ h1]; rfl
 have c5 : w1.cell? ⟨P, 5, none⟩ = some (.int .u64 (wd : Nat)) := by rw [cell_of_row _ _ _ _ _ _ h1]; rfl
 have c6 : w1.cell? ⟨P, 6, none⟩ = some (.int .i64 lv) := by rw [cell_of_row _ _ _ _ _ _ h1]; rfl
 have c7 : w1.cell? ⟨P, 7, none⟩ = some (.slice ha lh hc) := by rw [cell_of_row _ _ _ _ _ _ h1]; rfl
 have c8 : w1.cell? ⟨P, 8, none⟩ = some (.int .i64 ri) := by rw [cell_of_row _ _ _ _ _ _ h1]; rfl
 have c9 : w1.cell? ⟨P, 9, none⟩ = some (.slice ka lk kc) := by rw [cell_of_row _ _ _ _ _ _ h1]; rfl
 have c10 : w1.cell? ⟨P, 10, none⟩ = some (.slice va lw vc) := by rw [cell_of_row _ _ _ _ _ _ h1]; rfl
 have c11 : w1.cell? ⟨P, 11, none⟩ = some (.slice ca lc cc) := by rw [cell_of_row _ _ _ _ _ _ h1]; rfl
 have q1 := fneq0 w1
 have hne : ¬ P = W.heap.size := by omega
 have hne2 : ¬ W.heap.size = P := by omega
 have hl1 := lt_of_block h1
 have hl2 := lt_of_block G1.out
 have HW := hide hw1
 have B1 := hide b1
 clear h0 h1 hw1 b1 HN
 go_enter Tryz.func120, Tryz.ntmps120
 go_upto_region 1 with fail
 rw [← HW.out]
 clear HW
 go_wp2_with fail
 go_region_held3 (fun W' => W'.cell? ⟨P, 4, none⟩ = some (.int .i64 id) ∧ W'.cell? ⟨P, 5, none⟩ = some (.int .u64 (wd : Nat)) ∧ W'.cell? ⟨P, 6, none⟩ = some (.int .i64 lv) ∧ W'.cell? ⟨P, 7, none⟩ = some (.slice ha lh hc) ∧ W'.cell? ⟨P, 8, none⟩ = some (.int .i64 ri) ∧ W'.cell? ⟨P, 9, none⟩ = some (.slice ka lk kc) ∧ W'.cell? ⟨P, 10, none⟩ = some (.slice va lw vc) ∧ W'.cell? ⟨P, 11, none⟩ = some (.slice ca lc cc)) (go_keep) (first
  | (go_at_call 149; refine (HCL.out _ (below_drew B1.out)).mono ?_; rintro e w2 ⟨⟨nlv, ⟨nha, nhc, nhs⟩, nri, ⟨nka, nkc, NK⟩, ⟨nva, nvc, NV⟩, ⟨nca, ncc, NC⟩⟩, rfl, hp2, ho2, hb2⟩; have g2 := (hb2.block _ hl2).trans G1.out; have F5 := (fun j => frozen_of g2 j); obtain ⟨y0, y1, y2, y3, y4, y5⟩ := Six.of g2; have z4 := (hb2.cell (p := ⟨P, 4, none⟩) hl1).trans c4; have z5 := (hb2.cell (p := ⟨P, 5, none⟩) hl1).trans c5; have z6 := (hb2.cell (p := ⟨P, 6, none⟩) hl1).trans c6; have z7 := (hb2.cell (p := ⟨P, 7, none⟩) hl1).trans c7; have z8 := (hb2.cell (p := ⟨P, 8, none⟩) hl1).trans c8; have z9 := (hb2.cell (p := ⟨P, 9, none⟩) hl1).trans c9; have z10 := (hb2.cell (p := ⟨P, 10, none⟩) hl1).trans c10; have z11 := (hb2.cell (p := ⟨P, 11, none⟩) hl1).trans c11; have HT := hide (And.intro hp2 (And.intro ho2 (And.intro hb2 g2))); clear hp2 ho2 hb2 g2; simp only [Nd.v, Tx.v, TL.v, IL.v]; obtain ⟨nlh, hq1⟩ : ∃ x, nhs.length = x := ⟨_, rfl⟩; obtain ⟨nlk, hq2⟩ : ∃ x, NK.length = x := ⟨_, rfl⟩; obtain ⟨nlw, hq3⟩ : ∃ x, NV.length = x := ⟨_, rfl⟩; obtain ⟨nlc, hq4⟩ : ∃ x, NC.length = x := ⟨_, rfl⟩; rw [hq1, hq2, hq3, hq4]; have HQ := hide (And.intro hq1 (And.intro hq2 (And.intro hq3 hq4))); clear hq1 hq2 hq3 hq4)
  | fail)
 go_wp2_with fail
 have G6 := six_block HT.out.2.2.2 (.int .i64 nlv) (.slice nha nlh nhc) (.int .i64 nri) (.slice nka nlk nkc) (.slice nva nlw nvc) (.slice nca nlc ncc)
 have U6 : Upd (fun b => b = W.heap.size) w2 (six6 w2 W.heap.size (.int .i64 nlv) (.slice nha nlh nhc) (.int .i64 nri) (.slice nka nlk nkc) (.slice nva nlw nvc) (.slice nca nlc ncc)) := six_upd _ _ _ _ _ _ _ _ _ rfl
 obtain ⟨q0, q1, q2, q3, q4, q5⟩ := Six.of G6
 show bodyPost _ _ _ _ _ (six6 w2 W.heap.size (.int .i64 nlv) (.slice nha nlh nhc) (.int .i64 nri) (.slice nka nlk nkc) (.slice nva nlw nvc) (.slice nca nlc ncc))
 generalize six6 w2 W.heap.size (.int .i64 nlv) (.slice nha nlh nhc) (.int .i64 nri) (.slice nka nlk nkc) (.slice nva nlw nvc) (.slice nca nlc ncc) = w6 at *
 have hB2 : Below W.heap.size W w2 := (below_drew B1.out).trans (HT.out.2.2.1.mono B1.out.size)
 refine bodyPost_ret (v := .tuple #[.int .i64 id, .int .u64 (wd : Nat), .agg #[.int .i64 nlv, .slice nha nlh nhc, .int .i64 nri, .slice nka nlk nkc, .slice nva nlw nvc, .slice nca nlc ncc]]) (by simp [results, Tryz.results120, go_sem, q0, q1, q2, q3, q4, q5]) rfl ⟨⟨nlv, ⟨nha, nhc, nhs⟩, nri, ⟨nka, nkc, NK⟩, ⟨nva, nvc, NV⟩, ⟨nca, ncc, NC⟩⟩, ?_, HT.out.1.trans HNP.out, ?_, ?_⟩
 ·simp only [Nd.v, Tx.v, TL.v, IL.v, HQ.out.1, HQ.out.2.1, HQ.out.2.2.1, HQ.out.2.2.2]
 ·exact (HT.out.2.1.upd U6 (fun b h1 _ e => by have : w1.drew.heap.size = w1.heap.size := rfl; omega)).mono B1.out.size
 ·exact hB2.trans (U6.below hB2.size (fun k hk e => by omega))
end
end Go.Proofs.YtealejbfloacpaaGreat
namespace Go.Proofs.YtealejbfloacpaaGreat
open Go.RowKit
set_option maxRecDepth 100000
structure Snc (wd : Nat) (n0 : NP) (Y : Prop) (t : AS) (id : Int) (m : Nat) : Prop where
 inn : t.inn id
 d : ∃ d, d ≤ m ∧ t.w id = (wd + d) % 18446744073709551616 ∧ (d = 0 → t.n id = n0 ∧ Y)
section
variable {wd : Nat} {n0 : NP} {Y : Prop} {t : AS} {id : Int} {m : Nat}
theorem Snc.mono {m' : Nat} (h : Snc wd n0 Y t id m) (hm : m ≤ m') : Snc wd n0 Y t id m' := by
 obtain ⟨d, h1, h2⟩ := h.d
 exact ⟨h.inn, d, by omega, h2⟩
theorem Snc.bump (h : Snc wd n0 Y t id m) {k : Int} (hk : t.inn k) {x : Nat} (hx : x = (t.w k + 1) % 18446744073709551616) : Snc wd n0 Y (t.setw k x) id (m + 1) := by
 obtain ⟨d, h1, h2, h3⟩ := h.d
 refine ⟨AS.setw_inn h.inn, ?_⟩
 by_cases e : id = k
 ·refine ⟨d + 1, by omega, ?_, fun e => by omega⟩
  rw [AS.w_setw hk x h.inn, if_pos e, hx, ← e, h2]
  omega
 ·refine ⟨d, by omega, ?_, fun e0 => ?_⟩
  ·rw [AS.w_setw hk x h.inn, if_neg e]; exact h2
  ·rw [AS.n_setw hk]; exact h3 e0
theorem Snc.turn (h : Snc wd n0 Y t id m) (he : wd % 2 = 0) (_hs : wd < 18446744073709551616) {k : Int} (hk : t.inn k) (ho : t.w k % 2 = 1) (p : NP) : Snc wd n0 Y (t.setn k p) id m := by
 obtain ⟨d, h1, h2, h3⟩ := h.d
 refine ⟨(AS.inn_of_len (AS.setn_len _ _ _) id).2 h.inn, d, h1, by rw [AS.w_setn hk]; exact h2, fun e0 => ?_⟩
 have hne : id ≠ k := fun e => by
  subst e0
  rw [← e, h2] at ho
  omega
 rw [AS.n_setn hk p h.inn, if_neg hne]
 exact h3 e0
theorem Snc.lock (h : Snc wd n0 Y t id m) (k : Int) (x : Nat) (hx : x < 18446744073709551616) : Snc wd n0 Y (t.lockS k x) id (m + 1) := by
 unfold AS.lockS
 split
 ·rename_i hc
  refine h.bump hc.1 ?_
  rw [hc.2.1]
  have := hc.2.2
  omega
 ·exact h.mono (by omega)
theorem Snc.unl (h : Snc wd n0 Y t id m) (k : Int) : Snc wd n0 Y (t.unlS k true) id (m + 1) := by
 unfold AS.unlS
 split
 ·rename_i hE
  refine h.bump (unl_in hE).1 ?_
  unfold freeW
  simp
 ·exact h.mono (by omega)
theorem Snc.hed (h : Snc wd n0 Y t id m) (he : wd % 2 = 0) (hs : wd < 18446744073709551616) (k lv : Int) (hi : List Int) (ri : Int) : Snc wd n0 Y (t.hedS k lv hi ri) id m := by
 unfold AS.hedS
 split
 ·rename_i hE
  exact h.turn he hs (unl_in hE).1 (unl_in hE).2 _
 ·exact h
theorem Snc.bod (h : Snc wd n0 Y t id m) (he : wd % 2 = 0) (hs : wd < 18446744073709551616) (k : Int) (ks vs : List (List Int)) (cs : List Int) : Snc wd n0 Y (t.bodS k ks vs cs) id m := by
 unfold AS.bodS
 split
 ·rename_i hE
  exact h.turn he hs (unl_in hE).1 (unl_in hE).2 _
 ·exact h
theorem Snc.all (h : Snc wd n0 Y t id m) : Snc wd n0 Y t.allS id m := by
 unfold AS.allS
 split
 ·obtain ⟨d, h1, h2, h3⟩ := h.d
  obtain ⟨i, hi, hid, e⟩ := AS.idx h.inn
  have hw : AS.w ⟨t.nodes, t.root, t.sl ++ [(1, NP.zero)]⟩ id = t.w id := by unfold AS.w; simp only [e]; rw [getD_app hi]
  have hn : AS.n ⟨t.nodes, t.root, t.sl ++ [(1, NP.zero)]⟩ id = t.n id := by unfold AS.n; simp only [e]; rw [getD_app hi]
  refine ⟨?_, d, h1, by rw [hw]; exact h2, fun e0 => by rw [hn]; exact h3 e0⟩
  have := h.inn
  unfold AS.inn at *
  simp only [List.length_append, List.length_singleton]
  omega
 ·exact h
theorem Snc.fin (h : Snc wd n0 Y t id m) (he : wd % 2 = 0) (hs : wd < 18446744073709551616) (k : Int) (p : NP) : Snc wd n0 Y (t.finS k p) id (m + 1) := ((h.hed he hs k _ _ _).bod he hs k _ _ _).unl k
theorem Snc.more {Y' : Prop} (h : Snc wd n0 Y t id m) (hy : t.n id = n0 → Y → Y') : Snc wd n0 Y' t id m := by
 obtain ⟨d, h1, h2, h3⟩ := h.d
 exact ⟨h.inn, d, h1, h2, fun e => ⟨(h3 e).1, hy (h3 e).1 (h3 e).2⟩⟩
theorem Snc.now (h : Snc wd n0 Y t id m) (hm : m < 18446744073709551616) (_hs : wd < 18446744073709551616) (hw : t.w id = wd) : t.n id = n0 ∧ Y := by
 obtain ⟨d, h1, h2, h3⟩ := h.d
 refine h3 ?_
 rw [hw] at h2
 omega
end
structure TI (s : AS) (m : MS) (M : Nat) : Prop where
 le : m.nx ≤ 6
 a : m.nx = 2 → ∃ n0, Snc m.wd n0 True s m.id M ∧ m.wd % 2 = 0 ∧ m.wd < 18446744073709551616
 b : m.nx = 3 → ∃ n0, Snc m.wd n0 (m.nd.lv = n0.lv ∧ m.nd.hi = n0.hi ∧ m.nd.ri = n0.ri) s m.id M ∧ m.wd % 2 = 0 ∧ m.wd < 18446744073709551616
 c : m.nx = 4 → ∃ n0, Snc m.wd n0 (m.nd = n0) s m.id M ∧ m.wd % 2 = 0 ∧ m.wd < 18446744073709551616
 e : m.nx = 5 → 1 ≤ m.id
 f : m.nx = 6 → m.id = 0
theorem TI.new (s : AS) (key : List Int) (lev : Int) (M : Nat) : TI s (MS.new key lev) M :=
 ⟨by simp [MS.new], by simp [MS.new], by simp [MS.new], by simp [MS.new], by simp [MS.new], by simp [MS.new]⟩
theorem TI.mono {s : AS} {m : MS} {M M' : Nat} (h : TI s m M) (hM : M ≤ M') : TI s m M' :=
 ⟨h.le, fun e => by obtain ⟨n0, h1, h2, h3⟩ := h.a e; exact ⟨n0, h1.mono hM, h2, h3⟩, fun e => by obtain ⟨n0, h1, h2, h3⟩ := h.b e; exact ⟨n0, h1.mono hM, h2, h3⟩, fun e => by obtain ⟨n0, h1, h2, h3⟩ := h.c e; exact ⟨n0, h1.mono hM, h2, h3⟩, h.e, h.f⟩
structure Now (s : AS) (m : MS) : Prop where
 inn : s.inn m.id
 w : s.w m.id = m.wd
 ev : m.wd % 2 = 0
 n : m.nd = s.n m.id
 bey : beyB m.nd.hi m.key = false
 lv : m.nd.lv = m.lev
theorem TI.step {s : AS} {m : MS} {M : Nat} (h : TI s m M) (hw : ∀ k, s.inn k → s.w k < 18446744073709551616) (hM : M < 18446744073709551616) : TI s (m.step s) M ∧ (m.nx ≠ 5 → (m.step s).nx = 5 → Now s (m.step s)) ∧ (m.step s).key = m.key ∧ (m.step s).lev = m.lev := by
 obtain ⟨key, lev, nx, id, wd, nd, an, mo⟩ := m
 obtain ⟨h1, h2, h3, h4, h5, h6⟩ := h
 simp only at h1 h2 h3 h4 h5 h6
 match nx, h1 with
 | 0, _ => simp only [MS.step, MS.goTo]; simp; exact ⟨by simp, by simp, by simp, by simp, by simp, by simp⟩
 | 5, _ => simp only [MS.step]; simp; exact ⟨by simp, by simp, by simp, by simp, fun _ => h5 rfl, by simp⟩
 | 6, _ => simp only [MS.step]; simp; exact ⟨by simp, by simp, by simp, by simp, by simp, fun _ => h6 rfl⟩
 | 1, _ =>
  simp only [MS.step]
  simp
  by_cases hin : s.inn id
  ·simp only [hin, if_true]
   by_cases ho : s.w id % 2 = 0
   ·simp only [ho, if_true]
    exact ⟨⟨by simp, fun _ => ⟨s.n id, ⟨hin, 0, Nat.zero_le _, by have := hw id hin; simp only; omega, fun _ => ⟨rfl, trivial⟩⟩, ho, hw id hin⟩, by simp, by simp, by simp, by simp⟩, by simp⟩
   ·simp only [ho, if_false]
    exact ⟨⟨by simp, by simp, by simp, by simp, by simp, by simp⟩, by simp⟩
  ·simp only [hin, if_false]
   exact ⟨⟨by simp [MS.fail], by simp [MS.fail], by simp [MS.fail], by simp [MS.fail], by simp [MS.fail], fun _ => rfl⟩, by simp [MS.fail], rfl, rfl⟩
 | 2, _ =>
  obtain ⟨n0, g1, g2, g3⟩ := h2 rfl
  simp only [MS.step]
  simp
  simp only [g1.inn, if_true]
  exact ⟨⟨by simp, by simp, fun _ => ⟨n0, g1.more (fun e _ => by simp only [NP.setH, e, and_self]), g2, g3⟩, by simp, by simp, by simp⟩, by simp⟩
 | 3, _ =>
  obtain ⟨n0, g1, g2, g3⟩ := h3 rfl
  simp only [MS.step]
  simp
  simp only [g1.inn, if_true]
  exact ⟨⟨by simp, by simp, by simp, fun _ => ⟨n0, g1.more (fun e y => by obtain ⟨y1, y2, y3⟩ := y; simp only [NP.setB, e, y1, y2, y3]), g2, g3⟩, by simp, by simp⟩, by simp⟩
 | 4, _ =>
  obtain ⟨n0, g1, g2, g3⟩ := h4 rfl
  have hin := g1.inn
  simp only [MS.step]
  simp
  simp only [hin, if_true]
  unfold MS.valid
  simp only
  by_cases hq : s.w id = wd
  ·rw [if_pos hq]
   obtain ⟨e1, e2⟩ := g1.now hM g3 hq
   unfold MS.choose
   simp only
   by_cases c1 : nd.lv < lev
   ·rw [if_pos c1]
    exact ⟨⟨by simp [MS.fail], by simp [MS.fail], by simp [MS.fail], by simp [MS.fail], by simp [MS.fail], fun _ => rfl⟩, by simp [MS.fail], rfl, rfl⟩
   rw [if_neg c1]
   by_cases c2 : beyB nd.hi key = true
   ·rw [if_pos c2]
    exact ⟨⟨by simp, by simp, by simp, by simp, by simp, by simp⟩, by simp, rfl, rfl⟩
   rw [if_neg c2]
   by_cases c3 : nd.lv = lev
   ·rw [if_pos c3]
    refine ⟨⟨by simp, by simp, by simp, by simp, fun _ => ?_, by simp⟩, fun _ => ⟨hin, hq, g2, by rw [e2, ← e1], by simpa using c2, c3⟩, rfl, rfl⟩
    exact hin.1
   ·rw [if_neg c3]
    exact ⟨⟨by simp [MS.goTo], by simp [MS.goTo], by simp [MS.goTo], by simp [MS.goTo], by simp [MS.goTo], by simp [MS.goTo]⟩, by simp [MS.goTo], rfl, rfl⟩
  ·rw [if_neg hq]
   exact ⟨⟨by simp, by simp, by simp, by simp, by simp, by simp⟩, by simp, rfl, rfl⟩
end Go.Proofs.YtealejbfloacpaaGreat
namespace Go.Proofs.YtealejbfloacpaaGreat
open Go.RowKit
set_option maxRecDepth 100000
structure Gr (s t : AS) : Prop where
 root : t.root = s.root
 len : s.sl.length ≤ t.sl.length
 lv : ∀ id, s.inn id → (t.n id).lv = (s.n id).lv
 cs : ∀ id, s.inn id → (s.n id).lv ≠ 0 → (t.n id).cs.getD 0 0 = (s.n id).cs.getD 0 0
 ri : ∀ id, s.inn id → ((t.n id).hi = (s.n id).hi ∧ (t.n id).ri = (s.n id).ri) ∨ ((t.n id).ri ≠ 0 ∧ (t.n (t.n id).ri).hi = (s.n id).hi ∧ (t.n (t.n id).ri).ri = (s.n id).ri)
theorem Gr.same {s t : AS} (h1 : t.root = s.root) (h2 : s.sl.length ≤ t.sl.length) (h : ∀ id, s.inn id → t.n id = s.n id) : Gr s t :=
 ⟨h1, h2, fun id hi => by rw [h id hi], fun id hi _ => by rw [h id hi], fun id hi => .inl ⟨by rw [h id hi], by rw [h id hi]⟩⟩
theorem Gr.refl (s : AS) : Gr s s := Gr.same rfl (Nat.le_refl _) (fun _ _ => rfl)
section
variable {s : AS}
theorem n_lock (k : Int) (x : Nat) (j : Int) : (s.lockS k x).n j = s.n j := by
 unfold AS.lockS
 split
 case isTrue hk => rw [AS.n_setw hk.1]
 case isFalse => rfl
theorem n_unl (k : Int) (c : Bool) (j : Int) : (s.unlS k c).n j = s.n j := by
 unfold AS.unlS
 split
 case isTrue hk => rw [AS.n_setw (unl_in hk).1]
 case isFalse => rfl
theorem Gr.lock (k : Int) (x : Nat) : Gr s (s.lockS k x) := Gr.same (rs_lock s k x).1 (rs_lock s k x).2 (fun j _ => n_lock k x j)
theorem Gr.unl (k : Int) (c : Bool) : Gr s (s.unlS k c) := Gr.same (rs_unl s k c).1 (rs_unl s k c).2 (fun j _ => n_unl k c j)
theorem fin_n {id : Int} {p : NP} (hi : s.inn id) (ho : s.w id % 2 = 1) {j : Int} (hj : s.inn j) : (s.finS id p).n j = if j = id then p else s.n j := by
 unfold AS.finS
 have e2 : s.unlE id = 0 := by unfold AS.unlE; rw [if_pos hi, if_neg (by omega)]
 have h3 : s.hedS id p.lv p.hi p.ri = s.setn id ((s.n id).setH p.lv p.hi p.ri) := if_pos e2
 rw [h3]
 have t3 : (s.setn id ((s.n id).setH p.lv p.hi p.ri)).inn id := (AS.inn_of_len (AS.setn_len _ _ _) id).2 hi
 have e3 : (s.setn id ((s.n id).setH p.lv p.hi p.ri)).unlE id = 0 := by unfold AS.unlE; rw [if_pos t3, if_neg (by rw [AS.w_setn hi]; omega)]
 have h4 : (s.setn id ((s.n id).setH p.lv p.hi p.ri)).bodS id p.ks p.vs p.cs = (s.setn id ((s.n id).setH p.lv p.hi p.ri)).setn id (((s.setn id ((s.n id).setH p.lv p.hi p.ri)).n id).setB p.ks p.vs p.cs) := if_pos e3
 rw [h4, AS.n_setn hi _ hi, if_pos rfl, n_unl]
 have h5 : ((s.n id).setH p.lv p.hi p.ri).setB p.ks p.vs p.cs = p := rfl
 rw [h5]
 have hj2 : (s.setn id ((s.n id).setH p.lv p.hi p.ri)).inn j := (AS.inn_of_len (AS.setn_len _ _ _) j).2 hj
 rw [AS.n_setn t3 _ hj2]
 by_cases e : j = id
 ·rw [if_pos e, if_pos e]
 ·rw [if_neg e, if_neg e, AS.n_setn hi _ hj, if_neg e]
theorem lock_inn (k : Int) (x : Nat) (j : Int) : (s.lockS k x).inn j ↔ s.inn j := by
 unfold AS.lockS
 split
 ·exact AS.inn_of_len (AS.setw_len _ _ _) j
 ·exact Iff.rfl
theorem lay_n {id : Int} {p : NP} (hi : s.inn id) {j : Int} (hj : s.inn j) : (s.layS id p).n j = if j = id then p else s.n j := by
 unfold AS.layS
 rw [if_neg (by have := hi.2; omega)]
 have hw : s.wordW id = s.w id := if_pos hi
 rw [hw]
 rw [fin_n ((lock_inn _ _ _).2 hi) ?_ ((lock_inn _ _ _).2 hj), n_lock]
 unfold AS.lockS
 split
 case isTrue h => rw [AS.w_setw hi _ hi, if_pos rfl]; omega
 case isFalse h =>
  have : ¬ s.w id % 2 = 0 := fun e => h ⟨hi, rfl, e⟩
  omega
theorem all_old {j : Int} (hj : s.inn j) : s.allS.inn j ∧ s.allS.n j = s.n j ∧ s.allS.w j = s.w j := by
 unfold AS.allS
 split
 ·obtain ⟨i, hi, hid, e⟩ := AS.idx hj
  refine ⟨?_, by unfold AS.n; simp only [e]; rw [getD_app hi], by unfold AS.w; simp only [e]; rw [getD_app hi]⟩
  unfold AS.inn at *
  simp only [List.length_append, List.length_singleton]
  omega
 ·exact ⟨hj, rfl, rfl⟩
theorem lay_new {p : NP} (hl : (s.sl.length : Int) < s.nodes) {id : Int} (hid : id = (s.sl.length : Int) + 1) : (s.layS id p).inn id ∧ (s.layS id p).n id = p ∧ ∀ j, s.inn j → (s.layS id p).inn j ∧ (s.layS id p).n j = s.n j := by
 have e1 : s.layS id p = s.allS.finS id p := by
  unfold AS.layS
  rw [if_pos (by omega), if_pos hl]
 have hlen : s.allS.sl.length = s.sl.length + 1 := by unfold AS.allS; rw [if_pos hl]; simp
 have hi : s.allS.inn id := by unfold AS.inn; rw [hlen]; omega
 have hw : s.allS.w id % 2 = 1 := by
  unfold AS.w AS.allS
  rw [if_pos hl]
  have : (id - 1).toNat = s.sl.length := by omega
  simp [this]
 have hrs := rs_fin s.allS id p
 rw [e1]
 refine ⟨?_, by rw [fin_n hi hw hi, if_pos rfl], fun j hj => ⟨?_, ?_⟩⟩
 ·have := hrs.2; unfold AS.inn at *; omega
 ·have := hrs.2; have := (all_old hj).1; unfold AS.inn at *; omega
 ·rw [fin_n hi hw (all_old hj).1, if_neg (by have := hj.2; omega), (all_old hj).2.1]
theorem Gr.lay {id : Int} {p : NP} (hi : s.inn id) (h1 : p.lv = (s.n id).lv) (h2 : (s.n id).lv ≠ 0 → p.cs.getD 0 0 = (s.n id).cs.getD 0 0) (h3 : p.hi = (s.n id).hi ∧ p.ri = (s.n id).ri) : Gr s (s.layS id p) := by
 refine ⟨(rs_lay s id p).1, (rs_lay s id p).2, fun j hj => ?_, fun j hj hl => ?_, fun j hj => .inl ?_⟩ <;> rw [lay_n hi hj] <;> split
 ·rename_i e; rw [e]; exact h1
 ·rfl
 ·rename_i e; rw [e] at hl ⊢; exact h2 hl
 ·rfl
 ·rename_i e; rw [e]; exact h3
 ·exact ⟨rfl, rfl⟩
theorem Gr.half {id N : Int} {p q : NP} (hi : s.inn id) (hl : (s.sl.length : Int) < s.nodes) (hN : N = (s.sl.length : Int) + 1) (h1 : p.lv = (s.n id).lv) (h2 : (s.n id).lv ≠ 0 → p.cs.getD 0 0 = (s.n id).cs.getD 0 0) (h3 : p.ri = N) (h4 : q.hi = (s.n id).hi ∧ q.ri = (s.n id).ri) : Gr s ((s.layS N q).layS id p) := by
 obtain ⟨g1, g2, g3⟩ := lay_new (p := q) hl hN
 have hi2 := (g3 id hi).1
 have r1 := rs_lay s N q
 have r2 := rs_lay (s.layS N q) id p
 have hne : ¬ N = id := by have := hi.2; omega
 refine ⟨r2.1.trans r1.1, Nat.le_trans r1.2 r2.2, fun j hj => ?_, fun j hj hl => ?_, fun j hj => ?_⟩
 ·rw [lay_n hi2 (g3 j hj).1]
  split
  ·rename_i e; rw [e]; exact h1
  ·rw [(g3 j hj).2]
 ·rw [lay_n hi2 (g3 j hj).1]
  split
  ·rename_i e; rw [e] at hl ⊢; exact h2 hl
  ·rw [(g3 j hj).2]
 ·rw [lay_n hi2 (g3 j hj).1]
  split
  ·rename_i e
   refine .inr ?_
   rw [h3, lay_n hi2 g1, if_neg hne, g2, e]
   exact ⟨by omega, h4⟩
  ·exact .inl ⟨by rw [(g3 j hj).2], by rw [(g3 j hj).2]⟩
end
section
variable {wd : Nat} {n0 : NP} {Y : Prop} {t : AS} {id : Int} {m : Nat}
theorem Snc.lay (h : Snc wd n0 Y t id m) (he : wd % 2 = 0) (hs : wd < 18446744073709551616) (hw : ∀ k, t.inn k → t.w k < 18446744073709551616) (k : Int) (p : NP) : Snc wd n0 Y (t.layS k p) id (m + 2) := by
 unfold AS.layS
 split
 ·split
  ·exact (h.all.fin he hs _ _).mono (by omega)
  ·exact h.mono (by omega)
 ·exact ((h.lock _ _ (wlt_word t hw _)).fin he hs _ _).mono (by omega)
end
structure TX (kd : Int) (ch : Bool) (s s' : AS) : Prop where
 gr : 1 ≤ kd → kd ≤ 5 → Gr s s'
 sn : ch = true → ∀ (wd : Nat) (n0 : NP) (Y : Prop) (id : Int) (m : Nat), wd % 2 = 0 → wd < 18446744073709551616 → Snc wd n0 Y s id m → Snc wd n0 Y s' id (m + 4)
theorem TX.refl (kd : Int) (ch : Bool) (s : AS) : TX kd ch s s := ⟨fun _ _ => Gr.refl s, fun _ _ _ _ _ _ _ _ h => h.mono (by omega)⟩
theorem TX.lay0 {s : AS} (hw : ∀ k, s.inn k → s.w k < 18446744073709551616) {kd : Int} (ch : Bool) (hk : 1 ≤ kd → kd ≤ 5 → False) (id : Int) (p : NP) : TX kd ch s (s.layS id p) := ⟨fun h1 h2 => (hk h1 h2).elim, fun _ _ _ _ _ _ he hs h => (h.lay he hs hw id p).mono (by omega)⟩
theorem TX.lay {s : AS} (hw : ∀ k, s.inn k → s.w k < 18446744073709551616) (kd : Int) (ch : Bool) {id : Int} {p : NP} (hi : s.inn id) (h1 : p.lv = (s.n id).lv) (h2 : (s.n id).lv ≠ 0 → p.cs.getD 0 0 = (s.n id).cs.getD 0 0) (h3 : p.hi = (s.n id).hi ∧ p.ri = (s.n id).ri) : TX kd ch s (s.layS id p) := ⟨fun _ _ => Gr.lay hi h1 h2 h3, fun _ _ _ _ _ _ he hs h => (h.lay he hs hw id p).mono (by omega)⟩
theorem TX.half {s : AS} (hw : ∀ k, s.inn k → s.w k < 18446744073709551616) (kd : Int) (ch : Bool) {id N : Int} {p q : NP} (hi : s.inn id) (hl : (s.sl.length : Int) < s.nodes) (hN : N = (s.sl.length : Int) + 1) (hw2 : ∀ k, (s.layS N q).inn k → (s.layS N q).w k < 18446744073709551616) (h1 : p.lv = (s.n id).lv) (h2 : (s.n id).lv ≠ 0 → p.cs.getD 0 0 = (s.n id).cs.getD 0 0) (h3 : p.ri = N) (h4 : q.hi = (s.n id).hi ∧ q.ri = (s.n id).ri) : TX kd ch s ((s.layS N q).layS id p) := ⟨fun _ _ => Gr.half hi hl hN h1 h2 h3 h4, fun _ _ _ _ _ _ he hs h => (h.lay he hs hw N q).lay he hs hw2 id p⟩
theorem TX.lock {s : AS} (kd : Int) (ch : Bool) (k : Int) (x : Nat) (hx : x < 18446744073709551616) : TX kd ch s (s.lockS k x) := ⟨fun _ _ => Gr.lock k x, fun _ _ _ _ _ _ _ _ h => (h.lock k x hx).mono (by omega)⟩
theorem TX.unl {s : AS} (kd : Int) (ch : Bool) (k : Int) : TX kd ch s (s.unlS k ch) := ⟨fun _ _ => Gr.unl k ch, fun hc _ _ _ _ _ _ _ h => by rw [hc]; exact (h.unl k).mono (by omega)⟩
theorem TX.gro {s : AS} {kd : Int} (ch : Bool) (hk : 1 ≤ kd → kd ≤ 5 → False) (a b : Int) : TX kd ch s (s.groS a b) := by
 refine ⟨fun h1 h2 => (hk h1 h2).elim, fun _ wd n0 Y id m _ _ h => ?_⟩
 have h' := h.mono (show m ≤ m + 4 by omega)
 unfold AS.groS
 split
 ·exact ⟨h'.inn, h'.d⟩
 ·exact h'
end Go.Proofs.YtealejbfloacpaaGreat
