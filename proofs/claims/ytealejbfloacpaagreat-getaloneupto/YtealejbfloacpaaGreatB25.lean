/- Texts of one's own. -/
import Derived.Test.YtealejbfloacpaaGreatB24
import Derived.Test.YtealejbfloacpaaGreatB23
import Derived.Test.YtealejbfloacpaaGreatB12
namespace Go.Proofs.YtealejbfloacpaaGreat
open Go.RowKit
set_option maxRecDepth 100000
section
variable {W : World} {P A : Nat} {F : Nat → Prop} {s : AS} {id : Int} {wd an : Nat} {a0 a1 a2 a3 a4 a5 a6 a7 a8 a9 a10 a11 a12 a13 : Value}
set_option maxHeartbeats 1600000 in
theorem readAgain_not (h : W.heap[P]? = some (.cells #[a0, a1, a2, a3, a4, a5, a6, a7, a8, a9, a10, a11, a12, a13] 206 (0, 0))) (ha : a0 = .pointer (some ⟨A, 0, none⟩)) (hi : a4 = .int .i64 id) (hp : PX W A F s) (hin : ¬ s.inn id) : Calls Tryz.prog 219 #[.pointer (some ⟨P, 0, none⟩)] W (MbP W P #[a0, a1, a2, a3, a4, a5, a6, a7, a8, a9, a10, a11, a12, a13] (.bool false)) := by
  have HQ := hide (wordQ hp id)
  rw [show s.wordE id = 101 from if_neg hin, show s.wordW id = 0 from if_neg hin] at HQ
  subst ha
  subst hi
  have c0 : W.cell? ⟨P, 0, none⟩ = some (.pointer (some ⟨A, 0, none⟩)) := by rw [cell_of_row _ _ _ _ _ _ h]; rfl
  have c4 : W.cell? ⟨P, 4, none⟩ = some (.int .i64 id) := by rw [cell_of_row _ _ _ _ _ _ h]; rfl
  have HH := hide h
  clear h hp
  go_enter Tryz.func219, Tryz.ntmps219
  go_wp2_with fail
  go_quiet ((go_at_call 44; with_reducible exact HQ.out _))
  clear HQ
  go_wp2_with fail
  go_ret
  exact ⟨rfl, HH.out, upd_drewN _ _ _⟩
set_option maxHeartbeats 1600000 in
theorem readAgain_anew (h : W.heap[P]? = some (.cells #[a0, a1, a2, a3, a4, a5, a6, a7, a8, a9, a10, a11, a12, a13] 206 (0, 0))) (ha : a0 = .pointer (some ⟨A, 0, none⟩)) (hi : a4 = .int .i64 id) (hp : PX W A F s) (hw : a5 = .int .u64 (wd : Nat)) (hn : a12 = .int .i64 (an : Nat)) (han : an < 4611686018427387904) (hin : s.inn id) (hne : ¬ s.w id = wd) : Calls Tryz.prog 219 #[.pointer (some ⟨P, 0, none⟩)] W (MbP W P #[a0, a1, a2, .func (.func 119) #[.pointer (some ⟨P, 0, none⟩)] #[], .int .i64 0, .int .u64 0, .int .i64 0, .slice none 0 0, .int .i64 0, .slice none 0 0, .slice none 0 0, .slice none 0 0, .int .i64 ((an + 1 : Nat) : Int), a13] (.bool true)) := by
  have HQ := hide (wordQ hp id)
  rw [show s.wordE id = 0 from if_pos hin, show s.wordW id = s.w id from if_pos hin] at HQ
  generalize s.w id = x at *
  have j1 : ¬ (x : Int) = (wd : Int) := by omega
  subst ha
  subst hi
  subst hw
  subst hn
  have c0 : W.cell? ⟨P, 0, none⟩ = some (.pointer (some ⟨A, 0, none⟩)) := by rw [cell_of_row _ _ _ _ _ _ h]; rfl
  have c3 : W.cell? ⟨P, 3, none⟩ = some (a3) := by rw [cell_of_row _ _ _ _ _ _ h]; rfl
  have c4 : W.cell? ⟨P, 4, none⟩ = some (.int .i64 id) := by rw [cell_of_row _ _ _ _ _ _ h]; rfl
  have c5 : W.cell? ⟨P, 5, none⟩ = some (.int .u64 (wd : Nat)) := by rw [cell_of_row _ _ _ _ _ _ h]; rfl
  have c6 : W.cell? ⟨P, 6, none⟩ = some (a6) := by rw [cell_of_row _ _ _ _ _ _ h]; rfl
  have c7 : W.cell? ⟨P, 7, none⟩ = some (a7) := by rw [cell_of_row _ _ _ _ _ _ h]; rfl
  have c8 : W.cell? ⟨P, 8, none⟩ = some (a8) := by rw [cell_of_row _ _ _ _ _ _ h]; rfl
  have c9 : W.cell? ⟨P, 9, none⟩ = some (a9) := by rw [cell_of_row _ _ _ _ _ _ h]; rfl
  have c10 : W.cell? ⟨P, 10, none⟩ = some (a10) := by rw [cell_of_row _ _ _ _ _ _ h]; rfl
  have c11 : W.cell? ⟨P, 11, none⟩ = some (a11) := by rw [cell_of_row _ _ _ _ _ _ h]; rfl
  have c12 : W.cell? ⟨P, 12, none⟩ = some (.int .i64 (an : Nat)) := by rw [cell_of_row _ _ _ _ _ _ h]; rfl
  have F0 := fun j => frozen_of h j
  have HH := hide h
  have han' := hide han
  clear h hp hne han
  go_enter Tryz.func219, Tryz.ntmps219
  go_wp2_with fail
  go_quiet ((go_at_call 44; with_reducible exact HQ.out _))
  clear HQ
  have j2 : IntKind.i64.wrap ((an : Int) + 1) = (an : Int) + 1 := by have := han'.out; rw [IntKind.wrap_i64]; omega
  clear han'
  go_wp2_with fail
  go_ret
  exact ⟨rfl, (m14_3 (m14_11 (m14_10 (m14_9 (m14_8 (m14_7 (m14_6 (m14_5 (m14_4 (m14_12 HH.out _) _) _) _) _) _) _) _) _) _), (updP (updP (updP (updP (updP (updP (updP (updP (updP (updP (upd_drewN _ _ _) _ _) _ _) _ _) _ _) _ _) _ _) _ _) _ _) _ _) _ _)⟩
set_option maxHeartbeats 1600000 in
theorem readAgain_same (h : W.heap[P]? = some (.cells #[a0, a1, a2, a3, a4, a5, a6, a7, a8, a9, a10, a11, a12, a13] 206 (0, 0))) (ha : a0 = .pointer (some ⟨A, 0, none⟩)) (hi : a4 = .int .i64 id) (hp : PX W A F s) (hw : a5 = .int .u64 (wd : Nat)) (hin : s.inn id) (heq : s.w id = wd) {cs : Array Value} {r : Bool} (hc : ∀ q, Calls Tryz.prog 226 #[.pointer (some ⟨P, 0, none⟩)] (W.drewN q) (MbP (W.drewN q) P cs (.bool r))) : Calls Tryz.prog 219 #[.pointer (some ⟨P, 0, none⟩)] W (MbP W P cs (.bool r)) := by
  have HQ := hide (wordQ hp id)
  rw [show s.wordE id = 0 from if_pos hin, show s.wordW id = s.w id from if_pos hin, heq] at HQ
  subst ha
  subst hi
  subst hw
  have c0 : W.cell? ⟨P, 0, none⟩ = some (.pointer (some ⟨A, 0, none⟩)) := by rw [cell_of_row _ _ _ _ _ _ h]; rfl
  have c4 : W.cell? ⟨P, 4, none⟩ = some (.int .i64 id) := by rw [cell_of_row _ _ _ _ _ _ h]; rfl
  have c5 : W.cell? ⟨P, 5, none⟩ = some (.int .u64 (wd : Nat)) := by rw [cell_of_row _ _ _ _ _ _ h]; rfl
  have HC := hide hc
  clear h hp heq hc
  go_enter Tryz.func219, Tryz.ntmps219
  go_wp2_with fail
  go_quiet ((go_at_call 44; with_reducible exact HQ.out _))
  clear HQ
  go_wp2_with fail
  refine (HC.out _).mono ?_
  rintro e w9 ⟨rfl, g9, u9⟩
  have HG := hide g9
  have HU : Hid (Upd (fun k => k = P) W w9) := (upd_drewN _ _ _).trans u9
  clear g9 u9 HC
  go_wp2_with fail
  go_ret
  exact ⟨rfl, HG.out, HU.out⟩
theorem fneq (f : FuncId) (r c : Array Value) (W : World) : (binOp .neq 24 (.func (.func f) r c) .nilFunc).run Tryz.prog W = .ok (.bool true) W := by kernel_rfl
theorem feql (f : FuncId) (r c : Array Value) (W : World) : (binOp .eql 24 (.func (.func f) r c) .nilFunc).run Tryz.prog W = .ok (.bool false) W := by kernel_rfl
theorem fneq0 (W : World) : (binOp .neq 24 .nilFunc .nilFunc).run Tryz.prog W = .ok (.bool false) W := by kernel_rfl
theorem feql0 (W : World) : (binOp .eql 24 .nilFunc .nilFunc).run Tryz.prog W = .ok (.bool true) W := by kernel_rfl
set_option maxHeartbeats 1600000 in
theorem step_idle (h : W.heap[P]? = some (.cells #[a0, a1, a2, a3, a4, a5, a6, a7, a8, a9, a10, a11, a12, a13] 206 (0, 0))) (hn : a3 = .nilFunc) : Calls Tryz.prog 67 #[.pointer (some ⟨P, 0, none⟩)] W fun e w' => e = .returned (.bool true) ∧ w' = W := by
  subst hn
  have c3 : W.cell? ⟨P, 3, none⟩ = some (.nilFunc) := by rw [cell_of_row _ _ _ _ _ _ h]; rfl
  have q1 := fneq0 W
  have q2 := feql0 W
  clear h
  go_enter Tryz.func67, Tryz.ntmps67
  go_wp2_with fail
  go_ret
  exact ⟨rfl, rfl⟩
set_option maxHeartbeats 1600000 in
theorem step_go_readRoot (h : W.heap[P]? = some (.cells #[a0, a1, a2, a3, a4, a5, a6, a7, a8, a9, a10, a11, a12, a13] 206 (0, 0))) (hn : a3 = .func (.func 119) #[.pointer (some ⟨P, 0, none⟩)] #[]) (Q : World → Prop) (hc : Calls Tryz.prog 119 #[.pointer (some ⟨P, 0, none⟩)] W fun e w' => e = .returned (.bool true) ∧ Q w') (hq : ∀ w', Q w' → ∃ g, w'.cell? ⟨P, 3, none⟩ = some (.func (.func g) #[.pointer (some ⟨P, 0, none⟩)] #[])) : Calls Tryz.prog 67 #[.pointer (some ⟨P, 0, none⟩)] W fun e w' => e = .returned (.bool false) ∧ Q w' := by
  subst hn
  have c3 : W.cell? ⟨P, 3, none⟩ = some (.func (.func 119) #[.pointer (some ⟨P, 0, none⟩)] #[]) := by rw [cell_of_row _ _ _ _ _ _ h]; rfl
  have HC := hide hc
  have HQ := hide hq
  have q1 := fneq 119 #[.pointer (some ⟨P, 0, none⟩)] #[] W
  clear h hc hq
  go_enter Tryz.func67, Tryz.ntmps67
  go_wp2_with fail
  refine HC.out.mono ?_
  rintro e w9 ⟨rfl, q9⟩
  obtain ⟨g, d3⟩ := HQ.out w9 q9
  have q2 := feql g #[.pointer (some ⟨P, 0, none⟩)] #[] w9
  have HQ9 := hide q9
  clear q9 HC HQ
  go_wp2_with fail
  go_ret
  exact ⟨rfl, HQ9.out⟩
set_option maxHeartbeats 1600000 in
theorem step_go_readWord (h : W.heap[P]? = some (.cells #[a0, a1, a2, a3, a4, a5, a6, a7, a8, a9, a10, a11, a12, a13] 206 (0, 0))) (hn : a3 = .func (.func 173) #[.pointer (some ⟨P, 0, none⟩)] #[]) (Q : World → Prop) (hc : Calls Tryz.prog 173 #[.pointer (some ⟨P, 0, none⟩)] W fun e w' => e = .returned (.bool true) ∧ Q w') (hq : ∀ w', Q w' → ∃ g, w'.cell? ⟨P, 3, none⟩ = some (.func (.func g) #[.pointer (some ⟨P, 0, none⟩)] #[])) : Calls Tryz.prog 67 #[.pointer (some ⟨P, 0, none⟩)] W fun e w' => e = .returned (.bool false) ∧ Q w' := by
  subst hn
  have c3 : W.cell? ⟨P, 3, none⟩ = some (.func (.func 173) #[.pointer (some ⟨P, 0, none⟩)] #[]) := by rw [cell_of_row _ _ _ _ _ _ h]; rfl
  have HC := hide hc
  have HQ := hide hq
  have q1 := fneq 173 #[.pointer (some ⟨P, 0, none⟩)] #[] W
  clear h hc hq
  go_enter Tryz.func67, Tryz.ntmps67
  go_wp2_with fail
  refine HC.out.mono ?_
  rintro e w9 ⟨rfl, q9⟩
  obtain ⟨g, d3⟩ := HQ.out w9 q9
  have q2 := feql g #[.pointer (some ⟨P, 0, none⟩)] #[] w9
  have HQ9 := hide q9
  clear q9 HC HQ
  go_wp2_with fail
  go_ret
  exact ⟨rfl, HQ9.out⟩
set_option maxHeartbeats 1600000 in
theorem step_go_readHead (h : W.heap[P]? = some (.cells #[a0, a1, a2, a3, a4, a5, a6, a7, a8, a9, a10, a11, a12, a13] 206 (0, 0))) (hn : a3 = .func (.func 188) #[.pointer (some ⟨P, 0, none⟩)] #[]) (Q : World → Prop) (hc : Calls Tryz.prog 188 #[.pointer (some ⟨P, 0, none⟩)] W fun e w' => e = .returned (.bool true) ∧ Q w') (hq : ∀ w', Q w' → ∃ g, w'.cell? ⟨P, 3, none⟩ = some (.func (.func g) #[.pointer (some ⟨P, 0, none⟩)] #[])) : Calls Tryz.prog 67 #[.pointer (some ⟨P, 0, none⟩)] W fun e w' => e = .returned (.bool false) ∧ Q w' := by
  subst hn
  have c3 : W.cell? ⟨P, 3, none⟩ = some (.func (.func 188) #[.pointer (some ⟨P, 0, none⟩)] #[]) := by rw [cell_of_row _ _ _ _ _ _ h]; rfl
  have HC := hide hc
  have HQ := hide hq
  have q1 := fneq 188 #[.pointer (some ⟨P, 0, none⟩)] #[] W
  clear h hc hq
  go_enter Tryz.func67, Tryz.ntmps67
  go_wp2_with fail
  refine HC.out.mono ?_
  rintro e w9 ⟨rfl, q9⟩
  obtain ⟨g, d3⟩ := HQ.out w9 q9
  have q2 := feql g #[.pointer (some ⟨P, 0, none⟩)] #[] w9
  have HQ9 := hide q9
  clear q9 HC HQ
  go_wp2_with fail
  go_ret
  exact ⟨rfl, HQ9.out⟩
set_option maxHeartbeats 1600000 in
theorem step_go_readBody (h : W.heap[P]? = some (.cells #[a0, a1, a2, a3, a4, a5, a6, a7, a8, a9, a10, a11, a12, a13] 206 (0, 0))) (hn : a3 = .func (.func 206) #[.pointer (some ⟨P, 0, none⟩)] #[]) (Q : World → Prop) (hc : Calls Tryz.prog 206 #[.pointer (some ⟨P, 0, none⟩)] W fun e w' => e = .returned (.bool true) ∧ Q w') (hq : ∀ w', Q w' → ∃ g, w'.cell? ⟨P, 3, none⟩ = some (.func (.func g) #[.pointer (some ⟨P, 0, none⟩)] #[])) : Calls Tryz.prog 67 #[.pointer (some ⟨P, 0, none⟩)] W fun e w' => e = .returned (.bool false) ∧ Q w' := by
  subst hn
  have c3 : W.cell? ⟨P, 3, none⟩ = some (.func (.func 206) #[.pointer (some ⟨P, 0, none⟩)] #[]) := by rw [cell_of_row _ _ _ _ _ _ h]; rfl
  have HC := hide hc
  have HQ := hide hq
  have q1 := fneq 206 #[.pointer (some ⟨P, 0, none⟩)] #[] W
  clear h hc hq
  go_enter Tryz.func67, Tryz.ntmps67
  go_wp2_with fail
  refine HC.out.mono ?_
  rintro e w9 ⟨rfl, q9⟩
  obtain ⟨g, d3⟩ := HQ.out w9 q9
  have q2 := feql g #[.pointer (some ⟨P, 0, none⟩)] #[] w9
  have HQ9 := hide q9
  clear q9 HC HQ
  go_wp2_with fail
  go_ret
  exact ⟨rfl, HQ9.out⟩
set_option maxHeartbeats 1600000 in
theorem step_go_readWordAgain (h : W.heap[P]? = some (.cells #[a0, a1, a2, a3, a4, a5, a6, a7, a8, a9, a10, a11, a12, a13] 206 (0, 0))) (hn : a3 = .func (.func 219) #[.pointer (some ⟨P, 0, none⟩)] #[]) (Q : World → Prop) (hc : Calls Tryz.prog 219 #[.pointer (some ⟨P, 0, none⟩)] W fun e w' => e = .returned (.bool true) ∧ Q w') (hq : ∀ w', Q w' → ∃ g, w'.cell? ⟨P, 3, none⟩ = some (.func (.func g) #[.pointer (some ⟨P, 0, none⟩)] #[])) : Calls Tryz.prog 67 #[.pointer (some ⟨P, 0, none⟩)] W fun e w' => e = .returned (.bool false) ∧ Q w' := by
  subst hn
  have c3 : W.cell? ⟨P, 3, none⟩ = some (.func (.func 219) #[.pointer (some ⟨P, 0, none⟩)] #[]) := by rw [cell_of_row _ _ _ _ _ _ h]; rfl
  have HC := hide hc
  have HQ := hide hq
  have q1 := fneq 219 #[.pointer (some ⟨P, 0, none⟩)] #[] W
  clear h hc hq
  go_enter Tryz.func67, Tryz.ntmps67
  go_wp2_with fail
  refine HC.out.mono ?_
  rintro e w9 ⟨rfl, q9⟩
  obtain ⟨g, d3⟩ := HQ.out w9 q9
  have q2 := feql g #[.pointer (some ⟨P, 0, none⟩)] #[] w9
  have HQ9 := hide q9
  clear q9 HC HQ
  go_wp2_with fail
  go_ret
  exact ⟨rfl, HQ9.out⟩
set_option maxHeartbeats 1600000 in
theorem step_end_readWordAgain (h : W.heap[P]? = some (.cells #[a0, a1, a2, a3, a4, a5, a6, a7, a8, a9, a10, a11, a12, a13] 206 (0, 0))) (hn : a3 = .func (.func 219) #[.pointer (some ⟨P, 0, none⟩)] #[]) (Q : World → Prop) (hc : Calls Tryz.prog 219 #[.pointer (some ⟨P, 0, none⟩)] W fun e w' => e = .returned (.bool true) ∧ Q w') (hq : ∀ w', Q w' → w'.cell? ⟨P, 3, none⟩ = some .nilFunc) : Calls Tryz.prog 67 #[.pointer (some ⟨P, 0, none⟩)] W fun e w' => e = .returned (.bool true) ∧ Q w' := by
  subst hn
  have c3 : W.cell? ⟨P, 3, none⟩ = some (.func (.func 219) #[.pointer (some ⟨P, 0, none⟩)] #[]) := by rw [cell_of_row _ _ _ _ _ _ h]; rfl
  have HC := hide hc
  have HQ := hide hq
  have q1 := fneq 219 #[.pointer (some ⟨P, 0, none⟩)] #[] W
  clear h hc hq
  go_enter Tryz.func67, Tryz.ntmps67
  go_wp2_with fail
  refine HC.out.mono ?_
  rintro e w9 ⟨rfl, q9⟩
  have d3 := HQ.out w9 q9
  have q2 := feql0 w9
  have HQ9 := hide q9
  clear q9 HC HQ
  go_wp2_with fail
  go_ret
  exact ⟨rfl, HQ9.out⟩
set_option maxHeartbeats 1600000 in
theorem step_not_readWord (h : W.heap[P]? = some (.cells #[a0, a1, a2, a3, a4, a5, a6, a7, a8, a9, a10, a11, a12, a13] 206 (0, 0))) (hn : a3 = .func (.func 173) #[.pointer (some ⟨P, 0, none⟩)] #[]) (hc : Calls Tryz.prog 173 #[.pointer (some ⟨P, 0, none⟩)] W fun e w' => e = .returned (.bool false) ∧ (∃ x3 x4 x5 x6 x7 x8 x9 x10 x11, w'.heap[P]? = some (.cells #[a0, a1, a2, x3, x4, x5, x6, x7, x8, x9, x10, x11, a12, a13] 206 (0, 0))) ∧ Upd (fun k => k = P) W w') : Calls Tryz.prog 67 #[.pointer (some ⟨P, 0, none⟩)] W (MbP W P #[a0, a1, a2, .nilFunc, .int .i64 0, .int .u64 0, .int .i64 0, .slice none 0 0, .int .i64 0, .slice none 0 0, .slice none 0 0, .slice none 0 0, a12, a13] (.bool true)) := by
  subst hn
  have c3 : W.cell? ⟨P, 3, none⟩ = some (.func (.func 173) #[.pointer (some ⟨P, 0, none⟩)] #[]) := by rw [cell_of_row _ _ _ _ _ _ h]; rfl
  have HC := hide hc
  have q1 := fneq 173 #[.pointer (some ⟨P, 0, none⟩)] #[] W
  clear h hc
  go_enter Tryz.func67, Tryz.ntmps67
  go_wp2_with fail
  refine HC.out.mono ?_
  rintro e w9 ⟨rfl, ⟨x3, x4, x5, x6, x7, x8, x9, x10, x11, g9⟩, u9⟩
  have q2 := feql0
  have d3 : w9.cell? ⟨P, 3, none⟩ = some x3 := by rw [cell_of_row _ _ _ _ _ _ g9]; rfl
  have d4 : w9.cell? ⟨P, 4, none⟩ = some x4 := by rw [cell_of_row _ _ _ _ _ _ g9]; rfl
  have d5 : w9.cell? ⟨P, 5, none⟩ = some x5 := by rw [cell_of_row _ _ _ _ _ _ g9]; rfl
  have d6 : w9.cell? ⟨P, 6, none⟩ = some x6 := by rw [cell_of_row _ _ _ _ _ _ g9]; rfl
  have d7 : w9.cell? ⟨P, 7, none⟩ = some x7 := by rw [cell_of_row _ _ _ _ _ _ g9]; rfl
  have d8 : w9.cell? ⟨P, 8, none⟩ = some x8 := by rw [cell_of_row _ _ _ _ _ _ g9]; rfl
  have d9 : w9.cell? ⟨P, 9, none⟩ = some x9 := by rw [cell_of_row _ _ _ _ _ _ g9]; rfl
  have d10 : w9.cell? ⟨P, 10, none⟩ = some x10 := by rw [cell_of_row _ _ _ _ _ _ g9]; rfl
  have d11 : w9.cell? ⟨P, 11, none⟩ = some x11 := by rw [cell_of_row _ _ _ _ _ _ g9]; rfl
  have F0 := fun j => frozen_of g9 j
  have HG := hide g9
  have HU := hide u9
  clear g9 u9 HC
  go_wp2_with fail
  go_ret
  exact ⟨rfl, (m14_11 (m14_10 (m14_9 (m14_8 (m14_7 (m14_6 (m14_5 (m14_4 (m14_3 HG.out _) _) _) _) _) _) _) _) _), (updP (updP (updP (updP (updP (updP (updP (updP (updP HU.out _ _) _ _) _ _) _ _) _ _) _ _) _ _) _ _) _ _)⟩
set_option maxHeartbeats 1600000 in
theorem step_not_readHead (h : W.heap[P]? = some (.cells #[a0, a1, a2, a3, a4, a5, a6, a7, a8, a9, a10, a11, a12, a13] 206 (0, 0))) (hn : a3 = .func (.func 188) #[.pointer (some ⟨P, 0, none⟩)] #[]) (hc : Calls Tryz.prog 188 #[.pointer (some ⟨P, 0, none⟩)] W fun e w' => e = .returned (.bool false) ∧ (∃ x3 x4 x5 x6 x7 x8 x9 x10 x11, w'.heap[P]? = some (.cells #[a0, a1, a2, x3, x4, x5, x6, x7, x8, x9, x10, x11, a12, a13] 206 (0, 0))) ∧ Upd (fun k => k = P) W w') : Calls Tryz.prog 67 #[.pointer (some ⟨P, 0, none⟩)] W (MbP W P #[a0, a1, a2, .nilFunc, .int .i64 0, .int .u64 0, .int .i64 0, .slice none 0 0, .int .i64 0, .slice none 0 0, .slice none 0 0, .slice none 0 0, a12, a13] (.bool true)) := by
  subst hn
  have c3 : W.cell? ⟨P, 3, none⟩ = some (.func (.func 188) #[.pointer (some ⟨P, 0, none⟩)] #[]) := by rw [cell_of_row _ _ _ _ _ _ h]; rfl
  have HC := hide hc
  have q1 := fneq 188 #[.pointer (some ⟨P, 0, none⟩)] #[] W
  clear h hc
  go_enter Tryz.func67, Tryz.ntmps67
  go_wp2_with fail
  refine HC.out.mono ?_
  rintro e w9 ⟨rfl, ⟨x3, x4, x5, x6, x7, x8, x9, x10, x11, g9⟩, u9⟩
  have q2 := feql0
  have d3 : w9.cell? ⟨P, 3, none⟩ = some x3 := by rw [cell_of_row _ _ _ _ _ _ g9]; rfl
  have d4 : w9.cell? ⟨P, 4, none⟩ = some x4 := by rw [cell_of_row _ _ _ _ _ _ g9]; rfl
  have d5 : w9.cell? ⟨P, 5, none⟩ = some x5 := by rw [cell_of_row _ _ _ _ _ _ g9]; rfl
  have d6 : w9.cell? ⟨P, 6, none⟩ = some x6 := by rw [cell_of_row _ _ _ _ _ _ g9]; rfl
  have d7 : w9.cell? ⟨P, 7, none⟩ = some x7 := by rw [cell_of_row _ _ _ _ _ _ g9]; rfl
  have d8 : w9.cell? ⟨P, 8, none⟩ = some x8 := by rw [cell_of_row _ _ _ _ _ _ g9]; rfl
  have d9 : w9.cell? ⟨P, 9, none⟩ = some x9 := by rw [cell_of_row _ _ _ _ _ _ g9]; rfl
  have d10 : w9.cell? ⟨P, 10, none⟩ = some x10 := by rw [cell_of_row _ _ _ _ _ _ g9]; rfl
  have d11 : w9.cell? ⟨P, 11, none⟩ = some x11 := by rw [cell_of_row _ _ _ _ _ _ g9]; rfl
  have F0 := fun j => frozen_of g9 j
  have HG := hide g9
  have HU := hide u9
  clear g9 u9 HC
  go_wp2_with fail
  go_ret
  exact ⟨rfl, (m14_11 (m14_10 (m14_9 (m14_8 (m14_7 (m14_6 (m14_5 (m14_4 (m14_3 HG.out _) _) _) _) _) _) _) _) _), (updP (updP (updP (updP (updP (updP (updP (updP (updP HU.out _ _) _ _) _ _) _ _) _ _) _ _) _ _) _ _) _ _)⟩
set_option maxHeartbeats 1600000 in
theorem step_not_readBody (h : W.heap[P]? = some (.cells #[a0, a1, a2, a3, a4, a5, a6, a7, a8, a9, a10, a11, a12, a13] 206 (0, 0))) (hn : a3 = .func (.func 206) #[.pointer (some ⟨P, 0, none⟩)] #[]) (hc : Calls Tryz.prog 206 #[.pointer (some ⟨P, 0, none⟩)] W fun e w' => e = .returned (.bool false) ∧ (∃ x3 x4 x5 x6 x7 x8 x9 x10 x11, w'.heap[P]? = some (.cells #[a0, a1, a2, x3, x4, x5, x6, x7, x8, x9, x10, x11, a12, a13] 206 (0, 0))) ∧ Upd (fun k => k = P) W w') : Calls Tryz.prog 67 #[.pointer (some ⟨P, 0, none⟩)] W (MbP W P #[a0, a1, a2, .nilFunc, .int .i64 0, .int .u64 0, .int .i64 0, .slice none 0 0, .int .i64 0, .slice none 0 0, .slice none 0 0, .slice none 0 0, a12, a13] (.bool true)) := by
  subst hn
  have c3 : W.cell? ⟨P, 3, none⟩ = some (.func (.func 206) #[.pointer (some ⟨P, 0, none⟩)] #[]) := by rw [cell_of_row _ _ _ _ _ _ h]; rfl
  have HC := hide hc
  have q1 := fneq 206 #[.pointer (some ⟨P, 0, none⟩)] #[] W
  clear h hc
  go_enter Tryz.func67, Tryz.ntmps67
  go_wp2_with fail
  refine HC.out.mono ?_
  rintro e w9 ⟨rfl, ⟨x3, x4, x5, x6, x7, x8, x9, x10, x11, g9⟩, u9⟩
  have q2 := feql0
  have d3 : w9.cell? ⟨P, 3, none⟩ = some x3 := by rw [cell_of_row _ _ _ _ _ _ g9]; rfl
  have d4 : w9.cell? ⟨P, 4, none⟩ = some x4 := by rw [cell_of_row _ _ _ _ _ _ g9]; rfl
  have d5 : w9.cell? ⟨P, 5, none⟩ = some x5 := by rw [cell_of_row _ _ _ _ _ _ g9]; rfl
  have d6 : w9.cell? ⟨P, 6, none⟩ = some x6 := by rw [cell_of_row _ _ _ _ _ _ g9]; rfl
  have d7 : w9.cell? ⟨P, 7, none⟩ = some x7 := by rw [cell_of_row _ _ _ _ _ _ g9]; rfl
  have d8 : w9.cell? ⟨P, 8, none⟩ = some x8 := by rw [cell_of_row _ _ _ _ _ _ g9]; rfl
  have d9 : w9.cell? ⟨P, 9, none⟩ = some x9 := by rw [cell_of_row _ _ _ _ _ _ g9]; rfl
  have d10 : w9.cell? ⟨P, 10, none⟩ = some x10 := by rw [cell_of_row _ _ _ _ _ _ g9]; rfl
  have d11 : w9.cell? ⟨P, 11, none⟩ = some x11 := by rw [cell_of_row _ _ _ _ _ _ g9]; rfl
  have F0 := fun j => frozen_of g9 j
  have HG := hide g9
  have HU := hide u9
  clear g9 u9 HC
  go_wp2_with fail
  go_ret
  exact ⟨rfl, (m14_11 (m14_10 (m14_9 (m14_8 (m14_7 (m14_6 (m14_5 (m14_4 (m14_3 HG.out _) _) _) _) _) _) _) _) _), (updP (updP (updP (updP (updP (updP (updP (updP (updP HU.out _ _) _ _) _ _) _ _) _ _) _ _) _ _) _ _) _ _)⟩
set_option maxHeartbeats 1600000 in
theorem step_not_readWordAgain (h : W.heap[P]? = some (.cells #[a0, a1, a2, a3, a4, a5, a6, a7, a8, a9, a10, a11, a12, a13] 206 (0, 0))) (hn : a3 = .func (.func 219) #[.pointer (some ⟨P, 0, none⟩)] #[]) (hc : Calls Tryz.prog 219 #[.pointer (some ⟨P, 0, none⟩)] W fun e w' => e = .returned (.bool false) ∧ (∃ x3 x4 x5 x6 x7 x8 x9 x10 x11, w'.heap[P]? = some (.cells #[a0, a1, a2, x3, x4, x5, x6, x7, x8, x9, x10, x11, a12, a13] 206 (0, 0))) ∧ Upd (fun k => k = P) W w') : Calls Tryz.prog 67 #[.pointer (some ⟨P, 0, none⟩)] W (MbP W P #[a0, a1, a2, .nilFunc, .int .i64 0, .int .u64 0, .int .i64 0, .slice none 0 0, .int .i64 0, .slice none 0 0, .slice none 0 0, .slice none 0 0, a12, a13] (.bool true)) := by
  subst hn
  have c3 : W.cell? ⟨P, 3, none⟩ = some (.func (.func 219) #[.pointer (some ⟨P, 0, none⟩)] #[]) := by rw [cell_of_row _ _ _ _ _ _ h]; rfl
  have HC := hide hc
  have q1 := fneq 219 #[.pointer (some ⟨P, 0, none⟩)] #[] W
  clear h hc
  go_enter Tryz.func67, Tryz.ntmps67
  go_wp2_with fail
  refine HC.out.mono ?_
  rintro e w9 ⟨rfl, ⟨x3, x4, x5, x6, x7, x8, x9, x10, x11, g9⟩, u9⟩
  have q2 := feql0
  have d3 : w9.cell? ⟨P, 3, none⟩ = some x3 := by rw [cell_of_row _ _ _ _ _ _ g9]; rfl
  have d4 : w9.cell? ⟨P, 4, none⟩ = some x4 := by rw [cell_of_row _ _ _ _ _ _ g9]; rfl
  have d5 : w9.cell? ⟨P, 5, none⟩ = some x5 := by rw [cell_of_row _ _ _ _ _ _ g9]; rfl
  have d6 : w9.cell? ⟨P, 6, none⟩ = some x6 := by rw [cell_of_row _ _ _ _ _ _ g9]; rfl
  have d7 : w9.cell? ⟨P, 7, none⟩ = some x7 := by rw [cell_of_row _ _ _ _ _ _ g9]; rfl
  have d8 : w9.cell? ⟨P, 8, none⟩ = some x8 := by rw [cell_of_row _ _ _ _ _ _ g9]; rfl
  have d9 : w9.cell? ⟨P, 9, none⟩ = some x9 := by rw [cell_of_row _ _ _ _ _ _ g9]; rfl
  have d10 : w9.cell? ⟨P, 10, none⟩ = some x10 := by rw [cell_of_row _ _ _ _ _ _ g9]; rfl
  have d11 : w9.cell? ⟨P, 11, none⟩ = some x11 := by rw [cell_of_row _ _ _ _ _ _ g9]; rfl
  have F0 := fun j => frozen_of g9 j
  have HG := hide g9
  have HU := hide u9
  clear g9 u9 HC
  go_wp2_with fail
  go_ret
  exact ⟨rfl, (m14_11 (m14_10 (m14_9 (m14_8 (m14_7 (m14_6 (m14_5 (m14_4 (m14_3 HG.out _) _) _) _) _) _) _) _) _), (updP (updP (updP (updP (updP (updP (updP (updP (updP HU.out _ _) _ _) _ _) _ _) _ _) _ _) _ _) _ _) _ _)⟩
end
end Go.Proofs.YtealejbfloacpaaGreat

namespace Go.Proofs.YtealejbfloacpaaGreat
open Go.RowKit
set_option maxRecDepth 100000
/-- What is next, as the machine keeps it. -/
def nxV (P : Nat) : Nat → Value
  | 0 => .func (.func 119) #[.pointer (some ⟨P, 0, none⟩)] #[]
  | 1 => .func (.func 173) #[.pointer (some ⟨P, 0, none⟩)] #[]
  | 2 => .func (.func 188) #[.pointer (some ⟨P, 0, none⟩)] #[]
  | 3 => .func (.func 206) #[.pointer (some ⟨P, 0, none⟩)] #[]
  | 4 => .func (.func 219) #[.pointer (some ⟨P, 0, none⟩)] #[]
  | _ + 5 => .nilFunc
def mcel (P A : Nat) (k : Tx) (n : Nd) (m : MS) : Array Value :=
  #[.pointer (some ⟨A, 0, none⟩), k.v, .int .i64 m.lev, nxV P m.nx, .int .i64 m.id, .int .u64 (m.wd : Nat), .int .i64 n.lv, n.hi.v, .int .i64 n.ri, n.ks.v, n.vs.v, n.cs.v, .int .i64 (m.an : Nat), .int .i64 (m.mo : Nat)]
/-- The program's machine at P, on the arena at A; what it leads to lies in D. -/
structure PM (W : World) (P A : Nat) (k : Tx) (n : Nd) (D : Nat → Prop) (m : MS) : Prop where
  c : W.heap[P]? = some (.cells (mcel P A k n m) 206 (0, 0))
  np : n.p = m.nd
  no : n.Ok W
  ni : n.In D
  ko : k.Ok W
  ks : k.s = m.key
  ki : ∀ x, k.a = some x → 0 < k.s.length → D x.block
  pd : ¬ D P
  lt : ∀ x, D x → x < W.heap.size
/-- What a step leaves. -/
def MNx (W : World) (P A : Nat) (k : Tx) (D : Nat → Prop) (m : MS) (w' : World) : Prop := ∃ n D', PM w' P A k n D' m ∧ (∀ x, D' x → D x ∨ W.heap.size ≤ x) ∧ Upd (fun k => k = P) W w'
section
variable {W w' : World} {P A : Nat} {k : Tx} {n n' : Nd} {D F : Nat → Prop} {m m' : MS} {s : AS}
theorem PM.upd {S : Nat → Prop} (h : PM W P A k n D m) (hu : Upd S W w') (hs : ∀ x, x = P ∨ D x → ¬ S x) : PM w' P A k n D m :=
  ⟨hu.heap h.c (hs P (.inl rfl)), h.np, h.no.upd h.ni hu (fun x hx => hs x (.inr hx)), h.ni, h.ko.updL hu (fun x e l => hs _ (.inr (h.ki x e l))), h.ks, h.ki, h.pd, fun x hx => Nat.lt_of_lt_of_le (h.lt x hx) hu.size⟩
theorem PM.next (h : PM W P A k n D m) (hc : w'.heap[P]? = some (.cells (mcel P A k n' m') 206 (0, 0))) (hu : Upd (fun k => k = P) W w') (hk : m'.key = m.key) (hp : n'.p = m'.nd) (hn : n'.Ok w') (hi : n'.In (fun x => D x ∨ (W.heap.size ≤ x ∧ x < w'.heap.size))) : MNx W P A k D m' w' := by
  have hl := lt_of_block h.c
  refine ⟨n', fun x => D x ∨ (W.heap.size ≤ x ∧ x < w'.heap.size), ⟨hc, hp, hn, hi, h.ko.updL hu (fun x e l e' => h.pd (e' ▸ h.ki x e l)), by rw [hk]; exact h.ks, fun x e l => .inl (h.ki x e l), ?_, ?_⟩, ?_, hu⟩
  · rintro (h1 | h1)
    · exact h.pd h1
    · omega
  · rintro x (h1 | h1)
    · exact Nat.lt_of_lt_of_le (h.lt x h1) hu.size
    · exact h1.2
  · rintro x (h1 | h1)
    · exact .inl h1
    · exact .inr h1.1
/-- A step that keeps the node. -/
theorem PM.keepN (h : PM W P A k n D m) (hc : w'.heap[P]? = some (.cells (mcel P A k n m') 206 (0, 0))) (hu : Upd (fun k => k = P) W w') (hk : m'.key = m.key) (hp : m'.nd = m.nd) : MNx W P A k D m' w' :=
  h.next hc hu hk (by rw [hp]; exact h.np) (h.no.upd h.ni hu (fun x hx e => h.pd (e ▸ hx))) (h.ni.mono fun x hx => .inl hx)
/-- A step that lets it go. -/
theorem PM.zeroN (h : PM W P A k n D m) (hc : w'.heap[P]? = some (.cells (mcel P A k Nd.zero m') 206 (0, 0))) (hu : Upd (fun k => k = P) W w') (hk : m'.key = m.key) (hp : m'.nd = NP.zero) : MNx W P A k D m' w' :=
  h.next hc hu hk (by rw [hp]; rfl) (Nd.zero_ok _) (Nd.zero_in _)
theorem PM.headN (h : PM W P A k n D m) {lv ri : Int} {t : Tx} (hc : w'.heap[P]? = some (.cells (mcel P A k ⟨lv, t, ri, n.ks, n.vs, n.cs⟩ m') 206 (0, 0))) (hu : Upd (fun k => k = P) W w') (hk : m'.key = m.key) (hp : m'.nd = m.nd.setH lv t.s ri) (ho : OwnB w' W.heap.size 5 t.v t.s) (h8 : B8 t.s) (hz : t.s.length ≤ 140737488351232) : MNx W P A k D m' w' := by
  have hn := h.no.upd h.ni hu (fun x hx e => h.pd (e ▸ hx))
  refine h.next hc hu hk ?_ ⟨ownB_ok ho h8 hz, hn.k, hn.v, hn.c, hn.kz, hn.vz, hn.cz⟩ ⟨fun x e _ => .inr (ownB_in ho x e), fun x e l => .inl (h.ni.k x e l), fun y hy x e l => .inl (h.ni.ke y hy x e l), fun x e l => .inl (h.ni.v x e l), fun y hy x e l => .inl (h.ni.ve y hy x e l), fun x e l => .inl (h.ni.c x e l)⟩
  rw [hp, ← h.np]
  rfl
theorem PM.bodyN (h : PM W P A k n D m) {ks vs : TL} {cs : IL} (hc : w'.heap[P]? = some (.cells (mcel P A k ⟨n.lv, n.hi, n.ri, ks, vs, cs⟩ m') 206 (0, 0))) (hu : Upd (fun k => k = P) W w') (hk : m'.key = m.key) (hp : m'.nd = m.nd.setB ks.p vs.p cs.s) (h1 : ks.Own w' W.heap.size) (h2 : vs.Own w' W.heap.size) (h3 : w'.ownsRow W.heap.size 3 1 cs.v cs.s.length (cs.s.map (Value.int .i64))) (hz : ks.L.length * 24 ≤ 140737488352000 ∧ vs.L.length * 24 ≤ 140737488352000 ∧ cs.s.length * 8 ≤ 140737488352000) : MNx W P A k D m' w' := by
  have hn := h.no.upd h.ni hu (fun x hx e => h.pd (e ▸ hx))
  refine h.next hc hu hk ?_ ⟨hn.h, h1.ok, h2.ok, il_of_owns h3, hz.1, hz.2.1, hz.2.2⟩ ⟨fun x e l => .inl (h.ni.h x e l), fun x e _ => .inr (owns_in h1.row x e), fun t ht x e _ => .inr (ownB_in (h1.each t ht) x e), fun x e _ => .inr (owns_in h2.row x e), fun t ht x e _ => .inr (ownB_in (h2.each t ht) x e), fun x e _ => .inr (owns_in h3 x e)⟩
  rw [hp, ← h.np]
  rfl
theorem calls3 {f : FuncId} {args : Array Value} {cs : Array Value} {r : Value} (h : Calls Tryz.prog f args W (MbP W P cs r)) : Calls Tryz.prog f args W fun e w' => e = .returned r ∧ (w'.heap[P]? = some (.cells cs 206 (0, 0)) ∧ Upd (fun k => k = P) W w') := h.mono fun _ _ h => ⟨h.1, h.2.1, h.2.2⟩
theorem cell3 {W : World} {P : Nat} {T : TypeId} {a0 a1 a2 a3 a4 a5 a6 a7 a8 a9 a10 a11 a12 a13 : Value} (h : W.heap[P]? = some (.cells #[a0, a1, a2, a3, a4, a5, a6, a7, a8, a9, a10, a11, a12, a13] T (0, 0))) : W.cell? ⟨P, 3, none⟩ = some a3 := by rw [cell_of_row _ _ _ _ _ _ h]; rfl
/-- What Step tells and leaves. -/
def SpP (W : World) (P A : Nat) (k : Tx) (D : Nat → Prop) (m : MS) (e : Ending) (w' : World) : Prop := e = .returned (.bool (decide (5 ≤ m.nx))) ∧ MNx W P A k D m w'
theorem step_any (h : PM W P A k n D m) (hp : PX W A F s) (han : m.an < 4611686018427387904) (hmo : m.mo < 4611686018427387904) : Calls Tryz.prog 67 #[.pointer (some ⟨P, 0, none⟩)] W (SpP W P A k D (m.step s)) := by
  obtain ⟨key, lev, nx, id, wd, nd, an, mo⟩ := m
  simp only at han hmo
  unfold MS.step
  simp only
  match nx, h with
  | 0, h =>
    rw [if_pos rfl]
    refine (step_go_readRoot h.c rfl _ (calls3 (readRoot_any h.c rfl hp)) (fun w' hq => ⟨_, cell3 hq.1⟩)).mono ?_
    rintro e w' ⟨rfl, h1, h2⟩
    exact ⟨rfl, h.zeroN h1 h2 rfl rfl⟩
  | nx + 5, h =>
    rw [if_neg (by omega), if_pos (by omega)]
    refine (step_idle h.c rfl).mono ?_
    rintro e w' ⟨rfl, rfl⟩
    exact ⟨by simp, h.keepN h.c (Upd.refl _ _) rfl rfl⟩
  | 1, h =>
    rw [if_neg (by omega), if_neg (by omega)]
    by_cases hin : s.inn id
    · rw [if_neg (fun e => e hin), if_pos rfl]
      by_cases ho : s.w id % 2 = 0
      · rw [if_pos ho]
        refine (step_go_readWord h.c rfl _ (calls3 (readWord_even h.c rfl rfl hp hin ho)) (fun w' hq => ⟨_, cell3 hq.1⟩)).mono ?_
        rintro e w' ⟨rfl, h1, h2⟩
        exact ⟨rfl, h.keepN h1 h2 rfl rfl⟩
      · rw [if_neg ho]
        refine (step_go_readWord h.c rfl _ (calls3 (readWord_odd h.c rfl rfl hp hin ho)) (fun w' hq => ⟨_, cell3 hq.1⟩)).mono ?_
        rintro e w' ⟨rfl, h1, h2⟩
        exact ⟨rfl, h.keepN h1 h2 rfl rfl⟩
    · rw [if_pos hin]
      refine (step_not_readWord h.c rfl ((readWord_not h.c rfl rfl hp hin).mono fun _ _ h => ⟨h.1, ⟨_, _, _, _, _, _, _, _, _, h.2.1⟩, h.2.2⟩)).mono ?_
      rintro e w' ⟨rfl, h1, h2⟩
      exact ⟨rfl, h.zeroN h1 h2 rfl rfl⟩
  | 2, h =>
    rw [if_neg (by omega), if_neg (by omega)]
    by_cases hin : s.inn id
    · rw [if_neg (fun e => e hin), if_neg (by omega), if_pos rfl]
      have hc := readHead_any h.c rfl rfl hp (id := id)
      rw [decide_eq_true hin, show s.rd id = s.n id from if_pos hin] at hc
      refine (step_go_readHead h.c rfl (fun w' => ∃ t : Tx, _ ∧ _) (hc.mono fun e w' h => by obtain ⟨t, h1, h2⟩ := h; exact ⟨h1.1, t, h1.2, h2⟩) (fun w' hq => by obtain ⟨t, h1, _⟩ := hq; exact ⟨_, cell3 h1.1⟩)).mono ?_
      rintro e w' ⟨rfl, t, ⟨h1, h2⟩, h3, h4, h5, h6⟩
      refine ⟨rfl, h.headN h1 h2 rfl (by rw [← h3]) h4 h5 h6⟩
    · rw [if_pos hin]
      have hc := readHead_any h.c rfl rfl hp (id := id)
      rw [decide_eq_false hin] at hc
      refine (step_not_readHead h.c rfl (hc.mono fun _ _ h => by obtain ⟨t, h1, h2⟩ := h; exact ⟨h1.1, ⟨_, _, _, _, _, _, _, _, _, h1.2.1⟩, h1.2.2⟩)).mono ?_
      rintro e w' ⟨rfl, h1, h2⟩
      exact ⟨rfl, h.zeroN h1 h2 rfl rfl⟩
  | 3, h =>
    rw [if_neg (by omega), if_neg (by omega)]
    by_cases hin : s.inn id
    · rw [if_neg (fun e => e hin), if_neg (by omega), if_neg (by omega), if_pos rfl]
      have hc := readBody_any h.c rfl rfl hp (id := id)
      rw [decide_eq_true hin, show s.rd id = s.n id from if_pos hin] at hc
      refine (step_go_readBody h.c rfl (fun w' => ∃ (x y : TL) (z : IL), _ ∧ _) (hc.mono fun e w' h => by obtain ⟨x, y, z, h1, h2⟩ := h; exact ⟨h1.1, x, y, z, h1.2, h2⟩) (fun w' hq => by obtain ⟨_, _, _, h1, _⟩ := hq; exact ⟨_, cell3 h1.1⟩)).mono ?_
      rintro e w' ⟨rfl, x, y, z, ⟨h1, h2⟩, h3, h4, h5, h6, h7, h8, h9⟩
      refine ⟨rfl, h.bodyN (ks := x) (vs := y) (cs := z) h1 h2 rfl (by rw [← h3, ← h4, ← h5]) h6 h7 h8 h9⟩
    · rw [if_pos hin]
      have hc := readBody_any h.c rfl rfl hp (id := id)
      rw [decide_eq_false hin] at hc
      refine (step_not_readBody h.c rfl (hc.mono fun _ _ h => by obtain ⟨x, y, z, h1, h2⟩ := h; exact ⟨h1.1, ⟨_, _, _, _, _, _, _, _, _, h1.2.1⟩, h1.2.2⟩)).mono ?_
      rintro e w' ⟨rfl, h1, h2⟩
      exact ⟨rfl, h.zeroN h1 h2 rfl rfl⟩
  | 4, h =>
    rw [if_neg (by omega), if_neg (by omega)]
    by_cases hin : s.inn id
    · rw [if_neg (fun e => e hin), if_neg (by omega), if_neg (by omega), if_neg (by omega)]
      unfold MS.valid
      simp only
      by_cases hw : s.w id = wd
      · rw [if_pos hw]
        unfold MS.choose
        simp only
        have hnp : n.p = nd := h.np
        have hks : k.s = key := h.ks
        have e1 : n.lv = nd.lv := by rw [← hnp]; rfl
        have e2 : n.hi.s = nd.hi := by rw [← hnp]; rfl
        have e3 : n.ri = nd.ri := by rw [← hnp]; rfl
        have e4 : n.ks.p = nd.ks := by rw [← hnp]; rfl
        have e5 : n.cs.s = nd.cs := by rw [← hnp]; rfl
        have HQ : ∀ q, PM (W.drewN q) P A k n D ⟨key, lev, 4, id, wd, nd, an, mo⟩ := fun q => h.upd (S := Noth) (upd_drewN _ _ _) (fun _ _ e => e)
        by_cases h1 : nd.lv < lev
        · rw [if_pos h1]
          have hc := readAgain_same h.c rfl rfl hp rfl hin hw (fun q => choose_low n k (HQ q).c (HQ q).no (HQ q).ko (by rw [e1]; exact h1))
          refine (step_not_readWordAgain h.c rfl (hc.mono fun _ _ h => ⟨h.1, ⟨_, _, _, _, _, _, _, _, _, h.2.1⟩, h.2.2⟩)).mono ?_
          rintro e w' ⟨rfl, h1, h2⟩
          exact ⟨rfl, h.zeroN h1 h2 rfl rfl⟩
        rw [if_neg h1]
        by_cases h2 : beyB nd.hi key = true
        · rw [if_pos h2]
          have hc := readAgain_same h.c rfl rfl hp rfl hin hw (fun q => choose_right n k (HQ q).c (HQ q).no (HQ q).ko hmo (by rw [e1]; exact h1) (by rw [e2, hks]; exact h2))
          refine (step_go_readWordAgain h.c rfl _ (calls3 hc) (fun w' hq => ⟨_, cell3 hq.1⟩)).mono ?_
          rintro e w' ⟨rfl, h1, h2⟩
          rw [e3] at h1
          exact ⟨rfl, h.zeroN h1 h2 rfl rfl⟩
        rw [if_neg h2]
        have h2' : beyB nd.hi key = false := by simpa using h2
        by_cases h3 : nd.lv = lev
        · rw [if_pos h3]
          have hc := readAgain_same h.c rfl rfl hp rfl hin hw (fun q => choose_here n k (HQ q).c (HQ q).no (HQ q).ko (by rw [e1]; exact h1) (by rw [e2, hks]; exact h2') (by rw [e1]; exact h3))
          refine (step_end_readWordAgain h.c rfl _ (calls3 hc) (fun w' hq => cell3 hq.1)).mono ?_
          rintro e w' ⟨rfl, h1, h2⟩
          exact ⟨rfl, h.keepN h1 h2 rfl rfl⟩
        · rw [if_neg h3]
          have hc := readAgain_same h.c rfl rfl hp rfl hin hw (fun q => choose_child n k (HQ q).c (HQ q).no (HQ q).ko (by rw [e1]; exact h1) (by rw [e2, hks]; exact h2') (by rw [e1]; exact h3))
          refine (step_go_readWordAgain h.c rfl _ (calls3 hc) (fun w' hq => ⟨_, cell3 hq.1⟩)).mono ?_
          rintro e w' ⟨rfl, h1, h2⟩
          rw [e4, e5, hks] at h1
          exact ⟨rfl, h.zeroN h1 h2 rfl rfl⟩
      · rw [if_neg hw]
        refine (step_go_readWordAgain h.c rfl _ (calls3 (readAgain_anew h.c rfl rfl hp rfl rfl han hin hw)) (fun w' hq => ⟨_, cell3 hq.1⟩)).mono ?_
        rintro e w' ⟨rfl, h1, h2⟩
        exact ⟨rfl, h.zeroN h1 h2 rfl rfl⟩
    · rw [if_pos hin]
      refine (step_not_readWordAgain h.c rfl ((readAgain_not h.c rfl rfl hp hin).mono fun _ _ h => ⟨h.1, ⟨_, _, _, _, _, _, _, _, _, h.2.1⟩, h.2.2⟩)).mono ?_
      rintro e w' ⟨rfl, h1, h2⟩
      exact ⟨rfl, h.zeroN h1 h2 rfl rfl⟩
end
end Go.Proofs.YtealejbfloacpaaGreat

namespace Go.Proofs.YtealejbfloacpaaGreat
open Go.RowKit
set_option maxRecDepth 100000
/-- What New gives. -/
def DNewP (W : World) (A : Nat) (key : List Int) (lev : Int) (e : Ending) (w' : World) : Prop := ∃ P k n D, e = .returned (.pointer (some ⟨P, 0, none⟩)) ∧ PM w' P A k n D (MS.new key lev) ∧ W.heap.size ≤ P ∧ (∀ x, D x → W.heap.size ≤ x) ∧ Below W.heap.size W w'
section
variable {W w' : World} {P A : Nat} {k : Tx} {n : Nd} {D F : Nat → Prop} {m : MS} {s : AS}
set_option maxHeartbeats 1600000 in
theorem dnew_any (k : Tx) (lev : Int) (hk : k.Ok W) : Calls Tryz.prog 64 #[.pointer (some ⟨A, 0, none⟩), k.v, .int .i64 lev] W (DNewP W A k.s lev) := by
  have HC := hide (bclone_any k.a k.s.length k.c k.s W rfl (by have := hk.z; omega) hk.n hk.r)
  have H8 : Hid (B8 k.s ∧ k.s.length ≤ 140737488351232) := ⟨hk.b8, hk.z⟩
  clear hk
  obtain ⟨xa, xc, xs⟩ := k
  simp only [Tx.v] at HC H8 ⊢
  generalize xs.length = lx at HC ⊢
  go_enter Tryz.func64, Tryz.ntmps64
  go_wp2_with fail
  refine HC.out.mono ?_
  rintro e w1 ⟨v, rfl, ho, hb⟩
  obtain ⟨na, nc, rfl, _, _⟩ := ho.slice
  have HO := hide ho
  have HB := hide hb
  clear ho hb HC
  obtain ⟨l2, hl2⟩ : ∃ l2, xs.length = l2 := ⟨_, rfl⟩
  rw [hl2] at HO
  try rw [hl2]
  replace hl2 := hide hl2
  go_wp2_with fail
  go_ret
  have b2 : Below w1.heap.size w1 (w1.alloc (.cells #[.pointer (some ⟨A, 0, none⟩), .slice na l2 nc, .int .i64 lev, .func (.func 119) #[.pointer (some ⟨w1.heap.size, 0, none⟩)] #[], .int .i64 0, .int .u64 0, .int .i64 0, .slice none 0 0, .int .i64 0, .slice none 0 0, .slice none 0 0, .slice none 0 0, .int .i64 0, .int .i64 0] 206)) := (Below.refl _ _).alloc (Nat.le_refl _) _
  have g2 := heap_alloc_new w1 (.cells #[.pointer (some ⟨A, 0, none⟩), .slice na l2 nc, .int .i64 lev, .func (.func 119) #[.pointer (some ⟨w1.heap.size, 0, none⟩)] #[], .int .i64 0, .int .u64 0, .int .i64 0, .slice none 0 0, .int .i64 0, .slice none 0 0, .slice none 0 0, .slice none 0 0, .int .i64 0, .int .i64 0] 206)
  have ho : OwnB w1 W.heap.size 5 (⟨na, nc, xs⟩ : Tx).v xs := by simp only [Tx.v, hl2.out]; exact HO.out
  have hin := ownB_in (x := ⟨na, nc, xs⟩) ho
  refine ⟨w1.heap.size, ⟨na, nc, xs⟩, Nd.zero, fun x => W.heap.size ≤ x ∧ x < w1.heap.size, rfl, ⟨?_, rfl, Nd.zero_ok _, Nd.zero_in _, (ownB_ok (x := ⟨na, nc, xs⟩) ho H8.out.1 H8.out.2).below b2, rfl, fun x e _ => hin x e, fun h => Nat.lt_irrefl _ h.2, fun x h => Nat.lt_of_lt_of_le h.2 b2.size⟩, HB.out.size, fun x h => h.1, HB.out.trans (b2.mono HB.out.size)⟩
  rw [← hl2.out] at g2 ⊢
  exact g2
/-- What At tells. -/
def AtP (W : World) (id : Int) (wd : Nat) (p : NP) (e : Ending) (w' : World) : Prop := ∃ n : Nd, e = .returned (.tuple #[.int .i64 id, .int .u64 (wd : Nat), n.v]) ∧ n.p = p ∧ n.Own w' W.heap.size ∧ Below W.heap.size W w'
set_option maxRecDepth 100000 in
set_option maxHeartbeats 3200000 in
theorem dat_any (h : PM W P A k n D m) (hx : 5 ≤ m.nx) : Calls Tryz.prog 120 #[.pointer (some ⟨P, 0, none⟩)] W (AtP W m.id m.wd m.nd) := by
  have hl := lt_of_block h.c
  have hf : nxV P m.nx = .nilFunc := by obtain ⟨q, hq⟩ : ∃ q, m.nx = q + 5 := ⟨m.nx - 5, by omega⟩; rw [hq]; rfl
  have h0 := h.c
  unfold mcel at h0
  rw [hf] at h0
  have HCL : Hid (∀ W', Below W.heap.size W W' → Calls Tryz.prog 149 #[n.v] W' (ClPost W' n)) := fun W' hb => clone_any n W' (h.no.below hb)
  have HNP := hide h.np
  generalize m.id = id at *
  generalize m.wd = wd at *
  generalize m.nd = nd at *
  generalize m.an = an at *
  generalize m.mo = mo at *
  generalize m.lev = lev at *
  generalize k.v = kv at *
  clear h hf hx
  obtain ⟨w1, hw1⟩ : ∃ w1, w1 = W.alloc (.cells #[.int .i64 0, .slice none 0 0, .int .i64 0, .slice none 0 0, .slice none 0 0, .slice none 0 0] 35) := ⟨_, rfl⟩
  have b1 : Below W.heap.size W w1 := by rw [hw1]; exact (Below.refl _ _).alloc (Nat.le_refl _) _
  have h1 := (b1.block P hl).trans h0
  have HNN : Hid (n.v = .agg #[.int .i64 n.lv, n.hi.v, .int .i64 n.ri, n.ks.v, n.vs.v, n.cs.v]) := rfl
  rw [HNN.out] at HCL
  clear HNN
  have HN : Hid (∃ nn, nn = n) := ⟨n, rfl⟩
  obtain ⟨lv, ⟨ha, hc, hs⟩, ri, ⟨ka, kc, K⟩, ⟨va, vc, V⟩, ⟨ca, cc, C⟩⟩ := n
  simp only [Tx.v, TL.v, IL.v] at h1 HCL
  generalize hs.length = lh at *
  generalize K.length = lk at *
  generalize V.length = lw at *
  generalize C.length = lc at *
  have G1 : Hid (w1.heap[W.heap.size]? = some (.cells #[.int .i64 0, .slice none 0 0, .int .i64 0, .slice none 0 0, .slice none 0 0, .slice none 0 0] 35 (0, 0))) := by show _ = _; rw [hw1]; exact heap_alloc_new W _
  have c3 : w1.cell? ⟨P, 3, none⟩ = some .nilFunc := by rw [cell_of_row _ _ _ _ _ _ h1]; rfl
  have c4 : w1.cell? ⟨P, 4, none⟩ = some (.int .i64 id) := by rw [cell_of_row _ _ _ _ _ _ h1]; rfl
  have c5 : w1.cell? ⟨P, 5, none⟩ = some (.int .u64 (wd : Nat)) := by rw [cell_of_row _ _ _ _ _ _ h1]; rfl
  have c6 : w1.cell? ⟨P, 6, none⟩ = some (.int .i64 lv) := by rw [cell_of_row _ _ _ _ _ _ h1]; rfl
  have c7 : w1.cell? ⟨P, 7, none⟩ = some (.slice ha lh hc) := by rw [cell_of_row _ _ _ _ _ _ h1]; rfl
  have c8 : w1.cell? ⟨P, 8, none⟩ = some (.int .i64 ri) := by rw [cell_of_row _ _ _ _ _ _ h1]; rfl
  have c9 : w1.cell? ⟨P, 9, none⟩ = some (.slice ka lk kc) := by rw [cell_of_row _ _ _ _ _ _ h1]; rfl
  have c10 : w1.cell? ⟨P, 10, none⟩ = some (.slice va lw vc) := by rw [cell_of_row _ _ _ _ _ _ h1]; rfl
  have c11 : w1.cell? ⟨P, 11, none⟩ = some (.slice ca lc cc) := by rw [cell_of_row _ _ _ _ _ _ h1]; rfl
  have q1 := fneq0 w1
  have hne : ¬ P = W.heap.size := by omega
  have hne2 : ¬ W.heap.size = P := by omega
  have hl1 := lt_of_block h1
  have hl2 := lt_of_block G1.out
  have HW := hide hw1
  have B1 := hide b1
  clear h0 h1 hw1 b1 HN
  go_enter Tryz.func120, Tryz.ntmps120
  go_upto_region 1 with fail
  rw [← HW.out]
  clear HW
  go_wp2_with fail
  go_region_held3 (fun W' => W'.cell? ⟨P, 4, none⟩ = some (.int .i64 id) ∧ W'.cell? ⟨P, 5, none⟩ = some (.int .u64 (wd : Nat)) ∧ W'.cell? ⟨P, 6, none⟩ = some (.int .i64 lv) ∧ W'.cell? ⟨P, 7, none⟩ = some (.slice ha lh hc) ∧ W'.cell? ⟨P, 8, none⟩ = some (.int .i64 ri) ∧ W'.cell? ⟨P, 9, none⟩ = some (.slice ka lk kc) ∧ W'.cell? ⟨P, 10, none⟩ = some (.slice va lw vc) ∧ W'.cell? ⟨P, 11, none⟩ = some (.slice ca lc cc)) (go_keep) (first
    | (go_at_call 149; refine (HCL.out _ (below_drew B1.out)).mono ?_; rintro e w2 ⟨⟨nlv, ⟨nha, nhc, nhs⟩, nri, ⟨nka, nkc, NK⟩, ⟨nva, nvc, NV⟩, ⟨nca, ncc, NC⟩⟩, rfl, hp2, ho2, hb2⟩; have g2 := (hb2.block _ hl2).trans G1.out; have F5 := (fun j => frozen_of g2 j); obtain ⟨y0, y1, y2, y3, y4, y5⟩ := Six.of g2; have z4 := (hb2.cell (p := ⟨P, 4, none⟩) hl1).trans c4; have z5 := (hb2.cell (p := ⟨P, 5, none⟩) hl1).trans c5; have z6 := (hb2.cell (p := ⟨P, 6, none⟩) hl1).trans c6; have z7 := (hb2.cell (p := ⟨P, 7, none⟩) hl1).trans c7; have z8 := (hb2.cell (p := ⟨P, 8, none⟩) hl1).trans c8; have z9 := (hb2.cell (p := ⟨P, 9, none⟩) hl1).trans c9; have z10 := (hb2.cell (p := ⟨P, 10, none⟩) hl1).trans c10; have z11 := (hb2.cell (p := ⟨P, 11, none⟩) hl1).trans c11; have HT := hide (And.intro hp2 (And.intro ho2 (And.intro hb2 g2))); clear hp2 ho2 hb2 g2; simp only [Nd.v, Tx.v, TL.v, IL.v]; obtain ⟨nlh, hq1⟩ : ∃ x, nhs.length = x := ⟨_, rfl⟩; obtain ⟨nlk, hq2⟩ : ∃ x, NK.length = x := ⟨_, rfl⟩; obtain ⟨nlw, hq3⟩ : ∃ x, NV.length = x := ⟨_, rfl⟩; obtain ⟨nlc, hq4⟩ : ∃ x, NC.length = x := ⟨_, rfl⟩; rw [hq1, hq2, hq3, hq4]; have HQ := hide (And.intro hq1 (And.intro hq2 (And.intro hq3 hq4))); clear hq1 hq2 hq3 hq4)
    | fail)
  go_wp2_with fail
  have G6 := six_block HT.out.2.2.2 (.int .i64 nlv) (.slice nha nlh nhc) (.int .i64 nri) (.slice nka nlk nkc) (.slice nva nlw nvc) (.slice nca nlc ncc)
  have U6 : Upd (fun b => b = W.heap.size) w2 (six6 w2 W.heap.size (.int .i64 nlv) (.slice nha nlh nhc) (.int .i64 nri) (.slice nka nlk nkc) (.slice nva nlw nvc) (.slice nca nlc ncc)) := six_upd _ _ _ _ _ _ _ _ _ rfl
  obtain ⟨q0, q1, q2, q3, q4, q5⟩ := Six.of G6
  show bodyPost _ _ _ _ _ (six6 w2 W.heap.size (.int .i64 nlv) (.slice nha nlh nhc) (.int .i64 nri) (.slice nka nlk nkc) (.slice nva nlw nvc) (.slice nca nlc ncc))
  generalize six6 w2 W.heap.size (.int .i64 nlv) (.slice nha nlh nhc) (.int .i64 nri) (.slice nka nlk nkc) (.slice nva nlw nvc) (.slice nca nlc ncc) = w6 at *
  have hB2 : Below W.heap.size W w2 := (below_drew B1.out).trans (HT.out.2.2.1.mono B1.out.size)
  refine bodyPost_ret (v := .tuple #[.int .i64 id, .int .u64 (wd : Nat), .agg #[.int .i64 nlv, .slice nha nlh nhc, .int .i64 nri, .slice nka nlk nkc, .slice nva nlw nvc, .slice nca nlc ncc]]) (by simp [results, Tryz.results120, go_sem, q0, q1, q2, q3, q4, q5]) rfl ⟨⟨nlv, ⟨nha, nhc, nhs⟩, nri, ⟨nka, nkc, NK⟩, ⟨nva, nvc, NV⟩, ⟨nca, ncc, NC⟩⟩, ?_, HT.out.1.trans HNP.out, ?_, ?_⟩
  · simp only [Nd.v, Tx.v, TL.v, IL.v, HQ.out.1, HQ.out.2.1, HQ.out.2.2.1, HQ.out.2.2.2]
  · exact (HT.out.2.1.upd U6 (fun b h1 _ e => by have : w1.drew.heap.size = w1.heap.size := rfl; omega)).mono B1.out.size
  · exact hB2.trans (U6.below hB2.size (fun k hk e => by omega))
end
end Go.Proofs.YtealejbfloacpaaGreat

namespace Go.Proofs.YtealejbfloacpaaGreat
open Go.RowKit
set_option maxRecDepth 100000
theorem RX.below {W W' : World} {A : Nat} {F : Nat → Prop} {s : AS} (h : RX W A F s) (hb : Below W.heap.size W W') : RX W' A F s := h.upd (S := Noth) (Upd.of_below hb _) (fun _ _ e => e)
theorem RX.drewN {W : World} {A : Nat} {F : Nat → Prop} {s : AS} (h : RX W A F s) (m : Nat) : RX (W.drewN m) A F s := h.upd (S := Noth) (upd_drewN _ _ _) (fun _ _ e => e)
section
variable {W : World} {P A : Nat} {F : Nat → Prop} {s : AS} {id : Int} {a0 a1 a2 a3 a4 a5 a6 a7 a8 a9 a10 a11 a12 a13 a14 : Value}
end
end Go.Proofs.YtealejbfloacpaaGreat

namespace Go.Proofs.YtealejbfloacpaaGreat
open Go.RowKit
set_option maxRecDepth 100000
/-- The document's machine, wherever it lies. -/
structure RMS where
  key : List Int
  lev : Int
  nx : Nat
  id : Int
  wd : Nat
  nd : NP
  th : Bool
  an : Nat
  mo : Nat
def RMS.new (key : List Int) (lev : Int) : RMS := ⟨key, lev, 0, 0, 0, NP.zero, false, 0, 0⟩
def RMS.decide (m : RMS) (x : Nat) : RMS :=
  if ¬ x = m.wd then ⟨m.key, m.lev, 0, m.id, m.wd, m.nd, m.th, m.an + 1, m.mo⟩
  else if m.nd.lv < m.lev then ⟨m.key, m.lev, 5, m.id, m.wd, m.nd, m.th, m.an, m.mo⟩
  else if beyB m.nd.hi m.key = true then ⟨m.key, m.lev, 1, m.nd.ri, m.wd, m.nd, m.th, m.an, m.mo + 1⟩
  else if m.nd.lv = m.lev then ⟨m.key, m.lev, 5, m.id, m.wd, m.nd, true, m.an, m.mo⟩
  else ⟨m.key, m.lev, 1, chiN m.nd.ks m.nd.cs m.key, m.wd, m.nd, m.th, m.an, m.mo⟩
def RMS.step (m : RMS) (s : AS) : RMS :=
  if m.nx = 0 then ⟨m.key, m.lev, 1, s.root, m.wd, m.nd, m.th, m.an, m.mo⟩
  else if m.nx = 1 then
    if ¬ s.inn m.id then ⟨m.key, m.lev, 5, m.id, 0, m.nd, m.th, m.an, m.mo⟩
    else if s.w m.id % 2 = 0 then ⟨m.key, m.lev, 2, m.id, s.w m.id, m.nd, m.th, m.an, m.mo⟩ else ⟨m.key, m.lev, 1, m.id, s.w m.id, m.nd, m.th, m.an, m.mo⟩
  else if m.nx = 2 then
    if ¬ s.inn m.id then ⟨m.key, m.lev, 5, m.id, m.wd, m.nd.setH (s.rd m.id).lv (s.rd m.id).hi (s.rd m.id).ri, m.th, m.an, m.mo⟩ else ⟨m.key, m.lev, 3, m.id, m.wd, m.nd.setH (s.rd m.id).lv (s.rd m.id).hi (s.rd m.id).ri, m.th, m.an, m.mo⟩
  else if m.nx = 3 then
    if ¬ s.inn m.id then ⟨m.key, m.lev, 5, m.id, m.wd, m.nd.setB (s.rd m.id).ks (s.rd m.id).vs (s.rd m.id).cs, m.th, m.an, m.mo⟩ else ⟨m.key, m.lev, 4, m.id, m.wd, m.nd.setB (s.rd m.id).ks (s.rd m.id).vs (s.rd m.id).cs, m.th, m.an, m.mo⟩
  else if m.nx = 4 then
    if ¬ s.inn m.id then ⟨m.key, m.lev, 5, m.id, m.wd, m.nd, m.th, m.an, m.mo⟩ else m.decide (s.w m.id)
  else m
def rcel (A : Nat) (k : Tx) (n : Nd) (m : RMS) : Array Value :=
  #[.pointer (some ⟨A, 0, none⟩), k.v, .int .i64 m.lev, .int .i64 (m.nx : Nat), .int .i64 m.id, .int .u64 (m.wd : Nat), .int .i64 n.lv, n.hi.v, .int .i64 n.ri, n.ks.v, n.vs.v, n.cs.v, .bool m.th, .int .i64 (m.an : Nat), .int .i64 (m.mo : Nat)]
/-- The document's machine at P, on the arena at A; what it leads to lies in D. -/
structure RM (W : World) (P A : Nat) (k : Tx) (n : Nd) (D : Nat → Prop) (m : RMS) : Prop where
  c : W.heap[P]? = some (.cells (rcel A k n m) 252 (0, 0))
  np : n.p = m.nd
  no : n.Ok W
  ni : n.In D
  ko : k.Ok W
  ks : k.s = m.key
  ki : ∀ x, k.a = some x → 0 < k.s.length → D x.block
  pd : ¬ D P
  lt : ∀ x, D x → x < W.heap.size
  nx : m.nx ≤ 5
def RNx (W : World) (P A : Nat) (k : Tx) (D : Nat → Prop) (m : RMS) (w' : World) : Prop := ∃ n D', RM w' P A k n D' m ∧ (∀ x, D' x → D x ∨ W.heap.size ≤ x) ∧ Upd (fun k => k = P) W w'
section
variable {W w' : World} {P A : Nat} {k : Tx} {n n' : Nd} {D F : Nat → Prop} {m m' : RMS} {s : AS}
theorem RM.upd {S : Nat → Prop} (h : RM W P A k n D m) (hu : Upd S W w') (hs : ∀ x, x = P ∨ D x → ¬ S x) : RM w' P A k n D m :=
  ⟨hu.heap h.c (hs P (.inl rfl)), h.np, h.no.upd h.ni hu (fun x hx => hs x (.inr hx)), h.ni, h.ko.updL hu (fun x e l => hs _ (.inr (h.ki x e l))), h.ks, h.ki, h.pd, fun x hx => Nat.lt_of_lt_of_le (h.lt x hx) hu.size, h.nx⟩
theorem RM.next (h : RM W P A k n D m) (hc : w'.heap[P]? = some (.cells (rcel A k n' m') 252 (0, 0))) (hu : Upd (fun k => k = P) W w') (hk : m'.key = m.key) (hp : n'.p = m'.nd) (hn : n'.Ok w') (hi : n'.In (fun x => D x ∨ (W.heap.size ≤ x ∧ x < w'.heap.size))) (hx : m'.nx ≤ 5) : RNx W P A k D m' w' := by
  have hl := lt_of_block h.c
  refine ⟨n', fun x => D x ∨ (W.heap.size ≤ x ∧ x < w'.heap.size), ⟨hc, hp, hn, hi, h.ko.updL hu (fun x e l e' => h.pd (e' ▸ h.ki x e l)), by rw [hk]; exact h.ks, fun x e l => .inl (h.ki x e l), ?_, ?_, hx⟩, ?_, hu⟩
  · rintro (h1 | h1)
    · exact h.pd h1
    · omega
  · rintro x (h1 | h1)
    · exact Nat.lt_of_lt_of_le (h.lt x h1) hu.size
    · exact h1.2
  · rintro x (h1 | h1)
    · exact .inl h1
    · exact .inr h1.1
theorem RM.keepN (h : RM W P A k n D m) (hc : w'.heap[P]? = some (.cells (rcel A k n m') 252 (0, 0))) (hu : Upd (fun k => k = P) W w') (hk : m'.key = m.key) (hp : m'.nd = m.nd) (hx : m'.nx ≤ 5) : RNx W P A k D m' w' :=
  h.next hc hu hk (by rw [hp]; exact h.np) (h.no.upd h.ni hu (fun x hx e => h.pd (e ▸ hx))) (h.ni.mono fun x hx => .inl hx) hx
theorem RM.headN (h : RM W P A k n D m) {lv ri : Int} {t : Tx} (hc : w'.heap[P]? = some (.cells (rcel A k ⟨lv, t, ri, n.ks, n.vs, n.cs⟩ m') 252 (0, 0))) (hu : Upd (fun k => k = P) W w') (hk : m'.key = m.key) (hp : m'.nd = m.nd.setH lv t.s ri) (ho : OwnB w' W.heap.size 5 t.v t.s) (h8 : B8 t.s) (hz : t.s.length ≤ 140737488351232) (hx : m'.nx ≤ 5) : RNx W P A k D m' w' := by
  have hn := h.no.upd h.ni hu (fun x hx e => h.pd (e ▸ hx))
  refine h.next hc hu hk ?_ ⟨ownB_ok ho h8 hz, hn.k, hn.v, hn.c, hn.kz, hn.vz, hn.cz⟩ ⟨fun x e _ => .inr (ownB_in ho x e), fun x e l => .inl (h.ni.k x e l), fun y hy x e l => .inl (h.ni.ke y hy x e l), fun x e l => .inl (h.ni.v x e l), fun y hy x e l => .inl (h.ni.ve y hy x e l), fun x e l => .inl (h.ni.c x e l)⟩ hx
  rw [hp, ← h.np]
  rfl
theorem RM.bodyN (h : RM W P A k n D m) {ks vs : TL} {cs : IL} (hc : w'.heap[P]? = some (.cells (rcel A k ⟨n.lv, n.hi, n.ri, ks, vs, cs⟩ m') 252 (0, 0))) (hu : Upd (fun k => k = P) W w') (hk : m'.key = m.key) (hp : m'.nd = m.nd.setB ks.p vs.p cs.s) (h1 : ks.Own w' W.heap.size) (h2 : vs.Own w' W.heap.size) (h3 : w'.ownsRow W.heap.size 3 1 cs.v cs.s.length (cs.s.map (Value.int .i64))) (hz : ks.L.length * 24 ≤ 140737488352000 ∧ vs.L.length * 24 ≤ 140737488352000 ∧ cs.s.length * 8 ≤ 140737488352000) (hx : m'.nx ≤ 5) : RNx W P A k D m' w' := by
  have hn := h.no.upd h.ni hu (fun x hx e => h.pd (e ▸ hx))
  refine h.next hc hu hk ?_ ⟨hn.h, h1.ok, h2.ok, il_of_owns h3, hz.1, hz.2.1, hz.2.2⟩ ⟨fun x e l => .inl (h.ni.h x e l), fun x e _ => .inr (owns_in h1.row x e), fun t ht x e _ => .inr (ownB_in (h1.each t ht) x e), fun x e _ => .inr (owns_in h2.row x e), fun t ht x e _ => .inr (ownB_in (h2.each t ht) x e), fun x e _ => .inr (owns_in h3 x e)⟩ hx
  rw [hp, ← h.np]
  rfl
end
end Go.Proofs.YtealejbfloacpaaGreat

namespace Go.Proofs.YtealejbfloacpaaGreat
open Go.RowKit
set_option maxRecDepth 100000
section
variable {W w' : World} {P A : Nat} {k : Tx} {n : Nd} {D F : Nat → Prop} {m : RMS} {s : AS}
end
/-- The program's machine and the document's. -/
structure Sim (m : MS) (r : RMS) : Prop where
  key : r.key = m.key
  lev : r.lev = m.lev
  an : r.an = m.an
  mo : r.mo = m.mo
  nx : r.nx = min m.nx 5
  le : m.nx ≤ 6
  th : r.th = decide (m.nx = 5)
  id : 1 ≤ m.nx → m.nx ≤ 5 → r.id = m.id
  wd : 2 ≤ m.nx → m.nx ≤ 5 → r.wd = m.wd
  hd : m.nx = 3 → r.nd.lv = m.nd.lv ∧ r.nd.hi = m.nd.hi ∧ r.nd.ri = m.nd.ri
  nd : 4 ≤ m.nx → m.nx ≤ 5 → r.nd = m.nd
  no : m.nx = 6 → m.id = 0 ∧ m.wd = 0 ∧ m.nd = NP.zero
theorem Sim.new (key : List Int) (lev : Int) : Sim (MS.new key lev) (RMS.new key lev) :=
  ⟨rfl, rfl, rfl, rfl, rfl, by simp [MS.new], rfl, by simp [MS.new], by simp [MS.new], by simp [MS.new], by simp [MS.new], by simp [MS.new]⟩
theorem Sim.step {m : MS} {r : RMS} (h : Sim m r) (s : AS) : Sim (m.step s) (r.step s) := by
  obtain ⟨key, lev, nx, id, wd, nd, an, mo⟩ := m
  obtain ⟨key', lev', nx', id', wd', nd', th', an', mo'⟩ := r
  obtain ⟨h1, h2, h3, h4, h5, h6, h7, h8, h9, h10, h11, h12⟩ := h
  simp only at h1 h2 h3 h4 h5 h6 h7 h8 h9 h10 h11 h12
  subst h1 h2 h3 h4 h5 h7
  match nx, h6 with
  | 0, _ => exact ⟨rfl, rfl, rfl, rfl, rfl, by simp [MS.step, MS.goTo], rfl, fun _ _ => rfl, by simp [MS.step, MS.goTo], by simp [MS.step, MS.goTo], by simp [MS.step, MS.goTo], by simp [MS.step, MS.goTo]⟩
  | 5, _ => simp only [MS.step, RMS.step]; simp; exact ⟨rfl, rfl, rfl, rfl, rfl, by simp, rfl, h8, h9, h10, h11, h12⟩
  | 6, _ => simp only [MS.step, RMS.step]; simp; exact ⟨rfl, rfl, rfl, rfl, rfl, by simp, rfl, by simp, by simp, by simp, by simp, h12⟩
  | 1, _ =>
    obtain rfl := h8 (by omega) (by omega)
    simp only [MS.step, RMS.step]
    simp
    by_cases hin : s.inn id'
    · simp only [hin, if_true]
      by_cases ho : s.w id' % 2 = 0
      · simp only [ho, if_true]
        exact ⟨rfl, rfl, rfl, rfl, rfl, by simp, rfl, fun _ _ => rfl, fun _ _ => rfl, by simp, by simp, by simp⟩
      · simp only [ho, if_false]
        exact ⟨rfl, rfl, rfl, rfl, rfl, by simp, rfl, fun _ _ => rfl, by simp, by simp, by simp, by simp⟩
    · simp only [hin, if_false]
      exact ⟨rfl, rfl, rfl, rfl, rfl, by simp [MS.fail], rfl, by simp [MS.fail], by simp [MS.fail], by simp [MS.fail], by simp [MS.fail], fun _ => ⟨rfl, rfl, rfl⟩⟩
  | 2, _ =>
    obtain rfl := h8 (by omega) (by omega)
    obtain rfl := h9 (by omega) (by omega)
    simp only [MS.step, RMS.step]
    simp
    by_cases hin : s.inn id'
    · simp only [hin, if_true, show s.rd id' = s.n id' from if_pos hin]
      exact ⟨rfl, rfl, rfl, rfl, rfl, by simp, rfl, fun _ _ => rfl, fun _ _ => rfl, fun _ => ⟨rfl, rfl, rfl⟩, by simp, by simp⟩
    · simp only [hin, if_false]
      exact ⟨rfl, rfl, rfl, rfl, rfl, by simp [MS.fail], rfl, by simp [MS.fail], by simp [MS.fail], by simp [MS.fail], by simp [MS.fail], fun _ => ⟨rfl, rfl, rfl⟩⟩
  | 3, _ =>
    obtain rfl := h8 (by omega) (by omega)
    obtain rfl := h9 (by omega) (by omega)
    obtain ⟨g1, g2, g3⟩ := h10 rfl
    simp only [MS.step, RMS.step]
    simp
    by_cases hin : s.inn id'
    · simp only [hin, if_true, show s.rd id' = s.n id' from if_pos hin]
      refine ⟨rfl, rfl, rfl, rfl, rfl, by simp, rfl, fun _ _ => rfl, fun _ _ => rfl, by simp, fun _ _ => ?_, by simp⟩
      simp only [NP.setB, g1, g2, g3]
    · simp only [hin, if_false]
      exact ⟨rfl, rfl, rfl, rfl, rfl, by simp [MS.fail], rfl, by simp [MS.fail], by simp [MS.fail], by simp [MS.fail], by simp [MS.fail], fun _ => ⟨rfl, rfl, rfl⟩⟩
  | 4, _ =>
    obtain rfl := h8 (by omega) (by omega)
    obtain rfl := h9 (by omega) (by omega)
    obtain rfl := h11 (by omega) (by omega)
    simp only [MS.step, RMS.step]
    simp
    by_cases hin : s.inn id'
    · simp only [hin, if_true]
      unfold MS.valid RMS.decide
      simp only
      by_cases hw : s.w id' = wd'
      · rw [if_pos hw, if_neg (fun e => e hw)]
        unfold MS.choose
        simp only
        by_cases c1 : nd'.lv < lev'
        · rw [if_pos c1, if_pos c1]
          exact ⟨rfl, rfl, rfl, rfl, rfl, by simp [MS.fail], rfl, by simp [MS.fail], by simp [MS.fail], by simp [MS.fail], by simp [MS.fail], fun _ => ⟨rfl, rfl, rfl⟩⟩
        rw [if_neg c1, if_neg c1]
        by_cases c2 : beyB nd'.hi key' = true
        · rw [if_pos c2, if_pos c2]
          exact ⟨rfl, rfl, rfl, rfl, rfl, by simp, rfl, fun _ _ => rfl, by simp, by simp, by simp, by simp⟩
        rw [if_neg c2, if_neg c2]
        by_cases c3 : nd'.lv = lev'
        · rw [if_pos c3, if_pos c3]
          exact ⟨rfl, rfl, rfl, rfl, rfl, by simp, rfl, fun _ _ => rfl, fun _ _ => rfl, by simp, fun _ _ => rfl, by simp⟩
        · rw [if_neg c3, if_neg c3]
          exact ⟨rfl, rfl, rfl, rfl, rfl, by simp [MS.goTo], rfl, fun _ _ => rfl, by simp [MS.goTo], by simp [MS.goTo], by simp [MS.goTo], by simp [MS.goTo]⟩
      · rw [if_neg hw, if_pos hw]
        exact ⟨rfl, rfl, rfl, rfl, rfl, by simp, rfl, by simp, by simp, by simp, by simp, by simp⟩
    · simp only [hin, if_false]
      exact ⟨rfl, rfl, rfl, rfl, rfl, by simp [MS.fail], rfl, by simp [MS.fail], by simp [MS.fail], by simp [MS.fail], by simp [MS.fail], fun _ => ⟨rfl, rfl, rfl⟩⟩
end Go.Proofs.YtealejbfloacpaaGreat
