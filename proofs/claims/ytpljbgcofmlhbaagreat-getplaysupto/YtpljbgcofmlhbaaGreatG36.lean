/- A descent: the document's, step by step. -/
import Derived.Test.YtpljbgcofmlhbaaGreatG32
import Derived.Test.YtpljbgcofmlhbaaGreatG18
import Derived.Test.YtpljbgcofmlhbaaGreatG21
namespace Go.Proofs.YtpljbgcofmlhbaaGreat
open Go.RowKit
set_option maxRecDepth 100000
def MrP (W : World) (P : Nat) (cs : Array Value) (r : Value) (e : Ending) (w' : World) : Prop := e = .returned r ∧ w'.heap[P]? = some (.cells cs 196 (0, 0)) ∧ Upd (fun k => k = P) W w'
theorem RX.below {W W' : World} {A : Nat} {F : Nat → Prop} {s : AS} (h : RX W A F s) (hb : Below W.heap.size W W') : RX W' A F s := h.upd (S := Noth) (Upd.of_below hb _) (fun _ _ e => e)
theorem RX.drewN {W : World} {A : Nat} {F : Nat → Prop} {s : AS} (h : RX W A F s) (m : Nat) : RX (W.drewN m) A F s := h.upd (S := Noth) (upd_drewN _ _ _) (fun _ _ e => e)
section
variable {W : World} {P A : Nat} {F : Nat → Prop} {s : AS} {id : Int} {a0 a1 a2 a3 a4 a5 a6 a7 a8 a9 a10 a11 a12 a13 a14 : Value}
set_option maxHeartbeats 1600000 in
theorem rstep_idle (h : W.heap[P]? = some (.cells #[a0, a1, a2, a3, a4, a5, a6, a7, a8, a9, a10, a11, a12, a13, a14] 196 (0, 0))) (h3 : a3 = .int .i64 5) : Calls Tryz.prog 66 #[.pointer (some ⟨P, 0, none⟩)] W fun e w' => e = .returned (.bool true) ∧ w' = W := by
 subst h3
 have c3 : W.cell? ⟨P, 3, none⟩ = some (.int .i64 5) := by rw [cell_of_row _ _ _ _ _ _ h]; rfl
 clear h
 go_enter Tryz.func66, Tryz.ntmps66
 go_wp2_with fail
 go_ret
 exact ⟨rfl, rfl⟩
set_option maxHeartbeats 1600000 in
theorem rstep_root (h : W.heap[P]? = some (.cells #[a0, a1, a2, a3, a4, a5, a6, a7, a8, a9, a10, a11, a12, a13, a14] 196 (0, 0))) (ha : a0 = .pointer (some ⟨A, 0, none⟩)) (h3 : a3 = .int .i64 0) (hp : RX W A F s) : Calls Tryz.prog 66 #[.pointer (some ⟨P, 0, none⟩)] W (MrP W P #[a0, a1, a2, .int .i64 1, .int .i64 s.root, a5, a6, a7, a8, a9, a10, a11, a12, a13, a14] (.bool false)) := by
 have HR := hide (rx_root hp)
 generalize s.root = rt at *
 subst ha
 subst h3
 have c0 : W.cell? ⟨P, 0, none⟩ = some (.pointer (some ⟨A, 0, none⟩)) := by rw [cell_of_row _ _ _ _ _ _ h]; rfl
 have c3 : W.cell? ⟨P, 3, none⟩ = some (.int .i64 0) := by rw [cell_of_row _ _ _ _ _ _ h]; rfl
 have c4 : W.cell? ⟨P, 4, none⟩ = some (a4) := by rw [cell_of_row _ _ _ _ _ _ h]; rfl
 have F0 := fun j => frozen_of h j
 have HH := hide h
 clear h hp
 go_enter Tryz.func66, Tryz.ntmps66
 go_wp2_with fail
 refine keep HR.out ?_
 go_wp2_with fail
 go_ret
 exact ⟨rfl, (m15_3 (m15_4 HH.out _) _), (updP (updP (Upd.refl _ _) _ _) _ _)⟩
set_option maxHeartbeats 1600000 in
theorem rstep_word_not (h : W.heap[P]? = some (.cells #[a0, a1, a2, a3, a4, a5, a6, a7, a8, a9, a10, a11, a12, a13, a14] 196 (0, 0))) (ha : a0 = .pointer (some ⟨A, 0, none⟩)) (h3 : a3 = .int .i64 1) (hi : a4 = .int .i64 id) (hp : RX W A F s) (hin : ¬ s.inn id) : Calls Tryz.prog 66 #[.pointer (some ⟨P, 0, none⟩)] W (MrP W P #[a0, a1, a2, .int .i64 5, a4, .int .u64 0, a6, a7, a8, a9, a10, a11, a12, a13, a14] (.bool true)) := by
 have HQ : Hid (∀ q, Calls Tryz.prog 98 #[.pointer (some ⟨A, 0, none⟩), .int .i64 id] (W.drewN q) fun e w' => e = .returned (.tuple #[.int .u64 (s.wordW id : Nat), .int .i64 (s.wordE id)]) ∧ w' = W.drewN q) := fun q => rx_word (hp.drewN q) id
 rw [show s.wordE id = 101 from if_neg hin, show s.wordW id = 0 from if_neg hin] at HQ
 subst ha
 subst h3
 subst hi
 have c0 : W.cell? ⟨P, 0, none⟩ = some (.pointer (some ⟨A, 0, none⟩)) := by rw [cell_of_row _ _ _ _ _ _ h]; rfl
 have c3 : W.cell? ⟨P, 3, none⟩ = some (.int .i64 1) := by rw [cell_of_row _ _ _ _ _ _ h]; rfl
 have c4 : W.cell? ⟨P, 4, none⟩ = some (.int .i64 id) := by rw [cell_of_row _ _ _ _ _ _ h]; rfl
 have c5 : W.cell? ⟨P, 5, none⟩ = some (a5) := by rw [cell_of_row _ _ _ _ _ _ h]; rfl
 have F0 := fun j => frozen_of h j
 have HH := hide h
 clear h hp
 have k0 : ∀ v, (W.setCell ⟨P, 5, none⟩ v).cell? ⟨P, 0, none⟩ = some (.pointer (some ⟨A, 0, none⟩)) := fun v => by rw [cell_of_row _ _ _ _ _ _ (m15_5 HH.out v)]; rfl
 have k4 : ∀ v, (W.setCell ⟨P, 5, none⟩ v).cell? ⟨P, 4, none⟩ = some (.int .i64 id) := fun v => by rw [cell_of_row _ _ _ _ _ _ (m15_5 HH.out v)]; rfl
 have k3 : (((W.setCell ⟨P, 5, none⟩ (.int .u64 0)).setCell ⟨P, 3, none⟩ (.int .i64 2)).setCell ⟨P, 3, none⟩ (.int .i64 5)).cell? ⟨P, 3, none⟩ = some (.int .i64 5) := by rw [cell_of_row _ _ _ _ _ _ (m15_3 (m15_3 (m15_5 HH.out _) _) _)]; rfl
 go_enter Tryz.func66, Tryz.ntmps66
 go_wp2_with fail
 go_region_held3 (fun W' => W'.cell? ⟨P, 0, none⟩ = some (.pointer (some ⟨A, 0, none⟩)) ∧ W'.cell? ⟨P, 4, none⟩ = some (.int .i64 id)) (go_keep) (first
  | (go_at_call 98; refine keep (HQ.out 1) ?_)
  | fail)
 clear HQ
 go_wp2_with fail
 go_ret
 exact ⟨rfl, (m15_3 (m15_3 (m15_5 HH.out _) _) _), (updP (updP (updP (upd_drewN _ _ 1) _ _) _ _) _ _)⟩
set_option maxHeartbeats 1600000 in
theorem rstep_word_even (h : W.heap[P]? = some (.cells #[a0, a1, a2, a3, a4, a5, a6, a7, a8, a9, a10, a11, a12, a13, a14] 196 (0, 0))) (ha : a0 = .pointer (some ⟨A, 0, none⟩)) (h3 : a3 = .int .i64 1) (hi : a4 = .int .i64 id) (hp : RX W A F s) (hin : s.inn id) (ho : s.w id % 2 = 0) : Calls Tryz.prog 66 #[.pointer (some ⟨P, 0, none⟩)] W (MrP W P #[a0, a1, a2, .int .i64 2, a4, .int .u64 (s.w id : Nat), a6, a7, a8, a9, a10, a11, a12, a13, a14] (.bool false)) := by
 have HQ : Hid (∀ q, Calls Tryz.prog 98 #[.pointer (some ⟨A, 0, none⟩), .int .i64 id] (W.drewN q) fun e w' => e = .returned (.tuple #[.int .u64 (s.wordW id : Nat), .int .i64 (s.wordE id)]) ∧ w' = W.drewN q) := fun q => rx_word (hp.drewN q) id
 rw [show s.wordE id = 0 from if_pos hin, show s.wordW id = s.w id from if_pos hin] at HQ
 generalize s.w id = x at *
 have j1 : (x : Int) % 2 = 0 := by omega
 clear ho
 subst ha
 subst h3
 subst hi
 have c0 : W.cell? ⟨P, 0, none⟩ = some (.pointer (some ⟨A, 0, none⟩)) := by rw [cell_of_row _ _ _ _ _ _ h]; rfl
 have c3 : W.cell? ⟨P, 3, none⟩ = some (.int .i64 1) := by rw [cell_of_row _ _ _ _ _ _ h]; rfl
 have c4 : W.cell? ⟨P, 4, none⟩ = some (.int .i64 id) := by rw [cell_of_row _ _ _ _ _ _ h]; rfl
 have c5 : W.cell? ⟨P, 5, none⟩ = some (a5) := by rw [cell_of_row _ _ _ _ _ _ h]; rfl
 have F0 := fun j => frozen_of h j
 have HH := hide h
 clear h hp
 have k0 : ∀ v, (W.setCell ⟨P, 5, none⟩ v).cell? ⟨P, 0, none⟩ = some (.pointer (some ⟨A, 0, none⟩)) := fun v => by rw [cell_of_row _ _ _ _ _ _ (m15_5 HH.out v)]; rfl
 have k4 : ∀ v, (W.setCell ⟨P, 5, none⟩ v).cell? ⟨P, 4, none⟩ = some (.int .i64 id) := fun v => by rw [cell_of_row _ _ _ _ _ _ (m15_5 HH.out v)]; rfl
 go_enter Tryz.func66, Tryz.ntmps66
 go_wp2_with fail
 go_region_held3 (fun W' => W'.cell? ⟨P, 0, none⟩ = some (.pointer (some ⟨A, 0, none⟩)) ∧ W'.cell? ⟨P, 4, none⟩ = some (.int .i64 id)) (go_keep) (first
  | (go_at_call 98; refine keep (HQ.out 1) ?_)
  | fail)
 clear HQ
 go_wp2_with fail
 go_ret
 exact ⟨rfl, (m15_3 (m15_5 HH.out _) _), (updP (updP (upd_drewN _ _ 1) _ _) _ _)⟩
set_option maxHeartbeats 1600000 in
theorem rstep_word_odd (h : W.heap[P]? = some (.cells #[a0, a1, a2, a3, a4, a5, a6, a7, a8, a9, a10, a11, a12, a13, a14] 196 (0, 0))) (ha : a0 = .pointer (some ⟨A, 0, none⟩)) (h3 : a3 = .int .i64 1) (hi : a4 = .int .i64 id) (hp : RX W A F s) (hin : s.inn id) (ho : ¬ s.w id % 2 = 0) : Calls Tryz.prog 66 #[.pointer (some ⟨P, 0, none⟩)] W (MrP W P #[a0, a1, a2, .int .i64 1, a4, .int .u64 (s.w id : Nat), a6, a7, a8, a9, a10, a11, a12, a13, a14] (.bool false)) := by
 have HQ : Hid (∀ q, Calls Tryz.prog 98 #[.pointer (some ⟨A, 0, none⟩), .int .i64 id] (W.drewN q) fun e w' => e = .returned (.tuple #[.int .u64 (s.wordW id : Nat), .int .i64 (s.wordE id)]) ∧ w' = W.drewN q) := fun q => rx_word (hp.drewN q) id
 rw [show s.wordE id = 0 from if_pos hin, show s.wordW id = s.w id from if_pos hin] at HQ
 generalize s.w id = x at *
 have j1 : ¬ (x : Int) % 2 = 0 := by omega
 clear ho
 subst ha
 subst h3
 subst hi
 have c0 : W.cell? ⟨P, 0, none⟩ = some (.pointer (some ⟨A, 0, none⟩)) := by rw [cell_of_row _ _ _ _ _ _ h]; rfl
 have c3 : W.cell? ⟨P, 3, none⟩ = some (.int .i64 1) := by rw [cell_of_row _ _ _ _ _ _ h]; rfl
 have c4 : W.cell? ⟨P, 4, none⟩ = some (.int .i64 id) := by rw [cell_of_row _ _ _ _ _ _ h]; rfl
 have c5 : W.cell? ⟨P, 5, none⟩ = some (a5) := by rw [cell_of_row _ _ _ _ _ _ h]; rfl
 have F0 := fun j => frozen_of h j
 have HH := hide h
 clear h hp
 have k0 : ∀ v, (W.setCell ⟨P, 5, none⟩ v).cell? ⟨P, 0, none⟩ = some (.pointer (some ⟨A, 0, none⟩)) := fun v => by rw [cell_of_row _ _ _ _ _ _ (m15_5 HH.out v)]; rfl
 have k4 : ∀ v, (W.setCell ⟨P, 5, none⟩ v).cell? ⟨P, 4, none⟩ = some (.int .i64 id) := fun v => by rw [cell_of_row _ _ _ _ _ _ (m15_5 HH.out v)]; rfl
 go_enter Tryz.func66, Tryz.ntmps66
 go_wp2_with fail
 go_region_held3 (fun W' => W'.cell? ⟨P, 0, none⟩ = some (.pointer (some ⟨A, 0, none⟩)) ∧ W'.cell? ⟨P, 4, none⟩ = some (.int .i64 id)) (go_keep) (first
  | (go_at_call 98; refine keep (HQ.out 1) ?_)
  | fail)
 clear HQ
 go_wp2_with fail
 go_ret
 exact ⟨rfl, (m15_5 HH.out _), (updP (upd_drewN _ _ 1) _ _)⟩
end
end Go.Proofs.YtpljbgcofmlhbaaGreat
