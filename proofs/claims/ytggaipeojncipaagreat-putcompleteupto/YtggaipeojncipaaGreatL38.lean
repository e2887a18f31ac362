/- Texts of one's own. -/
import Derived.Test.YtggaipeojncipaaGreatL37
import Derived.Test.YtggaipeojncipaaGreatL35
namespace Go.Proofs.YtggaipeojncipaaGreat
open Go.RowKit
set_option maxRecDepth 100000
def UO.fin (o : UO) : US := if o.er = 0 then o.u else { o.u with nx := 15,err := o.er }
theorem uxV_cases (P : Nat) (k : Nat) : (15 ≤ k ∧ uxV P k = .nilFunc) ∨ (k < 15 ∧ ∃ g,uxV P k = .func (.func g) #[.pointer (some ⟨P,0,none⟩)] #[]) := by
 match k with
 | 0 => exact .inr ⟨by omega,_,rfl⟩
 | 1 => exact .inr ⟨by omega,_,rfl⟩
 | 2 => exact .inr ⟨by omega,_,rfl⟩
 | 3 => exact .inr ⟨by omega,_,rfl⟩
 | 4 => exact .inr ⟨by omega,_,rfl⟩
 | 5 => exact .inr ⟨by omega,_,rfl⟩
 | 6 => exact .inr ⟨by omega,_,rfl⟩
 | 7 => exact .inr ⟨by omega,_,rfl⟩
 | 8 => exact .inr ⟨by omega,_,rfl⟩
 | 9 => exact .inr ⟨by omega,_,rfl⟩
 | 10 => exact .inr ⟨by omega,_,rfl⟩
 | 11 => exact .inr ⟨by omega,_,rfl⟩
 | 12 => exact .inr ⟨by omega,_,rfl⟩
 | 13 => exact .inr ⟨by omega,_,rfl⟩
 | 14 => exact .inr ⟨by omega,_,rfl⟩
 | n + 15 => exact .inl ⟨by omega,rfl⟩
def UsP (W : World) (P A : Nat) (D F : Nat → Prop) (m : UM) (o : UO) (e : Ending) (w' : World) : Prop := e = .returned (.tuple #[.bool (decide (15 ≤ o.fin.nx)),.bool o.tk]) ∧ UNx W P A D F m o.fin o.s w'
section
variable {W w1 w2 : World} {P A : Nat} {D F D1 F1 : Nat → Prop} {m m1 : UM} {u u1 u2 : US} {s s1 : AS}
set_option maxHeartbeats 1600000 in
theorem ustp_idle (h : UP W P A D m u) (hx : 15 ≤ u.nx) : Calls Tryz.prog 13 #[.pointer (some ⟨P,0,none⟩)] W fun e w' => e = .returned (.tuple #[.bool true,.bool false]) ∧ w' = W := by
 have c7 : W.cell? ⟨P,7,none⟩ = some .nilFunc := by
  rcases uxV_cases P u.nx with ⟨_,h1⟩ | ⟨h1,_⟩
  ·rw [← h1]; exact h.cell 7 _ rfl
  ·omega
 have q2 := ufeql0 W
 clear h hx
 go_enter Tryz.func13,Tryz.ntmps13
 go_wp2_with fail
 go_ret2
 exact ⟨rfl,rfl⟩
theorem UQ.stop (q : UQ W P A D F m m1 D1 F1 u1 s1 w1) (E : Int) : UQ W P A D F m m1 D1 F1 { u1 with nx := 15,err := E } s1 ((w1.setCell ⟨P,7,none⟩ .nilFunc).setCell ⟨P,31,none⟩ (.int .i64 E)) :=
 q.own (updP (updP (Upd.refl _ _) _ _) _ _) (block_setCell (block_setCell q.up.c 7 _) 31 _) ⟨rfl,rfl,rfl,rfl,rfl,rfl⟩
set_option maxHeartbeats 3200000 in
theorem ustp_refuse (h : UP W P A D m u) (hx : u.nx = 0) (o : UO) (hc : Calls Tryz.prog 43 #[.pointer (some ⟨P,0,none⟩)] W fun e w' => e = .returned (.tuple #[.bool o.tk,.int .i64 o.er]) ∧ UNx W P A D F m o.u o.s w') : Calls Tryz.prog 13 #[.pointer (some ⟨P,0,none⟩)] W (UsP W P A D F m o) := by
 have c7 : W.cell? ⟨P,7,none⟩ = some (.func (.func 43) #[.pointer (some ⟨P,0,none⟩)] #[]) := by
  have := h.cell 7 (uxV P u.nx) rfl
  rw [hx] at this
  exact this
 have q1 := ufeql 43 #[.pointer (some ⟨P,0,none⟩)] #[] W
 obtain ⟨Q,hQ⟩ : ∃ Q,Q = UsP W P A D F m o := ⟨_,rfl⟩
 obtain ⟨U,S,T,E⟩ := o
 simp only at hc
 by_cases hE : E = 0
 ·subst hE
  have HQ : Hid (∀ w',UNx W P A D F m U S w' → Q (.returned (.tuple #[.bool (decide (15 ≤ U.nx)),.bool T])) w') := fun w' hw => by rw [hQ]; exact ⟨rfl,hw⟩
  rw [← hQ]
  have HC := hide hc
  clear h hx hc hQ
  go_enter Tryz.func13,Tryz.ntmps13
  go_wp2_with fail
  refine HC.out.mono ?_
  rintro e w9 ⟨rfl,m9,D9,F9,q9⟩
  have d7 : w9.cell? ⟨P,7,none⟩ = some (uxV P U.nx) := q9.up.cell 7 _ rfl
  have HF := hide (HQ.out w9 ⟨m9,D9,F9,q9⟩)
  clear q9 HC HQ c7 q1
  rcases uxV_cases P U.nx with ⟨h1,h2⟩ | ⟨h1,g,h2⟩
  ·rw [h2] at d7
   rw [decide_eq_true h1] at HF
   have q2 := ufeql0 w9
   clear h1 h2
   go_wp2_with fail
   exact HF.out
  ·rw [h2] at d7
   rw [decide_eq_false (by omega)] at HF
   have q2 := ufeql g #[.pointer (some ⟨P,0,none⟩)] #[] w9
   clear h1 h2
   go_wp2_with fail
   exact HF.out
 ·have HQ : Hid (∀ w',UNx W P A D F m { U with nx := 15,err := E } S w' → Q (.returned (.tuple #[.bool true,.bool T])) w') := fun w' hw => by
   rw [hQ]
   have e1 : (⟨U,S,T,E⟩ : UO).fin = { U with nx := 15,err := E } := if_neg hE
   unfold UsP
   rw [e1]
   exact ⟨rfl,hw⟩
  have hEb : (E == 0) = false := by rw [beq_eq_false_iff_ne]; exact hE
  rw [← hQ]
  have HC := hide hc
  clear h hx hc hQ
  go_enter Tryz.func13,Tryz.ntmps13
  go_wp2_with fail
  refine HC.out.mono ?_
  rintro e w9 ⟨rfl,m9,D9,F9,q9⟩
  have d7 : w9.cell? ⟨P,7,none⟩ = some (uxV P U.nx) := q9.up.cell 7 _ rfl
  have g9 := q9.up.c
  have fz := fun j => frozen_of g9 j
  have ga := block_setCell g9 7 .nilFunc
  have fa := fun j => frozen_of ga j
  have d31 : (w9.setCell ⟨P,7,none⟩ .nilFunc).cell? ⟨P,31,none⟩ = some (.int .i64 U.err) := by rw [cell_of_row _ _ _ _ _ _ ga]; rfl
  have gb := block_setCell ga 31 (.int .i64 E)
  have e7 : ((w9.setCell ⟨P,7,none⟩ .nilFunc).setCell ⟨P,31,none⟩ (.int .i64 E)).cell? ⟨P,7,none⟩ = some .nilFunc := by rw [cell_of_row _ _ _ _ _ _ gb]; rfl
  have q2 := ufeql0 ((w9.setCell ⟨P,7,none⟩ .nilFunc).setCell ⟨P,31,none⟩ (.int .i64 E))
  have HF := hide (HQ.out _ ⟨m9,D9,F9,q9.stop E⟩)
  generalize uxV P U.nx = nxv at *
  clear q9 HC HQ c7 q1 g9 ga gb
  go_wp2_with fail
  exact HF.out
set_option maxHeartbeats 3200000 in
theorem ustp_goDown (h : UP W P A D m u) (hx : u.nx = 1) (o : UO) (hc : Calls Tryz.prog 74 #[.pointer (some ⟨P,0,none⟩)] W fun e w' => e = .returned (.tuple #[.bool o.tk,.int .i64 o.er]) ∧ UNx W P A D F m o.u o.s w') : Calls Tryz.prog 13 #[.pointer (some ⟨P,0,none⟩)] W (UsP W P A D F m o) := by
 have c7 : W.cell? ⟨P,7,none⟩ = some (.func (.func 74) #[.pointer (some ⟨P,0,none⟩)] #[]) := by
  have := h.cell 7 (uxV P u.nx) rfl
  rw [hx] at this
  exact this
 have q1 := ufeql 74 #[.pointer (some ⟨P,0,none⟩)] #[] W
 obtain ⟨Q,hQ⟩ : ∃ Q,Q = UsP W P A D F m o := ⟨_,rfl⟩
 obtain ⟨U,S,T,E⟩ := o
 simp only at hc
 by_cases hE : E = 0
 ·subst hE
  have HQ : Hid (∀ w',UNx W P A D F m U S w' → Q (.returned (.tuple #[.bool (decide (15 ≤ U.nx)),.bool T])) w') := fun w' hw => by rw [hQ]; exact ⟨rfl,hw⟩
  rw [← hQ]
  have HC := hide hc
  clear h hx hc hQ
  go_enter Tryz.func13,Tryz.ntmps13
  go_wp2_with fail
  refine HC.out.mono ?_
  rintro e w9 ⟨rfl,m9,D9,F9,q9⟩
  have d7 : w9.cell? ⟨P,7,none⟩ = some (uxV P U.nx) := q9.up.cell 7 _ rfl
  have HF := hide (HQ.out w9 ⟨m9,D9,F9,q9⟩)
  clear q9 HC HQ c7 q1
  rcases uxV_cases P U.nx with ⟨h1,h2⟩ | ⟨h1,g,h2⟩
  ·rw [h2] at d7
   rw [decide_eq_true h1] at HF
   have q2 := ufeql0 w9
   clear h1 h2
   go_wp2_with fail
   exact HF.out
  ·rw [h2] at d7
   rw [decide_eq_false (by omega)] at HF
   have q2 := ufeql g #[.pointer (some ⟨P,0,none⟩)] #[] w9
   clear h1 h2
   go_wp2_with fail
   exact HF.out
 ·have HQ : Hid (∀ w',UNx W P A D F m { U with nx := 15,err := E } S w' → Q (.returned (.tuple #[.bool true,.bool T])) w') := fun w' hw => by
   rw [hQ]
   have e1 : (⟨U,S,T,E⟩ : UO).fin = { U with nx := 15,err := E } := if_neg hE
   unfold UsP
   rw [e1]
   exact ⟨rfl,hw⟩
  have hEb : (E == 0) = false := by rw [beq_eq_false_iff_ne]; exact hE
  rw [← hQ]
  have HC := hide hc
  clear h hx hc hQ
  go_enter Tryz.func13,Tryz.ntmps13
  go_wp2_with fail
  refine HC.out.mono ?_
  rintro e w9 ⟨rfl,m9,D9,F9,q9⟩
  have d7 : w9.cell? ⟨P,7,none⟩ = some (uxV P U.nx) := q9.up.cell 7 _ rfl
  have g9 := q9.up.c
  have fz := fun j => frozen_of g9 j
  have ga := block_setCell g9 7 .nilFunc
  have fa := fun j => frozen_of ga j
  have d31 : (w9.setCell ⟨P,7,none⟩ .nilFunc).cell? ⟨P,31,none⟩ = some (.int .i64 U.err) := by rw [cell_of_row _ _ _ _ _ _ ga]; rfl
  have gb := block_setCell ga 31 (.int .i64 E)
  have e7 : ((w9.setCell ⟨P,7,none⟩ .nilFunc).setCell ⟨P,31,none⟩ (.int .i64 E)).cell? ⟨P,7,none⟩ = some .nilFunc := by rw [cell_of_row _ _ _ _ _ _ gb]; rfl
  have q2 := ufeql0 ((w9.setCell ⟨P,7,none⟩ .nilFunc).setCell ⟨P,31,none⟩ (.int .i64 E))
  have HF := hide (HQ.out _ ⟨m9,D9,F9,q9.stop E⟩)
  generalize uxV P U.nx = nxv at *
  clear q9 HC HQ c7 q1 g9 ga gb
  go_wp2_with fail
  exact HF.out
set_option maxHeartbeats 3200000 in
theorem ustp_lock (h : UP W P A D m u) (hx : u.nx = 2) (o : UO) (hc : Calls Tryz.prog 105 #[.pointer (some ⟨P,0,none⟩)] W fun e w' => e = .returned (.tuple #[.bool o.tk,.int .i64 o.er]) ∧ UNx W P A D F m o.u o.s w') : Calls Tryz.prog 13 #[.pointer (some ⟨P,0,none⟩)] W (UsP W P A D F m o) := by
 have c7 : W.cell? ⟨P,7,none⟩ = some (.func (.func 105) #[.pointer (some ⟨P,0,none⟩)] #[]) := by
  have := h.cell 7 (uxV P u.nx) rfl
  rw [hx] at this
  exact this
 have q1 := ufeql 105 #[.pointer (some ⟨P,0,none⟩)] #[] W
 obtain ⟨Q,hQ⟩ : ∃ Q,Q = UsP W P A D F m o := ⟨_,rfl⟩
 obtain ⟨U,S,T,E⟩ := o
 simp only at hc
 by_cases hE : E = 0
 ·subst hE
  have HQ : Hid (∀ w',UNx W P A D F m U S w' → Q (.returned (.tuple #[.bool (decide (15 ≤ U.nx)),.bool T])) w') := fun w' hw => by rw [hQ]; exact ⟨rfl,hw⟩
  rw [← hQ]
  have HC := hide hc
  clear h hx hc hQ
  go_enter Tryz.func13,Tryz.ntmps13
  go_wp2_with fail
  refine HC.out.mono ?_
  rintro e w9 ⟨rfl,m9,D9,F9,q9⟩
  have d7 : w9.cell? ⟨P,7,none⟩ = some (uxV P U.nx) := q9.up.cell 7 _ rfl
  have HF := hide (HQ.out w9 ⟨m9,D9,F9,q9⟩)
  clear q9 HC HQ c7 q1
  rcases uxV_cases P U.nx with ⟨h1,h2⟩ | ⟨h1,g,h2⟩
  ·rw [h2] at d7
   rw [decide_eq_true h1] at HF
   have q2 := ufeql0 w9
   clear h1 h2
   go_wp2_with fail
   exact HF.out
  ·rw [h2] at d7
   rw [decide_eq_false (by omega)] at HF
   have q2 := ufeql g #[.pointer (some ⟨P,0,none⟩)] #[] w9
   clear h1 h2
   go_wp2_with fail
   exact HF.out
 ·have HQ : Hid (∀ w',UNx W P A D F m { U with nx := 15,err := E } S w' → Q (.returned (.tuple #[.bool true,.bool T])) w') := fun w' hw => by
   rw [hQ]
   have e1 : (⟨U,S,T,E⟩ : UO).fin = { U with nx := 15,err := E } := if_neg hE
   unfold UsP
   rw [e1]
   exact ⟨rfl,hw⟩
  have hEb : (E == 0) = false := by rw [beq_eq_false_iff_ne]; exact hE
  rw [← hQ]
  have HC := hide hc
  clear h hx hc hQ
  go_enter Tryz.func13,Tryz.ntmps13
  go_wp2_with fail
  refine HC.out.mono ?_
  rintro e w9 ⟨rfl,m9,D9,F9,q9⟩
  have d7 : w9.cell? ⟨P,7,none⟩ = some (uxV P U.nx) := q9.up.cell 7 _ rfl
  have g9 := q9.up.c
  have fz := fun j => frozen_of g9 j
  have ga := block_setCell g9 7 .nilFunc
  have fa := fun j => frozen_of ga j
  have d31 : (w9.setCell ⟨P,7,none⟩ .nilFunc).cell? ⟨P,31,none⟩ = some (.int .i64 U.err) := by rw [cell_of_row _ _ _ _ _ _ ga]; rfl
  have gb := block_setCell ga 31 (.int .i64 E)
  have e7 : ((w9.setCell ⟨P,7,none⟩ .nilFunc).setCell ⟨P,31,none⟩ (.int .i64 E)).cell? ⟨P,7,none⟩ = some .nilFunc := by rw [cell_of_row _ _ _ _ _ _ gb]; rfl
  have q2 := ufeql0 ((w9.setCell ⟨P,7,none⟩ .nilFunc).setCell ⟨P,31,none⟩ (.int .i64 E))
  have HF := hide (HQ.out _ ⟨m9,D9,F9,q9.stop E⟩)
  generalize uxV P U.nx = nxv at *
  clear q9 HC HQ c7 q1 g9 ga gb
  go_wp2_with fail
  exact HF.out
set_option maxHeartbeats 3200000 in
theorem ustp_layBody (h : UP W P A D m u) (hx : u.nx = 3) (o : UO) (hc : Calls Tryz.prog 161 #[.pointer (some ⟨P,0,none⟩)] W fun e w' => e = .returned (.tuple #[.bool o.tk,.int .i64 o.er]) ∧ UNx W P A D F m o.u o.s w') : Calls Tryz.prog 13 #[.pointer (some ⟨P,0,none⟩)] W (UsP W P A D F m o) := by
 have c7 : W.cell? ⟨P,7,none⟩ = some (.func (.func 161) #[.pointer (some ⟨P,0,none⟩)] #[]) := by
  have := h.cell 7 (uxV P u.nx) rfl
  rw [hx] at this
  exact this
 have q1 := ufeql 161 #[.pointer (some ⟨P,0,none⟩)] #[] W
 obtain ⟨Q,hQ⟩ : ∃ Q,Q = UsP W P A D F m o := ⟨_,rfl⟩
 obtain ⟨U,S,T,E⟩ := o
 simp only at hc
 by_cases hE : E = 0
 ·subst hE
  have HQ : Hid (∀ w',UNx W P A D F m U S w' → Q (.returned (.tuple #[.bool (decide (15 ≤ U.nx)),.bool T])) w') := fun w' hw => by rw [hQ]; exact ⟨rfl,hw⟩
  rw [← hQ]
  have HC := hide hc
  clear h hx hc hQ
  go_enter Tryz.func13,Tryz.ntmps13
  go_wp2_with fail
  refine HC.out.mono ?_
  rintro e w9 ⟨rfl,m9,D9,F9,q9⟩
  have d7 : w9.cell? ⟨P,7,none⟩ = some (uxV P U.nx) := q9.up.cell 7 _ rfl
  have HF := hide (HQ.out w9 ⟨m9,D9,F9,q9⟩)
  clear q9 HC HQ c7 q1
  rcases uxV_cases P U.nx with ⟨h1,h2⟩ | ⟨h1,g,h2⟩
  ·rw [h2] at d7
   rw [decide_eq_true h1] at HF
   have q2 := ufeql0 w9
   clear h1 h2
   go_wp2_with fail
   exact HF.out
  ·rw [h2] at d7
   rw [decide_eq_false (by omega)] at HF
   have q2 := ufeql g #[.pointer (some ⟨P,0,none⟩)] #[] w9
   clear h1 h2
   go_wp2_with fail
   exact HF.out
 ·have HQ : Hid (∀ w',UNx W P A D F m { U with nx := 15,err := E } S w' → Q (.returned (.tuple #[.bool true,.bool T])) w') := fun w' hw => by
   rw [hQ]
   have e1 : (⟨U,S,T,E⟩ : UO).fin = { U with nx := 15,err := E } := if_neg hE
   unfold UsP
   rw [e1]
   exact ⟨rfl,hw⟩
  have hEb : (E == 0) = false := by rw [beq_eq_false_iff_ne]; exact hE
  rw [← hQ]
  have HC := hide hc
  clear h hx hc hQ
  go_enter Tryz.func13,Tryz.ntmps13
  go_wp2_with fail
  refine HC.out.mono ?_
  rintro e w9 ⟨rfl,m9,D9,F9,q9⟩
  have d7 : w9.cell? ⟨P,7,none⟩ = some (uxV P U.nx) := q9.up.cell 7 _ rfl
  have g9 := q9.up.c
  have fz := fun j => frozen_of g9 j
  have ga := block_setCell g9 7 .nilFunc
  have fa := fun j => frozen_of ga j
  have d31 : (w9.setCell ⟨P,7,none⟩ .nilFunc).cell? ⟨P,31,none⟩ = some (.int .i64 U.err) := by rw [cell_of_row _ _ _ _ _ _ ga]; rfl
  have gb := block_setCell ga 31 (.int .i64 E)
  have e7 : ((w9.setCell ⟨P,7,none⟩ .nilFunc).setCell ⟨P,31,none⟩ (.int .i64 E)).cell? ⟨P,7,none⟩ = some .nilFunc := by rw [cell_of_row _ _ _ _ _ _ gb]; rfl
  have q2 := ufeql0 ((w9.setCell ⟨P,7,none⟩ .nilFunc).setCell ⟨P,31,none⟩ (.int .i64 E))
  have HF := hide (HQ.out _ ⟨m9,D9,F9,q9.stop E⟩)
  generalize uxV P U.nx = nxv at *
  clear q9 HC HQ c7 q1 g9 ga gb
  go_wp2_with fail
  exact HF.out
set_option maxHeartbeats 3200000 in
theorem ustp_free (h : UP W P A D m u) (hx : u.nx = 4) (o : UO) (hc : Calls Tryz.prog 183 #[.pointer (some ⟨P,0,none⟩)] W fun e w' => e = .returned (.tuple #[.bool o.tk,.int .i64 o.er]) ∧ UNx W P A D F m o.u o.s w') : Calls Tryz.prog 13 #[.pointer (some ⟨P,0,none⟩)] W (UsP W P A D F m o) := by
 have c7 : W.cell? ⟨P,7,none⟩ = some (.func (.func 183) #[.pointer (some ⟨P,0,none⟩)] #[]) := by
  have := h.cell 7 (uxV P u.nx) rfl
  rw [hx] at this
  exact this
 have q1 := ufeql 183 #[.pointer (some ⟨P,0,none⟩)] #[] W
 obtain ⟨Q,hQ⟩ : ∃ Q,Q = UsP W P A D F m o := ⟨_,rfl⟩
 obtain ⟨U,S,T,E⟩ := o
 simp only at hc
 by_cases hE : E = 0
 ·subst hE
  have HQ : Hid (∀ w',UNx W P A D F m U S w' → Q (.returned (.tuple #[.bool (decide (15 ≤ U.nx)),.bool T])) w') := fun w' hw => by rw [hQ]; exact ⟨rfl,hw⟩
  rw [← hQ]
  have HC := hide hc
  clear h hx hc hQ
  go_enter Tryz.func13,Tryz.ntmps13
  go_wp2_with fail
  refine HC.out.mono ?_
  rintro e w9 ⟨rfl,m9,D9,F9,q9⟩
  have d7 : w9.cell? ⟨P,7,none⟩ = some (uxV P U.nx) := q9.up.cell 7 _ rfl
  have HF := hide (HQ.out w9 ⟨m9,D9,F9,q9⟩)
  clear q9 HC HQ c7 q1
  rcases uxV_cases P U.nx with ⟨h1,h2⟩ | ⟨h1,g,h2⟩
  ·rw [h2] at d7
   rw [decide_eq_true h1] at HF
   have q2 := ufeql0 w9
   clear h1 h2
   go_wp2_with fail
   exact HF.out
  ·rw [h2] at d7
   rw [decide_eq_false (by omega)] at HF
   have q2 := ufeql g #[.pointer (some ⟨P,0,none⟩)] #[] w9
   clear h1 h2
   go_wp2_with fail
   exact HF.out
 ·have HQ : Hid (∀ w',UNx W P A D F m { U with nx := 15,err := E } S w' → Q (.returned (.tuple #[.bool true,.bool T])) w') := fun w' hw => by
   rw [hQ]
   have e1 : (⟨U,S,T,E⟩ : UO).fin = { U with nx := 15,err := E } := if_neg hE
   unfold UsP
   rw [e1]
   exact ⟨rfl,hw⟩
  have hEb : (E == 0) = false := by rw [beq_eq_false_iff_ne]; exact hE
  rw [← hQ]
  have HC := hide hc
  clear h hx hc hQ
  go_enter Tryz.func13,Tryz.ntmps13
  go_wp2_with fail
  refine HC.out.mono ?_
  rintro e w9 ⟨rfl,m9,D9,F9,q9⟩
  have d7 : w9.cell? ⟨P,7,none⟩ = some (uxV P U.nx) := q9.up.cell 7 _ rfl
  have g9 := q9.up.c
  have fz := fun j => frozen_of g9 j
  have ga := block_setCell g9 7 .nilFunc
  have fa := fun j => frozen_of ga j
  have d31 : (w9.setCell ⟨P,7,none⟩ .nilFunc).cell? ⟨P,31,none⟩ = some (.int .i64 U.err) := by rw [cell_of_row _ _ _ _ _ _ ga]; rfl
  have gb := block_setCell ga 31 (.int .i64 E)
  have e7 : ((w9.setCell ⟨P,7,none⟩ .nilFunc).setCell ⟨P,31,none⟩ (.int .i64 E)).cell? ⟨P,7,none⟩ = some .nilFunc := by rw [cell_of_row _ _ _ _ _ _ gb]; rfl
  have q2 := ufeql0 ((w9.setCell ⟨P,7,none⟩ .nilFunc).setCell ⟨P,31,none⟩ (.int .i64 E))
  have HF := hide (HQ.out _ ⟨m9,D9,F9,q9.stop E⟩)
  generalize uxV P U.nx = nxv at *
  clear q9 HC HQ c7 q1 g9 ga gb
  go_wp2_with fail
  exact HF.out
set_option maxHeartbeats 3200000 in
theorem ustp_giveBack (h : UP W P A D m u) (hx : u.nx = 5) (o : UO) (hc : Calls Tryz.prog 159 #[.pointer (some ⟨P,0,none⟩)] W fun e w' => e = .returned (.tuple #[.bool o.tk,.int .i64 o.er]) ∧ UNx W P A D F m o.u o.s w') : Calls Tryz.prog 13 #[.pointer (some ⟨P,0,none⟩)] W (UsP W P A D F m o) := by
 have c7 : W.cell? ⟨P,7,none⟩ = some (.func (.func 159) #[.pointer (some ⟨P,0,none⟩)] #[]) := by
  have := h.cell 7 (uxV P u.nx) rfl
  rw [hx] at this
  exact this
 have q1 := ufeql 159 #[.pointer (some ⟨P,0,none⟩)] #[] W
 obtain ⟨Q,hQ⟩ : ∃ Q,Q = UsP W P A D F m o := ⟨_,rfl⟩
 obtain ⟨U,S,T,E⟩ := o
 simp only at hc
 by_cases hE : E = 0
 ·subst hE
  have HQ : Hid (∀ w',UNx W P A D F m U S w' → Q (.returned (.tuple #[.bool (decide (15 ≤ U.nx)),.bool T])) w') := fun w' hw => by rw [hQ]; exact ⟨rfl,hw⟩
  rw [← hQ]
  have HC := hide hc
  clear h hx hc hQ
  go_enter Tryz.func13,Tryz.ntmps13
  go_wp2_with fail
  refine HC.out.mono ?_
  rintro e w9 ⟨rfl,m9,D9,F9,q9⟩
  have d7 : w9.cell? ⟨P,7,none⟩ = some (uxV P U.nx) := q9.up.cell 7 _ rfl
  have HF := hide (HQ.out w9 ⟨m9,D9,F9,q9⟩)
  clear q9 HC HQ c7 q1
  rcases uxV_cases P U.nx with ⟨h1,h2⟩ | ⟨h1,g,h2⟩
  ·rw [h2] at d7
   rw [decide_eq_true h1] at HF
   have q2 := ufeql0 w9
   clear h1 h2
   go_wp2_with fail
   exact HF.out
  ·rw [h2] at d7
   rw [decide_eq_false (by omega)] at HF
   have q2 := ufeql g #[.pointer (some ⟨P,0,none⟩)] #[] w9
   clear h1 h2
   go_wp2_with fail
   exact HF.out
 ·have HQ : Hid (∀ w',UNx W P A D F m { U with nx := 15,err := E } S w' → Q (.returned (.tuple #[.bool true,.bool T])) w') := fun w' hw => by
   rw [hQ]
   have e1 : (⟨U,S,T,E⟩ : UO).fin = { U with nx := 15,err := E } := if_neg hE
   unfold UsP
   rw [e1]
   exact ⟨rfl,hw⟩
  have hEb : (E == 0) = false := by rw [beq_eq_false_iff_ne]; exact hE
  rw [← hQ]
  have HC := hide hc
  clear h hx hc hQ
  go_enter Tryz.func13,Tryz.ntmps13
  go_wp2_with fail
  refine HC.out.mono ?_
  rintro e w9 ⟨rfl,m9,D9,F9,q9⟩
  have d7 : w9.cell? ⟨P,7,none⟩ = some (uxV P U.nx) := q9.up.cell 7 _ rfl
  have g9 := q9.up.c
  have fz := fun j => frozen_of g9 j
  have ga := block_setCell g9 7 .nilFunc
  have fa := fun j => frozen_of ga j
  have d31 : (w9.setCell ⟨P,7,none⟩ .nilFunc).cell? ⟨P,31,none⟩ = some (.int .i64 U.err) := by rw [cell_of_row _ _ _ _ _ _ ga]; rfl
  have gb := block_setCell ga 31 (.int .i64 E)
  have e7 : ((w9.setCell ⟨P,7,none⟩ .nilFunc).setCell ⟨P,31,none⟩ (.int .i64 E)).cell? ⟨P,7,none⟩ = some .nilFunc := by rw [cell_of_row _ _ _ _ _ _ gb]; rfl
  have q2 := ufeql0 ((w9.setCell ⟨P,7,none⟩ .nilFunc).setCell ⟨P,31,none⟩ (.int .i64 E))
  have HF := hide (HQ.out _ ⟨m9,D9,F9,q9.stop E⟩)
  generalize uxV P U.nx = nxv at *
  clear q9 HC HQ c7 q1 g9 ga gb
  go_wp2_with fail
  exact HF.out
set_option maxHeartbeats 3200000 in
theorem ustp_takeHalf (h : UP W P A D m u) (hx : u.nx = 6) (o : UO) (hc : Calls Tryz.prog 162 #[.pointer (some ⟨P,0,none⟩)] W fun e w' => e = .returned (.tuple #[.bool o.tk,.int .i64 o.er]) ∧ UNx W P A D F m o.u o.s w') : Calls Tryz.prog 13 #[.pointer (some ⟨P,0,none⟩)] W (UsP W P A D F m o) := by
 have c7 : W.cell? ⟨P,7,none⟩ = some (.func (.func 162) #[.pointer (some ⟨P,0,none⟩)] #[]) := by
  have := h.cell 7 (uxV P u.nx) rfl
  rw [hx] at this
  exact this
 have q1 := ufeql 162 #[.pointer (some ⟨P,0,none⟩)] #[] W
 obtain ⟨Q,hQ⟩ : ∃ Q,Q = UsP W P A D F m o := ⟨_,rfl⟩
 obtain ⟨U,S,T,E⟩ := o
 simp only at hc
 by_cases hE : E = 0
 ·subst hE
  have HQ : Hid (∀ w',UNx W P A D F m U S w' → Q (.returned (.tuple #[.bool (decide (15 ≤ U.nx)),.bool T])) w') := fun w' hw => by rw [hQ]; exact ⟨rfl,hw⟩
  rw [← hQ]
  have HC := hide hc
  clear h hx hc hQ
  go_enter Tryz.func13,Tryz.ntmps13
  go_wp2_with fail
  refine HC.out.mono ?_
  rintro e w9 ⟨rfl,m9,D9,F9,q9⟩
  have d7 : w9.cell? ⟨P,7,none⟩ = some (uxV P U.nx) := q9.up.cell 7 _ rfl
  have HF := hide (HQ.out w9 ⟨m9,D9,F9,q9⟩)
  clear q9 HC HQ c7 q1
  rcases uxV_cases P U.nx with ⟨h1,h2⟩ | ⟨h1,g,h2⟩
  ·rw [h2] at d7
   rw [decide_eq_true h1] at HF
   have q2 := ufeql0 w9
   clear h1 h2
   go_wp2_with fail
   exact HF.out
  ·rw [h2] at d7
   rw [decide_eq_false (by omega)] at HF
   have q2 := ufeql g #[.pointer (some ⟨P,0,none⟩)] #[] w9
   clear h1 h2
   go_wp2_with fail
   exact HF.out
 ·have HQ : Hid (∀ w',UNx W P A D F m { U with nx := 15,err := E } S w' → Q (.returned (.tuple #[.bool true,.bool T])) w') := fun w' hw => by
   rw [hQ]
   have e1 : (⟨U,S,T,E⟩ : UO).fin = { U with nx := 15,err := E } := if_neg hE
   unfold UsP
   rw [e1]
   exact ⟨rfl,hw⟩
  have hEb : (E == 0) = false := by rw [beq_eq_false_iff_ne]; exact hE
  rw [← hQ]
  have HC := hide hc
  clear h hx hc hQ
  go_enter Tryz.func13,Tryz.ntmps13
  go_wp2_with fail
  refine HC.out.mono ?_
  rintro e w9 ⟨rfl,m9,D9,F9,q9⟩
  have d7 : w9.cell? ⟨P,7,none⟩ = some (uxV P U.nx) := q9.up.cell 7 _ rfl
  have g9 := q9.up.c
  have fz := fun j => frozen_of g9 j
  have ga := block_setCell g9 7 .nilFunc
  have fa := fun j => frozen_of ga j
  have d31 : (w9.setCell ⟨P,7,none⟩ .nilFunc).cell? ⟨P,31,none⟩ = some (.int .i64 U.err) := by rw [cell_of_row _ _ _ _ _ _ ga]; rfl
  have gb := block_setCell ga 31 (.int .i64 E)
  have e7 : ((w9.setCell ⟨P,7,none⟩ .nilFunc).setCell ⟨P,31,none⟩ (.int .i64 E)).cell? ⟨P,7,none⟩ = some .nilFunc := by rw [cell_of_row _ _ _ _ _ _ gb]; rfl
  have q2 := ufeql0 ((w9.setCell ⟨P,7,none⟩ .nilFunc).setCell ⟨P,31,none⟩ (.int .i64 E))
  have HF := hide (HQ.out _ ⟨m9,D9,F9,q9.stop E⟩)
  generalize uxV P U.nx = nxv at *
  clear q9 HC HQ c7 q1 g9 ga gb
  go_wp2_with fail
  exact HF.out
set_option maxHeartbeats 3200000 in
theorem ustp_layHalves (h : UP W P A D m u) (hx : u.nx = 7) (o : UO) (hc : Calls Tryz.prog 185 #[.pointer (some ⟨P,0,none⟩)] W fun e w' => e = .returned (.tuple #[.bool o.tk,.int .i64 o.er]) ∧ UNx W P A D F m o.u o.s w') : Calls Tryz.prog 13 #[.pointer (some ⟨P,0,none⟩)] W (UsP W P A D F m o) := by
 have c7 : W.cell? ⟨P,7,none⟩ = some (.func (.func 185) #[.pointer (some ⟨P,0,none⟩)] #[]) := by
  have := h.cell 7 (uxV P u.nx) rfl
  rw [hx] at this
  exact this
 have q1 := ufeql 185 #[.pointer (some ⟨P,0,none⟩)] #[] W
 obtain ⟨Q,hQ⟩ : ∃ Q,Q = UsP W P A D F m o := ⟨_,rfl⟩
 obtain ⟨U,S,T,E⟩ := o
 simp only at hc
 by_cases hE : E = 0
 ·subst hE
  have HQ : Hid (∀ w',UNx W P A D F m U S w' → Q (.returned (.tuple #[.bool (decide (15 ≤ U.nx)),.bool T])) w') := fun w' hw => by rw [hQ]; exact ⟨rfl,hw⟩
  rw [← hQ]
  have HC := hide hc
  clear h hx hc hQ
  go_enter Tryz.func13,Tryz.ntmps13
  go_wp2_with fail
  refine HC.out.mono ?_
  rintro e w9 ⟨rfl,m9,D9,F9,q9⟩
  have d7 : w9.cell? ⟨P,7,none⟩ = some (uxV P U.nx) := q9.up.cell 7 _ rfl
  have HF := hide (HQ.out w9 ⟨m9,D9,F9,q9⟩)
  clear q9 HC HQ c7 q1
  rcases uxV_cases P U.nx with ⟨h1,h2⟩ | ⟨h1,g,h2⟩
  ·rw [h2] at d7
   rw [decide_eq_true h1] at HF
   have q2 := ufeql0 w9
   clear h1 h2
   go_wp2_with fail
   exact HF.out
  ·rw [h2] at d7
   rw [decide_eq_false (by omega)] at HF
   have q2 := ufeql g #[.pointer (some ⟨P,0,none⟩)] #[] w9
   clear h1 h2
   go_wp2_with fail
   exact HF.out
 ·have HQ : Hid (∀ w',UNx W P A D F m { U with nx := 15,err := E } S w' → Q (.returned (.tuple #[.bool true,.bool T])) w') := fun w' hw => by
   rw [hQ]
   have e1 : (⟨U,S,T,E⟩ : UO).fin = { U with nx := 15,err := E } := if_neg hE
   unfold UsP
   rw [e1]
   exact ⟨rfl,hw⟩
  have hEb : (E == 0) = false := by rw [beq_eq_false_iff_ne]; exact hE
  rw [← hQ]
  have HC := hide hc
  clear h hx hc hQ
  go_enter Tryz.func13,Tryz.ntmps13
  go_wp2_with fail
  refine HC.out.mono ?_
  rintro e w9 ⟨rfl,m9,D9,F9,q9⟩
  have d7 : w9.cell? ⟨P,7,none⟩ = some (uxV P U.nx) := q9.up.cell 7 _ rfl
  have g9 := q9.up.c
  have fz := fun j => frozen_of g9 j
  have ga := block_setCell g9 7 .nilFunc
  have fa := fun j => frozen_of ga j
  have d31 : (w9.setCell ⟨P,7,none⟩ .nilFunc).cell? ⟨P,31,none⟩ = some (.int .i64 U.err) := by rw [cell_of_row _ _ _ _ _ _ ga]; rfl
  have gb := block_setCell ga 31 (.int .i64 E)
  have e7 : ((w9.setCell ⟨P,7,none⟩ .nilFunc).setCell ⟨P,31,none⟩ (.int .i64 E)).cell? ⟨P,7,none⟩ = some .nilFunc := by rw [cell_of_row _ _ _ _ _ _ gb]; rfl
  have q2 := ufeql0 ((w9.setCell ⟨P,7,none⟩ .nilFunc).setCell ⟨P,31,none⟩ (.int .i64 E))
  have HF := hide (HQ.out _ ⟨m9,D9,F9,q9.stop E⟩)
  generalize uxV P U.nx = nxv at *
  clear q9 HC HQ c7 q1 g9 ga gb
  go_wp2_with fail
  exact HF.out
set_option maxHeartbeats 3200000 in
theorem ustp_rise (h : UP W P A D m u) (hx : u.nx = 8) (o : UO) (hc : Calls Tryz.prog 201 #[.pointer (some ⟨P,0,none⟩)] W fun e w' => e = .returned (.tuple #[.bool o.tk,.int .i64 o.er]) ∧ UNx W P A D F m o.u o.s w') : Calls Tryz.prog 13 #[.pointer (some ⟨P,0,none⟩)] W (UsP W P A D F m o) := by
 have c7 : W.cell? ⟨P,7,none⟩ = some (.func (.func 201) #[.pointer (some ⟨P,0,none⟩)] #[]) := by
  have := h.cell 7 (uxV P u.nx) rfl
  rw [hx] at this
  exact this
 have q1 := ufeql 201 #[.pointer (some ⟨P,0,none⟩)] #[] W
 obtain ⟨Q,hQ⟩ : ∃ Q,Q = UsP W P A D F m o := ⟨_,rfl⟩
 obtain ⟨U,S,T,E⟩ := o
 simp only at hc
 by_cases hE : E = 0
 ·subst hE
  have HQ : Hid (∀ w',UNx W P A D F m U S w' → Q (.returned (.tuple #[.bool (decide (15 ≤ U.nx)),.bool T])) w') := fun w' hw => by rw [hQ]; exact ⟨rfl,hw⟩
  rw [← hQ]
  have HC := hide hc
  clear h hx hc hQ
  go_enter Tryz.func13,Tryz.ntmps13
  go_wp2_with fail
  refine HC.out.mono ?_
  rintro e w9 ⟨rfl,m9,D9,F9,q9⟩
  have d7 : w9.cell? ⟨P,7,none⟩ = some (uxV P U.nx) := q9.up.cell 7 _ rfl
  have HF := hide (HQ.out w9 ⟨m9,D9,F9,q9⟩)
  clear q9 HC HQ c7 q1
  rcases uxV_cases P U.nx with ⟨h1,h2⟩ | ⟨h1,g,h2⟩
  ·rw [h2] at d7
   rw [decide_eq_true h1] at HF
   have q2 := ufeql0 w9
   clear h1 h2
   go_wp2_with fail
   exact HF.out
  ·rw [h2] at d7
   rw [decide_eq_false (by omega)] at HF
   have q2 := ufeql g #[.pointer (some ⟨P,0,none⟩)] #[] w9
   clear h1 h2
   go_wp2_with fail
   exact HF.out
 ·have HQ : Hid (∀ w',UNx W P A D F m { U with nx := 15,err := E } S w' → Q (.returned (.tuple #[.bool true,.bool T])) w') := fun w' hw => by
   rw [hQ]
   have e1 : (⟨U,S,T,E⟩ : UO).fin = { U with nx := 15,err := E } := if_neg hE
   unfold UsP
   rw [e1]
   exact ⟨rfl,hw⟩
  have hEb : (E == 0) = false := by rw [beq_eq_false_iff_ne]; exact hE
  rw [← hQ]
  have HC := hide hc
  clear h hx hc hQ
  go_enter Tryz.func13,Tryz.ntmps13
  go_wp2_with fail
  refine HC.out.mono ?_
  rintro e w9 ⟨rfl,m9,D9,F9,q9⟩
  have d7 : w9.cell? ⟨P,7,none⟩ = some (uxV P U.nx) := q9.up.cell 7 _ rfl
  have g9 := q9.up.c
  have fz := fun j => frozen_of g9 j
  have ga := block_setCell g9 7 .nilFunc
  have fa := fun j => frozen_of ga j
  have d31 : (w9.setCell ⟨P,7,none⟩ .nilFunc).cell? ⟨P,31,none⟩ = some (.int .i64 U.err) := by rw [cell_of_row _ _ _ _ _ _ ga]; rfl
  have gb := block_setCell ga 31 (.int .i64 E)
  have e7 : ((w9.setCell ⟨P,7,none⟩ .nilFunc).setCell ⟨P,31,none⟩ (.int .i64 E)).cell? ⟨P,7,none⟩ = some .nilFunc := by rw [cell_of_row _ _ _ _ _ _ gb]; rfl
  have q2 := ufeql0 ((w9.setCell ⟨P,7,none⟩ .nilFunc).setCell ⟨P,31,none⟩ (.int .i64 E))
  have HF := hide (HQ.out _ ⟨m9,D9,F9,q9.stop E⟩)
  generalize uxV P U.nx = nxv at *
  clear q9 HC HQ c7 q1 g9 ga gb
  go_wp2_with fail
  exact HF.out
set_option maxHeartbeats 3200000 in
theorem ustp_seeRoot (h : UP W P A D m u) (hx : u.nx = 9) (o : UO) (hc : Calls Tryz.prog 106 #[.pointer (some ⟨P,0,none⟩)] W fun e w' => e = .returned (.tuple #[.bool o.tk,.int .i64 o.er]) ∧ UNx W P A D F m o.u o.s w') : Calls Tryz.prog 13 #[.pointer (some ⟨P,0,none⟩)] W (UsP W P A D F m o) := by
 have c7 : W.cell? ⟨P,7,none⟩ = some (.func (.func 106) #[.pointer (some ⟨P,0,none⟩)] #[]) := by
  have := h.cell 7 (uxV P u.nx) rfl
  rw [hx] at this
  exact this
 have q1 := ufeql 106 #[.pointer (some ⟨P,0,none⟩)] #[] W
 obtain ⟨Q,hQ⟩ : ∃ Q,Q = UsP W P A D F m o := ⟨_,rfl⟩
 obtain ⟨U,S,T,E⟩ := o
 simp only at hc
 by_cases hE : E = 0
 ·subst hE
  have HQ : Hid (∀ w',UNx W P A D F m U S w' → Q (.returned (.tuple #[.bool (decide (15 ≤ U.nx)),.bool T])) w') := fun w' hw => by rw [hQ]; exact ⟨rfl,hw⟩
  rw [← hQ]
  have HC := hide hc
  clear h hx hc hQ
  go_enter Tryz.func13,Tryz.ntmps13
  go_wp2_with fail
  refine HC.out.mono ?_
  rintro e w9 ⟨rfl,m9,D9,F9,q9⟩
  have d7 : w9.cell? ⟨P,7,none⟩ = some (uxV P U.nx) := q9.up.cell 7 _ rfl
  have HF := hide (HQ.out w9 ⟨m9,D9,F9,q9⟩)
  clear q9 HC HQ c7 q1
  rcases uxV_cases P U.nx with ⟨h1,h2⟩ | ⟨h1,g,h2⟩
  ·rw [h2] at d7
   rw [decide_eq_true h1] at HF
   have q2 := ufeql0 w9
   clear h1 h2
   go_wp2_with fail
   exact HF.out
  ·rw [h2] at d7
   rw [decide_eq_false (by omega)] at HF
   have q2 := ufeql g #[.pointer (some ⟨P,0,none⟩)] #[] w9
   clear h1 h2
   go_wp2_with fail
   exact HF.out
 ·have HQ : Hid (∀ w',UNx W P A D F m { U with nx := 15,err := E } S w' → Q (.returned (.tuple #[.bool true,.bool T])) w') := fun w' hw => by
   rw [hQ]
   have e1 : (⟨U,S,T,E⟩ : UO).fin = { U with nx := 15,err := E } := if_neg hE
   unfold UsP
   rw [e1]
   exact ⟨rfl,hw⟩
  have hEb : (E == 0) = false := by rw [beq_eq_false_iff_ne]; exact hE
  rw [← hQ]
  have HC := hide hc
  clear h hx hc hQ
  go_enter Tryz.func13,Tryz.ntmps13
  go_wp2_with fail
  refine HC.out.mono ?_
  rintro e w9 ⟨rfl,m9,D9,F9,q9⟩
  have d7 : w9.cell? ⟨P,7,none⟩ = some (uxV P U.nx) := q9.up.cell 7 _ rfl
  have g9 := q9.up.c
  have fz := fun j => frozen_of g9 j
  have ga := block_setCell g9 7 .nilFunc
  have fa := fun j => frozen_of ga j
  have d31 : (w9.setCell ⟨P,7,none⟩ .nilFunc).cell? ⟨P,31,none⟩ = some (.int .i64 U.err) := by rw [cell_of_row _ _ _ _ _ _ ga]; rfl
  have gb := block_setCell ga 31 (.int .i64 E)
  have e7 : ((w9.setCell ⟨P,7,none⟩ .nilFunc).setCell ⟨P,31,none⟩ (.int .i64 E)).cell? ⟨P,7,none⟩ = some .nilFunc := by rw [cell_of_row _ _ _ _ _ _ gb]; rfl
  have q2 := ufeql0 ((w9.setCell ⟨P,7,none⟩ .nilFunc).setCell ⟨P,31,none⟩ (.int .i64 E))
  have HF := hide (HQ.out _ ⟨m9,D9,F9,q9.stop E⟩)
  generalize uxV P U.nx = nxv at *
  clear q9 HC HQ c7 q1 g9 ga gb
  go_wp2_with fail
  exact HF.out
set_option maxHeartbeats 3200000 in
theorem ustp_takeTop (h : UP W P A D m u) (hx : u.nx = 10) (o : UO) (hc : Calls Tryz.prog 138 #[.pointer (some ⟨P,0,none⟩)] W fun e w' => e = .returned (.tuple #[.bool o.tk,.int .i64 o.er]) ∧ UNx W P A D F m o.u o.s w') : Calls Tryz.prog 13 #[.pointer (some ⟨P,0,none⟩)] W (UsP W P A D F m o) := by
 have c7 : W.cell? ⟨P,7,none⟩ = some (.func (.func 138) #[.pointer (some ⟨P,0,none⟩)] #[]) := by
  have := h.cell 7 (uxV P u.nx) rfl
  rw [hx] at this
  exact this
 have q1 := ufeql 138 #[.pointer (some ⟨P,0,none⟩)] #[] W
 obtain ⟨Q,hQ⟩ : ∃ Q,Q = UsP W P A D F m o := ⟨_,rfl⟩
 obtain ⟨U,S,T,E⟩ := o
 simp only at hc
 by_cases hE : E = 0
 ·subst hE
  have HQ : Hid (∀ w',UNx W P A D F m U S w' → Q (.returned (.tuple #[.bool (decide (15 ≤ U.nx)),.bool T])) w') := fun w' hw => by rw [hQ]; exact ⟨rfl,hw⟩
  rw [← hQ]
  have HC := hide hc
  clear h hx hc hQ
  go_enter Tryz.func13,Tryz.ntmps13
  go_wp2_with fail
  refine HC.out.mono ?_
  rintro e w9 ⟨rfl,m9,D9,F9,q9⟩
  have d7 : w9.cell? ⟨P,7,none⟩ = some (uxV P U.nx) := q9.up.cell 7 _ rfl
  have HF := hide (HQ.out w9 ⟨m9,D9,F9,q9⟩)
  clear q9 HC HQ c7 q1
  rcases uxV_cases P U.nx with ⟨h1,h2⟩ | ⟨h1,g,h2⟩
  ·rw [h2] at d7
   rw [decide_eq_true h1] at HF
   have q2 := ufeql0 w9
   clear h1 h2
   go_wp2_with fail
   exact HF.out
  ·rw [h2] at d7
   rw [decide_eq_false (by omega)] at HF
   have q2 := ufeql g #[.pointer (some ⟨P,0,none⟩)] #[] w9
   clear h1 h2
   go_wp2_with fail
   exact HF.out
 ·have HQ : Hid (∀ w',UNx W P A D F m { U with nx := 15,err := E } S w' → Q (.returned (.tuple #[.bool true,.bool T])) w') := fun w' hw => by
   rw [hQ]
   have e1 : (⟨U,S,T,E⟩ : UO).fin = { U with nx := 15,err := E } := if_neg hE
   unfold UsP
   rw [e1]
   exact ⟨rfl,hw⟩
  have hEb : (E == 0) = false := by rw [beq_eq_false_iff_ne]; exact hE
  rw [← hQ]
  have HC := hide hc
  clear h hx hc hQ
  go_enter Tryz.func13,Tryz.ntmps13
  go_wp2_with fail
  refine HC.out.mono ?_
  rintro e w9 ⟨rfl,m9,D9,F9,q9⟩
  have d7 : w9.cell? ⟨P,7,none⟩ = some (uxV P U.nx) := q9.up.cell 7 _ rfl
  have g9 := q9.up.c
  have fz := fun j => frozen_of g9 j
  have ga := block_setCell g9 7 .nilFunc
  have fa := fun j => frozen_of ga j
  have d31 : (w9.setCell ⟨P,7,none⟩ .nilFunc).cell? ⟨P,31,none⟩ = some (.int .i64 U.err) := by rw [cell_of_row _ _ _ _ _ _ ga]; rfl
  have gb := block_setCell ga 31 (.int .i64 E)
  have e7 : ((w9.setCell ⟨P,7,none⟩ .nilFunc).setCell ⟨P,31,none⟩ (.int .i64 E)).cell? ⟨P,7,none⟩ = some .nilFunc := by rw [cell_of_row _ _ _ _ _ _ gb]; rfl
  have q2 := ufeql0 ((w9.setCell ⟨P,7,none⟩ .nilFunc).setCell ⟨P,31,none⟩ (.int .i64 E))
  have HF := hide (HQ.out _ ⟨m9,D9,F9,q9.stop E⟩)
  generalize uxV P U.nx = nxv at *
  clear q9 HC HQ c7 q1 g9 ga gb
  go_wp2_with fail
  exact HF.out
set_option maxHeartbeats 3200000 in
theorem ustp_layTopHead (h : UP W P A D m u) (hx : u.nx = 11) (o : UO) (hc : Calls Tryz.prog 164 #[.pointer (some ⟨P,0,none⟩)] W fun e w' => e = .returned (.tuple #[.bool o.tk,.int .i64 o.er]) ∧ UNx W P A D F m o.u o.s w') : Calls Tryz.prog 13 #[.pointer (some ⟨P,0,none⟩)] W (UsP W P A D F m o) := by
 have c7 : W.cell? ⟨P,7,none⟩ = some (.func (.func 164) #[.pointer (some ⟨P,0,none⟩)] #[]) := by
  have := h.cell 7 (uxV P u.nx) rfl
  rw [hx] at this
  exact this
 have q1 := ufeql 164 #[.pointer (some ⟨P,0,none⟩)] #[] W
 obtain ⟨Q,hQ⟩ : ∃ Q,Q = UsP W P A D F m o := ⟨_,rfl⟩
 obtain ⟨U,S,T,E⟩ := o
 simp only at hc
 by_cases hE : E = 0
 ·subst hE
  have HQ : Hid (∀ w',UNx W P A D F m U S w' → Q (.returned (.tuple #[.bool (decide (15 ≤ U.nx)),.bool T])) w') := fun w' hw => by rw [hQ]; exact ⟨rfl,hw⟩
  rw [← hQ]
  have HC := hide hc
  clear h hx hc hQ
  go_enter Tryz.func13,Tryz.ntmps13
  go_wp2_with fail
  refine HC.out.mono ?_
  rintro e w9 ⟨rfl,m9,D9,F9,q9⟩
  have d7 : w9.cell? ⟨P,7,none⟩ = some (uxV P U.nx) := q9.up.cell 7 _ rfl
  have HF := hide (HQ.out w9 ⟨m9,D9,F9,q9⟩)
  clear q9 HC HQ c7 q1
  rcases uxV_cases P U.nx with ⟨h1,h2⟩ | ⟨h1,g,h2⟩
  ·rw [h2] at d7
   rw [decide_eq_true h1] at HF
   have q2 := ufeql0 w9
   clear h1 h2
   go_wp2_with fail
   exact HF.out
  ·rw [h2] at d7
   rw [decide_eq_false (by omega)] at HF
   have q2 := ufeql g #[.pointer (some ⟨P,0,none⟩)] #[] w9
   clear h1 h2
   go_wp2_with fail
   exact HF.out
 ·have HQ : Hid (∀ w',UNx W P A D F m { U with nx := 15,err := E } S w' → Q (.returned (.tuple #[.bool true,.bool T])) w') := fun w' hw => by
   rw [hQ]
   have e1 : (⟨U,S,T,E⟩ : UO).fin = { U with nx := 15,err := E } := if_neg hE
   unfold UsP
   rw [e1]
   exact ⟨rfl,hw⟩
  have hEb : (E == 0) = false := by rw [beq_eq_false_iff_ne]; exact hE
  rw [← hQ]
  have HC := hide hc
  clear h hx hc hQ
  go_enter Tryz.func13,Tryz.ntmps13
  go_wp2_with fail
  refine HC.out.mono ?_
  rintro e w9 ⟨rfl,m9,D9,F9,q9⟩
  have d7 : w9.cell? ⟨P,7,none⟩ = some (uxV P U.nx) := q9.up.cell 7 _ rfl
  have g9 := q9.up.c
  have fz := fun j => frozen_of g9 j
  have ga := block_setCell g9 7 .nilFunc
  have fa := fun j => frozen_of ga j
  have d31 : (w9.setCell ⟨P,7,none⟩ .nilFunc).cell? ⟨P,31,none⟩ = some (.int .i64 U.err) := by rw [cell_of_row _ _ _ _ _ _ ga]; rfl
  have gb := block_setCell ga 31 (.int .i64 E)
  have e7 : ((w9.setCell ⟨P,7,none⟩ .nilFunc).setCell ⟨P,31,none⟩ (.int .i64 E)).cell? ⟨P,7,none⟩ = some .nilFunc := by rw [cell_of_row _ _ _ _ _ _ gb]; rfl
  have q2 := ufeql0 ((w9.setCell ⟨P,7,none⟩ .nilFunc).setCell ⟨P,31,none⟩ (.int .i64 E))
  have HF := hide (HQ.out _ ⟨m9,D9,F9,q9.stop E⟩)
  generalize uxV P U.nx = nxv at *
  clear q9 HC HQ c7 q1 g9 ga gb
  go_wp2_with fail
  exact HF.out
set_option maxHeartbeats 3200000 in
theorem ustp_layTopBody (h : UP W P A D m u) (hx : u.nx = 12) (o : UO) (hc : Calls Tryz.prog 186 #[.pointer (some ⟨P,0,none⟩)] W fun e w' => e = .returned (.tuple #[.bool o.tk,.int .i64 o.er]) ∧ UNx W P A D F m o.u o.s w') : Calls Tryz.prog 13 #[.pointer (some ⟨P,0,none⟩)] W (UsP W P A D F m o) := by
 have c7 : W.cell? ⟨P,7,none⟩ = some (.func (.func 186) #[.pointer (some ⟨P,0,none⟩)] #[]) := by
  have := h.cell 7 (uxV P u.nx) rfl
  rw [hx] at this
  exact this
 have q1 := ufeql 186 #[.pointer (some ⟨P,0,none⟩)] #[] W
 obtain ⟨Q,hQ⟩ : ∃ Q,Q = UsP W P A D F m o := ⟨_,rfl⟩
 obtain ⟨U,S,T,E⟩ := o
 simp only at hc
 by_cases hE : E = 0
 ·subst hE
  have HQ : Hid (∀ w',UNx W P A D F m U S w' → Q (.returned (.tuple #[.bool (decide (15 ≤ U.nx)),.bool T])) w') := fun w' hw => by rw [hQ]; exact ⟨rfl,hw⟩
  rw [← hQ]
  have HC := hide hc
  clear h hx hc hQ
  go_enter Tryz.func13,Tryz.ntmps13
  go_wp2_with fail
  refine HC.out.mono ?_
  rintro e w9 ⟨rfl,m9,D9,F9,q9⟩
  have d7 : w9.cell? ⟨P,7,none⟩ = some (uxV P U.nx) := q9.up.cell 7 _ rfl
  have HF := hide (HQ.out w9 ⟨m9,D9,F9,q9⟩)
  clear q9 HC HQ c7 q1
  rcases uxV_cases P U.nx with ⟨h1,h2⟩ | ⟨h1,g,h2⟩
  ·rw [h2] at d7
   rw [decide_eq_true h1] at HF
   have q2 := ufeql0 w9
   clear h1 h2
   go_wp2_with fail
   exact HF.out
  ·rw [h2] at d7
   rw [decide_eq_false (by omega)] at HF
   have q2 := ufeql g #[.pointer (some ⟨P,0,none⟩)] #[] w9
   clear h1 h2
   go_wp2_with fail
   exact HF.out
 ·have HQ : Hid (∀ w',UNx W P A D F m { U with nx := 15,err := E } S w' → Q (.returned (.tuple #[.bool true,.bool T])) w') := fun w' hw => by
   rw [hQ]
   have e1 : (⟨U,S,T,E⟩ : UO).fin = { U with nx := 15,err := E } := if_neg hE
   unfold UsP
   rw [e1]
   exact ⟨rfl,hw⟩
  have hEb : (E == 0) = false := by rw [beq_eq_false_iff_ne]; exact hE
  rw [← hQ]
  have HC := hide hc
  clear h hx hc hQ
  go_enter Tryz.func13,Tryz.ntmps13
  go_wp2_with fail
  refine HC.out.mono ?_
  rintro e w9 ⟨rfl,m9,D9,F9,q9⟩
  have d7 : w9.cell? ⟨P,7,none⟩ = some (uxV P U.nx) := q9.up.cell 7 _ rfl
  have g9 := q9.up.c
  have fz := fun j => frozen_of g9 j
  have ga := block_setCell g9 7 .nilFunc
  have fa := fun j => frozen_of ga j
  have d31 : (w9.setCell ⟨P,7,none⟩ .nilFunc).cell? ⟨P,31,none⟩ = some (.int .i64 U.err) := by rw [cell_of_row _ _ _ _ _ _ ga]; rfl
  have gb := block_setCell ga 31 (.int .i64 E)
  have e7 : ((w9.setCell ⟨P,7,none⟩ .nilFunc).setCell ⟨P,31,none⟩ (.int .i64 E)).cell? ⟨P,7,none⟩ = some .nilFunc := by rw [cell_of_row _ _ _ _ _ _ gb]; rfl
  have q2 := ufeql0 ((w9.setCell ⟨P,7,none⟩ .nilFunc).setCell ⟨P,31,none⟩ (.int .i64 E))
  have HF := hide (HQ.out _ ⟨m9,D9,F9,q9.stop E⟩)
  generalize uxV P U.nx = nxv at *
  clear q9 HC HQ c7 q1 g9 ga gb
  go_wp2_with fail
  exact HF.out
set_option maxHeartbeats 3200000 in
theorem ustp_freeTop (h : UP W P A D m u) (hx : u.nx = 13) (o : UO) (hc : Calls Tryz.prog 202 #[.pointer (some ⟨P,0,none⟩)] W fun e w' => e = .returned (.tuple #[.bool o.tk,.int .i64 o.er]) ∧ UNx W P A D F m o.u o.s w') : Calls Tryz.prog 13 #[.pointer (some ⟨P,0,none⟩)] W (UsP W P A D F m o) := by
 have c7 : W.cell? ⟨P,7,none⟩ = some (.func (.func 202) #[.pointer (some ⟨P,0,none⟩)] #[]) := by
  have := h.cell 7 (uxV P u.nx) rfl
  rw [hx] at this
  exact this
 have q1 := ufeql 202 #[.pointer (some ⟨P,0,none⟩)] #[] W
 obtain ⟨Q,hQ⟩ : ∃ Q,Q = UsP W P A D F m o := ⟨_,rfl⟩
 obtain ⟨U,S,T,E⟩ := o
 simp only at hc
 by_cases hE : E = 0
 ·subst hE
  have HQ : Hid (∀ w',UNx W P A D F m U S w' → Q (.returned (.tuple #[.bool (decide (15 ≤ U.nx)),.bool T])) w') := fun w' hw => by rw [hQ]; exact ⟨rfl,hw⟩
  rw [← hQ]
  have HC := hide hc
  clear h hx hc hQ
  go_enter Tryz.func13,Tryz.ntmps13
  go_wp2_with fail
  refine HC.out.mono ?_
  rintro e w9 ⟨rfl,m9,D9,F9,q9⟩
  have d7 : w9.cell? ⟨P,7,none⟩ = some (uxV P U.nx) := q9.up.cell 7 _ rfl
  have HF := hide (HQ.out w9 ⟨m9,D9,F9,q9⟩)
  clear q9 HC HQ c7 q1
  rcases uxV_cases P U.nx with ⟨h1,h2⟩ | ⟨h1,g,h2⟩
  ·rw [h2] at d7
   rw [decide_eq_true h1] at HF
   have q2 := ufeql0 w9
   clear h1 h2
   go_wp2_with fail
   exact HF.out
  ·rw [h2] at d7
   rw [decide_eq_false (by omega)] at HF
   have q2 := ufeql g #[.pointer (some ⟨P,0,none⟩)] #[] w9
   clear h1 h2
   go_wp2_with fail
   exact HF.out
 ·have HQ : Hid (∀ w',UNx W P A D F m { U with nx := 15,err := E } S w' → Q (.returned (.tuple #[.bool true,.bool T])) w') := fun w' hw => by
   rw [hQ]
   have e1 : (⟨U,S,T,E⟩ : UO).fin = { U with nx := 15,err := E } := if_neg hE
   unfold UsP
   rw [e1]
   exact ⟨rfl,hw⟩
  have hEb : (E == 0) = false := by rw [beq_eq_false_iff_ne]; exact hE
  rw [← hQ]
  have HC := hide hc
  clear h hx hc hQ
  go_enter Tryz.func13,Tryz.ntmps13
  go_wp2_with fail
  refine HC.out.mono ?_
  rintro e w9 ⟨rfl,m9,D9,F9,q9⟩
  have d7 : w9.cell? ⟨P,7,none⟩ = some (uxV P U.nx) := q9.up.cell 7 _ rfl
  have g9 := q9.up.c
  have fz := fun j => frozen_of g9 j
  have ga := block_setCell g9 7 .nilFunc
  have fa := fun j => frozen_of ga j
  have d31 : (w9.setCell ⟨P,7,none⟩ .nilFunc).cell? ⟨P,31,none⟩ = some (.int .i64 U.err) := by rw [cell_of_row _ _ _ _ _ _ ga]; rfl
  have gb := block_setCell ga 31 (.int .i64 E)
  have e7 : ((w9.setCell ⟨P,7,none⟩ .nilFunc).setCell ⟨P,31,none⟩ (.int .i64 E)).cell? ⟨P,7,none⟩ = some .nilFunc := by rw [cell_of_row _ _ _ _ _ _ gb]; rfl
  have q2 := ufeql0 ((w9.setCell ⟨P,7,none⟩ .nilFunc).setCell ⟨P,31,none⟩ (.int .i64 E))
  have HF := hide (HQ.out _ ⟨m9,D9,F9,q9.stop E⟩)
  generalize uxV P U.nx = nxv at *
  clear q9 HC HQ c7 q1 g9 ga gb
  go_wp2_with fail
  exact HF.out
set_option maxHeartbeats 3200000 in
theorem ustp_grow (h : UP W P A D m u) (hx : u.nx = 14) (o : UO) (hc : Calls Tryz.prog 206 #[.pointer (some ⟨P,0,none⟩)] W fun e w' => e = .returned (.tuple #[.bool o.tk,.int .i64 o.er]) ∧ UNx W P A D F m o.u o.s w') : Calls Tryz.prog 13 #[.pointer (some ⟨P,0,none⟩)] W (UsP W P A D F m o) := by
 have c7 : W.cell? ⟨P,7,none⟩ = some (.func (.func 206) #[.pointer (some ⟨P,0,none⟩)] #[]) := by
  have := h.cell 7 (uxV P u.nx) rfl
  rw [hx] at this
  exact this
 have q1 := ufeql 206 #[.pointer (some ⟨P,0,none⟩)] #[] W
 obtain ⟨Q,hQ⟩ : ∃ Q,Q = UsP W P A D F m o := ⟨_,rfl⟩
 obtain ⟨U,S,T,E⟩ := o
 simp only at hc
 by_cases hE : E = 0
 ·subst hE
  have HQ : Hid (∀ w',UNx W P A D F m U S w' → Q (.returned (.tuple #[.bool (decide (15 ≤ U.nx)),.bool T])) w') := fun w' hw => by rw [hQ]; exact ⟨rfl,hw⟩
  rw [← hQ]
  have HC := hide hc
  clear h hx hc hQ
  go_enter Tryz.func13,Tryz.ntmps13
  go_wp2_with fail
  refine HC.out.mono ?_
  rintro e w9 ⟨rfl,m9,D9,F9,q9⟩
  have d7 : w9.cell? ⟨P,7,none⟩ = some (uxV P U.nx) := q9.up.cell 7 _ rfl
  have HF := hide (HQ.out w9 ⟨m9,D9,F9,q9⟩)
  clear q9 HC HQ c7 q1
  rcases uxV_cases P U.nx with ⟨h1,h2⟩ | ⟨h1,g,h2⟩
  ·rw [h2] at d7
   rw [decide_eq_true h1] at HF
   have q2 := ufeql0 w9
   clear h1 h2
   go_wp2_with fail
   exact HF.out
  ·rw [h2] at d7
   rw [decide_eq_false (by omega)] at HF
   have q2 := ufeql g #[.pointer (some ⟨P,0,none⟩)] #[] w9
   clear h1 h2
   go_wp2_with fail
   exact HF.out
 ·have HQ : Hid (∀ w',UNx W P A D F m { U with nx := 15,err := E } S w' → Q (.returned (.tuple #[.bool true,.bool T])) w') := fun w' hw => by
   rw [hQ]
   have e1 : (⟨U,S,T,E⟩ : UO).fin = { U with nx := 15,err := E } := if_neg hE
   unfold UsP
   rw [e1]
   exact ⟨rfl,hw⟩
  have hEb : (E == 0) = false := by rw [beq_eq_false_iff_ne]; exact hE
  rw [← hQ]
  have HC := hide hc
  clear h hx hc hQ
  go_enter Tryz.func13,Tryz.ntmps13
  go_wp2_with fail
  refine HC.out.mono ?_
  rintro e w9 ⟨rfl,m9,D9,F9,q9⟩
  have d7 : w9.cell? ⟨P,7,none⟩ = some (uxV P U.nx) := q9.up.cell 7 _ rfl
  have g9 := q9.up.c
  have fz := fun j => frozen_of g9 j
  have ga := block_setCell g9 7 .nilFunc
  have fa := fun j => frozen_of ga j
  have d31 : (w9.setCell ⟨P,7,none⟩ .nilFunc).cell? ⟨P,31,none⟩ = some (.int .i64 U.err) := by rw [cell_of_row _ _ _ _ _ _ ga]; rfl
  have gb := block_setCell ga 31 (.int .i64 E)
  have e7 : ((w9.setCell ⟨P,7,none⟩ .nilFunc).setCell ⟨P,31,none⟩ (.int .i64 E)).cell? ⟨P,7,none⟩ = some .nilFunc := by rw [cell_of_row _ _ _ _ _ _ gb]; rfl
  have q2 := ufeql0 ((w9.setCell ⟨P,7,none⟩ .nilFunc).setCell ⟨P,31,none⟩ (.int .i64 E))
  have HF := hide (HQ.out _ ⟨m9,D9,F9,q9.stop E⟩)
  generalize uxV P U.nx = nxv at *
  clear q9 HC HQ c7 q1 g9 ga gb
  go_wp2_with fail
  exact HF.out
end
structure UOk (u : US) : Prop where
 way : u.nx = 1 ∨ u.nx = 2 → ∃ ms,u.way = some ms
 cnt : ∀ ms,u.way = some ms → ms.an < 4611686018427387904 ∧ ms.mo < 4611686018427387904
 thr : u.nx = 2 → ∀ ms,u.way = some ms → 5 ≤ ms.nx ∧ ms.wd < 18446744073709551616 ∧ ms.nd.ks.length * 24 ≤ 140737488351900 ∧ ms.nd.vs.length * 24 ≤ 140737488351900 ∧ ms.nd.cs.length * 8 ≤ 140737488351900
 pc : u.nx = 7 → 0 ≤ u.pc ∧ u.pc ≤ 4
 lev : -4611686018427387904 ≤ u.lev ∧ u.lev ≤ 4611686018427387904
section
variable {W w1 w2 : World} {P A : Nat} {D F D1 F1 : Nat → Prop} {m m1 : UM} {u u1 u2 : US} {s s1 : AS}
theorem groS_no {s : AS} {a b : Int} (h : s.groB a b = false) : s.groS a b = s := by
 unfold AS.groS
 rw [if_neg (of_decide_eq_false h)]
theorem us_idle (h : 15 ≤ u.nx) : u.step s = ⟨u,s,false,0⟩ := if_pos h
theorem us_step (h : u.nx < 15) : (u.step s).u = (u.act s).fin ∧ (u.step s).s = (u.act s).s ∧ (u.step s).tk = (u.act s).tk := by
 unfold US.step UO.fin
 rw [if_neg (by omega)]
 split
 ·exact ⟨rfl,rfl,rfl⟩
 ·exact ⟨rfl,rfl,rfl⟩
set_option maxHeartbeats 1600000 in
theorem ustep_any (h : UP W P A D m u) (hp : PX W A F s) (hF : ∀ x,F x → ¬ D x ∧ x ≠ P) (hu : UOk u) : Calls Tryz.prog 13 #[.pointer (some ⟨P,0,none⟩)] W fun e w' => e = .returned (.tuple #[.bool (decide (15 ≤ (u.step s).u.nx)),.bool (u.step s).tk]) ∧ UNx W P A D F m (u.step s).u (u.step s).s w' := by
 have q0 := UQ.begin h hp hF
 by_cases h15 : 15 ≤ u.nx
 ·rw [us_idle h15]
  refine (ustp_idle h h15).mono ?_
  rintro e w' ⟨rfl,rfl⟩
  exact ⟨by rw [decide_eq_true h15],q0.nx⟩
 obtain ⟨e1,e2,e3⟩ := us_step (u := u) (s := s) (by omega)
 rw [e1,e2,e3]
 show Calls Tryz.prog 13 #[.pointer (some ⟨P,0,none⟩)] W (UsP W P A D F m (u.act s))
 obtain ⟨k,hk⟩ : ∃ k,u.nx = k := ⟨_,rfl⟩
 rw [hk] at h15
 match k,hk with
 | 0,hk => exact ustp_refuse h hk _ (u_refuse h hp hF hk)
 | 1,hk =>
  obtain ⟨ms,hms⟩ := hu.way (.inl hk)
  obtain ⟨c1,c2⟩ := hu.cnt ms hms
  rcases h.w with ⟨_,h1⟩ | ⟨p,ms',kk,n,Dm,h1,h2,h3,h4,h5⟩
  ·rw [hms] at h1; cases h1
  ·rw [hms] at h2
   cases h2
   have em : u.m = ms := by unfold US.m; rw [hms]; rfl
   refine ustp_goDown h hk _ (u_goDown q0 h1 h4 h5 h3 (.inl h1) c1 c2 _ ?_ ?_ ?_ ?_)
   ·intro g1 D2 w' q
    have e : u.act s = ⟨{ u with way := some (ms.step s) },s,false,0⟩ := by
     unfold US.act; rw [hk]; simp only [em]; rw [if_pos g1]
    rw [e]; exact ⟨rfl,q.nx⟩
   ·intro g1 g2 D2 w' q
    have e : u.act s = ⟨{ u with way := some (ms.step s),nx := 2 },s,false,0⟩ := by
     unfold US.act; rw [hk]; simp only [em]; rw [if_neg g1,if_pos g2]
    rw [e]; exact ⟨rfl,q.nx⟩
   ·intro g1 g2 g3 D2 w' q
    have e : u.act s = ⟨{ u with way := some (ms.step s) },s,false,101⟩ := by
     unfold US.act; rw [hk]; simp only [em]; rw [if_neg g1,if_neg (fun hn => hn g2),if_pos g3]
    rw [e]; exact ⟨rfl,q.nx⟩
   ·intro g1 g2 g3 D2 w' q
    have e : u.act s = ⟨{ u with way := some (ms.step s),nx := 9 },s,false,0⟩ := by
     unfold US.act; rw [hk]; simp only [em]; rw [if_neg g1,if_neg (fun hn => hn g2),if_neg g3]
    rw [e]; exact ⟨rfl,q.nx⟩
 | 2,hk =>
  obtain ⟨ms,hms⟩ := hu.way (.inr hk)
  obtain ⟨t1,t2,t3⟩ := hu.thr hk ms hms
  rcases h.w with ⟨_,h1⟩ | ⟨p,ms',kk,n,Dm,h1,h2,h3,h4,h5⟩
  ·rw [hms] at h1; cases h1
  ·rw [hms] at h2
   cases h2
   have em : u.m = ms := by unfold US.m; rw [hms]; rfl
   refine ustp_lock h hk _ ((u_lock q0 h1 h4 t1 t2 t3).mono ?_)
   rintro e w' ⟨rfl,m2,D2,F2,q⟩
   cases hL : s.lockB ms.id ms.wd with
   | true =>
    have e : u.act s = ⟨({ u with hid := ms.id } : US).fate ms.nd,s.lockS ms.id ms.wd,false,0⟩ := by
     unfold US.act; rw [hk]; simp only [em]; rw [if_pos hL]
    rw [e]
    rw [if_pos hL] at q
    exact ⟨rfl,q.nx⟩
   | false =>
    have e : u.act s = ⟨u.down,s,false,s.wordE ms.id⟩ := by
     unfold US.act; rw [hk]; simp only [em]; rw [if_neg (by rw [hL]; decide)]
    rw [e]
    rw [if_neg (by rw [hL]; decide),lockS_no hL] at q
    exact ⟨rfl,q.nx⟩
 | 3,hk => exact ustp_layBody h hk _ (u_layBody h hp hF hk)
 | 4,hk =>
  have e : u.act s = ⟨{ u with nx := 15 },s.unlS u.hid true,decide (s.unlE u.hid = 0 ∧ u.lev = 0),s.unlE u.hid⟩ := by unfold US.act; rw [hk]
  refine ustp_free h hk _ ((u_free q0).mono ?_)
  rintro e w' ⟨rfl,F2,q⟩
  rw [e]; exact ⟨rfl,q.nx⟩
 | 5,hk =>
  refine ustp_giveBack h hk _ ((u_giveBack q0).mono ?_)
  rintro e w' ⟨rfl,F2,q⟩
  by_cases hc : s.unlE u.hid = 0 ∧ u.lev = 0
  ·have e : u.act s = ⟨{ u with nx := 15 },s.unlS u.hid false,true,2⟩ := by unfold US.act; rw [hk]; simp only; rw [if_pos hc]
   rw [e]; exact ⟨by rw [if_pos hc],q.nx⟩
  ·have e : u.act s = ⟨{ u with nx := 15 },s.unlS u.hid false,false,s.unlE u.hid⟩ := by unfold US.act; rw [hk]; simp only; rw [if_neg hc]
   rw [e]; exact ⟨by rw [if_neg hc],q.nx⟩
 | 6,hk =>
  refine ustp_takeHalf h hk _ ((u_takeHalf q0).mono ?_)
  rintro e w' ⟨rfl,m2,D2,F2,q⟩
  by_cases hc : s.allE = 0
  ·have e : u.act s = ⟨{ u with hn := u.hn.cut1 s.allI,fid := s.allI,fn := u.hn.cut2,bet := u.hn.cut3,pc := 0,nx := 7 },s.allS,false,0⟩ := by unfold US.act; rw [hk]; simp only; rw [if_pos hc]
   rw [if_pos hc] at q
   rw [e]; exact ⟨rfl,q.nx⟩
  ·have e : u.act s = ⟨{ u with nx := 5 },s.allS,false,0⟩ := by unfold US.act; rw [hk]; simp only; rw [if_neg hc]
   rw [if_neg hc] at q
   rw [e]; exact ⟨rfl,q.nx⟩
 | 7,hk =>
  obtain ⟨p1,p2⟩ := hu.pc hk
  have hpc : u.pc = 0 ∨ u.pc = 1 ∨ u.pc = 2 ∨ u.pc = 3 ∨ u.pc = 4 := by omega
  rcases hpc with hpc | hpc | hpc | hpc | hpc
  ·have e : u.act s = ⟨{ u with pc := 1 },s.hedS u.fid u.fn.lv u.fn.hi u.fn.ri,false,s.unlE u.fid⟩ := by unfold US.act; rw [hk]; simp only [hpc]; rfl
   refine ustp_layHalves h hk _ ((u_lay0 q0 hpc).mono ?_)
   rintro e w' ⟨rfl,m2,D2,F2,q⟩
   rw [e]; exact ⟨rfl,q.nx⟩
  ·have e : u.act s = ⟨{ u with pc := 2 },s.bodS u.fid u.fn.ks u.fn.vs u.fn.cs,false,s.unlE u.fid⟩ := by unfold US.act; rw [hk]; simp only [hpc]; rfl
   refine ustp_layHalves h hk _ ((u_lay1 q0 hpc).mono ?_)
   rintro e w' ⟨rfl,m2,D2,F2,q⟩
   rw [e]; exact ⟨rfl,q.nx⟩
  ·have e : u.act s = ⟨{ u with pc := 3 },s.unlS u.fid true,false,s.unlE u.fid⟩ := by unfold US.act; rw [hk]; simp only [hpc]; rfl
   refine ustp_layHalves h hk _ ((u_lay2 q0 hpc).mono ?_)
   rintro e w' ⟨rfl,m2,D2,F2,q⟩
   rw [e]; exact ⟨rfl,q.nx⟩
  ·have e : u.act s = ⟨{ u with pc := 4 },s.hedS u.hid u.hn.lv u.hn.hi u.hn.ri,false,s.unlE u.hid⟩ := by unfold US.act; rw [hk]; simp only [hpc]; rfl
   refine ustp_layHalves h hk _ ((u_lay3 q0 hpc).mono ?_)
   rintro e w' ⟨rfl,m2,D2,F2,q⟩
   rw [e]; exact ⟨rfl,q.nx⟩
  ·have e : u.act s = ⟨{ u with pc := 5,nx := 8 },s.bodS u.hid u.hn.ks u.hn.vs u.hn.cs,false,s.unlE u.hid⟩ := by unfold US.act; rw [hk]; simp only [hpc]; rfl
   refine ustp_layHalves h hk _ ((u_lay4 q0 hpc).mono ?_)
   rintro e w' ⟨rfl,m2,D2,F2,q⟩
   rw [e]; exact ⟨rfl,q.nx⟩
 | 8,hk =>
  have e : u.act s = ⟨({ u with lft := u.hid,rgt := u.fid,sep := u.bet,lev := u.lev + 1 } : US).down,s.unlS u.hid true,decide (s.unlE u.hid = 0 ∧ u.lev = 0),s.unlE u.hid⟩ := by unfold US.act; rw [hk]
  refine ustp_rise h hk _ ((u_rise q0 hu.lev).mono ?_)
  rintro e w' ⟨rfl,m2,D2,F2,q⟩
  rw [e]; exact ⟨rfl,q.nx⟩
 | 9,hk =>
  have e : u.act s = ⟨{ u with nx := if s.root = u.lft then 10 else 15 },s,false,0⟩ := by unfold US.act; rw [hk]
  refine ustp_seeRoot h hk _ ((u_seeRoot q0).mono ?_)
  rintro e w' ⟨rfl,q⟩
  rw [e]; exact ⟨rfl,q.nx⟩
 | 10,hk =>
  refine ustp_takeTop h hk _ ((u_takeTop q0).mono ?_)
  rintro e w' ⟨rfl,F2,q⟩
  by_cases hc : s.allE = 0
  ·have e : u.act s = ⟨{ u with top := s.allI,nx := 11 },s.allS,false,0⟩ := by unfold US.act; rw [hk]; simp only; rw [if_pos hc]
   rw [if_pos hc] at q
   rw [e]; exact ⟨rfl,q.nx⟩
  ·have e : u.act s = ⟨{ u with nx := 15 },s.allS,false,0⟩ := by unfold US.act; rw [hk]; simp only; rw [if_neg hc]
   rw [if_neg hc] at q
   rw [e]; exact ⟨rfl,q.nx⟩
 | 11,hk => exact ustp_layTopHead h hk _ (u_layTopHead h hp hF hk)
 | 12,hk =>
  have e : u.act s = ⟨{ u with nx := 13 },s.bodS u.top [u.sep] [] [u.lft,u.rgt],false,s.unlE u.top⟩ := by unfold US.act; rw [hk]
  refine ustp_layTopBody h hk _ ((u_layTopBody q0).mono ?_)
  rintro e w' ⟨rfl,m2,D2,F2,q⟩
  rw [e]; exact ⟨rfl,q.nx⟩
 | 13,hk => exact ustp_freeTop h hk _ (u_freeTop h hp hF hk)
 | 14,hk =>
  refine ustp_grow h hk _ ((u_grow q0).mono ?_)
  rintro e w' ⟨rfl,m2,D2,F2,q⟩
  cases hc : s.groB u.lft u.top with
  | true =>
   have e : u.act s = ⟨{ u with nx := 15 },s.groS u.lft u.top,false,s.wordE u.top⟩ := by unfold US.act; rw [hk]; simp only; rw [if_pos hc]
   rw [if_pos hc] at q
   rw [e]; exact ⟨rfl,q.nx⟩
  | false =>
   have e : u.act s = ⟨u.down,s,false,s.wordE u.top⟩ := by unfold US.act; rw [hk]; simp only; rw [if_neg (by rw [hc]; decide)]
   rw [if_neg (by rw [hc]; decide),groS_no hc] at q
   rw [e]; exact ⟨rfl,q.nx⟩
 | n + 15,hk => omega
end
section
variable {c : Cfg} {s t : AS} {C C' : Int → Prop} {cs : List Chn} {u : US} {M : Nat}
structure UFa (u : US) (s : AS) (o : UO) : Prop where
 val : o.u.val = u.val
 lev : o.u.lev = u.lev ∨ (u.nx = 8 ∧ o.u.lev = u.lev + 1)
 sep : o.u.lev = u.lev → o.u.sep = u.sep
 way : o.u.way = u.way ∨ (∃ k l,o.u.way = some (MS.new k l)) ∨ (u.nx = 1 ∧ o.u.way = some (u.m.step s))
 tk : o.tk = true → o.er = 0 → (u.nx = 4 ∨ u.nx = 8) ∧ u.lev = 0
 tk0 : u.nx = 0 → o.er = 3
 err : o.u.err = u.err
theorem fate_fa (u : US) (n : NP) : (u.fate n).val = u.val ∧ (u.fate n).lev = u.lev ∧ (u.fate n).sep = u.sep ∧ (u.fate n).way = u.way ∧ (u.fate n).err = u.err := by
 unfold US.fate
 split
 ·exact ⟨rfl,rfl,rfl,rfl,rfl⟩
 ·split <;> exact ⟨rfl,rfl,rfl,rfl,rfl⟩
theorem ua_facts (u : US) (s : AS) : UFa u s (u.act s) := by
 unfold US.act
 split
 case h_3 e =>
  split
  ·obtain ⟨f1,f2,f3,f4,f5⟩ := fate_fa { u with hid := u.m.id } u.m.nd
   exact ⟨f1,.inl f2,fun _ => f3,.inl f4,fun h => by simp at h,fun h => by omega,f5⟩
  ·exact ⟨rfl,.inl rfl,fun _ => rfl,.inr (.inl ⟨_,_,rfl⟩),fun h => by simp at h,fun h => by omega,rfl⟩
 case h_1 e => exact ⟨rfl,.inl rfl,fun _ => rfl,.inl rfl,fun _ h => by simp at h,fun _ => rfl,rfl⟩
 case h_2 e =>
  simp only
  split
  ·exact ⟨rfl,.inl rfl,fun _ => rfl,.inr (.inr ⟨e,rfl⟩),fun h => by simp at h,fun h => by omega,rfl⟩
  ·split
   ·exact ⟨rfl,.inl rfl,fun _ => rfl,.inr (.inr ⟨e,rfl⟩),fun h => by simp at h,fun h => by omega,rfl⟩
   ·split <;> exact ⟨rfl,.inl rfl,fun _ => rfl,.inr (.inr ⟨e,rfl⟩),fun h => by simp at h,fun h => by omega,rfl⟩
 case h_4 e => exact ⟨rfl,.inl rfl,fun _ => rfl,.inl rfl,fun h => by simp at h,fun h => by omega,rfl⟩
 case h_5 e => exact ⟨rfl,.inl rfl,fun _ => rfl,.inl rfl,fun h _ => ⟨.inl e,(of_decide_eq_true h).2⟩,fun h => by omega,rfl⟩
 case h_6 e =>
  split
  ·exact ⟨rfl,.inl rfl,fun _ => rfl,.inl rfl,fun _ h => by simp at h,fun h => by omega,rfl⟩
  ·exact ⟨rfl,.inl rfl,fun _ => rfl,.inl rfl,fun h => by simp at h,fun h => by omega,rfl⟩
 case h_7 e => split <;> exact ⟨rfl,.inl rfl,fun _ => rfl,.inl rfl,fun h => by simp at h,fun h => by omega,rfl⟩
 case h_8 e =>
  simp only
  split
  ·exact ⟨rfl,.inl rfl,fun _ => rfl,.inl rfl,fun h => by simp at h,fun h => by omega,rfl⟩
  ·split
   ·exact ⟨rfl,.inl rfl,fun _ => rfl,.inl rfl,fun h => by simp at h,fun h => by omega,rfl⟩
   ·split
    ·exact ⟨rfl,.inl rfl,fun _ => rfl,.inl rfl,fun h => by simp at h,fun h => by omega,rfl⟩
    ·split <;> exact ⟨rfl,.inl rfl,fun _ => rfl,.inl rfl,fun h => by simp at h,fun h => by omega,rfl⟩
 case h_9 e => exact ⟨rfl,.inr ⟨e,rfl⟩,fun (h : u.lev + 1 = u.lev) => by omega,.inr (.inl ⟨_,_,rfl⟩),fun h _ => ⟨.inr e,(of_decide_eq_true h).2⟩,fun h => by omega,rfl⟩
 case h_10 e => exact ⟨rfl,.inl rfl,fun _ => rfl,.inl rfl,fun h => by simp at h,fun h => by omega,rfl⟩
 case h_11 e => split <;> exact ⟨rfl,.inl rfl,fun _ => rfl,.inl rfl,fun h => by simp at h,fun h => by omega,rfl⟩
 case h_12 e => exact ⟨rfl,.inl rfl,fun _ => rfl,.inl rfl,fun h => by simp at h,fun h => by omega,rfl⟩
 case h_13 e => exact ⟨rfl,.inl rfl,fun _ => rfl,.inl rfl,fun h => by simp at h,fun h => by omega,rfl⟩
 case h_14 e => exact ⟨rfl,.inl rfl,fun _ => rfl,.inl rfl,fun h => by simp at h,fun h => by omega,rfl⟩
 case h_15 e =>
  split
  ·exact ⟨rfl,.inl rfl,fun _ => rfl,.inl rfl,fun h => by simp at h,fun h => by omega,rfl⟩
  ·exact ⟨rfl,.inl rfl,fun _ => rfl,.inr (.inl ⟨_,_,rfl⟩),fun h => by simp at h,fun h => by omega,rfl⟩
 case h_16 e => exact ⟨rfl,.inl rfl,fun _ => rfl,.inl rfl,fun h => by simp at h,fun h => by omega,rfl⟩
theorem us_facts (u : US) (s : AS) (h15 : u.nx < 15) : (u.step s).u.val = u.val ∧ ((u.step s).u.lev = u.lev ∨ (u.step s).u.lev = u.lev + 1) ∧ ((u.step s).u.lev = u.lev → (u.step s).u.sep = u.sep) ∧ ((u.step s).u.way = u.way ∨ (∃ k l,(u.step s).u.way = some (MS.new k l)) ∨ (u.nx = 1 ∧ (u.step s).u.way = some (u.m.step s))) ∧ ((u.step s).tk = true → (u.step s).er = 0 → (u.nx = 4 ∨ u.nx = 8) ∧ u.lev = 0) ∧ (u.nx = 0 → (u.step s).u.nx = 15) ∧ (u.err = 0 → (u.step s).u.err = (u.step s).er) ∧ ((u.step s).er ≠ 0 → (u.step s).u.nx = 15) := by
 obtain ⟨a1,a2,a3,a4,a5,a6,a7⟩ := ua_facts u s
 have a2' := a2.imp (fun h => h) (fun h => h.2)
 unfold US.step
 rw [if_neg (by omega)]
 split
 ·rename_i h
  exact ⟨a1,a2',a3,a4,a5,fun e => (by rw [a6 e] at h; cases h),fun e => a7.trans (e.trans h.symm),fun e => absurd h e⟩
 ·exact ⟨a1,a2',a3,a4,a5,fun _ => rfl,fun _ => rfl,fun _ => rfl⟩
def USz (p : NP) : Prop := p.ks.length ≤ 100 ∧ p.vs.length ≤ 100 ∧ p.cs.length ≤ 100
structure UB (u : US) (M : Nat) : Prop where
 way : ∀ ms,u.way = some ms → USz ms.nd ∧ ms.an ≤ M ∧ ms.mo ≤ M
 lev : u.lev ≤ M
 err : u.nx < 15 → u.err = 0
def KV (key val : List Int) (u : US) : Prop := u.nx = 0 ∨ u.nx = 15 ∨ ((1 ≤ key.length ∧ key.length ≤ 64 ∧ val.length ≤ 256) ∧ u.val = val ∧ (u.lev = 0 → u.sep = key))
theorem sz_zero : USz NP.zero := ⟨Nat.zero_le _,Nat.zero_le _,Nat.zero_le _⟩
theorem ms_sz {m : MS} (h : USz m.nd) (hs : ∀ k,USz (s.n k)) : USz (m.step s).nd := by
 have hz := sz_zero
 have hg : ∀ k,USz (m.goTo k).nd := fun k => by unfold MS.goTo; exact hz
 unfold MS.step
 split
 ·exact hg _
 ·split
  ·exact h
  ·split
   ·exact hz
   ·split
    ·split <;> exact h
    ·split
     ·exact h
     ·split
      ·exact hs m.id
      ·unfold MS.valid MS.choose
       split
       ·split
        ·exact hz
        ·split
         ·exact hz
         ·split
          ·exact h
          ·exact hg _
       ·exact hz
theorem UB.step (h : UB u M) (hs : ∀ k,USz (s.n k)) : UB (u.step s).u (M + 1) := by
 by_cases h15 : u.nx < 15
 ·obtain ⟨-,a2,-,a4,-,-,a7,a8⟩ := us_facts u s h15
  refine ⟨fun ms hm => ?_,by have := h.lev; omega,fun e => ?_⟩
  ·rcases a4 with g | ⟨k,l,g⟩ | ⟨_,g⟩
   ·rw [g] at hm
    obtain ⟨b1,b2,b3⟩ := h.way ms hm
    exact ⟨b1,by omega,by omega⟩
   ·rw [g] at hm
    obtain rfl := Option.some.inj hm
    exact ⟨sz_zero,Nat.zero_le _,Nat.zero_le _⟩
   ·rw [g] at hm
    obtain rfl := Option.some.inj hm
    have h0 : USz u.m.nd ∧ u.m.an ≤ M ∧ u.m.mo ≤ M := by
     unfold US.m
     cases hw : u.way with
     | none => exact ⟨sz_zero,Nat.zero_le _,Nat.zero_le _⟩
     | some q => exact h.way q hw
    have h1 := MS.step_cnt u.m s
    exact ⟨ms_sz h0.1 hs,by omega,by omega⟩
  ·rw [a7 (h.err h15)]
   refine Decidable.byContradiction fun g => ?_
   rw [a8 g] at e
   omega
 ·have e : u.step s = ⟨u,s,false,0⟩ := if_pos (by omega)
  rw [e]
  exact ⟨fun ms hm => by obtain ⟨b1,b2,b3⟩ := h.way ms hm; exact ⟨b1,by omega,by omega⟩,by have := h.lev; simp only; omega,h.err⟩
theorem UB.mono (h : UB u M) : UB u (M + 1) := ⟨fun ms hm => by obtain ⟨b1,b2,b3⟩ := h.way ms hm; exact ⟨b1,by omega,by omega⟩,by have := h.lev; omega,h.err⟩
theorem UB.new {key value : List Int} : UB (US.new c key value) M := by
 unfold US.new
 split
 ·exact ⟨fun ms hm => (by obtain rfl := Option.some.inj hm; exact ⟨sz_zero,Nat.zero_le _,Nat.zero_le _⟩),Int.natCast_nonneg _,fun _ => rfl⟩
 ·exact ⟨fun ms hm => (by cases hm),Int.natCast_nonneg _,fun _ => rfl⟩
theorem KV.new {key value : List Int} : KV key value (US.new c key value) := by
 unfold US.new
 split
 ·rename_i h
  exact .inr (.inr ⟨h,rfl,fun _ => rfl⟩)
 ·exact .inl rfl
theorem KV.step {key val : List Int} (h : KV key val u) (hl0 : 0 ≤ u.lev) : KV key val (u.step s).u := by
 by_cases h15 : u.nx < 15
 ·obtain ⟨a1,a2,a3,a4,a5,a6,a7,a8⟩ := us_facts u s h15
  rcases h with g | g | ⟨g1,g2,g3⟩
  ·exact .inr (.inl (a6 g))
  ·omega
  ·by_cases hl : (u.step s).u.lev = u.lev
   ·exact .inr (.inr ⟨g1,a1.trans g2,fun e => (a3 hl).trans (g3 (by omega))⟩)
   ·exact .inr (.inr ⟨g1,a1.trans g2,fun e => by omega⟩)
 ·have e : u.step s = ⟨u,s,false,0⟩ := if_pos (by omega)
  rw [e]
  exact h
theorem KV.tk {key val : List Int} (h : KV key val u) (h1 : (u.step s).tk = true) (h2 : (u.step s).er = 0) : (1 ≤ key.length ∧ key.length ≤ 64 ∧ val.length ≤ 256) ∧ u.val = val ∧ u.sep = key := by
 by_cases h15 : u.nx < 15
 ·obtain ⟨a1,a2,a3,a4,a5,a6,a7,a8⟩ := us_facts u s h15
  obtain ⟨b1,b2⟩ := a5 h1 h2
  rcases h with g | g | ⟨g1,g2,g3⟩
  ·omega
  ·omega
  ·exact ⟨g1,g2,g3 b2⟩
 ·have e : u.step s = ⟨u,s,false,0⟩ := if_pos (by omega)
  rw [e] at h1
  cases h1
theorem UB.tkErr (h : UB u M) (h1 : (u.step s).tk = true) : (u.step s).u.err = (u.step s).er := by
 by_cases h15 : u.nx < 15
 ·exact (us_facts u s h15).2.2.2.2.2.2.1 (h.err h15)
 ·have e : u.step s = ⟨u,s,false,0⟩ := if_pos (by omega)
  rw [e] at h1
  cases h1
theorem uok (h : UI c s t C cs u M) (hb : UB u M) (hM : M < 4611686018427387904) : UOk u := by
 refine ⟨fun e => ?_,fun ms hm => ?_,fun e ms hm => ?_,h.pc,?_⟩
 ·rcases e with e | e
  ·obtain ⟨ms,g,_⟩ := h.p1 e
   exact ⟨ms,g⟩
  ·obtain ⟨ms,g,_⟩ := h.p2 e
   exact ⟨ms,g⟩
 ·obtain ⟨_,b2,b3⟩ := hb.way ms hm
  omega
 ·obtain ⟨ms',g1,g2⟩ := h.p2 e
  rw [g1] at hm
  obtain rfl := Option.some.inj hm
  obtain ⟨⟨b1,b2,b3⟩,_,_⟩ := hb.way _ g1
  exact ⟨by rw [g2.nx]; exact Nat.le_refl _,g2.lt,by omega,by omega,by omega⟩
 ·have := h.lev; have := hb.lev; omega
end
section
variable {c : Cfg} {s t : AS} {C C' : Int → Prop} {cs : List Chn} {u : US} {M : Nat}
def SB (s : AS) : Prop := (∀ x ∈ s.sl,USz x.2) ∧ (s.sl.length : Int) ≤ s.nodes
theorem SB.n (h : SB s) (k : Int) : USz (s.n k) := by
 unfold AS.n
 rw [List.getD_eq_getElem?_getD]
 cases e : s.sl[(k - 1).toNat]? with
 | none => exact sz_zero
 | some x => exact h.1 x (List.mem_of_getElem? e)
theorem SB.set {k : Int} {x : Nat} {p : NP} (h : SB s) (hp : USz p) : SB ⟨s.nodes,s.root,s.sl.set (k - 1).toNat (x,p)⟩ := by
 refine ⟨fun y hy => ?_,by simpa using h.2⟩
 rcases List.mem_or_eq_of_mem_set hy with g | rfl
 ·exact h.1 y g
 ·exact hp
theorem SB.unl (h : SB s) (k : Int) (b : Bool) : SB (s.unlS k b) := by
 unfold AS.unlS
 split
 ·exact h.set (h.n k)
 ·exact h
theorem SB.lock (h : SB s) (k : Int) (x : Nat) : SB (s.lockS k x) := by
 unfold AS.lockS
 split
 ·exact h.set (h.n k)
 ·exact h
theorem SB.hed (h : SB s) (k : Int) (lv : Int) (hi : List Int) (ri : Int) : SB (s.hedS k lv hi ri) := by
 unfold AS.hedS
 split
 ·exact h.set (h.n k)
 ·exact h
theorem SB.bod {p : NP} (h : SB s) (k : Int) (hp : USz p) : SB (s.bodS k p.ks p.vs p.cs) := by
 unfold AS.bodS
 split
 ·exact h.set hp
 ·exact h
theorem SB.gro (h : SB s) (a b : Int) : SB (s.groS a b) := by
 unfold AS.groS
 split
 ·exact h
 ·exact h
theorem SB.all (h : SB s) : SB s.allS := by
 unfold AS.allS
 split
 ·rename_i e
  refine ⟨fun y hy => ?_,by simp; omega⟩
  rcases List.mem_append.1 hy with g | g
  ·exact h.1 y g
  ·rw [List.mem_singleton.1 g]; exact sz_zero
 ·exact h
theorem fat_sz (hvt : VT s t C c.nd c.lf c.inn c.fl c.bk cs) (hu : UI c s t C cs u M) (hc : cfgOk c.nd c.lf c.inn c.fl c.bk) (hnd : (s.sl.length : Int) ≤ c.nd) (h3 : 3 ≤ u.nx) (h8 : u.nx ≤ 8) : USz (u.fat (t.n u.hid)) := by
 obtain ⟨low,g⟩ := hu.hd h3 h8
 obtain ⟨f1,f2,f3,f4,-⟩ := fat_ok hvt hu hnd h3 h8 g
 obtain ⟨_,⟨c1,c2⟩,⟨c3,c4⟩,_⟩ := hc
 rcases f1.bd with ⟨b0,b1,b2,_⟩ | ⟨b0,b1,b2,_⟩
 ·have := f3 b0
  exact ⟨by omega,by omega,by omega⟩
 ·have := f4 b0
  exact ⟨by omega,by omega,by omega⟩
theorem one_sz {p : NP} (h : USz p) (r : Int) : USz (p.one r) ∧ USz p.two := by
 obtain ⟨h1,h2,h3⟩ := h
 have hr : p.restK.length ≤ 100 := by
  unfold NP.restK
  split <;> simp <;> omega
 exact ⟨⟨by simp [NP.one]; omega,by simp [NP.one]; omega,by simp [NP.one]; omega⟩,⟨hr,by simp [NP.two]; omega,by simp [NP.two]; omega⟩⟩
theorem SB.step (h : SB s) (hvt : VT s t C c.nd c.lf c.inn c.fl c.bk cs) (hu : UI c s t C cs u M) (hc : cfgOk c.nd c.lf c.inn c.fl c.bk) (hnd : (s.sl.length : Int) ≤ c.nd) : SB (u.step s).s := by
 have hf := fat_sz hvt hu hc hnd
 by_cases h15 : 15 ≤ u.nx
 ·rw [show u.step s = ⟨u,s,false,0⟩ from if_pos h15]
  exact h
 rw [(us_step (u := u) (s := s) (by omega)).2.1]
 unfold US.act
 split
 case h_1 => exact h
 case h_2 =>
  simp only
  split
  ·exact h
  ·split
   ·exact h
   ·split <;> exact h
 case h_3 =>
  split
  ·exact h.lock _ _
  ·exact h
 case h_4 e => exact h.bod _ (by rw [hu.p3 (.inl e)]; exact hf (by omega) (by omega))
 case h_5 => exact h.unl _ _
 case h_6 => split <;> exact h.unl _ _
 case h_7 => split <;> exact h.all
 case h_8 e =>
  obtain ⟨q1,q2,q3⟩ := hu.p7 (.inl e)
  obtain ⟨z1,z2⟩ := one_sz (hf (by omega) (by omega)) u.fid
  simp only
  split
  ·exact h.hed _ _ _ _
  ·split
   ·exact h.bod _ (by rw [q2]; exact z2)
   ·split
    ·exact h.hed _ _ _ _
    ·split
     ·exact h.bod _ (by rw [q1]; exact z1)
     ·exact h.unl _ _
 case h_9 => exact h.unl _ _
 case h_10 => exact h
 case h_11 => split <;> exact h.all
 case h_12 => exact h.hed _ _ _ _
 case h_13 => exact h.bod (p := ⟨0,[],0,[u.sep],[],[u.lft,u.rgt]⟩) _ ⟨by simp,by simp,by simp⟩
 case h_14 => exact h.unl _ _
 case h_15 =>
  split
  ·exact h.gro _ _
  ·exact h
 case h_16 => exact h
theorem SB.new {nodes : Int} (h : 1 ≤ nodes) : SB (AS.new nodes) := ⟨fun x hx => by
 have : x = (0,NP.zero) := by simpa [AS.new] using hx
 rw [this]; exact sz_zero,by simpa [AS.new] using h⟩
theorem VT.look (hvt : VT s t C c.nd c.lf c.inn c.fl c.bk cs) (hc : cfgOk c.nd c.lf c.inn c.fl c.bk) (hh : s.held = []) : s.look c.nd c.lf c.inn c.fl c.bk = .inr cs.reverse ∧ s.map = mp t cs := by
 have hev := held_even hh
 have hn : ∀ (l : Nat) (x : Int × List Int),memL cs l x → s.n x.1 = t.n x.1 := fun l x hm => hvt.rd l x hm (.inl (hev _ ((hvt.inn _).1 (hvt.tre.ckk hm).2.2)))
 have ht := hvt.tre.same (t := s) hvt.root.symm (fun k hk => (hvt.inn k).1 hk) hn
 refine ⟨snd_look (ht.snd hc hev) hh,?_⟩
 have h0 : cs[0]? = some (cs.headD []) := by
  have := ht.ne
  cases cs with
  | nil => exact absurd this (by simp)
  | cons a r => rfl
 rw [ht.map hc hev h0]
 exact entsC_same fun x hx => hn 0 x ⟨_,h0,hx⟩
end
section
variable {c : Cfg} {s : AS} {u : US} {M i : Nat} {us : List US} {kv : List (List Int × List Int)} {E : List (List Int × List Int)} {k : List Int × List Int}
theorem one_at {l : Nat} {x : Chn} (h : ([[((1 : Int),([] : List Int))]] : List Chn)[l]? = some x) : l = 0 ∧ x = [(1,[])] := by
 cases l with
 | zero => exact ⟨rfl,(Option.some.inj h).symm⟩
 | succ n => simp at h
theorem one_no {l : Nat} {x : Chn} (h : ([[((1 : Int),([] : List Int))]] : List Chn)[l + 1]? = some x) : False := by simp at h
theorem new_n (nodes : Int) : (AS.new nodes).n 1 = NP.zero := rfl
theorem new_w (nodes : Int) : (AS.new nodes).w 1 = 0 := rfl
theorem new_inn (nodes : Int) (k : Int) : (AS.new nodes).inn k ↔ k = 1 := by
 unfold AS.inn AS.new
 simp only [List.length_singleton]
 omega
theorem nchk_zero {nd lf inn fl bk : Int} (hc : cfgOk nd lf inn fl bk) : nchkE NP.zero nd lf inn fl bk = 0 := by
 unfold nchkE
 rw [if_pos hc,if_pos]
 obtain ⟨⟨a1,a2⟩,⟨a3,a4⟩,_⟩ := hc
 refine ⟨⟨⟨⟨Int.le_refl 0,by show (0 : Int) ≤ 32; decide⟩,⟨Int.le_refl 0,by show (0 : Int) ≤ nd; omega⟩⟩,⟨fun _ => rfl,fun _ => rfl⟩,Nat.zero_le _⟩,fun j hj => absurd hj (Nat.not_lt_zero j),?_⟩
 unfold BdP OvP
 refine ⟨?_,?_⟩
 ·show ¬ (if (0 : Int) = 0 then lf < ((0 : Nat) : Int) else inn < ((0 : Nat) : Int))
  rw [if_pos rfl]; omega
 ·rw [if_pos (show NP.zero.lv = 0 from rfl)]
  exact ⟨⟨rfl,rfl⟩,fun j hj => absurd hj (Nat.not_lt_zero j)⟩
theorem tre_new (hc : cfgOk c.nd c.lf c.inn c.fl c.bk) : Tre (AS.new c.nd) c.nd c.lf c.inn c.fl c.bk [[(1,[])]] := by
 refine ⟨by simp,fun l x h => ?_,fun l x h => ?_,fun l x d _ h => (one_no h).elim,fun d h => ?_,fun l x h => ?_,fun l x h => ?_,fun l x d _ h => (one_no h).elim⟩
 ·obtain ⟨_,rfl⟩ := one_at h
  exact ⟨1,rfl,.inl ⟨rfl,rfl⟩⟩
 ·obtain ⟨rfl,rfl⟩ := one_at h
  refine ⟨fun x hx => ?_,fun x hx => ?_,fun x hx => ?_⟩ <;> rw [List.mem_singleton.1 hx]
  ·rfl
  ·exact nchk_zero hc
  ·unfold notAb
   simp [new_n,NP.zero]
 ·obtain ⟨_,rfl⟩ := one_at h
  exact ⟨rfl,.inl ⟨rfl,rfl⟩⟩
 ·obtain ⟨_,rfl⟩ := one_at h
  simp
 ·obtain ⟨_,rfl⟩ := one_at h
  intro x hx
  rw [List.mem_singleton.1 hx]
  exact (new_inn _ _).2 rfl
theorem wg_new (hc : cfgOk c.nd c.lf c.inn c.fl c.bk) : WG c (AS.new c.nd) (AS.new c.nd) [[(1,[])]] [] 0 :=
 ⟨⟨tre_new hc,rfl,fun _ => Iff.rfl,fun _ _ _ _ => rfl⟩,fun i u h => (by simp at h),fun i j u v h => (by simp at h),fun i j u v h => (by simp at h),fun k h1 h2 => (by rw [(new_inn _ _).1 h1,new_w] at h2; simp at h2)⟩
structure WS (c : Cfg) (s : AS) (us : List US) (kv : List (List Int × List Int)) (E : List (List Int × List Int)) (M : Nat) : Prop where
 g : ∃ t cs,WG c s t cs us M ∧ mp t cs = E
 sb : SB s
 ub : ∀ u ∈ us,UB u M
 len : us.length = kv.length
 kv : ∀ (i : Nat) (u : US) (k : List Int × List Int),us[i]? = some u → kv[i]? = some k → KV k.1 k.2 u
 nod : s.nodes = c.nd
 cfg : cfgOk c.nd c.lf c.inn c.fl c.bk ∧ c.nd ≤ 60
theorem WS.new (hc : cfgOk c.nd c.lf c.inn c.fl c.bk ∧ c.nd ≤ 60) : WS c (AS.new c.nd) [] [] [] 0 :=
 ⟨⟨_,_,wg_new hc.1,rfl⟩,SB.new hc.1.1.1,fun u h => (by simp at h),rfl,fun i u k h => (by simp at h),rfl,hc⟩
theorem WS.ok (h : WS c s us kv E M) (hi : us[i]? = some u) (hM : M < 4611686018427387904) : UOk u := by
 obtain ⟨t,cs,hg,_⟩ := h.g
 exact uok (hg.ui i u hi) (h.ub u (List.mem_of_getElem? hi)) hM
theorem WS.more (h : WS c s us kv E M) (k : List Int × List Int) : WS c s (us ++ [US.new c k.1 k.2]) (kv ++ [k]) E M := by
 obtain ⟨t,cs,hg,he⟩ := h.g
 have hl := h.len
 refine ⟨⟨t,cs,hg.more,he⟩,h.sb,fun u hu => ?_,by simp [hl],fun i u q h1 h2 => ?_,h.nod,h.cfg⟩
 ·rcases List.mem_append.1 hu with g | g
  ·exact h.ub u g
  ·rw [List.mem_singleton.1 g]; exact UB.new
 ·by_cases e : i < us.length
  ·rw [List.getElem?_append_left e] at h1
   rw [List.getElem?_append_left (by omega)] at h2
   exact h.kv i u q h1 h2
  ·rw [List.getElem?_append_right (by omega)] at h1
   rw [List.getElem?_append_right (by omega),← hl] at h2
   rcases Nat.eq_zero_or_pos (i - us.length) with g | g
   ·rw [g] at h1 h2
    obtain rfl := Option.some.inj h1
    obtain rfl := Option.some.inj h2
    exact KV.new
   ·rw [List.getElem?_eq_none (by simp; omega)] at h1
    cases h1
theorem WS.step (h : WS c s us kv E M) (hi : us[i]? = some u) (hk : kv[i]? = some k) (hw : ∀ k,s.inn k → s.w k < 18446744073709551616) (hM : M < 4611686018427387904) :
  WS c (u.step s).s (us.set i (u.step s).u) kv (if (u.step s).tk = true ∧ (u.step s).u.err = 0 then mset k.1 k.2 E else E) (M + 1) ∧ ((u.step s).tk = true → (u.step s).u.err = 0 → 1 ≤ k.1.length ∧ k.1.length ≤ 64 ∧ k.2.length ≤ 256) := by
 obtain ⟨t,cs,hg,he⟩ := h.g
 have hnd : (s.sl.length : Int) ≤ c.nd := by rw [← h.nod]; exact h.sb.2
 have hub := h.ub u (List.mem_of_getElem? hi)
 have hkv := h.kv i u k hi hk
 have hui := hg.ui i u hi
 have h31 : cs.length ≤ 31 := by
  have g1 := hg.vt.tre.high
  have g2 := hg.vt.len
  have g3 := h.cfg.2
  omega
 obtain ⟨t',cs',q1,q2,q3,_⟩ := hg.step hi h.cfg.1 hw (by omega) hnd h31
 have hE : ((u.step s).tk = true ∧ (u.step s).u.err = 0) ↔ ((u.step s).tk = true ∧ (u.step s).er = 0) := and_congr_right fun e => by rw [hub.tkErr e]
 refine ⟨⟨⟨t',cs',q1,?_⟩,h.sb.step hg.vt hui h.cfg.1 hnd,fun v hv => ?_,by simp [h.len],fun j v q h1 h2 => ?_,q3.trans h.nod,h.cfg⟩,fun e1 e2 => ?_⟩
 ·rw [q2,he]
  by_cases e : (u.step s).tk = true ∧ (u.step s).er = 0
  ·rw [if_pos e,if_pos (hE.2 e)]
   obtain ⟨_,e3,e4⟩ := hkv.tk e.1 e.2
   rw [e3,e4]
  ·rw [if_neg e,if_neg (fun g => e (hE.1 g))]
 ·rcases List.mem_or_eq_of_mem_set hv with g | rfl
  ·exact (h.ub v g).mono
  ·exact hub.step h.sb.n
 ·rw [List.getElem?_set] at h1
  split at h1
  ·rename_i e
   subst e
   rw [hk] at h2
   obtain rfl := Option.some.inj h2
   split at h1
   ·obtain rfl := Option.some.inj h1
    exact hkv.step hui.lev
   ·cases h1
  ·exact h.kv j v q h1 h2
 ·exact (hkv.tk e1 (hE.1 ⟨e1,e2⟩).2).1
end
def WL (s : AS) : Prop := ∀ x ∈ s.sl,x.1 < 18446744073709551616
section
variable {c : Cfg} {s t : AS} {cs : List Chn} {u : US} {k : List Int × List Int} {E : List (List Int × List Int)} {M : Nat}
theorem WL.w (h : WL s) (k : Int) : s.w k < 18446744073709551616 := by
 unfold AS.w
 by_cases hk : (k - 1).toNat < s.sl.length
 ·rw [List.getD_eq_getElem?_getD,List.getElem?_eq_getElem hk]
  exact h _ (List.getElem_mem hk)
 ·rw [List.getD_eq_getElem?_getD,List.getElem?_eq_none (by omega)]
  decide
theorem WL.setw (h : WL s) (k : Int) {x : Nat} (hx : x < 18446744073709551616) : WL (s.setw k x) := fun y hy => by
 rcases List.mem_or_eq_of_mem_set hy with g | rfl
 ·exact h y g
 ·exact hx
theorem WL.setn (h : WL s) (k : Int) (p : NP) : WL (s.setn k p) := fun y hy => by
 rcases List.mem_or_eq_of_mem_set hy with g | rfl
 ·exact h y g
 ·exact h.w k
theorem WL.lock (h : WL s) (k : Int) (x : Nat) (hx : x < 18446744073709551616) : WL (s.lockS k x) := by
 unfold AS.lockS
 split
 ·rename_i g
  exact h.setw k (by omega)
 ·exact h
theorem WL.unl (h : WL s) (k : Int) (b : Bool) : WL (s.unlS k b) := by
 unfold AS.unlS
 split
 ·have := h.w k
  refine h.setw k ?_
  unfold freeW
  split
  ·exact Nat.mod_lt _ (by decide)
  ·omega
 ·exact h
theorem WL.bod (h : WL s) (k : Int) (a b : List (List Int)) (d : List Int) : WL (s.bodS k a b d) := by
 unfold AS.bodS
 split
 ·exact h.setn _ _
 ·exact h
theorem WL.hed (h : WL s) (k : Int) (a : Int) (b : List Int) (d : Int) : WL (s.hedS k a b d) := by
 unfold AS.hedS
 split
 ·exact h.setn _ _
 ·exact h
theorem WL.all (h : WL s) : WL s.allS := by
 unfold AS.allS
 split
 ·intro y hy
  rcases List.mem_append.1 hy with g | g
  ·exact h y g
  ·rw [List.mem_singleton.1 g]; decide
 ·exact h
theorem WL.gro (h : WL s) (a b : Int) : WL (s.groS a b) := by
 unfold AS.groS
 split
 ·exact h
 ·exact h
theorem lockB_w {k : Int} {x : Nat} (h : s.lockB k x = true) : s.w k = x := (of_decide_eq_true h).2.1
theorem WL.act (h : WL s) (u : US) : WL (u.act s).s := by
 unfold US.act
 split
 ·exact h
 ·simp only
  split
  ·exact h
  ·split
   ·exact h
   ·split <;> exact h
 ·split
  ·rename_i g
   exact h.lock _ _ (by rw [← lockB_w g]; exact h.w _)
  ·exact h
 ·exact h.bod _ _ _ _
 ·exact h.unl _ _
 ·split <;> exact h.unl _ _
 ·split <;> exact h.all
 ·simp only
  split
  ·exact h.hed _ _ _ _
  ·split
   ·exact h.bod _ _ _ _
   ·split
    ·exact h.hed _ _ _ _
    ·split
     ·exact h.bod _ _ _ _
     ·exact h.unl _ _
 ·exact h.unl _ _
 ·exact h
 ·split <;> exact h.all
 ·exact h.hed _ _ _ _
 ·exact h.bod _ _ _ _
 ·exact h.unl _ _
 ·split
  ·exact h.gro _ _
  ·exact h
 ·exact h
theorem WL.step (h : WL s) (u : US) : WL (u.step s).s := by
 unfold US.step
 split
 ·exact h
 ·split
  ·exact h.act u
  ·exact h.act u
structure WA (c : Cfg) (s t : AS) (cs : List Chn) (u : US) (k : List Int × List Int) (E : List (List Int × List Int)) (M : Nat) : Prop where
 g : WG c s t cs [u] M
 mp : mp t cs = E
 am : Am t cs
 sb : SB s
 wl : WL s
 ub : UB u M
 kv : KV k.1 k.2 u
 nod : s.nodes = c.nd
 cfg : cfgOk c.nd c.lf c.inn c.fl c.bk ∧ c.nd ≤ 1000
theorem WA.ui (h : WA c s t cs u k E M) : UI c s t (CU [u]) cs u M := h.g.ui 0 u rfl
theorem WA.nd (h : WA c s t cs u k E M) : (s.sl.length : Int) ≤ c.nd := by rw [← h.nod]; exact h.sb.2
theorem WA.few (h : WA c s t cs u k E M) : cs.length ≤ 10 := by
 have h1 := h.g.vt.len
 have h2 := h.nd
 have h3 := h.cfg.2
 exact h.am.few h.g.vt.tre (by omega)
theorem WA.step (h : WA c s t cs u k E M) (hM : M < 4611686018427387904) :
  ∃ t' cs',WA c (u.step s).s t' cs' (u.step s).u k (if (u.step s).tk = true ∧ (u.step s).er = 0 then mset k.1 k.2 E else E) (M + 1) ∧ (u.nx ≠ 14 → Upl cs cs' u.lev.toNat) ∧ ((u.step s).er = 0 ∨ ((u.step s).er = 3 ∧ u.nx = 0) ∨ ((u.step s).er = 2 ∧ u.nx = 5)) ∧ Cn u (u.step s) t cs t' cs' := by
 obtain ⟨t',cs',q1,q2,q3,q4,q5,q6,q7⟩ := h.g.step (i := 0) rfl h.cfg.1 (fun k _ => h.wl.w k) (by omega) h.nd (by have := h.few; omega)
 refine ⟨t',cs',⟨q1,?_,q5 h.am,h.sb.step h.g.vt h.ui h.cfg.1 h.nd,h.wl.step u,h.ub.step h.sb.n,h.kv.step h.ui.lev,q3.trans h.nod,h.cfg⟩,q6,q4,q7⟩
 rw [q2,h.mp]
 by_cases e : (u.step s).tk = true ∧ (u.step s).er = 0
 ·rw [if_pos e,if_pos e]
  obtain ⟨_,e3,e4⟩ := h.kv.tk e.1 e.2
  rw [e3,e4]
 ·rw [if_neg e,if_neg e]
theorem WA.even (h : WA c s t cs u k E M) (hn : ∀ k,¬ u.odd k) : ∀ id,s.inn id → s.w id % 2 = 0 := fun id hi => by
 refine Decidable.byContradiction fun hc => ?_
 obtain ⟨i,v,h1,h2⟩ := h.g.odd id hi (by omega)
 cases i with
 | zero =>
  obtain rfl := Option.some.inj h1
  exact hn id h2
 | succ i => simp at h1
theorem even_held (h : ∀ id,s.inn id → s.w id % 2 = 0) : s.held = [] := by
 unfold AS.held heldL heldN
 rw [List.map_eq_nil_iff,List.filter_eq_nil_iff]
 intro i hi
 rw [List.mem_range,List.length_map] at hi
 have h1 := h ((i : Int) + 1) (by unfold AS.inn; omega)
 have e : (s.sl.map (·.1)).getD i 0 = s.w ((i : Int) + 1) := by
  unfold AS.w
  rw [show ((i : Int) + 1 - 1).toNat = i by omega,List.getD_eq_getElem?_getD,List.getD_eq_getElem?_getD,List.getElem?_map]
  cases s.sl[i]? <;> rfl
 rw [e]
 simp only [decide_eq_true_eq]
 omega
def undN (nx : Nat) (pc : Int) : Nat :=
 match nx with
 | 3 => 1
 | 4 => 2
 | 5 => 2
 | 6 => 1
 | 7 => 2 + pc.toNat
 | 8 => 7
 | 11 => 1
 | 12 => 2
 | 13 => 3
 | _ => 0
def US.und (u : US) : Nat := undN u.nx u.pc
end
section
variable {c : Cfg} {s t : AS} {cs : List Chn} {u : US} {k : List Int × List Int} {E : List (List Int × List Int)} {M : Nat}
theorem WA.tre (h : WA c s t cs u k E M) (hn : ∀ k,¬ u.odd k) : Tre s c.nd c.lf c.inn c.fl c.bk cs ∧ Am s cs := by
 have hev := h.even hn
 have hvt := h.g.vt
 have hq : ∀ (l : Nat) (x : Int × List Int),memL cs l x → s.n x.1 = t.n x.1 := fun l x hm => hvt.rd l x hm (.inl (hev _ ((hvt.inn _).1 (hvt.tre.ckk hm).2.2)))
 exact ⟨hvt.tre.same (t := s) hvt.root.symm (fun k hk => (hvt.inn k).1 hk) hq,h.am.same hq⟩
theorem WA.snd (h : WA c s t cs u k E M) (hn : ∀ k,¬ u.odd k) : Snd s c.nd c.lf c.inn c.fl c.bk cs.reverse := (h.tre hn).1.snd h.cfg.1 (h.even hn)
def urun : Nat → US × AS → US × AS
 | 0,p => p
 | n + 1,p => urun n ((p.1.step p.2).u,(p.1.step p.2).s)
theorem urun_add (a b : Nat) (p : US × AS) : urun (a + b) p = urun b (urun a p) := by
 induction a generalizing p with
 | zero => rw [Nat.zero_add]; rfl
 | succ a ih => rw [Nat.succ_add]; exact ih _
theorem urun_last (n : Nat) (p : US × AS) : urun (n + 1) p = (((urun n p).1.step (urun n p).2).u,((urun n p).1.step (urun n p).2).s) := by
 rw [urun_add n 1 p]; rfl
def Ends (n : Nat) (u : US) (s : AS) : Prop := ∃ m,m ≤ n ∧ 15 ≤ (urun m (u,s)).1.nx
theorem Ends.mono {n m : Nat} (h : Ends n u s) (hm : n ≤ m) : Ends m u s := by
 obtain ⟨a,h1,h2⟩ := h
 exact ⟨a,Nat.le_trans h1 hm,h2⟩
theorem descT {nd lf inn fl bk : Int} {ls : List Chn} (h : Snd s nd lf inn fl bk ls) (key : List Int) (lev : Nat) (hlt : lev < ls.length) :
  ∃ k,k ≤ 1 + 4 * cntC (ls.take (ls.length - lev)) ∧ ∃ x ∈ ls.getD (ls.length - 1 - lev) [],∃ mo',(MS.new key lev).run s k = ⟨key,lev,5,x.1,s.w x.1,s.n x.1,0,mo'⟩ ∧ beyB (s.n x.1).hi key = false ∧ 0 ≤ cmpI key x.2 := by
 have hlen := h.lv.len
 have hlv := h.lv
 have hin := h.in_
 generalize hL : (s.rd s.root).lv = L at *
 cases ls with
 | nil => exact hlv.elim
 | cons c r =>
  obtain ⟨g1,g2,_,g4⟩ := hlv
  obtain ⟨q,rfl⟩ := g1.head
  have e0 : (MS.new key lev).run s 1 = ⟨key,lev,1,s.root,0,NP.zero,0,0⟩ := rfl
  have e1 : (((s.root,[]) :: q : Chn) :: r).length - lev = (L - (lev : Int)).toNat + 1 := by
   rw [List.length_cons] at hlen hlt ⊢
   omega
  rw [e1,List.take_succ_cons,cntC_cons]
  obtain ⟨k,hk,x,hx,mo',e3,e4,e5⟩ := wayT (nd := nd) (lf := lf) (inn := inn) (fl := fl) (bk := bk) (key := key) (lev := lev) h.ev (by omega) _ L s.root [] ((s.root,[]) :: q) ((s.root,[]) :: q) r 0 NP.zero 0 0 (Nat.le_refl _) g1 (fun _ h => h) g2 (hin _ List.mem_cons_self) (fun d hd => hin d (List.mem_cons_of_mem _ hd)) g4 (cmp_nil_le key) (by omega)
  refine ⟨1 + k,by omega,x,?_,mo',by rw [MS.run_add,e0,e3],e4,e5⟩
  rw [show (((s.root,[]) :: q : Chn) :: r).length - 1 - lev = (L - lev).toNat by omega]
  exact hx
theorem descN {nd lf inn fl bk : Int} {ls : List Chn} (h : Snd s nd lf inn fl bk ls) (key : List Int) : (MS.new key (ls.length : Nat)).run s 5 = ⟨key,(ls.length : Nat),6,0,0,NP.zero,0,0⟩ := by
 have hlen := h.lv.len
 have hlv := h.lv
 have hin := h.in_
 generalize hL : (s.rd s.root).lv = L at *
 cases ls with
 | nil => exact hlv.elim
 | cons c r =>
  obtain ⟨g1,g2,_,g4⟩ := hlv
  obtain ⟨q,rfl⟩ := g1.head
  have hroot : s.inn s.root := hin _ List.mem_cons_self _ List.mem_cons_self
  generalize hN : (((s.root,[]) :: q : Chn) :: r).length = N at *
  have e0 : (MS.new key (N : Nat)).run s 1 = ⟨key,(N : Nat),1,s.root,0,NP.zero,0,0⟩ := rfl
  have hrl := g2.lv _ List.mem_cons_self
  have h4 := ms_four (key := key) (lev := (N : Nat)) (wd := 0) (nd := NP.zero) (an := 0) (mo := 0) hroot (h.ev _ hroot)
  rw [MS.choose,if_pos (by simp only; simp only at hrl; omega)] at h4
  rw [show (5 : Nat) = 1 + 4 from rfl,MS.run_add,e0,h4]
  rfl
theorem first_run {m0 : MS} : ∀ (N : Nat),5 ≤ (m0.run s N).nx → ∃ J,J ≤ N ∧ 5 ≤ (m0.run s J).nx ∧ ∀ i,i < J → (m0.run s i).nx < 5
 | 0,h => ⟨0,Nat.le_refl _,h,fun i hi => absurd hi (Nat.not_lt_zero i)⟩
 | N + 1,h => by
  by_cases h5 : 5 ≤ (m0.run s N).nx
  ·obtain ⟨J,h1,h2,h3⟩ := first_run N h5
   exact ⟨J,by omega,h2,h3⟩
  ·by_cases hj : ∃ J,J ≤ N ∧ 5 ≤ (m0.run s J).nx
   ·obtain ⟨J,q1,q2⟩ := hj
    exfalso
    have := MS.run_end q2 q1
    rw [this] at h5
    exact h5 q2
   ·exact ⟨N + 1,Nat.le_refl _,h,fun i hi => Nat.lt_of_not_le fun g => hj ⟨i,by omega,g⟩⟩
theorem act_one (h : u.nx = 1) : u.act s = if (u.m.step s).nx < 5 then ⟨{ u with way := some (u.m.step s) },s,false,0⟩ else if (u.m.step s).id ≠ 0 then ⟨{ u with way := some (u.m.step s),nx := 2 },s,false,0⟩ else if u.lev = 0 then ⟨{ u with way := some (u.m.step s) },s,false,101⟩ else ⟨{ u with way := some (u.m.step s),nx := 9 },s,false,0⟩ := by
 unfold US.act
 rw [h]
theorem down_run {m0 : MS} (hx : u.nx = 1) (hw : u.way = some m0) : ∀ (j : Nat),(∀ i,i ≤ j → (m0.run s i).nx < 5) → urun j (u,s) = ({ u with way := some (m0.run s j) },s)
 | 0,_ => by
  show (u,s) = ({ u with way := some m0 },s)
  rw [← hw]
 | j + 1,h => by
  rw [urun_last,down_run hx hw j (fun i hi => h i (by omega))]
  have e1 : ({ u with way := some (m0.run s j) } : US).act s = ⟨{ u with way := some (m0.run s (j + 1)) },s,false,0⟩ := by
   rw [act_one (u := { u with way := some (m0.run s j) }) hx]
   have e2 : ({ u with way := some (m0.run s j) } : US).m.step s = m0.run s (j + 1) := rfl
   rw [e2,if_pos (h (j + 1) (Nat.le_refl _))]
  have e4 : ({ u with way := some (m0.run s j) } : US).step s = ⟨{ u with way := some (m0.run s (j + 1)) },s,false,0⟩ := by
   unfold US.step
   rw [if_neg (by simp only; omega),e1,if_pos rfl]
  rw [e4]
theorem down_end {m0 : MS} (hx : u.nx = 1) (hw : u.way = some m0) {N : Nat} (h0 : m0.nx < 5) (hN : 5 ≤ (m0.run s N).nx) (hl : (m0.run s N).id ≠ 0 ∨ u.lev ≠ 0) : ∃ j,j ≤ N ∧ urun j (u,s) = ({ u with way := some (m0.run s N),nx := if (m0.run s N).id ≠ 0 then 2 else 9 },s) ∧ ∀ i,i < j → ∃ w,urun i (u,s) = ({ u with way := w },s) := by
 obtain ⟨J,h1,h2,h3⟩ := first_run N hN
 have hJ : m0.run s N = m0.run s J := MS.run_end h2 h1
 rw [hJ] at hl ⊢
 cases J with
 | zero => exact absurd h2 (by show ¬ 5 ≤ m0.nx; omega)
 | succ j =>
  refine ⟨j + 1,h1,?_,fun i hi => ⟨_,down_run hx hw i (fun q hq => h3 q (by omega))⟩⟩
  rw [urun_last,down_run hx hw j (fun i hi => h3 i (by omega))]
  have e2 : ({ u with way := some (m0.run s j) } : US).m.step s = m0.run s (j + 1) := rfl
  have e1 : ({ u with way := some (m0.run s j) } : US).act s = ⟨{ u with way := some (m0.run s (j + 1)),nx := if (m0.run s (j + 1)).id ≠ 0 then 2 else 9 },s,false,0⟩ := by
   rw [act_one (u := { u with way := some (m0.run s j) }) hx,e2,if_neg (by omega)]
   by_cases hi : (m0.run s (j + 1)).id ≠ 0
   ·rw [if_pos hi,if_pos hi]
   ·rw [if_neg hi,if_neg hi]
    exact if_neg (hl.resolve_left hi)
  have e4 : ({ u with way := some (m0.run s j) } : US).step s = ⟨{ u with way := some (m0.run s (j + 1)),nx := if (m0.run s (j + 1)).id ≠ 0 then 2 else 9 },s,false,0⟩ := by
   unfold US.step
   rw [if_neg (by simp only; omega),e1,if_pos rfl]
  rw [e4]
theorem WA.stepE (h : WA c s t cs u k E M) (hM : M < 4611686018427387904) (h0 : u.nx ≠ 0) (h5 : u.nx ≠ 5) (h15 : u.nx < 15) : u.step s = u.act s ∧ (u.act s).er = 0 := by
 obtain ⟨_,_,_,_,he,_⟩ := h.step hM
 have he0 : (u.step s).er = 0 := by
  rcases he with e | e | e
  ·exact e
  ·exact absurd e.2 h0
  ·exact absurd e.2 h5
 have ha : (u.act s).er = 0 := by
  unfold US.step at he0
  rw [if_neg (by omega)] at he0
  by_cases g : (u.act s).er = 0
  ·exact g
  ·rw [if_neg g] at he0
   exact he0
 exact ⟨by unfold US.step; rw [if_neg (by omega),if_pos ha],ha⟩
end
def WX (c : Cfg) (s : AS) (u : US) (k : List Int × List Int) (l : Nat) (cs0 : List Chn) (M : Nat) : Prop := ∃ t cs E,WA c s t cs u k E M ∧ ∀ j,l < j → cs[j]? = cs0[j]?
section
variable {c : Cfg} {s t : AS} {cs cs0 : List Chn} {u : US} {k : List Int × List Int} {E : List (List Int × List Int)} {M l : Nat}
theorem WX.step (h : WX c s u k l cs0 M) (hM : M < 4611686018427387904) (hl : u.lev.toNat = l) (h14 : u.nx ≠ 14) : WX c (u.step s).s (u.step s).u k l cs0 (M + 1) := by
 obtain ⟨t,cs,E,hA,hu⟩ := h
 obtain ⟨t',cs',h1,h2,_⟩ := hA.step hM
 refine ⟨t',cs',_,h1,fun j hj => ?_⟩
 rw [h2 h14 j (by omega)]
 exact hu j hj
theorem WX.stepE (h : WX c s u k l cs0 M) (hM : M < 4611686018427387904) (h0 : u.nx ≠ 0) (h5 : u.nx ≠ 5) (h15 : u.nx < 15) : u.step s = u.act s := by
 obtain ⟨t,cs,E,hA,_⟩ := h
 exact (hA.stepE hM h0 h5 h15).1
theorem WX.iter : ∀ (n : Nat) (u : US) (s : AS) (M : Nat),WX c s u k l cs0 M → M + n < 4611686018427387904 → (∀ i,i < n → (urun i (u,s)).1.lev.toNat = l ∧ (urun i (u,s)).1.nx ≠ 14) → WX c (urun n (u,s)).2 (urun n (u,s)).1 k l cs0 (M + n)
 | 0,u,s,M,h,_,_ => h
 | n + 1,u,s,M,h,hM,hi => by
  have h0 := hi 0 (by omega)
  have := WX.iter n _ _ (M + 1) (h.step (by omega) h0.1 h0.2) (by omega) (fun i hin => hi (i + 1) (by omega))
  rw [show M + (n + 1) = M + 1 + n by omega]
  exact this
theorem fate_nx (u : US) (n : NP) : (u.fate n).lev = u.lev ∧ ((u.fate n).nx = 3 ∨ (u.fate n).nx = 5 ∨ (u.fate n).nx = 6) := by
 unfold US.fate
 split
 ·refine ⟨rfl,?_⟩
  simp only
  split <;> simp
 ·split
  ·exact ⟨rfl,.inr (.inl rfl)⟩
  ·refine ⟨rfl,?_⟩
   simp only
   split <;> simp
theorem act_two (h : u.nx = 2) (hl : s.lockB u.m.id u.m.wd = true) : (u.act s).u.lev = u.lev ∧ ((u.act s).u.nx = 3 ∨ (u.act s).u.nx = 5 ∨ (u.act s).u.nx = 6) := by
 unfold US.act
 rw [h]
 simp only
 rw [if_pos hl]
 exact fate_nx _ _
theorem act_three (h : u.nx = 3) : (u.act s).u = { u with nx := 4 } := by unfold US.act; rw [h]
theorem act_four (h : u.nx = 4) : (u.act s).u = { u with nx := 15 } := by unfold US.act; rw [h]
theorem step_five (h : u.nx = 5) : (u.step s).u.nx = 15 := by
 have h1 : (u.act s).u.nx = 15 := by
  unfold US.act
  rw [h]
  simp only
  split <;> rfl
 unfold US.step
 rw [if_neg (by omega)]
 split
 ·exact h1
 ·rfl
theorem act_six (h : u.nx = 6) : (u.act s).u.lev = u.lev ∧ (((u.act s).u.nx = 7 ∧ (u.act s).u.pc = 0) ∨ (u.act s).u.nx = 5) := by
 unfold US.act
 rw [h]
 simp only
 split
 ·exact ⟨rfl,.inl ⟨rfl,rfl⟩⟩
 ·exact ⟨rfl,.inr rfl⟩
theorem act_seven (h : u.nx = 7) : (u.pc ≠ 4 → (u.act s).u = { u with pc := u.pc + 1 }) ∧ (u.pc = 4 → (u.act s).u = { u with pc := u.pc + 1,nx := 8 }) := by
 unfold US.act
 rw [h]
 simp only
 refine ⟨fun h4 => ?_,fun h4 => ?_⟩
 ·repeat' split
  all_goals first | (simp only [← h]; done) | (exfalso; omega)
 ·rw [if_neg (by omega),if_neg (by omega),if_neg (by omega),if_pos h4]
theorem act_eight (h : u.nx = 8) : (u.act s).u = ({ u with lft := u.hid,rgt := u.fid,sep := u.bet,lev := u.lev + 1 } : US).down := by unfold US.act; rw [h]
theorem act_nine (h : u.nx = 9) : u.act s = ⟨{ u with nx := if s.root = u.lft then 10 else 15 },s,false,0⟩ := by unfold US.act; rw [h]
theorem act_ten (h : u.nx = 10) : (u.act s).s = s.allS ∧ (((u.act s).u.nx = 11 ∧ (u.act s).u.lft = u.lft) ∨ (u.act s).u.nx = 15) := by
 unfold US.act
 rw [h]
 simp only
 split
 ·exact ⟨rfl,.inl ⟨rfl,rfl⟩⟩
 ·exact ⟨rfl,.inr rfl⟩
theorem act_e (h : u.nx = 11) : (u.act s).u = { u with nx := 12 } ∧ (u.act s).s.root = s.root := by
 unfold US.act
 rw [h]
 refine ⟨rfl,?_⟩
 simp only
 unfold AS.hedS
 split <;> rfl
theorem act_t (h : u.nx = 12) : (u.act s).u = { u with nx := 13 } ∧ (u.act s).s.root = s.root := by
 unfold US.act
 rw [h]
 refine ⟨rfl,?_⟩
 simp only
 unfold AS.bodS
 split <;> rfl
theorem act_f (h : u.nx = 13) : (u.act s).u = { u with nx := 14 } ∧ (u.act s).s.root = s.root := by
 unfold US.act
 rw [h]
 refine ⟨rfl,?_⟩
 simp only
 unfold AS.unlS
 split <;> rfl
theorem act_g (h : u.nx = 14) (hg : s.groB u.lft u.top = true) : (u.act s).u.nx = 15 := by
 unfold US.act
 rw [h]
 simp only
 rw [if_pos hg]
theorem all_root : s.allS.root = s.root := by
 unfold AS.allS
 split <;> rfl
end
section
variable {c : Cfg} {s t : AS} {cs cs0 : List Chn} {u : US} {k : List Int × List Int} {E : List (List Int × List Int)} {M l : Nat}
def Up (c : Cfg) (k : List Int × List Int) (l : Nat) (cs0 : List Chn) (M : Nat) (u : US) (s : AS) : Prop := WX c s u k l cs0 M ∧ u.nx = 1 ∧ u.way = some (MS.new u.sep u.lev) ∧ u.lev.toNat = l + 1
def EndsUp (c : Cfg) (k : List Int × List Int) (l : Nat) (cs0 : List Chn) (M : Nat) (n : Nat) (u : US) (s : AS) : Prop := Ends n u s ∨ ∃ j,j ≤ n ∧ Up c k l cs0 (M + j) (urun j (u,s)).1 (urun j (u,s)).2
theorem EndsUp.mono {n m : Nat} (h : EndsUp c k l cs0 M n u s) (hm : n ≤ m) : EndsUp c k l cs0 M m u s := by
 rcases h with h | ⟨j,h1,h2⟩
 ·exact .inl (h.mono hm)
 ·exact .inr ⟨j,by omega,h2⟩
theorem one_odd (hx : u.nx = 1) : ∀ k,¬ u.odd k := fun k h => by simp [US.odd,US.hol,hx] at h
theorem drop_same {a b : List Chn} {l : Nat} (h : ∀ j,l < j → a[j]? = b[j]?) : a.drop (l + 1) = b.drop (l + 1) := by
 refine List.ext_getElem? fun i => ?_
 rw [List.getElem?_drop,List.getElem?_drop]
 exact h _ (by omega)
end
section
variable {W w1 w2 : World} {P A : Nat} {D F D1 F1 : Nat → Prop} {m m1 : UM} {u u1 u2 : US} {s s1 : AS}
theorem UQ.texts {k v : Tx} {N : Nat} (h : UQ W P A D F m m1 D1 F1 u1 s1 w1) (hN : W.heap.size ≤ N ∧ ∀ x,D1 x ∨ F1 x → x < N) (hP : P < N) (hk : OwnB w1 N 5 k.v k.s) (hko : k.Ok w1) (hv : OwnB w1 N 5 v.v v.s) (hvo : v.Ok w1) (hu : Upd (fun k => k = P) w1 w2) (hc : w2.heap[P]? = some (.cells (ucel P A { m1 with st := k,vt := v } u2) 109 (0,0))) (ha : ({ u1 with sep := k.s,val := v.s } : US).alike u2) : ∃ D2,UQ W P A D F m { m1 with st := k,vt := v } D2 F1 u2 s1 w2 ∧ ∀ x,D2 x → D1 x ∨ N ≤ x := by
 obtain ⟨a1,a2,a3,a4,a5,a6⟩ := ha
 simp only at a1 a2 a3 a4 a5 a6
 have hs : ∀ x,D1 x → m1.pw ≠ some x → ¬ x = P := fun x hx _ e => h.up.pd (e ▸ hx)
 have hki := ownB_in hk
 have hvi := ownB_in hv
 have hpw : ∀ x,N ≤ x → m1.pw ≠ some x := fun x hx => by
  rcases h.up.w with h1 | ⟨p,ms,k,n,Dm,h1,h2,h3,h4,h5⟩
  ·rw [h1.1]; exact fun e => nomatch e
  ·rw [h1]; intro e; cases e; have := hN.2 _ (.inl h3); omega
 refine ⟨fun x => D1 x ∨ (N ≤ x ∧ x < w2.heap.size),⟨⟨hc,by rw [a1]; exact ⟨hvo.updL hu (fun x e _ e2 => by have := hvi x e; omega),rfl,fun x e _ => ⟨.inr ⟨(hvi x e).1,Nat.lt_of_lt_of_le (hvi x e).2 hu.size⟩,hpw _ (hvi x e).1⟩⟩,by rw [a2]; exact ⟨hko.updL hu (fun x e _ e2 => by have := hki x e; omega),rfl,fun x e _ => ⟨.inr ⟨(hki x e).1,Nat.lt_of_lt_of_le (hki x e).2 hu.size⟩,hpw _ (hki x e).1⟩⟩,by rw [a3]; exact h.up.b.keep hu hs (fun _ hx => .inl hx) (fun _ _ hx => hx),by rw [a4]; exact h.up.h.keep hu hs (fun _ hx => .inl hx) (fun _ _ hx => hx),by rw [a5]; exact h.up.f.keep hu hs (fun _ hx => .inl hx) (fun _ _ hx => hx),?_,?_,?_⟩,h.px.upd hu (fun k hk => (h.ap k hk).2),?_,h.f,?_,h.u.trans (hu.mono (fun _ _ e => .inl e))⟩,fun x hx => hx.imp id (fun hx => hx.1)⟩
 ·rw [a6]
  rcases h.up.w with h1 | ⟨p,ms,k,n,Dm,h1,h2,h3,h4,h5⟩
  ·exact .inl h1
  ·refine .inr ⟨p,ms,k,n,Dm,h1,h2,.inl h3,h4.upd hu (fun x hx e => ?_),fun x hx => .inl (h5 x hx)⟩
   rcases hx with rfl | hx
   ·exact h.up.pd (e ▸ h3)
   ·exact h.up.pd (e ▸ h5 x hx)
 ·rintro (h1 | h1)
  ·exact h.up.pd h1
  ·omega
 ·rintro x (h1 | h1)
  ·exact Nat.lt_of_lt_of_le (h.up.lt x h1) hu.size
  ·exact h1.2
 ·rintro x (h1 | h1)
  ·exact h.d x h1
  ·exact .inr (Nat.le_trans hN.1 h1.1)
 ·intro x hx
  refine ⟨?_,(h.ap x hx).2⟩
  rintro (h1 | h1)
  ·exact (h.ap x hx).1 h1
  ·have := hN.2 x (.inr hx); omega
def uNw (key value : List Int) : Prop := 1 ≤ key.length ∧ key.length ≤ 64 ∧ value.length ≤ 256
instance (key value : List Int) : Decidable (uNw key value) := by unfold uNw; exact inferInstance
set_option maxHeartbeats 1600000 in
theorem umay_any (a b : Option Addr) (l c l2 c2 : Nat) (w : World) : Calls Tryz.prog 42 #[.slice a l c,.slice b l2 c2] w fun e w' => e = .returned (.bool (decide (1 ≤ l ∧ l ≤ 64 ∧ l2 ≤ 256))) ∧ w' = w := by
 by_cases h1 : 1 ≤ l
 ·have j1 : (1 : Int) ≤ (l : Int) := by omega
  by_cases h2 : l ≤ 64
  ·have j2 : (l : Int) ≤ 64 := by omega
   by_cases h3 : l2 ≤ 256
   ·have j3 : (l2 : Int) ≤ 256 := by omega
    rw [decide_eq_true ⟨h1,h2,h3⟩]
    clear h1 h2 h3
    go_enter Tryz.func42,Tryz.ntmps42
    go_wp2_with fail
    go_ret
    exact ⟨rfl,rfl⟩
   ·have j3 : ¬ (l2 : Int) ≤ 256 := by omega
    rw [decide_eq_false (fun h => h3 h.2.2)]
    clear h1 h2 h3
    go_enter Tryz.func42,Tryz.ntmps42
    go_wp2_with fail
    go_ret
    exact ⟨rfl,rfl⟩
  ·have j2 : ¬ (l : Int) ≤ 64 := by omega
   rw [decide_eq_false (fun h => h2 h.2.1)]
   clear h1 h2
   go_enter Tryz.func42,Tryz.ntmps42
   go_wp2_with fail
   go_ret
   exact ⟨rfl,rfl⟩
 ·have j1 : ¬ (1 : Int) ≤ (l : Int) := by omega
  rw [decide_eq_false (fun h => h1 h.1)]
  clear h1
  go_enter Tryz.func42,Tryz.ntmps42
  go_wp2_with fail
  go_ret
  exact ⟨rfl,rfl⟩
def UNewP (W : World) (A : Nat) (F : Nat → Prop) (s : AS) (u : US) (e : Ending) (w' : World) : Prop := ∃ P m D F',e = .returned (.pointer (some ⟨P,0,none⟩)) ∧ UP w' P A D m u ∧ PX w' A F' s ∧ W.heap.size ≤ P ∧ (∀ x,D x → W.heap.size ≤ x) ∧ (∀ x,F' x → F x ∨ W.heap.size ≤ x) ∧ (∀ x,F' x → ¬ D x ∧ x ≠ P) ∧ Upd F W w'
def u00 (c : Cfg) : US := ⟨c,[],15,0,[],none,0,NP.zero,0,NP.zero,[],0,0,0,0,false,0⟩
def m00 : UM := ⟨⟨none,0,[]⟩,⟨none,0,[]⟩,⟨none,0,[]⟩,Nd.zero,Nd.zero,none⟩
theorem up_zero {Y : World} (c : Cfg) (h : Y.heap[P]? = some (.cells (ucel P A m00 (u00 c)) 109 (0,0))) : UP Y P A (fun _ => False) m00 (u00 c) :=
 ⟨h,⟨Tx.nil_ok _,rfl,fun x e => (by cases e)⟩,⟨Tx.nil_ok _,rfl,fun x e => (by cases e)⟩,⟨Tx.nil_ok _,rfl,fun x e => (by cases e)⟩,⟨Nd.zero_ok _,rfl,Nd.zero_in _⟩,⟨Nd.zero_ok _,rfl,Nd.zero_in _⟩,.inl ⟨rfl,rfl⟩,fun e => e,fun _ e => e.elim⟩
set_option maxHeartbeats 6400000 in
theorem unew_any (hp : PX W A F s) (c : Cfg) (k v : Tx) (hk : k.Ok W) (hv : v.Ok W) : Calls Tryz.prog 11 #[.pointer (some ⟨A,0,none⟩),c.v,k.v,v.v] W (UNewP W A F s (US.new c k.s v.s)) := by
 obtain ⟨Q,hQ⟩ : ∃ Q,Q = UNewP W A F s (US.new c k.s v.s) := ⟨_,rfl⟩
 obtain ⟨nd,lf,inn,fl,bk⟩ := c
 obtain ⟨wa,hwa⟩ : ∃ wa,wa = W.alloc (.cells #[.int .i64 nd,.int .i64 lf,.int .i64 inn,.int .i64 fl,.int .i64 bk] 23) := ⟨_,rfl⟩
 have ba : Below W.heap.size W wa := by rw [hwa]; exact (Below.refl _ _).alloc (Nat.le_refl _) _
 have ga : wa.heap[W.heap.size]? = some (.cells #[.int .i64 nd,.int .i64 lf,.int .i64 inn,.int .i64 fl,.int .i64 bk] 23 (0,0)) := by rw [hwa]; exact heap_alloc_new W _
 obtain ⟨P,hP⟩ : ∃ P,P = wa.heap.size := ⟨_,rfl⟩
 have hPW : W.heap.size ≤ P := by rw [hP]; exact ba.size
 obtain ⟨wb,hwb⟩ : ∃ wb,wb = wa.alloc (.cells (ucel P A m00 (u00 ⟨nd,lf,inn,fl,bk⟩)) 109) := ⟨_,rfl⟩
 have bb : Below wa.heap.size wa wb := by rw [hwb]; exact (Below.refl _ _).alloc (Nat.le_refl _) _
 have gb : wb.heap[P]? = some (.cells (ucel P A m00 (u00 ⟨nd,lf,inn,fl,bk⟩)) 109 (0,0)) := by rw [hwb,hP]; exact heap_alloc_new wa _
 have bW : Below W.heap.size W wb := ba.trans (bb.mono ba.size)
 have q0 : UQ wb P A (fun _ => False) F m00 m00 (fun _ => False) F (u00 ⟨nd,lf,inn,fl,bk⟩) s wb := UQ.begin (up_zero _ gb) (hp.upd (S := Noth) (Upd.of_below bW _) (fun _ _ e => e)) (fun x hx => ⟨fun e => e,fun e => by have := hp.lt x hx; omega⟩)
 have HQ : Hid (∀ m' D' F' u' w',UQ wb P A (fun _ => False) F m00 m' D' F' u' s w' → u' = US.new ⟨nd,lf,inn,fl,bk⟩ k.s v.s → Q (.returned (.pointer (some ⟨P,0,none⟩))) w') := fun m' D' F' u' w' q e => by
  rw [hQ]
  subst e
  refine ⟨P,m',D',F',rfl,q.up,q.px,hPW,fun x hx => ?_,fun x hx => ?_,q.ap,?_⟩
  ·rcases q.d x hx with h1 | h1
   ·exact h1.elim
   ·exact Nat.le_trans bW.size h1
  ·rcases q.f x hx with h1 | h1
   ·exact .inl h1
   ·exact .inr (Nat.le_trans bW.size h1)
  ·refine (Upd.of_below bW F).transN q.u (fun x hx e => ?_)
   rcases e with e | e | e
   ·omega
   ·cases e
   ·exact e
 rw [← hQ]
 obtain ⟨ka,kc,kz⟩ := k
 obtain ⟨va,vc,vz⟩ := v
 simp only [Tx.v] at *
 obtain ⟨kl,hkl⟩ : ∃ x,kz.length = x := ⟨_,rfl⟩
 obtain ⟨vl,hvl⟩ : ∃ x,vz.length = x := ⟨_,rfl⟩
 rw [hkl,hvl]
 have HMB : Hid (∀ w,Calls Tryz.prog 42 #[.slice ka kl kc,.slice va vl vc] w fun e w' => e = .returned (.bool (decide (uNw kz vz))) ∧ w' = w) := fun w => by
  have := umay_any ka va kl kc vl vc w
  rw [← hkl,← hvl] at this ⊢
  exact this
 have HCK : Hid (∀ W',Below W.heap.size W W' → Calls Tryz.prog 44 #[.slice ka kl kc] W' fun e w' => ∃ v,e = .returned v ∧ OwnB w' W'.heap.size 5 v kz ∧ Below W'.heap.size W' w') := fun W' hb => bclone_any ka kl kc kz W' hkl (by have := hk.z; simp only [hkl] at this; omega) (fun e => by have := hk.n e; simp only [hkl] at this; exact this) (hk.below hb).r
 have HCV : Hid (∀ W',Below W.heap.size W W' → Calls Tryz.prog 44 #[.slice va vl vc] W' fun e w' => ∃ v,e = .returned v ∧ OwnB w' W'.heap.size 5 v vz ∧ Below W'.heap.size W' w') := fun W' hb => bclone_any va vl vc vz W' hvl (by have := hv.z; simp only [hvl] at this; omega) (fun e => by have := hv.n e; simp only [hvl] at this; exact this) (hv.below hb).r
 have HKB : Hid ((B8 kz ∧ kz.length ≤ 140737488351232) ∧ (B8 vz ∧ vz.length ≤ 140737488351232)) := ⟨⟨hk.b8,hk.z⟩,⟨hv.b8,hv.z⟩⟩
 have HLL := hide (And.intro hkl hvl)
 have HQ0 := hide q0
 have HPB := hide (lt_of_block gb)
 have HBW := hide bW
 have x0 : wa.cell? ⟨W.heap.size,0,none⟩ = some (.int .i64 nd) := by rw [cell_of_row _ _ _ _ _ _ ga]; rfl
 have x1 : wa.cell? ⟨W.heap.size,1,none⟩ = some (.int .i64 lf) := by rw [cell_of_row _ _ _ _ _ _ ga]; rfl
 have x2 : wa.cell? ⟨W.heap.size,2,none⟩ = some (.int .i64 inn) := by rw [cell_of_row _ _ _ _ _ _ ga]; rfl
 have x3 : wa.cell? ⟨W.heap.size,3,none⟩ = some (.int .i64 fl) := by rw [cell_of_row _ _ _ _ _ _ ga]; rfl
 have x4 : wa.cell? ⟨W.heap.size,4,none⟩ = some (.int .i64 bk) := by rw [cell_of_row _ _ _ _ _ _ ga]; rfl
 have fz := frozen_of gb 7
 have d7 : wb.cell? ⟨P,7,none⟩ = some .nilFunc := by rw [cell_of_row _ _ _ _ _ _ gb]; rfl
 have HWA := hide hwa
 have HWB := hide hwb
 have HPE := hide hP
 simp only [ucel,m00,u00,uxV,pwV,Tx.v,TL.v,IL.v,Nd.zero,List.length_nil] at HWB
 clear q0 gb bW bb ba ga hwa hwb hQ hP hk hv hkl hvl hp hPW
 simp only [Cfg.v]
 go_enter Tryz.func11,Tryz.ntmps11
 go_upto_region 1 with fail
 rw [← HWA.out]
 clear HWA
 go_upto_region 2 with fail
 rw [← HWB.out,← HPE.out]
 clear HWB x0 x1 x2 x3 x4
 go_wp2_with fail
 refine keep (HMB.out _) ?_
 clear HMB
 by_cases hkv : uNw kz vz
 case neg =>
  rw [decide_eq_false hkv]
  have HF : Hid (Q (.returned (.pointer (some ⟨P,0,none⟩))) (wb.setCell ⟨P,7,none⟩ (uxV P 0))) := HQ.out _ _ _ { u00 ⟨nd,lf,inn,fl,bk⟩ with nx := 0 } _ (HQ0.out.own (updP (Upd.refl _ _) _ _) (block_setCell HQ0.out.up.c 7 _) ⟨rfl,rfl,rfl,rfl,rfl,rfl⟩) (by have hk2 := hkv; unfold uNw at hk2; unfold US.new; rw [if_neg hk2]; rfl)
  simp only [uxV] at HF
  clear HQ HCK HCV hkv
  go_wp2_with fail
  exact HF.out
 rw [decide_eq_true hkv]
 have HUN : Hid (US.new ⟨nd,lf,inn,fl,bk⟩ kz vz = ({ u00 ⟨nd,lf,inn,fl,bk⟩ with sep := kz,val := vz } : US).down) := by show _ = _; have hk2 := hkv; unfold uNw at hk2; unfold US.new; rw [if_pos hk2]; rfl
 clear hkv d7 fz
 go_wp2_with fail
 refine (HCK.out _ HBW.out).mono ?_
 rintro e w3 ⟨kv,rfl,hko,hb3⟩
 obtain ⟨na,nc,rfl,_,_⟩ := hko.slice
 have HKO := hide hko
 have HB3 := hide hb3
 have HB3W := hide (HBW.out.trans (hb3.mono HBW.out.size))
 clear hko hb3
 rw [HLL.out.1] at HKO ⊢
 go_wp2_with fail
 refine (HCV.out _ HB3W.out).mono ?_
 rintro e w4 ⟨vv,rfl,hvo,hb4⟩
 obtain ⟨ua,uc,rfl,_,_⟩ := hvo.slice
 rw [HLL.out.2] at hvo ⊢
 have q4 := HQ0.out.below (HB3.out.trans (hb4.mono HB3.out.size))
 have hko4 : OwnB w4 wb.heap.size 5 (⟨na,nc,kz⟩ : Tx).v (⟨na,nc,kz⟩ : Tx).s := by simp only [Tx.v,HLL.out.1]; exact HKO.out.below hb4
 have hvo4 : OwnB w4 wb.heap.size 5 (⟨ua,uc,vz⟩ : Tx).v (⟨ua,uc,vz⟩ : Tx).s := by simp only [Tx.v,HLL.out.2]; exact hvo.mono HB3.out.size
 have kk := ownB_ok (x := ⟨na,nc,kz⟩) hko4 HKB.out.1.1 HKB.out.1.2
 have vk := ownB_ok (x := ⟨ua,uc,vz⟩) hvo4 HKB.out.2.1 HKB.out.2.2
 have g4 := q4.up.c
 have fz := fun j => frozen_of g4 j
 have d9 : w4.cell? ⟨P,9,none⟩ = some (.slice none 0 0) := q4.up.cell 9 _ rfl
 have g5 := block_setCell g4 9 (.slice na kl nc)
 have fz5 := fun j => frozen_of g5 j
 have d6 : (w4.setCell ⟨P,9,none⟩ (.slice na kl nc)).cell? ⟨P,6,none⟩ = some (.slice none 0 0) := by rw [cell_of_row _ _ _ _ _ _ g5]; rfl
 obtain ⟨w6,hw6⟩ : ∃ w6,w6 = (w4.setCell ⟨P,9,none⟩ (.slice na kl nc)).setCell ⟨P,6,none⟩ (.slice ua vl uc) := ⟨_,rfl⟩
 obtain ⟨D6,q6,_⟩ := q4.texts (k := ⟨na,nc,kz⟩) (v := ⟨ua,uc,vz⟩) (N := wb.heap.size) (w2 := w6) (u2 := { u00 ⟨nd,lf,inn,fl,bk⟩ with sep := kz,val := vz }) ⟨Nat.le_refl _,fun x hx => by rcases hx with hx | hx; exact hx.elim; exact HQ0.out.px.lt x hx⟩ HPB.out hko4 kk hvo4 vk (by rw [hw6]; exact updP (updP (Upd.refl _ _) _ _) _ _) (by rw [hw6,← HLL.out.1,← HLL.out.2]; exact block_setCell (block_setCell g4 9 _) 6 _) ⟨rfl,rfl,rfl,rfl,rfl,rfl⟩
 have HDN := hide (u_down q6)
 have HW6 := hide hw6
 clear q4 hko4 hvo4 kk vk g4 g5 q6 hvo hb4 hw6 HKO HB3 HCK HCV HKB
 go_upto_region 6 with fail
 rw [← HW6.out]
 clear HW6 d9 d6 fz fz5
 go_wp2_with fail
 refine HDN.out.mono ?_
 rintro e w7 ⟨rfl,m7,D7,q7⟩
 have HF := hide (HQ.out _ _ _ _ _ q7 HUN.out.symm)
 clear q7 HDN HQ
 go_wp2_with fail
 exact HF.out
end
def hasK (E : List (List Int × List Int)) (key : List Int) : Bool := (mapV E key).isSome
section
variable {c : Cfg} {s s0 t : AS} {cs : List Chn} {u : US} {key val : List Int} {E E0 : List (List Int × List Int)} {M : Nat}
structure JO (s0 : AS) (key val : List Int) (E0 : List (List Int × List Int)) (u : US) (s : AS) (E : List (List Int × List Int)) : Prop where
 er : u.nx ≤ 14 → u.err = 0
 nl : u.lev = 0 → u.nx ≤ 14 → u.nx ≤ 8
 lv : 0 ≤ u.lev
 e0 : u.lev = 0 → u.nx ≤ 14 → E = E0
 st : u.lev = 0 → u.nx ≤ 2 → s = s0
 hd : (1 ≤ u.lev ∨ 3 ≤ u.nx) → u.nx ≤ 14 → u.had = hasK E0 key
 e1 : 1 ≤ u.lev → u.nx ≤ 14 → E = mset key val E0
 sx : u.lev = 0 → (u.nx = 5 ∨ u.nx = 6) → u.had = false ∧ s0.inn u.hid ∧ s = s0.setw u.hid (s0.w u.hid + 1)
 sv : u.lev = 0 → u.nx = 5 → s0.nodes ≤ (s0.sl.length : Int)
 fin : 15 ≤ u.nx → (u.err = 0 ∧ E = mset key val E0 ∧ u.had = hasK E0 key) ∨ (u.err = 2 ∧ E = E0 ∧ u.had = false ∧ hasK E0 key = false ∧ s.sl.map (·.1) = s0.sl.map (·.1) ∧ s0.nodes ≤ (s0.sl.length : Int))
theorem step_s (u : US) (s : AS) (h15 : u.nx < 15) : (u.step s).s = (u.act s).s := by
 unfold US.step
 rw [if_neg (by omega)]
 split <;> rfl
theorem unlE_no2 (s : AS) (k : Int) : s.unlE k ≠ 2 := by
 unfold AS.unlE
 split
 ·split <;> decide
 ·decide
theorem back_w (s0 : AS) (k : Int) (hin : s0.inn k) : ((s0.setw k (s0.w k + 1)).unlS k false).sl.map (·.1) = s0.sl.map (·.1) ∨ ((s0.setw k (s0.w k + 1)).unlE k ≠ 0) := by
 by_cases h : (s0.setw k (s0.w k + 1)).unlE k = 0
 ·left
  unfold AS.unlS
  rw [if_pos h]
  have hi : (s0.setw k (s0.w k + 1)).inn k := (AS.inn_of_len (AS.setw_len _ _ _) k).2 hin
  have hw : (s0.setw k (s0.w k + 1)).w k = s0.w k + 1 := by rw [AS.wsetw hin _ hin,if_pos rfl]
  have hf : freeW ((s0.setw k (s0.w k + 1)).w k) false = s0.w k := by rw [hw]; simp [freeW]
  rw [hf]
  refine List.ext_getElem? fun j => ?_
  show (((s0.sl.set (k - 1).toNat _).set (k - 1).toNat _).map (·.1))[j]? = (s0.sl.map (·.1))[j]?
  rw [List.getElem?_map,List.getElem?_map,List.getElem?_set,List.getElem?_set,List.length_set]
  by_cases e : (k - 1).toNat = j
  ·have hl : (k - 1).toNat < s0.sl.length := by unfold AS.inn at hin; omega
   subst e
   have hw0 : s0.w k = (s0.sl[(k - 1).toNat]'hl).1 := by unfold AS.w; rw [List.getD_eq_getElem?_getD,List.getElem?_eq_getElem hl]; rfl
   rw [if_pos rfl,if_pos hl,List.getElem?_eq_getElem hl,hw0]
   rfl
  ·simp only [if_neg e]
 ·exact .inr h
theorem act_five (h : u.nx = 5) : (u.act s).u = { u with nx := 15 } ∧ (u.act s).s = s.unlS u.hid false ∧ (u.lev ≠ 0 → (u.act s).er = s.unlE u.hid ∧ (u.act s).tk = false) ∧ (u.lev = 0 → s.unlE u.hid = 0 → (u.act s).er = 2) ∧ (s.unlE u.hid ≠ 0 → (u.act s).er = s.unlE u.hid) := by
 unfold US.act
 rw [h]
 simp only
 refine ⟨by split <;> rfl,by split <;> rfl,fun h0 => ?_,fun h0 h1 => ?_,fun h1 => ?_⟩
 ·rw [if_neg (fun e => h0 e.2)]
  exact ⟨rfl,rfl⟩
 ·rw [if_pos ⟨h1,h0⟩]
 ·rw [if_neg (fun e => h1 e.1)]
theorem WA.leaf (h : WA c s t cs u (key,val) E M) (hx : u.nx = 2) (hl : u.lev = 0) (hk : s.lockB u.m.id u.m.wd = true) (hM : M < 4611686018427387904) : u.sep = key ∧ s.inn u.m.id ∧ s.w u.m.id = u.m.wd ∧ isIn u.m.nd.ks u.sep = hasK E key ∧ nchkE u.m.nd c.nd c.lf c.inn c.fl c.bk = 0 ∧ u.m.nd.lv = 0 := by
 have hno : ∀ k,¬ u.odd k := fun k h => by simp [US.odd,US.hol,hx] at h
 obtain ⟨hin,hw,_⟩ := of_decide_eq_true hk
 have hsep : u.sep = key := by
  rcases h.kv with h1 | h1 | h1
  ·omega
  ·omega
  ·exact h1.2.2 hl
 obtain ⟨ms,hms,hd⟩ := h.ui.p2 hx
 have hm : u.m = ms := by unfold US.m; rw [hms]; rfl
 obtain ⟨hT,_⟩ := h.tre hno
 have hev := h.even hno
 have hS := h.snd hno
 have hmap : s.map = E := by
  have := (h.g.vt.look h.cfg.1 (even_held hev)).2
  rw [this,h.mp]
 rw [hm] at hk hin hw ⊢
 obtain ⟨low,hml,hlo⟩ := hd.on
 rw [hl] at hml
 have hnow := (hd.sw.now (by omega) hw).1
 have hnd : s.n ms.id = ms.nd := by
  rw [← hnow]
  exact h.g.vt.rd 0 (ms.id,low) hml (.inl (hev _ hin))
 have hck := (hT.ckk hml).1
 have hlev := hT.lev hml
 simp only at hck hlev
 rw [hnd] at hck hlev
 refine ⟨hsep,hin,hw,?_,hck,hlev⟩
 have hbey := hd.bey
 rw [← hnd,hsep] at hbey
 rw [hsep] at hlo ⊢
 have hlast : (ms.id,low) ∈ cs.reverse.getLastD [] := by
  obtain ⟨d,h1,h2⟩ := hml
  have e : cs.reverse.getLastD [] = d := by
   cases cs with
   | nil => simp at h1
   | cons a r =>
    simp only [List.getElem?_cons_zero,Option.some.injEq,Int.toNat_zero] at h1
    rw [List.reverse_cons,List.getLastD_eq_getLast?]
    simp [h1]
  rw [e]; exact h2
 have hv := map_val hS hlast hbey hlo
 unfold hasK
 rw [← hmap,hv,hnd]
 cases isIn ms.nd.ks key <;> rfl
end
section
variable {c : Cfg} {s s0 t : AS} {cs : List Chn} {u : US} {key val : List Int} {E E0 : List (List Int × List Int)} {M : Nat}
theorem JO.keep {u' : US} {s' : AS} (h : JO s0 key val E0 u s E) (hx : u.nx ≤ 14) (hx' : u'.nx ≤ 14) (h3 : 3 ≤ u.nx) (h3' : 3 ≤ u'.nx) (hl : u'.lev = u.lev) (he : u'.err = u.err) (hh : u'.had = u.had) (hn : u.lev = 0 → u'.nx ≤ 8 ∧ u'.nx ≠ 5 ∧ u'.nx ≠ 6) : JO s0 key val E0 u' s' E :=
 ⟨fun _ => by rw [he]; exact h.er hx,fun h0 _ => (hn (by omega)).1,by rw [hl]; exact h.lv,fun h0 _ => h.e0 (by omega) hx,fun _ h2 => by omega,fun _ _ => by rw [hh]; exact h.hd (.inr h3) hx,fun h1 _ => h.e1 (by omega) hx,fun h0 h5 => by have := hn (by omega); omega,fun h0 h5 => by have := hn (by omega); omega,fun h15 => by omega⟩
theorem JO.hi {u' : US} {s' : AS} (h : JO s0 key val E0 u s E) (hx : u.nx ≤ 14) (h1 : 1 ≤ u.lev) (hl : u'.lev = u.lev) (he : u'.err = u.err) (hh : u'.had = u.had) : JO s0 key val E0 u' s' E :=
 ⟨fun _ => by rw [he]; exact h.er hx,fun h0 _ => by omega,by rw [hl]; exact h.lv,fun h0 _ => by omega,fun h0 _ => by omega,fun _ _ => by rw [hh]; exact h.hd (.inl h1) hx,fun _ _ => h.e1 h1 hx,fun h0 _ => by omega,fun h0 _ => by omega,fun _ => .inl ⟨by rw [he]; exact h.er hx,h.e1 h1 hx,by rw [hh]; exact h.hd (.inl h1) hx⟩⟩
theorem act_twoS (h : u.nx = 2) : u.act s = if s.lockB u.m.id u.m.wd then ⟨({ u with hid := u.m.id } : US).fate u.m.nd,s.lockS u.m.id u.m.wd,false,0⟩ else ⟨u.down,s,false,s.wordE u.m.id⟩ := by
 unfold US.act
 rw [h]
theorem fate_keep (u : US) (n : NP) (h : u.lev ≠ 0) : (u.fate n).lev = u.lev ∧ (u.fate n).err = u.err ∧ (u.fate n).had = u.had := by
 unfold US.fate
 rw [if_neg h]
 split
 ·exact ⟨rfl,rfl,rfl⟩
 ·exact ⟨rfl,rfl,rfl⟩
theorem fate_leaf (u : US) (n : NP) (h : u.lev = 0) : (u.fate n).lev = u.lev ∧ (u.fate n).err = u.err ∧ (u.fate n).had = isIn n.ks u.sep ∧ (u.fate n).hid = u.hid ∧ (u.fate n).nx = if (n.with_ u.sep u.val).over u.cf then 6 else 3 := by
 unfold US.fate
 rw [if_pos h]
 exact ⟨rfl,rfl,rfl,rfl,rfl⟩
theorem with_over {n : NP} {nd lf inn fl bk : Int} {k v : List Int} (hc : nchkE n nd lf inn fl bk = 0) (h0 : n.lv = 0) (hi : isIn n.ks k = true) : (n.with_ k v).over ⟨nd,lf,inn,fl,bk⟩ = false := by
 obtain ⟨_,_,h3⟩ := may_of hc
 unfold OvP at h3
 rw [if_pos h0] at h3
 have hl := (with_head (p := n) k v).1
 have hk : (n.with_ k v).ks = n.ks := by
  unfold NP.with_
  rw [if_pos hi]
 refine (over_no _).2 ?_
 unfold OvP
 rw [hl,if_pos h0,hk]
 exact h3
theorem tk_if {o : UO} (h : ¬ (o.tk = true ∧ o.er = 0)) : (if o.tk = true ∧ o.er = 0 then mset key val E else E) = E := if_neg h
theorem JO.step (h : WA c s t cs u (key,val) E M) (hj : JO s0 key val E0 u s E) (hM : M < 4611686018427387904) (h1 : 1 ≤ u.nx) (h14 : u.nx ≤ 14) : JO s0 key val E0 (u.step s).u (u.step s).s (if (u.step s).tk = true ∧ (u.step s).er = 0 then mset key val E else E) := by
 have hlev := hj.lv
 have h9 := hj.nl
 have hcase : u.nx = 1 ∨ u.nx = 2 ∨ u.nx = 3 ∨ u.nx = 4 ∨ u.nx = 5 ∨ u.nx = 6 ∨ u.nx = 7 ∨ u.nx = 8 ∨ u.nx = 9 ∨ u.nx = 10 ∨ u.nx = 11 ∨ u.nx = 12 ∨ u.nx = 13 ∨ u.nx = 14 := by omega
 by_cases h5 : u.nx = 5
 ·-- a node is given back
  obtain ⟨a1,a2,a3,a4,a5⟩ := act_five (s := s) h5
  obtain ⟨_,_,_,_,he,_⟩ := h.step hM
  have hs : (u.step s).s = s.unlS u.hid false := by rw [step_s u s (by omega),a2]
  have hne := unlE_no2 s u.hid
  have herr := hj.er h14
  have hst : ∀ e : Int,(u.act s).er = e → (u.step s).er = e := fun e g => by
   unfold US.step
   rw [if_neg (by omega)]
   split
   ·exact g
   ·exact g
  have hne0 : s.unlE u.hid = 0 := by
   refine Decidable.byContradiction fun g => ?_
   have g2 := hst _ (a5 g)
   rcases he with e | e | e
   ·rw [g2] at e; exact g e
   ·rw [g2] at e; omega
   ·rw [g2] at e; exact hne e.1
  by_cases h0 : u.lev = 0
  ·have e2 := a4 h0 hne0
   have es : u.step s = ⟨{ (u.act s).u with nx := 15,err := (u.act s).er },(u.act s).s,(u.act s).tk,(u.act s).er⟩ := by
    unfold US.step
    rw [if_neg (by omega),if_neg (by omega)]
   obtain ⟨x1,x2,x3⟩ := hj.sx h0 (.inl h5)
   have x4 := hj.sv h0 h5
   have x5 := hj.hd (.inr (by omega)) h14
   have x6 := hj.e0 h0 h14
   rw [es]
   rw [tk_if (fun e => by have := e.2; simp only at this; omega)]
   refine ⟨fun g => by simp only at g; omega,fun _ g => by simp only at g; omega,?_,fun _ g => by simp only at g; omega,fun _ g => by simp only at g; omega,fun _ g => by simp only at g; omega,fun _ g => by simp only at g; omega,fun _ g => by simp only at g; omega,fun _ g => by simp only at g; omega,fun _ => .inr ⟨e2,x6,?_,?_,?_,x4⟩⟩
   ·rw [a1]; exact hlev
   ·rw [a1]; exact x1
   ·rw [← x5]; exact x1
   ·rw [a2]
    have hb := back_w s0 u.hid x2
    rw [← x3] at hb
    rcases hb with hb | hb
    ·exact hb
    ·exact absurd hne0 hb
  ·obtain ⟨e1,e2⟩ := a3 h0
   have es : u.step s = u.act s := by
    unfold US.step
    rw [if_neg (by omega),if_pos (by omega)]
   rw [es,tk_if (fun e => by rw [e2] at e; cases e.1)]
   have x5 := hj.hd (.inr (by omega)) h14
   have x6 := hj.e1 (by omega) h14
   rw [a1]
   exact ⟨fun g => by simp only at g; omega,fun _ g => by simp only at g; omega,hlev,fun _ g => by simp only at g; omega,fun _ g => by simp only at g; omega,fun _ g => by simp only at g; omega,fun _ g => by simp only at g; omega,fun _ g => by simp only at g; omega,fun _ g => by simp only at g; omega,fun _ => .inl ⟨herr,x6,x5⟩⟩
 obtain ⟨es,er⟩ := h.stepE hM (by omega) h5 (by omega)
 have hx := er
 have herr := hj.er h14
 rw [es]
 rcases hcase with g | g | g | g | g | g | g | g | g | g | g | g | g | g
 case inl =>
  have ea := act_one (s := s) g
  rw [ea] at er ⊢
  split at er
  ·rename_i q
   rw [if_pos q,tk_if (fun e => by cases e.1)]
   exact ⟨fun _ => herr,fun a b => hj.nl a b,hlev,fun a b => hj.e0 a h14,fun a b => hj.st a (by omega),fun a b => hj.hd (by simpa using a) h14,fun a b => hj.e1 a h14,fun a b => by simp only at b; omega,fun a b => by simp only at b; omega,fun a => by simp only at a; omega⟩
  ·rename_i q
   rw [if_neg q]
   split at er
   ·rename_i q2
    rw [if_pos q2,tk_if (fun e => by cases e.1)]
    exact ⟨fun _ => herr,fun a b => (by simp only; omega),hlev,fun a b => hj.e0 a h14,fun a b => hj.st a (by omega),fun a b => hj.hd (by rcases a with a | a; exact .inl a; simp only at a; omega) h14,fun a b => hj.e1 a h14,fun a b => by simp only at b; omega,fun a b => by simp only at b; omega,fun a => by simp only at a; omega⟩
   ·rename_i q2
    rw [if_neg q2]
    split at er
    ·cases er
    ·rename_i q3
     rw [if_neg q3,tk_if (fun e => by cases e.1)]
     exact ⟨fun _ => herr,fun a b => absurd a q3,hlev,fun a b => absurd a q3,fun a b => absurd a q3,fun a b => hj.hd (.inl (by omega)) h14,fun a b => hj.e1 a h14,fun a b => absurd a q3,fun a b => absurd a q3,fun a => by simp only at a; omega⟩
 case inr.inl =>
  have ea := act_twoS (s := s) g
  rw [ea] at er ⊢
  by_cases hk : s.lockB u.m.id u.m.wd = true
  ·rw [if_pos hk,tk_if (fun e => by cases e.1)]
   by_cases h0 : u.lev = 0
   ·obtain ⟨q1,q2,q3,q4,q5,q6⟩ := h.leaf g h0 hk hM
    obtain ⟨f1,f2,f3,f4,f5⟩ := fate_leaf ({ u with hid := u.m.id } : US) u.m.nd h0
    have hcf := h.ui.cf
    simp only at f1 f2 f3 f4 f5
    have hE := hj.e0 h0 h14
    have hs := hj.st h0 (by omega)
    have hhd : (({ u with hid := u.m.id } : US).fate u.m.nd).had = hasK E0 key := by rw [f3,q4,hE]
    have hls : s.lockS u.m.id u.m.wd = s0.setw u.m.id (s0.w u.m.id + 1) := by
     rw [← hs]
     unfold AS.lockS
     rw [if_pos (of_decide_eq_true hk),q3]
    refine ⟨fun _ => by rw [f2]; exact herr,fun _ _ => by rw [f5]; split <;> omega,by rw [f1]; exact hlev,fun _ _ => hE,fun _ a => by rw [f5] at a; split at a <;> omega,fun _ _ => hhd,fun a _ => by rw [f1] at a; omega,fun _ a => ?_,fun _ a => by rw [f5] at a; split at a <;> omega,fun a => by rw [f5] at a; split at a <;> omega⟩
    rw [f4]
    refine ⟨?_,by rw [← hs]; exact q2,hls⟩
    rw [f3]
    refine Bool.eq_false_iff.2 fun hi => ?_
    rw [f5,hcf] at a
    obtain ⟨nd,lf,inn,fl,bk⟩ := c
    have := with_over (k := u.sep) (v := u.val) q5 q6 hi
    rw [this] at a
    simp at a
   ·obtain ⟨f1,f2,f3⟩ := fate_keep ({ u with hid := u.m.id } : US) u.m.nd h0
    exact hj.hi h14 (by omega) f1 f2 f3
  ·rw [if_neg hk,tk_if (fun e => by cases e.1)]
   unfold US.down
   exact ⟨fun _ => herr,fun a b => (by simp only; omega),hlev,fun a b => hj.e0 a h14,fun a b => hj.st a (by omega),fun a b => hj.hd (by rcases a with a | a; exact .inl a; simp only at a; omega) h14,fun a b => hj.e1 a h14,fun a b => by simp only at b; omega,fun a b => by simp only at b; omega,fun a => by simp only at a; omega⟩
 case inr.inr.inl =>
  have ea := act_three (s := s) g
  have et : (u.act s).tk = false := by unfold US.act; rw [g]
  rw [tk_if (fun e => by rw [et] at e; cases e.1),ea]
  exact hj.keep h14 (by simp only; omega) (by omega) (by simp only; omega) rfl rfl rfl (fun _ => by simp)
 case inr.inr.inr.inl =>
  have ea := act_four (s := s) g
  have et : (u.act s).tk = decide (s.unlE u.hid = 0 ∧ u.lev = 0) := by unfold US.act; rw [g]
  have ee : (u.act s).er = s.unlE u.hid := by unfold US.act; rw [g]
  by_cases h0 : u.lev = 0
  ·rw [if_pos ⟨by rw [et]; exact decide_eq_true ⟨by rw [← ee]; exact hx,h0⟩,hx⟩,ea]
   have hE := hj.e0 h0 h14
   have hh := hj.hd (.inr (by omega)) h14
   exact ⟨fun a => by simp only at a; omega,fun _ a => by simp only at a; omega,hlev,fun _ a => by simp only at a; omega,fun _ a => by simp only at a; omega,fun _ a => by simp only at a; omega,fun _ a => by simp only at a; omega,fun _ a => by simp only at a; omega,fun _ a => by simp only at a; omega,fun _ => .inl ⟨herr,by rw [hE],hh⟩⟩
  ·rw [tk_if (fun e => by rw [et] at e; exact h0 (of_decide_eq_true e.1).2),ea]
   exact hj.hi h14 (by omega) rfl rfl rfl
 case inr.inr.inr.inr.inl => exact absurd g h5
 case inr.inr.inr.inr.inr.inl =>
  have ea : u.act s = if s.allE = 0 then ⟨{ u with hn := u.hn.cut1 s.allI,fid := s.allI,fn := u.hn.cut2,bet := u.hn.cut3,pc := 0,nx := 7 },s.allS,false,0⟩ else ⟨{ u with nx := 5 },s.allS,false,0⟩ := by unfold US.act; rw [g]
  rw [ea]
  by_cases ha : s.allE = 0
  ·rw [if_pos ha,tk_if (fun e => by cases e.1)]
   exact hj.keep h14 (by simp only; omega) (by omega) (by simp only; omega) rfl rfl rfl (fun _ => by simp)
  ·rw [if_neg ha,tk_if (fun e => by cases e.1)]
   by_cases h0 : u.lev = 0
   ·obtain ⟨x1,x2,x3⟩ := hj.sx h0 (.inr g)
    have hfull : ¬ (s.sl.length : Int) < s.nodes := fun e => ha (by unfold AS.allE; rw [if_pos e])
    have hal : s.allS = s := by unfold AS.allS; rw [if_neg hfull]
    have hln : s.sl.length = s0.sl.length := by rw [x3]; exact AS.setw_len _ _ _
    have hnn : s.nodes = s0.nodes := by rw [x3]; rfl
    rw [hal]
    exact ⟨fun _ => herr,fun _ _ => by simp only; omega,hlev,fun a _ => hj.e0 a h14,fun _ b => by simp only at b; omega,fun _ _ => hj.hd (.inr (by omega)) h14,fun a _ => hj.e1 a h14,fun _ _ => ⟨x1,x2,x3⟩,fun _ _ => by rw [← hln,← hnn]; omega,fun a => by simp only at a; omega⟩
   ·exact hj.hi h14 (by omega) rfl rfl rfl
 case inr.inr.inr.inr.inr.inr.inl =>
  obtain ⟨e1,e2⟩ := act_seven (s := s) g
  have et : (u.act s).tk = false := by
   unfold US.act
   rw [g]
   simp only
   repeat' split
   all_goals rfl
  rw [tk_if (fun e => by rw [et] at e; cases e.1)]
  by_cases hp : u.pc = 4
  ·rw [e2 hp]
   exact hj.keep h14 (by simp only; omega) (by omega) (by simp only; omega) rfl rfl rfl (fun _ => by simp)
  ·rw [e1 hp]
   exact hj.keep h14 (by simp only; omega) (by omega) (by simp only; omega) rfl rfl rfl (fun _ => by simp only; omega)
 case inr.inr.inr.inr.inr.inr.inr.inl =>
  have ea := act_eight (s := s) g
  have et : (u.act s).tk = decide (s.unlE u.hid = 0 ∧ u.lev = 0) := by unfold US.act; rw [g]
  have ee : (u.act s).er = s.unlE u.hid := by unfold US.act; rw [g]
  have hh := hj.hd (.inr (by omega)) h14
  have hE : (if (u.act s).tk = true ∧ (u.act s).er = 0 then mset key val E else E) = mset key val E0 := by
   by_cases h0 : u.lev = 0
   ·rw [if_pos ⟨by rw [et]; exact decide_eq_true ⟨by rw [← ee]; exact hx,h0⟩,hx⟩,hj.e0 h0 h14]
   ·rw [tk_if (fun e => by rw [et] at e; exact h0 (of_decide_eq_true e.1).2),hj.e1 (by omega) h14]
  rw [hE,ea]
  unfold US.down
  exact ⟨fun _ => herr,fun a _ => by simp only at a; omega,by simp only; omega,fun a _ => by simp only at a; omega,fun a _ => by simp only at a; omega,fun _ _ => hh,fun _ _ => rfl,fun a _ => by simp only at a; omega,fun a _ => by simp only at a; omega,fun a => by simp only at a; omega⟩
 all_goals
  have h0 : 1 ≤ u.lev := by
   have := hj.nl
   by_cases e : u.lev = 0
   ·have := this e h14; omega
   ·omega
  have et : (u.act s).tk = false := by
   unfold US.act
   rw [g] <;> (try simp only) <;> (repeat' split) <;> rfl
  rw [tk_if (fun e => by rw [et] at e; cases e.1)]
  have hk : (u.act s).u.lev = u.lev ∧ (u.act s).u.err = u.err ∧ (u.act s).u.had = u.had := by
   unfold US.act
   rw [g] <;> (try simp only [US.down]) <;> (repeat' split) <;> first | exact ⟨rfl,rfl,rfl⟩ | exact ⟨trivial,trivial,trivial⟩
  exact hj.hi h14 h0 hk.1 hk.2.1 hk.2.2
end
section
variable {c : Cfg} {s s0 t : AS} {cs : List Chn} {u : US} {key val : List Int} {k : List Int × List Int} {E E0 : List (List Int × List Int)} {M n : Nat}
theorem no_odd (h : ¬ (3 ≤ u.nx ∧ u.nx ≤ 8)) (h2 : ¬ (11 ≤ u.nx ∧ u.nx ≤ 13)) : ∀ k,¬ u.odd k := fun k ho => by
 rcases ho with ⟨a,_⟩ | ⟨a,_⟩ | ⟨a,_⟩ <;> omega
theorem WA.und8 (h : WA c s t cs u k E M) : u.und ≤ 8 := by
 by_cases g : u.nx = 7
 ·have := h.ui.pc g
  rw [show u.und = undN 7 u.pc from by unfold US.und; rw [g]]
  show 2 + u.pc.toNat ≤ 8
  omega
 ·unfold US.und undN
  split
  case h_5 e => exact absurd e g
  all_goals omega
theorem und_eq {v : US} {x : Nat} (h : v.nx = x) : v.und = undN x v.pc := by
 unfold US.und
 rw [h]
theorem WA.und (h : WA c s t cs u k E M) (hM : M < 4611686018427387904) (h15 : u.nx < 15) : (∀ k,¬ (u.step s).u.odd k) ∨ u.und + 1 ≤ (u.step s).u.und := by
 have hpc := h.ui.pc
 by_cases g0 : u.nx = 0
 ·have : (u.step s).u.nx = 15 := (us_facts u s h15).2.2.2.2.2.1 g0
  exact .inl (no_odd (by omega) (by omega))
 by_cases g5 : u.nx = 5
 ·have := step_five (s := s) g5
  exact .inl (no_odd (by omega) (by omega))
 obtain ⟨es,er⟩ := h.stepE hM g0 g5 h15
 rw [es]
 have hcase : u.nx = 1 ∨ u.nx = 2 ∨ u.nx = 3 ∨ u.nx = 4 ∨ u.nx = 6 ∨ u.nx = 7 ∨ u.nx = 8 ∨ u.nx = 9 ∨ u.nx = 10 ∨ u.nx = 11 ∨ u.nx = 12 ∨ u.nx = 13 ∨ u.nx = 14 := by omega
 rcases hcase with g | g | g | g | g | g | g | g | g | g | g | g | g
 ·left
  have ea := act_one (s := s) g
  rw [ea]
  repeat' split
  all_goals exact no_odd (by simp only; omega) (by simp only; omega)
 ·have ea := act_twoS (s := s) g
  rw [ea]
  split
  ·right
   have := (fate_nx ({ u with hid := u.m.id } : US) u.m.nd).2
   rw [und_eq g]
   rcases this with e | e | e <;> (rw [und_eq e]; simp only [undN]; omega)
  ·exact .inl (no_odd (by unfold US.down; simp only; omega) (by unfold US.down; simp only; omega))
 ·right
  rw [act_three g,und_eq g]
  exact Nat.le_refl 2
 ·left
  rw [act_four g]
  exact no_odd (by simp only; omega) (by simp only; omega)
 ·right
  rcases (act_six (s := s) g).2 with ⟨e,e2⟩ | e
  ·rw [und_eq g,und_eq e,e2]; exact Nat.le_refl 2
  ·rw [und_eq g,und_eq e]; simp only [undN]; omega
 ·right
  have hp := hpc g
  rw [und_eq g]
  by_cases h4 : u.pc = 4
  ·rw [(act_seven (s := s) g).2 h4]
   show 2 + u.pc.toNat + 1 ≤ 7
   omega
  ·rw [(act_seven (s := s) g).1 h4]
   have e : ({ u with pc := u.pc + 1 } : US).nx = 7 := g
   rw [und_eq e]
   show 2 + u.pc.toNat + 1 ≤ 2 + (u.pc + 1).toNat
   omega
 ·left
  rw [act_eight g]
  exact no_odd (by unfold US.down; simp only; omega) (by unfold US.down; simp only; omega)
 ·left
  rw [act_nine g]
  exact no_odd (by simp only; split <;> omega) (by simp only; split <;> omega)
 ·rcases (act_ten (s := s) g).2 with ⟨e,_⟩ | e
  ·right
   rw [und_eq g,und_eq e]; simp only [undN]; omega
  ·exact .inl (no_odd (by omega) (by omega))
 ·right
  rw [(act_e (s := s) g).1,und_eq g]
  exact Nat.le_refl 2
 ·right
  rw [(act_t (s := s) g).1,und_eq g]
  exact Nat.le_refl 3
 ·left
  rw [(act_f (s := s) g).1]
  exact no_odd (by simp only; omega) (by simp only; omega)
 ·left
  unfold US.act
  rw [g]
  simp only
  split
  ·exact no_odd (by simp only; omega) (by simp only; omega)
  ·exact no_odd (by unfold US.down; simp only; omega) (by unfold US.down; simp only; omega)
def WB (c : Cfg) (s : AS) (E : List (List Int × List Int)) (M : Nat) : Prop := ∃ t cs,WG c s t cs [] M ∧ mp t cs = E ∧ Am t cs ∧ SB s ∧ WL s ∧ s.nodes = c.nd ∧ cfgOk c.nd c.lf c.inn c.fl c.bk ∧ c.nd ≤ 1000
theorem WB.new (hc : cfgOk c.nd c.lf c.inn c.fl c.bk ∧ c.nd ≤ 1000) : WB c (AS.new c.nd) [] 0 := by
 refine ⟨_,_,wg_new hc.1,rfl,fun l x hm => ?_,SB.new hc.1.1.1,fun x hx => ?_,rfl,hc⟩
 ·obtain ⟨d,h1,_⟩ := hm
  simp at h1
 ·have : x = (0,NP.zero) := by simpa [AS.new] using hx
  rw [this]; decide
theorem WB.put (h : WB c s E M) (key val : List Int) : ∃ t cs,WA c s t cs (US.new c key val) (key,val) E M := by
 obtain ⟨t,cs,h1,h2,h3,h4,h5,h6,h7⟩ := h
 exact ⟨t,cs,h1.more,h2,h3,h4,h5,UB.new,KV.new,h6,h7⟩
theorem WB.even (h : WB c s E M) : s.held = [] := by
 obtain ⟨t,cs,h1,_⟩ := h
 refine even_held fun id hi => Decidable.byContradiction fun hc => ?_
 obtain ⟨i,v,h2,_⟩ := h1.odd id hi (by omega)
 simp at h2
end
section
variable {c : Cfg} {s t t' : AS} {cs cs' : List Chn} {u : US} {k : List Int × List Int} {E : List (List Int × List Int)} {M i : Nat}
theorem nod_cnt (cs : List Chn) : cntC cs = nodN cs := by
 unfold nodN
 induction cs with
 | nil => rfl
 | cons a r ih => rw [cntC_cons,List.map_cons,List.sum_cons,ih]
theorem nod_head {a b : List Chn} (ha : 0 < a.length) (hb : 0 < b.length) (h : ∀ j,j ≠ 0 → b[j]? = a[j]?) : (b.headD []).length + nodN a = (a.headD []).length + nodN b := by
 cases a with
 | nil => simp at ha
 | cons x a =>
  cases b with
  | nil => simp at hb
  | cons y b =>
   have e : b = a := List.ext_getElem? fun j => by simpa using h (j + 1) (by omega)
   rw [e]
   unfold nodN
   simp only [List.headD_cons,List.map_cons,List.sum_cons]
   omega
theorem head_same {a b : List Chn} (h : b[0]? = a[0]?) : b.headD [] = a.headD [] := by
 cases a with
 | nil => cases b with
  | nil => rfl
  | cons y b => simp at h
 | cons x a => cases b with
  | nil => simp at h
  | cons y b => simpa using h
theorem act_slots (u : US) (s : AS) : (u.act s).s.sl.length = s.sl.length + if (u.nx = 6 ∨ u.nx = 10) ∧ s.allE = 0 then 1 else 0 := by
 have hall : s.allS.sl.length = s.sl.length + if s.allE = 0 then 1 else 0 := by
  unfold AS.allS AS.allE
  by_cases h : (s.sl.length : Int) < s.nodes
  ·rw [if_pos h,if_pos h,if_pos rfl,List.length_append]
   rfl
  ·rw [if_neg h,if_neg h,if_neg (by decide)]
   rfl
 have hlk : ∀ a b,(s.lockS a b).sl.length = s.sl.length := fun a b => by
  unfold AS.lockS
  split
  ·exact AS.setw_len _ _ _
  ·rfl
 have hul : ∀ a b,(s.unlS a b).sl.length = s.sl.length := fun a b => by
  unfold AS.unlS
  split
  ·exact AS.setw_len _ _ _
  ·rfl
 have hbo : ∀ a b d e,(s.bodS a b d e).sl.length = s.sl.length := fun a b d e => by
  unfold AS.bodS
  split
  ·exact AS.setn_len _ _ _
  ·rfl
 have hhd : ∀ a b d e,(s.hedS a b d e).sl.length = s.sl.length := fun a b d e => by
  unfold AS.hedS
  split
  ·exact AS.setn_len _ _ _
  ·rfl
 have hgr : ∀ a b,(s.groS a b).sl.length = s.sl.length := fun a b => by
  unfold AS.groS
  split <;> rfl
 by_cases h6 : u.nx = 6
 ·have ea : (u.act s).s = s.allS := by
   unfold US.act
   rw [h6]
   simp only
   split <;> rfl
  rw [ea,hall,h6]
  simp
 by_cases h10 : u.nx = 10
 ·rw [(act_ten (s := s) h10).1,hall,h10]
  simp
 rw [if_neg (fun g => by rcases g.1 with g | g; exact h6 g; exact h10 g),Nat.add_zero]
 unfold US.act
 split
 case h_7 e => exact absurd e h6
 case h_11 e => exact absurd e h10
 all_goals
  (try simp only)
  repeat' split
  all_goals first | rfl | exact hlk _ _ | exact hul _ _ | exact hbo _ _ _ _ | exact hhd _ _ _ _ | exact hgr _ _
end
end Go.Proofs.YtggaipeojncipaaGreat
