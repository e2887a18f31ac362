/- Texts of one's own. -/
import Derived.Test.YtljnapejgjffjaaGreatH39
import Derived.Test.YtljnapejgjffjaaGreatH37
namespace Go.Proofs.YtljnapejgjffjaaGreat
open Go.RowKit
set_option maxRecDepth 100000
def UO.fin (o : UO) : US := if o.er = 0 then o.u else { o.u with nx := 15,err := o.er }
theorem uxV_cases (P : Nat) (k : Nat) : (15 ≤ k ∧ uxV P k = .nilFunc) ∨ (k < 15 ∧ ∃ g,uxV P k = .func (.func g) #[.pointer (some ⟨P,0,none⟩)] #[]) := by
 match k with
 | 0 => exact .inr ⟨by omega,_,rfl⟩
 | 1 => exact .inr ⟨by omega,_,rfl⟩
 | 2 => exact .inr ⟨by omega,_,rfl⟩
 | 3 => exact .inr ⟨by omega,_,rfl⟩
 | 4 => exact .inr ⟨by omega,_,rfl⟩
 | 5 => exact .inr ⟨by omega,_,rfl⟩
 | 6 => exact .inr ⟨by omega,_,rfl⟩
 | 7 => exact .inr ⟨by omega,_,rfl⟩
 | 8 => exact .inr ⟨by omega,_,rfl⟩
 | 9 => exact .inr ⟨by omega,_,rfl⟩
 | 10 => exact .inr ⟨by omega,_,rfl⟩
 | 11 => exact .inr ⟨by omega,_,rfl⟩
 | 12 => exact .inr ⟨by omega,_,rfl⟩
 | 13 => exact .inr ⟨by omega,_,rfl⟩
 | 14 => exact .inr ⟨by omega,_,rfl⟩
 | n + 15 => exact .inl ⟨by omega,rfl⟩
def UsP (W : World) (P A : Nat) (D F : Nat → Prop) (m : UM) (o : UO) (e : Ending) (w' : World) : Prop := e = .returned (.tuple #[.bool (decide (15 ≤ o.fin.nx)),.bool o.tk]) ∧ UNx W P A D F m o.fin o.s w'
section
variable {W w1 w2 : World} {P A : Nat} {D F D1 F1 : Nat → Prop} {m m1 : UM} {u u1 u2 : US} {s s1 : AS}
set_option maxHeartbeats 1600000 in
theorem ustp_idle (h : UP W P A D m u) (hx : 15 ≤ u.nx) : Calls Tryz.prog 15 #[.pointer (some ⟨P,0,none⟩)] W fun e w' => e = .returned (.tuple #[.bool true,.bool false]) ∧ w' = W := by
 have c7 : W.cell? ⟨P,7,none⟩ = some .nilFunc := by
  rcases uxV_cases P u.nx with ⟨_,h1⟩ | ⟨h1,_⟩
  ·rw [← h1]; exact h.cell 7 _ rfl
  ·omega
 have q2 := ufeql0 W
 clear h hx
 go_enter Tryz.func15,Tryz.ntmps15
 go_wp2_with fail
 go_ret2
 exact ⟨rfl,rfl⟩
theorem UQ.stop (q : UQ W P A D F m m1 D1 F1 u1 s1 w1) (E : Int) : UQ W P A D F m m1 D1 F1 { u1 with nx := 15,err := E } s1 ((w1.setCell ⟨P,7,none⟩ .nilFunc).setCell ⟨P,31,none⟩ (.int .i64 E)) :=
 q.own (updP (updP (Upd.refl _ _) _ _) _ _) (block_setCell (block_setCell q.up.c 7 _) 31 _) ⟨rfl,rfl,rfl,rfl,rfl,rfl⟩
set_option maxHeartbeats 3200000 in
theorem ustp_refuse (h : UP W P A D m u) (hx : u.nx = 0) (o : UO) (hc : Calls Tryz.prog 49 #[.pointer (some ⟨P,0,none⟩)] W fun e w' => e = .returned (.tuple #[.bool o.tk,.int .i64 o.er]) ∧ UNx W P A D F m o.u o.s w') : Calls Tryz.prog 15 #[.pointer (some ⟨P,0,none⟩)] W (UsP W P A D F m o) := by
 have c7 : W.cell? ⟨P,7,none⟩ = some (.func (.func 49) #[.pointer (some ⟨P,0,none⟩)] #[]) := by
  have := h.cell 7 (uxV P u.nx) rfl
  rw [hx] at this
  exact this
 have q1 := ufeql 49 #[.pointer (some ⟨P,0,none⟩)] #[] W
 obtain ⟨Q,hQ⟩ : ∃ Q,Q = UsP W P A D F m o := ⟨_,rfl⟩
 obtain ⟨U,S,T,E⟩ := o
 simp only at hc
 by_cases hE : E = 0
 ·subst hE
  have HQ : Hid (∀ w',UNx W P A D F m U S w' → Q (.returned (.tuple #[.bool (decide (15 ≤ U.nx)),.bool T])) w') := fun w' hw => by rw [hQ]; exact ⟨rfl,hw⟩
  rw [← hQ]
  have HC := hide hc
  clear h hx hc hQ
  go_enter Tryz.func15,Tryz.ntmps15
  go_wp2_with fail
  refine HC.out.mono ?_
  rintro e w9 ⟨rfl,m9,D9,F9,q9⟩
  have d7 : w9.cell? ⟨P,7,none⟩ = some (uxV P U.nx) := q9.up.cell 7 _ rfl
  have HF := hide (HQ.out w9 ⟨m9,D9,F9,q9⟩)
  clear q9 HC HQ c7 q1
  rcases uxV_cases P U.nx with ⟨h1,h2⟩ | ⟨h1,g,h2⟩
  ·rw [h2] at d7
   rw [decide_eq_true h1] at HF
   have q2 := ufeql0 w9
   clear h1 h2
   go_wp2_with fail
   exact HF.out
  ·rw [h2] at d7
   rw [decide_eq_false (by omega)] at HF
   have q2 := ufeql g #[.pointer (some ⟨P,0,none⟩)] #[] w9
   clear h1 h2
   go_wp2_with fail
   exact HF.out
 ·have HQ : Hid (∀ w',UNx W P A D F m { U with nx := 15,err := E } S w' → Q (.returned (.tuple #[.bool true,.bool T])) w') := fun w' hw => by
   rw [hQ]
   have e1 : (⟨U,S,T,E⟩ : UO).fin = { U with nx := 15,err := E } := if_neg hE
   unfold UsP
   rw [e1]
   exact ⟨rfl,hw⟩
  have hEb : (E == 0) = false := by rw [beq_eq_false_iff_ne]; exact hE
  rw [← hQ]
  have HC := hide hc
  clear h hx hc hQ
  go_enter Tryz.func15,Tryz.ntmps15
  go_wp2_with fail
  refine HC.out.mono ?_
  rintro e w9 ⟨rfl,m9,D9,F9,q9⟩
  have d7 : w9.cell? ⟨P,7,none⟩ = some (uxV P U.nx) := q9.up.cell 7 _ rfl
  have g9 := q9.up.c
  have fz := fun j => frozen_of g9 j
  have ga := block_setCell g9 7 .nilFunc
  have fa := fun j => frozen_of ga j
  have d31 : (w9.setCell ⟨P,7,none⟩ .nilFunc).cell? ⟨P,31,none⟩ = some (.int .i64 U.err) := by rw [cell_of_row _ _ _ _ _ _ ga]; rfl
  have gb := block_setCell ga 31 (.int .i64 E)
  have e7 : ((w9.setCell ⟨P,7,none⟩ .nilFunc).setCell ⟨P,31,none⟩ (.int .i64 E)).cell? ⟨P,7,none⟩ = some .nilFunc := by rw [cell_of_row _ _ _ _ _ _ gb]; rfl
  have q2 := ufeql0 ((w9.setCell ⟨P,7,none⟩ .nilFunc).setCell ⟨P,31,none⟩ (.int .i64 E))
  have HF := hide (HQ.out _ ⟨m9,D9,F9,q9.stop E⟩)
  generalize uxV P U.nx = nxv at *
  clear q9 HC HQ c7 q1 g9 ga gb
  go_wp2_with fail
  exact HF.out
set_option maxHeartbeats 3200000 in
theorem ustp_goDown (h : UP W P A D m u) (hx : u.nx = 1) (o : UO) (hc : Calls Tryz.prog 87 #[.pointer (some ⟨P,0,none⟩)] W fun e w' => e = .returned (.tuple #[.bool o.tk,.int .i64 o.er]) ∧ UNx W P A D F m o.u o.s w') : Calls Tryz.prog 15 #[.pointer (some ⟨P,0,none⟩)] W (UsP W P A D F m o) := by
 have c7 : W.cell? ⟨P,7,none⟩ = some (.func (.func 87) #[.pointer (some ⟨P,0,none⟩)] #[]) := by
  have := h.cell 7 (uxV P u.nx) rfl
  rw [hx] at this
  exact this
 have q1 := ufeql 87 #[.pointer (some ⟨P,0,none⟩)] #[] W
 obtain ⟨Q,hQ⟩ : ∃ Q,Q = UsP W P A D F m o := ⟨_,rfl⟩
 obtain ⟨U,S,T,E⟩ := o
 simp only at hc
 by_cases hE : E = 0
 ·subst hE
  have HQ : Hid (∀ w',UNx W P A D F m U S w' → Q (.returned (.tuple #[.bool (decide (15 ≤ U.nx)),.bool T])) w') := fun w' hw => by rw [hQ]; exact ⟨rfl,hw⟩
  rw [← hQ]
  have HC := hide hc
  clear h hx hc hQ
  go_enter Tryz.func15,Tryz.ntmps15
  go_wp2_with fail
  refine HC.out.mono ?_
  rintro e w9 ⟨rfl,m9,D9,F9,q9⟩
  have d7 : w9.cell? ⟨P,7,none⟩ = some (uxV P U.nx) := q9.up.cell 7 _ rfl
  have HF := hide (HQ.out w9 ⟨m9,D9,F9,q9⟩)
  clear q9 HC HQ c7 q1
  rcases uxV_cases P U.nx with ⟨h1,h2⟩ | ⟨h1,g,h2⟩
  ·rw [h2] at d7
   rw [decide_eq_true h1] at HF
   have q2 := ufeql0 w9
   clear h1 h2
   go_wp2_with fail
   exact HF.out
  ·rw [h2] at d7
   rw [decide_eq_false (by omega)] at HF
   have q2 := ufeql g #[.pointer (some ⟨P,0,none⟩)] #[] w9
   clear h1 h2
   go_wp2_with fail
   exact HF.out
 ·have HQ : Hid (∀ w',UNx W P A D F m { U with nx := 15,err := E } S w' → Q (.returned (.tuple #[.bool true,.bool T])) w') := fun w' hw => by
   rw [hQ]
   have e1 : (⟨U,S,T,E⟩ : UO).fin = { U with nx := 15,err := E } := if_neg hE
   unfold UsP
   rw [e1]
   exact ⟨rfl,hw⟩
  have hEb : (E == 0) = false := by rw [beq_eq_false_iff_ne]; exact hE
  rw [← hQ]
  have HC := hide hc
  clear h hx hc hQ
  go_enter Tryz.func15,Tryz.ntmps15
  go_wp2_with fail
  refine HC.out.mono ?_
  rintro e w9 ⟨rfl,m9,D9,F9,q9⟩
  have d7 : w9.cell? ⟨P,7,none⟩ = some (uxV P U.nx) := q9.up.cell 7 _ rfl
  have g9 := q9.up.c
  have fz := fun j => frozen_of g9 j
  have ga := block_setCell g9 7 .nilFunc
  have fa := fun j => frozen_of ga j
  have d31 : (w9.setCell ⟨P,7,none⟩ .nilFunc).cell? ⟨P,31,none⟩ = some (.int .i64 U.err) := by rw [cell_of_row _ _ _ _ _ _ ga]; rfl
  have gb := block_setCell ga 31 (.int .i64 E)
  have e7 : ((w9.setCell ⟨P,7,none⟩ .nilFunc).setCell ⟨P,31,none⟩ (.int .i64 E)).cell? ⟨P,7,none⟩ = some .nilFunc := by rw [cell_of_row _ _ _ _ _ _ gb]; rfl
  have q2 := ufeql0 ((w9.setCell ⟨P,7,none⟩ .nilFunc).setCell ⟨P,31,none⟩ (.int .i64 E))
  have HF := hide (HQ.out _ ⟨m9,D9,F9,q9.stop E⟩)
  generalize uxV P U.nx = nxv at *
  clear q9 HC HQ c7 q1 g9 ga gb
  go_wp2_with fail
  exact HF.out
set_option maxHeartbeats 3200000 in
theorem ustp_lock (h : UP W P A D m u) (hx : u.nx = 2) (o : UO) (hc : Calls Tryz.prog 117 #[.pointer (some ⟨P,0,none⟩)] W fun e w' => e = .returned (.tuple #[.bool o.tk,.int .i64 o.er]) ∧ UNx W P A D F m o.u o.s w') : Calls Tryz.prog 15 #[.pointer (some ⟨P,0,none⟩)] W (UsP W P A D F m o) := by
 have c7 : W.cell? ⟨P,7,none⟩ = some (.func (.func 117) #[.pointer (some ⟨P,0,none⟩)] #[]) := by
  have := h.cell 7 (uxV P u.nx) rfl
  rw [hx] at this
  exact this
 have q1 := ufeql 117 #[.pointer (some ⟨P,0,none⟩)] #[] W
 obtain ⟨Q,hQ⟩ : ∃ Q,Q = UsP W P A D F m o := ⟨_,rfl⟩
 obtain ⟨U,S,T,E⟩ := o
 simp only at hc
 by_cases hE : E = 0
 ·subst hE
  have HQ : Hid (∀ w',UNx W P A D F m U S w' → Q (.returned (.tuple #[.bool (decide (15 ≤ U.nx)),.bool T])) w') := fun w' hw => by rw [hQ]; exact ⟨rfl,hw⟩
  rw [← hQ]
  have HC := hide hc
  clear h hx hc hQ
  go_enter Tryz.func15,Tryz.ntmps15
  go_wp2_with fail
  refine HC.out.mono ?_
  rintro e w9 ⟨rfl,m9,D9,F9,q9⟩
  have d7 : w9.cell? ⟨P,7,none⟩ = some (uxV P U.nx) := q9.up.cell 7 _ rfl
  have HF := hide (HQ.out w9 ⟨m9,D9,F9,q9⟩)
  clear q9 HC HQ c7 q1
  rcases uxV_cases P U.nx with ⟨h1,h2⟩ | ⟨h1,g,h2⟩
  ·rw [h2] at d7
   rw [decide_eq_true h1] at HF
   have q2 := ufeql0 w9
   clear h1 h2
   go_wp2_with fail
   exact HF.out
  ·rw [h2] at d7
   rw [decide_eq_false (by omega)] at HF
   have q2 := ufeql g #[.pointer (some ⟨P,0,none⟩)] #[] w9
   clear h1 h2
   go_wp2_with fail
   exact HF.out
 ·have HQ : Hid (∀ w',UNx W P A D F m { U with nx := 15,err := E } S w' → Q (.returned (.tuple #[.bool true,.bool T])) w') := fun w' hw => by
   rw [hQ]
   have e1 : (⟨U,S,T,E⟩ : UO).fin = { U with nx := 15,err := E } := if_neg hE
   unfold UsP
   rw [e1]
   exact ⟨rfl,hw⟩
  have hEb : (E == 0) = false := by rw [beq_eq_false_iff_ne]; exact hE
  rw [← hQ]
  have HC := hide hc
  clear h hx hc hQ
  go_enter Tryz.func15,Tryz.ntmps15
  go_wp2_with fail
  refine HC.out.mono ?_
  rintro e w9 ⟨rfl,m9,D9,F9,q9⟩
  have d7 : w9.cell? ⟨P,7,none⟩ = some (uxV P U.nx) := q9.up.cell 7 _ rfl
  have g9 := q9.up.c
  have fz := fun j => frozen_of g9 j
  have ga := block_setCell g9 7 .nilFunc
  have fa := fun j => frozen_of ga j
  have d31 : (w9.setCell ⟨P,7,none⟩ .nilFunc).cell? ⟨P,31,none⟩ = some (.int .i64 U.err) := by rw [cell_of_row _ _ _ _ _ _ ga]; rfl
  have gb := block_setCell ga 31 (.int .i64 E)
  have e7 : ((w9.setCell ⟨P,7,none⟩ .nilFunc).setCell ⟨P,31,none⟩ (.int .i64 E)).cell? ⟨P,7,none⟩ = some .nilFunc := by rw [cell_of_row _ _ _ _ _ _ gb]; rfl
  have q2 := ufeql0 ((w9.setCell ⟨P,7,none⟩ .nilFunc).setCell ⟨P,31,none⟩ (.int .i64 E))
  have HF := hide (HQ.out _ ⟨m9,D9,F9,q9.stop E⟩)
  generalize uxV P U.nx = nxv at *
  clear q9 HC HQ c7 q1 g9 ga gb
  go_wp2_with fail
  exact HF.out
set_option maxHeartbeats 3200000 in
theorem ustp_layBody (h : UP W P A D m u) (hx : u.nx = 3) (o : UO) (hc : Calls Tryz.prog 168 #[.pointer (some ⟨P,0,none⟩)] W fun e w' => e = .returned (.tuple #[.bool o.tk,.int .i64 o.er]) ∧ UNx W P A D F m o.u o.s w') : Calls Tryz.prog 15 #[.pointer (some ⟨P,0,none⟩)] W (UsP W P A D F m o) := by
 have c7 : W.cell? ⟨P,7,none⟩ = some (.func (.func 168) #[.pointer (some ⟨P,0,none⟩)] #[]) := by
  have := h.cell 7 (uxV P u.nx) rfl
  rw [hx] at this
  exact this
 have q1 := ufeql 168 #[.pointer (some ⟨P,0,none⟩)] #[] W
 obtain ⟨Q,hQ⟩ : ∃ Q,Q = UsP W P A D F m o := ⟨_,rfl⟩
 obtain ⟨U,S,T,E⟩ := o
 simp only at hc
 by_cases hE : E = 0
 ·subst hE
  have HQ : Hid (∀ w',UNx W P A D F m U S w' → Q (.returned (.tuple #[.bool (decide (15 ≤ U.nx)),.bool T])) w') := fun w' hw => by rw [hQ]; exact ⟨rfl,hw⟩
  rw [← hQ]
  have HC := hide hc
  clear h hx hc hQ
  go_enter Tryz.func15,Tryz.ntmps15
  go_wp2_with fail
  refine HC.out.mono ?_
  rintro e w9 ⟨rfl,m9,D9,F9,q9⟩
  have d7 : w9.cell? ⟨P,7,none⟩ = some (uxV P U.nx) := q9.up.cell 7 _ rfl
  have HF := hide (HQ.out w9 ⟨m9,D9,F9,q9⟩)
  clear q9 HC HQ c7 q1
  rcases uxV_cases P U.nx with ⟨h1,h2⟩ | ⟨h1,g,h2⟩
  ·rw [h2] at d7
   rw [decide_eq_true h1] at HF
   have q2 := ufeql0 w9
   clear h1 h2
   go_wp2_with fail
   exact HF.out
  ·rw [h2] at d7
   rw [decide_eq_false (by omega)] at HF
   have q2 := ufeql g #[.pointer (some ⟨P,0,none⟩)] #[] w9
   clear h1 h2
   go_wp2_with fail
   exact HF.out
 ·have HQ : Hid (∀ w',UNx W P A D F m { U with nx := 15,err := E } S w' → Q (.returned (.tuple #[.bool true,.bool T])) w') := fun w' hw => by
   rw [hQ]
   have e1 : (⟨U,S,T,E⟩ : UO).fin = { U with nx := 15,err := E } := if_neg hE
   unfold UsP
   rw [e1]
   exact ⟨rfl,hw⟩
  have hEb : (E == 0) = false := by rw [beq_eq_false_iff_ne]; exact hE
  rw [← hQ]
  have HC := hide hc
  clear h hx hc hQ
  go_enter Tryz.func15,Tryz.ntmps15
  go_wp2_with fail
  refine HC.out.mono ?_
  rintro e w9 ⟨rfl,m9,D9,F9,q9⟩
  have d7 : w9.cell? ⟨P,7,none⟩ = some (uxV P U.nx) := q9.up.cell 7 _ rfl
  have g9 := q9.up.c
  have fz := fun j => frozen_of g9 j
  have ga := block_setCell g9 7 .nilFunc
  have fa := fun j => frozen_of ga j
  have d31 : (w9.setCell ⟨P,7,none⟩ .nilFunc).cell? ⟨P,31,none⟩ = some (.int .i64 U.err) := by rw [cell_of_row _ _ _ _ _ _ ga]; rfl
  have gb := block_setCell ga 31 (.int .i64 E)
  have e7 : ((w9.setCell ⟨P,7,none⟩ .nilFunc).setCell ⟨P,31,none⟩ (.int .i64 E)).cell? ⟨P,7,none⟩ = some .nilFunc := by rw [cell_of_row _ _ _ _ _ _ gb]; rfl
  have q2 := ufeql0 ((w9.setCell ⟨P,7,none⟩ .nilFunc).setCell ⟨P,31,none⟩ (.int .i64 E))
  have HF := hide (HQ.out _ ⟨m9,D9,F9,q9.stop E⟩)
  generalize uxV P U.nx = nxv at *
  clear q9 HC HQ c7 q1 g9 ga gb
  go_wp2_with fail
  exact HF.out
set_option maxHeartbeats 3200000 in
theorem ustp_free (h : UP W P A D m u) (hx : u.nx = 4) (o : UO) (hc : Calls Tryz.prog 189 #[.pointer (some ⟨P,0,none⟩)] W fun e w' => e = .returned (.tuple #[.bool o.tk,.int .i64 o.er]) ∧ UNx W P A D F m o.u o.s w') : Calls Tryz.prog 15 #[.pointer (some ⟨P,0,none⟩)] W (UsP W P A D F m o) := by
 have c7 : W.cell? ⟨P,7,none⟩ = some (.func (.func 189) #[.pointer (some ⟨P,0,none⟩)] #[]) := by
  have := h.cell 7 (uxV P u.nx) rfl
  rw [hx] at this
  exact this
 have q1 := ufeql 189 #[.pointer (some ⟨P,0,none⟩)] #[] W
 obtain ⟨Q,hQ⟩ : ∃ Q,Q = UsP W P A D F m o := ⟨_,rfl⟩
 obtain ⟨U,S,T,E⟩ := o
 simp only at hc
 by_cases hE : E = 0
 ·subst hE
  have HQ : Hid (∀ w',UNx W P A D F m U S w' → Q (.returned (.tuple #[.bool (decide (15 ≤ U.nx)),.bool T])) w') := fun w' hw => by rw [hQ]; exact ⟨rfl,hw⟩
  rw [← hQ]
  have HC := hide hc
  clear h hx hc hQ
  go_enter Tryz.func15,Tryz.ntmps15
  go_wp2_with fail
  refine HC.out.mono ?_
  rintro e w9 ⟨rfl,m9,D9,F9,q9⟩
  have d7 : w9.cell? ⟨P,7,none⟩ = some (uxV P U.nx) := q9.up.cell 7 _ rfl
  have HF := hide (HQ.out w9 ⟨m9,D9,F9,q9⟩)
  clear q9 HC HQ c7 q1
  rcases uxV_cases P U.nx with ⟨h1,h2⟩ | ⟨h1,g,h2⟩
  ·rw [h2] at d7
   rw [decide_eq_true h1] at HF
   have q2 := ufeql0 w9
   clear h1 h2
   go_wp2_with fail
   exact HF.out
  ·rw [h2] at d7
   rw [decide_eq_false (by omega)] at HF
   have q2 := ufeql g #[.pointer (some ⟨P,0,none⟩)] #[] w9
   clear h1 h2
   go_wp2_with fail
   exact HF.out
 ·have HQ : Hid (∀ w',UNx W P A D F m { U with nx := 15,err := E } S w' → Q (.returned (.tuple #[.bool true,.bool T])) w') := fun w' hw => by
   rw [hQ]
   have e1 : (⟨U,S,T,E⟩ : UO).fin = { U with nx := 15,err := E } := if_neg hE
   unfold UsP
   rw [e1]
   exact ⟨rfl,hw⟩
  have hEb : (E == 0) = false := by rw [beq_eq_false_iff_ne]; exact hE
  rw [← hQ]
  have HC := hide hc
  clear h hx hc hQ
  go_enter Tryz.func15,Tryz.ntmps15
  go_wp2_with fail
  refine HC.out.mono ?_
  rintro e w9 ⟨rfl,m9,D9,F9,q9⟩
  have d7 : w9.cell? ⟨P,7,none⟩ = some (uxV P U.nx) := q9.up.cell 7 _ rfl
  have g9 := q9.up.c
  have fz := fun j => frozen_of g9 j
  have ga := block_setCell g9 7 .nilFunc
  have fa := fun j => frozen_of ga j
  have d31 : (w9.setCell ⟨P,7,none⟩ .nilFunc).cell? ⟨P,31,none⟩ = some (.int .i64 U.err) := by rw [cell_of_row _ _ _ _ _ _ ga]; rfl
  have gb := block_setCell ga 31 (.int .i64 E)
  have e7 : ((w9.setCell ⟨P,7,none⟩ .nilFunc).setCell ⟨P,31,none⟩ (.int .i64 E)).cell? ⟨P,7,none⟩ = some .nilFunc := by rw [cell_of_row _ _ _ _ _ _ gb]; rfl
  have q2 := ufeql0 ((w9.setCell ⟨P,7,none⟩ .nilFunc).setCell ⟨P,31,none⟩ (.int .i64 E))
  have HF := hide (HQ.out _ ⟨m9,D9,F9,q9.stop E⟩)
  generalize uxV P U.nx = nxv at *
  clear q9 HC HQ c7 q1 g9 ga gb
  go_wp2_with fail
  exact HF.out
set_option maxHeartbeats 3200000 in
theorem ustp_giveBack (h : UP W P A D m u) (hx : u.nx = 5) (o : UO) (hc : Calls Tryz.prog 166 #[.pointer (some ⟨P,0,none⟩)] W fun e w' => e = .returned (.tuple #[.bool o.tk,.int .i64 o.er]) ∧ UNx W P A D F m o.u o.s w') : Calls Tryz.prog 15 #[.pointer (some ⟨P,0,none⟩)] W (UsP W P A D F m o) := by
 have c7 : W.cell? ⟨P,7,none⟩ = some (.func (.func 166) #[.pointer (some ⟨P,0,none⟩)] #[]) := by
  have := h.cell 7 (uxV P u.nx) rfl
  rw [hx] at this
  exact this
 have q1 := ufeql 166 #[.pointer (some ⟨P,0,none⟩)] #[] W
 obtain ⟨Q,hQ⟩ : ∃ Q,Q = UsP W P A D F m o := ⟨_,rfl⟩
 obtain ⟨U,S,T,E⟩ := o
 simp only at hc
 by_cases hE : E = 0
 ·subst hE
  have HQ : Hid (∀ w',UNx W P A D F m U S w' → Q (.returned (.tuple #[.bool (decide (15 ≤ U.nx)),.bool T])) w') := fun w' hw => by rw [hQ]; exact ⟨rfl,hw⟩
  rw [← hQ]
  have HC := hide hc
  clear h hx hc hQ
  go_enter Tryz.func15,Tryz.ntmps15
  go_wp2_with fail
  refine HC.out.mono ?_
  rintro e w9 ⟨rfl,m9,D9,F9,q9⟩
  have d7 : w9.cell? ⟨P,7,none⟩ = some (uxV P U.nx) := q9.up.cell 7 _ rfl
  have HF := hide (HQ.out w9 ⟨m9,D9,F9,q9⟩)
  clear q9 HC HQ c7 q1
  rcases uxV_cases P U.nx with ⟨h1,h2⟩ | ⟨h1,g,h2⟩
  ·rw [h2] at d7
   rw [decide_eq_true h1] at HF
   have q2 := ufeql0 w9
   clear h1 h2
   go_wp2_with fail
   exact HF.out
  ·rw [h2] at d7
   rw [decide_eq_false (by omega)] at HF
   have q2 := ufeql g #[.pointer (some ⟨P,0,none⟩)] #[] w9
   clear h1 h2
   go_wp2_with fail
   exact HF.out
 ·have HQ : Hid (∀ w',UNx W P A D F m { U with nx := 15,err := E } S w' → Q (.returned (.tuple #[.bool true,.bool T])) w') := fun w' hw => by
   rw [hQ]
   have e1 : (⟨U,S,T,E⟩ : UO).fin = { U with nx := 15,err := E } := if_neg hE
   unfold UsP
   rw [e1]
   exact ⟨rfl,hw⟩
  have hEb : (E == 0) = false := by rw [beq_eq_false_iff_ne]; exact hE
  rw [← hQ]
  have HC := hide hc
  clear h hx hc hQ
  go_enter Tryz.func15,Tryz.ntmps15
  go_wp2_with fail
  refine HC.out.mono ?_
  rintro e w9 ⟨rfl,m9,D9,F9,q9⟩
  have d7 : w9.cell? ⟨P,7,none⟩ = some (uxV P U.nx) := q9.up.cell 7 _ rfl
  have g9 := q9.up.c
  have fz := fun j => frozen_of g9 j
  have ga := block_setCell g9 7 .nilFunc
  have fa := fun j => frozen_of ga j
  have d31 : (w9.setCell ⟨P,7,none⟩ .nilFunc).cell? ⟨P,31,none⟩ = some (.int .i64 U.err) := by rw [cell_of_row _ _ _ _ _ _ ga]; rfl
  have gb := block_setCell ga 31 (.int .i64 E)
  have e7 : ((w9.setCell ⟨P,7,none⟩ .nilFunc).setCell ⟨P,31,none⟩ (.int .i64 E)).cell? ⟨P,7,none⟩ = some .nilFunc := by rw [cell_of_row _ _ _ _ _ _ gb]; rfl
  have q2 := ufeql0 ((w9.setCell ⟨P,7,none⟩ .nilFunc).setCell ⟨P,31,none⟩ (.int .i64 E))
  have HF := hide (HQ.out _ ⟨m9,D9,F9,q9.stop E⟩)
  generalize uxV P U.nx = nxv at *
  clear q9 HC HQ c7 q1 g9 ga gb
  go_wp2_with fail
  exact HF.out
set_option maxHeartbeats 3200000 in
theorem ustp_takeHalf (h : UP W P A D m u) (hx : u.nx = 6) (o : UO) (hc : Calls Tryz.prog 169 #[.pointer (some ⟨P,0,none⟩)] W fun e w' => e = .returned (.tuple #[.bool o.tk,.int .i64 o.er]) ∧ UNx W P A D F m o.u o.s w') : Calls Tryz.prog 15 #[.pointer (some ⟨P,0,none⟩)] W (UsP W P A D F m o) := by
 have c7 : W.cell? ⟨P,7,none⟩ = some (.func (.func 169) #[.pointer (some ⟨P,0,none⟩)] #[]) := by
  have := h.cell 7 (uxV P u.nx) rfl
  rw [hx] at this
  exact this
 have q1 := ufeql 169 #[.pointer (some ⟨P,0,none⟩)] #[] W
 obtain ⟨Q,hQ⟩ : ∃ Q,Q = UsP W P A D F m o := ⟨_,rfl⟩
 obtain ⟨U,S,T,E⟩ := o
 simp only at hc
 by_cases hE : E = 0
 ·subst hE
  have HQ : Hid (∀ w',UNx W P A D F m U S w' → Q (.returned (.tuple #[.bool (decide (15 ≤ U.nx)),.bool T])) w') := fun w' hw => by rw [hQ]; exact ⟨rfl,hw⟩
  rw [← hQ]
  have HC := hide hc
  clear h hx hc hQ
  go_enter Tryz.func15,Tryz.ntmps15
  go_wp2_with fail
  refine HC.out.mono ?_
  rintro e w9 ⟨rfl,m9,D9,F9,q9⟩
  have d7 : w9.cell? ⟨P,7,none⟩ = some (uxV P U.nx) := q9.up.cell 7 _ rfl
  have HF := hide (HQ.out w9 ⟨m9,D9,F9,q9⟩)
  clear q9 HC HQ c7 q1
  rcases uxV_cases P U.nx with ⟨h1,h2⟩ | ⟨h1,g,h2⟩
  ·rw [h2] at d7
   rw [decide_eq_true h1] at HF
   have q2 := ufeql0 w9
   clear h1 h2
   go_wp2_with fail
   exact HF.out
  ·rw [h2] at d7
   rw [decide_eq_false (by omega)] at HF
   have q2 := ufeql g #[.pointer (some ⟨P,0,none⟩)] #[] w9
   clear h1 h2
   go_wp2_with fail
   exact HF.out
 ·have HQ : Hid (∀ w',UNx W P A D F m { U with nx := 15,err := E } S w' → Q (.returned (.tuple #[.bool true,.bool T])) w') := fun w' hw => by
   rw [hQ]
   have e1 : (⟨U,S,T,E⟩ : UO).fin = { U with nx := 15,err := E } := if_neg hE
   unfold UsP
   rw [e1]
   exact ⟨rfl,hw⟩
  have hEb : (E == 0) = false := by rw [beq_eq_false_iff_ne]; exact hE
  rw [← hQ]
  have HC := hide hc
  clear h hx hc hQ
  go_enter Tryz.func15,Tryz.ntmps15
  go_wp2_with fail
  refine HC.out.mono ?_
  rintro e w9 ⟨rfl,m9,D9,F9,q9⟩
  have d7 : w9.cell? ⟨P,7,none⟩ = some (uxV P U.nx) := q9.up.cell 7 _ rfl
  have g9 := q9.up.c
  have fz := fun j => frozen_of g9 j
  have ga := block_setCell g9 7 .nilFunc
  have fa := fun j => frozen_of ga j
  have d31 : (w9.setCell ⟨P,7,none⟩ .nilFunc).cell? ⟨P,31,none⟩ = some (.int .i64 U.err) := by rw [cell_of_row _ _ _ _ _ _ ga]; rfl
  have gb := block_setCell ga 31 (.int .i64 E)
  have e7 : ((w9.setCell ⟨P,7,none⟩ .nilFunc).setCell ⟨P,31,none⟩ (.int .i64 E)).cell? ⟨P,7,none⟩ = some .nilFunc := by rw [cell_of_row _ _ _ _ _ _ gb]; rfl
  have q2 := ufeql0 ((w9.setCell ⟨P,7,none⟩ .nilFunc).setCell ⟨P,31,none⟩ (.int .i64 E))
  have HF := hide (HQ.out _ ⟨m9,D9,F9,q9.stop E⟩)
  generalize uxV P U.nx = nxv at *
  clear q9 HC HQ c7 q1 g9 ga gb
  go_wp2_with fail
  exact HF.out
set_option maxHeartbeats 3200000 in
theorem ustp_layHalves (h : UP W P A D m u) (hx : u.nx = 7) (o : UO) (hc : Calls Tryz.prog 191 #[.pointer (some ⟨P,0,none⟩)] W fun e w' => e = .returned (.tuple #[.bool o.tk,.int .i64 o.er]) ∧ UNx W P A D F m o.u o.s w') : Calls Tryz.prog 15 #[.pointer (some ⟨P,0,none⟩)] W (UsP W P A D F m o) := by
 have c7 : W.cell? ⟨P,7,none⟩ = some (.func (.func 191) #[.pointer (some ⟨P,0,none⟩)] #[]) := by
  have := h.cell 7 (uxV P u.nx) rfl
  rw [hx] at this
  exact this
 have q1 := ufeql 191 #[.pointer (some ⟨P,0,none⟩)] #[] W
 obtain ⟨Q,hQ⟩ : ∃ Q,Q = UsP W P A D F m o := ⟨_,rfl⟩
 obtain ⟨U,S,T,E⟩ := o
 simp only at hc
 by_cases hE : E = 0
 ·subst hE
  have HQ : Hid (∀ w',UNx W P A D F m U S w' → Q (.returned (.tuple #[.bool (decide (15 ≤ U.nx)),.bool T])) w') := fun w' hw => by rw [hQ]; exact ⟨rfl,hw⟩
  rw [← hQ]
  have HC := hide hc
  clear h hx hc hQ
  go_enter Tryz.func15,Tryz.ntmps15
  go_wp2_with fail
  refine HC.out.mono ?_
  rintro e w9 ⟨rfl,m9,D9,F9,q9⟩
  have d7 : w9.cell? ⟨P,7,none⟩ = some (uxV P U.nx) := q9.up.cell 7 _ rfl
  have HF := hide (HQ.out w9 ⟨m9,D9,F9,q9⟩)
  clear q9 HC HQ c7 q1
  rcases uxV_cases P U.nx with ⟨h1,h2⟩ | ⟨h1,g,h2⟩
  ·rw [h2] at d7
   rw [decide_eq_true h1] at HF
   have q2 := ufeql0 w9
   clear h1 h2
   go_wp2_with fail
   exact HF.out
  ·rw [h2] at d7
   rw [decide_eq_false (by omega)] at HF
   have q2 := ufeql g #[.pointer (some ⟨P,0,none⟩)] #[] w9
   clear h1 h2
   go_wp2_with fail
   exact HF.out
 ·have HQ : Hid (∀ w',UNx W P A D F m { U with nx := 15,err := E } S w' → Q (.returned (.tuple #[.bool true,.bool T])) w') := fun w' hw => by
   rw [hQ]
   have e1 : (⟨U,S,T,E⟩ : UO).fin = { U with nx := 15,err := E } := if_neg hE
   unfold UsP
   rw [e1]
   exact ⟨rfl,hw⟩
  have hEb : (E == 0) = false := by rw [beq_eq_false_iff_ne]; exact hE
  rw [← hQ]
  have HC := hide hc
  clear h hx hc hQ
  go_enter Tryz.func15,Tryz.ntmps15
  go_wp2_with fail
  refine HC.out.mono ?_
  rintro e w9 ⟨rfl,m9,D9,F9,q9⟩
  have d7 : w9.cell? ⟨P,7,none⟩ = some (uxV P U.nx) := q9.up.cell 7 _ rfl
  have g9 := q9.up.c
  have fz := fun j => frozen_of g9 j
  have ga := block_setCell g9 7 .nilFunc
  have fa := fun j => frozen_of ga j
  have d31 : (w9.setCell ⟨P,7,none⟩ .nilFunc).cell? ⟨P,31,none⟩ = some (.int .i64 U.err) := by rw [cell_of_row _ _ _ _ _ _ ga]; rfl
  have gb := block_setCell ga 31 (.int .i64 E)
  have e7 : ((w9.setCell ⟨P,7,none⟩ .nilFunc).setCell ⟨P,31,none⟩ (.int .i64 E)).cell? ⟨P,7,none⟩ = some .nilFunc := by rw [cell_of_row _ _ _ _ _ _ gb]; rfl
  have q2 := ufeql0 ((w9.setCell ⟨P,7,none⟩ .nilFunc).setCell ⟨P,31,none⟩ (.int .i64 E))
  have HF := hide (HQ.out _ ⟨m9,D9,F9,q9.stop E⟩)
  generalize uxV P U.nx = nxv at *
  clear q9 HC HQ c7 q1 g9 ga gb
  go_wp2_with fail
  exact HF.out
set_option maxHeartbeats 3200000 in
theorem ustp_rise (h : UP W P A D m u) (hx : u.nx = 8) (o : UO) (hc : Calls Tryz.prog 205 #[.pointer (some ⟨P,0,none⟩)] W fun e w' => e = .returned (.tuple #[.bool o.tk,.int .i64 o.er]) ∧ UNx W P A D F m o.u o.s w') : Calls Tryz.prog 15 #[.pointer (some ⟨P,0,none⟩)] W (UsP W P A D F m o) := by
 have c7 : W.cell? ⟨P,7,none⟩ = some (.func (.func 205) #[.pointer (some ⟨P,0,none⟩)] #[]) := by
  have := h.cell 7 (uxV P u.nx) rfl
  rw [hx] at this
  exact this
 have q1 := ufeql 205 #[.pointer (some ⟨P,0,none⟩)] #[] W
 obtain ⟨Q,hQ⟩ : ∃ Q,Q = UsP W P A D F m o := ⟨_,rfl⟩
 obtain ⟨U,S,T,E⟩ := o
 simp only at hc
 by_cases hE : E = 0
 ·subst hE
  have HQ : Hid (∀ w',UNx W P A D F m U S w' → Q (.returned (.tuple #[.bool (decide (15 ≤ U.nx)),.bool T])) w') := fun w' hw => by rw [hQ]; exact ⟨rfl,hw⟩
  rw [← hQ]
  have HC := hide hc
  clear h hx hc hQ
  go_enter Tryz.func15,Tryz.ntmps15
  go_wp2_with fail
  refine HC.out.mono ?_
  rintro e w9 ⟨rfl,m9,D9,F9,q9⟩
  have d7 : w9.cell? ⟨P,7,none⟩ = some (uxV P U.nx) := q9.up.cell 7 _ rfl
  have HF := hide (HQ.out w9 ⟨m9,D9,F9,q9⟩)
  clear q9 HC HQ c7 q1
  rcases uxV_cases P U.nx with ⟨h1,h2⟩ | ⟨h1,g,h2⟩
  ·rw [h2] at d7
   rw [decide_eq_true h1] at HF
   have q2 := ufeql0 w9
   clear h1 h2
   go_wp2_with fail
   exact HF.out
  ·rw [h2] at d7
   rw [decide_eq_false (by omega)] at HF
   have q2 := ufeql g #[.pointer (some ⟨P,0,none⟩)] #[] w9
   clear h1 h2
   go_wp2_with fail
   exact HF.out
 ·have HQ : Hid (∀ w',UNx W P A D F m { U with nx := 15,err := E } S w' → Q (.returned (.tuple #[.bool true,.bool T])) w') := fun w' hw => by
   rw [hQ]
   have e1 : (⟨U,S,T,E⟩ : UO).fin = { U with nx := 15,err := E } := if_neg hE
   unfold UsP
   rw [e1]
   exact ⟨rfl,hw⟩
  have hEb : (E == 0) = false := by rw [beq_eq_false_iff_ne]; exact hE
  rw [← hQ]
  have HC := hide hc
  clear h hx hc hQ
  go_enter Tryz.func15,Tryz.ntmps15
  go_wp2_with fail
  refine HC.out.mono ?_
  rintro e w9 ⟨rfl,m9,D9,F9,q9⟩
  have d7 : w9.cell? ⟨P,7,none⟩ = some (uxV P U.nx) := q9.up.cell 7 _ rfl
  have g9 := q9.up.c
  have fz := fun j => frozen_of g9 j
  have ga := block_setCell g9 7 .nilFunc
  have fa := fun j => frozen_of ga j
  have d31 : (w9.setCell ⟨P,7,none⟩ .nilFunc).cell? ⟨P,31,none⟩ = some (.int .i64 U.err) := by rw [cell_of_row _ _ _ _ _ _ ga]; rfl
  have gb := block_setCell ga 31 (.int .i64 E)
  have e7 : ((w9.setCell ⟨P,7,none⟩ .nilFunc).setCell ⟨P,31,none⟩ (.int .i64 E)).cell? ⟨P,7,none⟩ = some .nilFunc := by rw [cell_of_row _ _ _ _ _ _ gb]; rfl
  have q2 := ufeql0 ((w9.setCell ⟨P,7,none⟩ .nilFunc).setCell ⟨P,31,none⟩ (.int .i64 E))
  have HF := hide (HQ.out _ ⟨m9,D9,F9,q9.stop E⟩)
  generalize uxV P U.nx = nxv at *
  clear q9 HC HQ c7 q1 g9 ga gb
  go_wp2_with fail
  exact HF.out
set_option maxHeartbeats 3200000 in
theorem ustp_seeRoot (h : UP W P A D m u) (hx : u.nx = 9) (o : UO) (hc : Calls Tryz.prog 118 #[.pointer (some ⟨P,0,none⟩)] W fun e w' => e = .returned (.tuple #[.bool o.tk,.int .i64 o.er]) ∧ UNx W P A D F m o.u o.s w') : Calls Tryz.prog 15 #[.pointer (some ⟨P,0,none⟩)] W (UsP W P A D F m o) := by
 have c7 : W.cell? ⟨P,7,none⟩ = some (.func (.func 118) #[.pointer (some ⟨P,0,none⟩)] #[]) := by
  have := h.cell 7 (uxV P u.nx) rfl
  rw [hx] at this
  exact this
 have q1 := ufeql 118 #[.pointer (some ⟨P,0,none⟩)] #[] W
 obtain ⟨Q,hQ⟩ : ∃ Q,Q = UsP W P A D F m o := ⟨_,rfl⟩
 obtain ⟨U,S,T,E⟩ := o
 simp only at hc
 by_cases hE : E = 0
 ·subst hE
  have HQ : Hid (∀ w',UNx W P A D F m U S w' → Q (.returned (.tuple #[.bool (decide (15 ≤ U.nx)),.bool T])) w') := fun w' hw => by rw [hQ]; exact ⟨rfl,hw⟩
  rw [← hQ]
  have HC := hide hc
  clear h hx hc hQ
  go_enter Tryz.func15,Tryz.ntmps15
  go_wp2_with fail
  refine HC.out.mono ?_
  rintro e w9 ⟨rfl,m9,D9,F9,q9⟩
  have d7 : w9.cell? ⟨P,7,none⟩ = some (uxV P U.nx) := q9.up.cell 7 _ rfl
  have HF := hide (HQ.out w9 ⟨m9,D9,F9,q9⟩)
  clear q9 HC HQ c7 q1
  rcases uxV_cases P U.nx with ⟨h1,h2⟩ | ⟨h1,g,h2⟩
  ·rw [h2] at d7
   rw [decide_eq_true h1] at HF
   have q2 := ufeql0 w9
   clear h1 h2
   go_wp2_with fail
   exact HF.out
  ·rw [h2] at d7
   rw [decide_eq_false (by omega)] at HF
   have q2 := ufeql g #[.pointer (some ⟨P,0,none⟩)] #[] w9
   clear h1 h2
   go_wp2_with fail
   exact HF.out
 ·have HQ : Hid (∀ w',UNx W P A D F m { U with nx := 15,err := E } S w' → Q (.returned (.tuple #[.bool true,.bool T])) w') := fun w' hw => by
   rw [hQ]
   have e1 : (⟨U,S,T,E⟩ : UO).fin = { U with nx := 15,err := E } := if_neg hE
   unfold UsP
   rw [e1]
   exact ⟨rfl,hw⟩
  have hEb : (E == 0) = false := by rw [beq_eq_false_iff_ne]; exact hE
  rw [← hQ]
  have HC := hide hc
  clear h hx hc hQ
  go_enter Tryz.func15,Tryz.ntmps15
  go_wp2_with fail
  refine HC.out.mono ?_
  rintro e w9 ⟨rfl,m9,D9,F9,q9⟩
  have d7 : w9.cell? ⟨P,7,none⟩ = some (uxV P U.nx) := q9.up.cell 7 _ rfl
  have g9 := q9.up.c
  have fz := fun j => frozen_of g9 j
  have ga := block_setCell g9 7 .nilFunc
  have fa := fun j => frozen_of ga j
  have d31 : (w9.setCell ⟨P,7,none⟩ .nilFunc).cell? ⟨P,31,none⟩ = some (.int .i64 U.err) := by rw [cell_of_row _ _ _ _ _ _ ga]; rfl
  have gb := block_setCell ga 31 (.int .i64 E)
  have e7 : ((w9.setCell ⟨P,7,none⟩ .nilFunc).setCell ⟨P,31,none⟩ (.int .i64 E)).cell? ⟨P,7,none⟩ = some .nilFunc := by rw [cell_of_row _ _ _ _ _ _ gb]; rfl
  have q2 := ufeql0 ((w9.setCell ⟨P,7,none⟩ .nilFunc).setCell ⟨P,31,none⟩ (.int .i64 E))
  have HF := hide (HQ.out _ ⟨m9,D9,F9,q9.stop E⟩)
  generalize uxV P U.nx = nxv at *
  clear q9 HC HQ c7 q1 g9 ga gb
  go_wp2_with fail
  exact HF.out
set_option maxHeartbeats 3200000 in
theorem ustp_takeTop (h : UP W P A D m u) (hx : u.nx = 10) (o : UO) (hc : Calls Tryz.prog 144 #[.pointer (some ⟨P,0,none⟩)] W fun e w' => e = .returned (.tuple #[.bool o.tk,.int .i64 o.er]) ∧ UNx W P A D F m o.u o.s w') : Calls Tryz.prog 15 #[.pointer (some ⟨P,0,none⟩)] W (UsP W P A D F m o) := by
 have c7 : W.cell? ⟨P,7,none⟩ = some (.func (.func 144) #[.pointer (some ⟨P,0,none⟩)] #[]) := by
  have := h.cell 7 (uxV P u.nx) rfl
  rw [hx] at this
  exact this
 have q1 := ufeql 144 #[.pointer (some ⟨P,0,none⟩)] #[] W
 obtain ⟨Q,hQ⟩ : ∃ Q,Q = UsP W P A D F m o := ⟨_,rfl⟩
 obtain ⟨U,S,T,E⟩ := o
 simp only at hc
 by_cases hE : E = 0
 ·subst hE
  have HQ : Hid (∀ w',UNx W P A D F m U S w' → Q (.returned (.tuple #[.bool (decide (15 ≤ U.nx)),.bool T])) w') := fun w' hw => by rw [hQ]; exact ⟨rfl,hw⟩
  rw [← hQ]
  have HC := hide hc
  clear h hx hc hQ
  go_enter Tryz.func15,Tryz.ntmps15
  go_wp2_with fail
  refine HC.out.mono ?_
  rintro e w9 ⟨rfl,m9,D9,F9,q9⟩
  have d7 : w9.cell? ⟨P,7,none⟩ = some (uxV P U.nx) := q9.up.cell 7 _ rfl
  have HF := hide (HQ.out w9 ⟨m9,D9,F9,q9⟩)
  clear q9 HC HQ c7 q1
  rcases uxV_cases P U.nx with ⟨h1,h2⟩ | ⟨h1,g,h2⟩
  ·rw [h2] at d7
   rw [decide_eq_true h1] at HF
   have q2 := ufeql0 w9
   clear h1 h2
   go_wp2_with fail
   exact HF.out
  ·rw [h2] at d7
   rw [decide_eq_false (by omega)] at HF
   have q2 := ufeql g #[.pointer (some ⟨P,0,none⟩)] #[] w9
   clear h1 h2
   go_wp2_with fail
   exact HF.out
 ·have HQ : Hid (∀ w',UNx W P A D F m { U with nx := 15,err := E } S w' → Q (.returned (.tuple #[.bool true,.bool T])) w') := fun w' hw => by
   rw [hQ]
   have e1 : (⟨U,S,T,E⟩ : UO).fin = { U with nx := 15,err := E } := if_neg hE
   unfold UsP
   rw [e1]
   exact ⟨rfl,hw⟩
  have hEb : (E == 0) = false := by rw [beq_eq_false_iff_ne]; exact hE
  rw [← hQ]
  have HC := hide hc
  clear h hx hc hQ
  go_enter Tryz.func15,Tryz.ntmps15
  go_wp2_with fail
  refine HC.out.mono ?_
  rintro e w9 ⟨rfl,m9,D9,F9,q9⟩
  have d7 : w9.cell? ⟨P,7,none⟩ = some (uxV P U.nx) := q9.up.cell 7 _ rfl
  have g9 := q9.up.c
  have fz := fun j => frozen_of g9 j
  have ga := block_setCell g9 7 .nilFunc
  have fa := fun j => frozen_of ga j
  have d31 : (w9.setCell ⟨P,7,none⟩ .nilFunc).cell? ⟨P,31,none⟩ = some (.int .i64 U.err) := by rw [cell_of_row _ _ _ _ _ _ ga]; rfl
  have gb := block_setCell ga 31 (.int .i64 E)
  have e7 : ((w9.setCell ⟨P,7,none⟩ .nilFunc).setCell ⟨P,31,none⟩ (.int .i64 E)).cell? ⟨P,7,none⟩ = some .nilFunc := by rw [cell_of_row _ _ _ _ _ _ gb]; rfl
  have q2 := ufeql0 ((w9.setCell ⟨P,7,none⟩ .nilFunc).setCell ⟨P,31,none⟩ (.int .i64 E))
  have HF := hide (HQ.out _ ⟨m9,D9,F9,q9.stop E⟩)
  generalize uxV P U.nx = nxv at *
  clear q9 HC HQ c7 q1 g9 ga gb
  go_wp2_with fail
  exact HF.out
set_option maxHeartbeats 3200000 in
theorem ustp_layTopHead (h : UP W P A D m u) (hx : u.nx = 11) (o : UO) (hc : Calls Tryz.prog 171 #[.pointer (some ⟨P,0,none⟩)] W fun e w' => e = .returned (.tuple #[.bool o.tk,.int .i64 o.er]) ∧ UNx W P A D F m o.u o.s w') : Calls Tryz.prog 15 #[.pointer (some ⟨P,0,none⟩)] W (UsP W P A D F m o) := by
 have c7 : W.cell? ⟨P,7,none⟩ = some (.func (.func 171) #[.pointer (some ⟨P,0,none⟩)] #[]) := by
  have := h.cell 7 (uxV P u.nx) rfl
  rw [hx] at this
  exact this
 have q1 := ufeql 171 #[.pointer (some ⟨P,0,none⟩)] #[] W
 obtain ⟨Q,hQ⟩ : ∃ Q,Q = UsP W P A D F m o := ⟨_,rfl⟩
 obtain ⟨U,S,T,E⟩ := o
 simp only at hc
 by_cases hE : E = 0
 ·subst hE
  have HQ : Hid (∀ w',UNx W P A D F m U S w' → Q (.returned (.tuple #[.bool (decide (15 ≤ U.nx)),.bool T])) w') := fun w' hw => by rw [hQ]; exact ⟨rfl,hw⟩
  rw [← hQ]
  have HC := hide hc
  clear h hx hc hQ
  go_enter Tryz.func15,Tryz.ntmps15
  go_wp2_with fail
  refine HC.out.mono ?_
  rintro e w9 ⟨rfl,m9,D9,F9,q9⟩
  have d7 : w9.cell? ⟨P,7,none⟩ = some (uxV P U.nx) := q9.up.cell 7 _ rfl
  have HF := hide (HQ.out w9 ⟨m9,D9,F9,q9⟩)
  clear q9 HC HQ c7 q1
  rcases uxV_cases P U.nx with ⟨h1,h2⟩ | ⟨h1,g,h2⟩
  ·rw [h2] at d7
   rw [decide_eq_true h1] at HF
   have q2 := ufeql0 w9
   clear h1 h2
   go_wp2_with fail
   exact HF.out
  ·rw [h2] at d7
   rw [decide_eq_false (by omega)] at HF
   have q2 := ufeql g #[.pointer (some ⟨P,0,none⟩)] #[] w9
   clear h1 h2
   go_wp2_with fail
   exact HF.out
 ·have HQ : Hid (∀ w',UNx W P A D F m { U with nx := 15,err := E } S w' → Q (.returned (.tuple #[.bool true,.bool T])) w') := fun w' hw => by
   rw [hQ]
   have e1 : (⟨U,S,T,E⟩ : UO).fin = { U with nx := 15,err := E } := if_neg hE
   unfold UsP
   rw [e1]
   exact ⟨rfl,hw⟩
  have hEb : (E == 0) = false := by rw [beq_eq_false_iff_ne]; exact hE
  rw [← hQ]
  have HC := hide hc
  clear h hx hc hQ
  go_enter Tryz.func15,Tryz.ntmps15
  go_wp2_with fail
  refine HC.out.mono ?_
  rintro e w9 ⟨rfl,m9,D9,F9,q9⟩
  have d7 : w9.cell? ⟨P,7,none⟩ = some (uxV P U.nx) := q9.up.cell 7 _ rfl
  have g9 := q9.up.c
  have fz := fun j => frozen_of g9 j
  have ga := block_setCell g9 7 .nilFunc
  have fa := fun j => frozen_of ga j
  have d31 : (w9.setCell ⟨P,7,none⟩ .nilFunc).cell? ⟨P,31,none⟩ = some (.int .i64 U.err) := by rw [cell_of_row _ _ _ _ _ _ ga]; rfl
  have gb := block_setCell ga 31 (.int .i64 E)
  have e7 : ((w9.setCell ⟨P,7,none⟩ .nilFunc).setCell ⟨P,31,none⟩ (.int .i64 E)).cell? ⟨P,7,none⟩ = some .nilFunc := by rw [cell_of_row _ _ _ _ _ _ gb]; rfl
  have q2 := ufeql0 ((w9.setCell ⟨P,7,none⟩ .nilFunc).setCell ⟨P,31,none⟩ (.int .i64 E))
  have HF := hide (HQ.out _ ⟨m9,D9,F9,q9.stop E⟩)
  generalize uxV P U.nx = nxv at *
  clear q9 HC HQ c7 q1 g9 ga gb
  go_wp2_with fail
  exact HF.out
set_option maxHeartbeats 3200000 in
theorem ustp_layTopBody (h : UP W P A D m u) (hx : u.nx = 12) (o : UO) (hc : Calls Tryz.prog 192 #[.pointer (some ⟨P,0,none⟩)] W fun e w' => e = .returned (.tuple #[.bool o.tk,.int .i64 o.er]) ∧ UNx W P A D F m o.u o.s w') : Calls Tryz.prog 15 #[.pointer (some ⟨P,0,none⟩)] W (UsP W P A D F m o) := by
 have c7 : W.cell? ⟨P,7,none⟩ = some (.func (.func 192) #[.pointer (some ⟨P,0,none⟩)] #[]) := by
  have := h.cell 7 (uxV P u.nx) rfl
  rw [hx] at this
  exact this
 have q1 := ufeql 192 #[.pointer (some ⟨P,0,none⟩)] #[] W
 obtain ⟨Q,hQ⟩ : ∃ Q,Q = UsP W P A D F m o := ⟨_,rfl⟩
 obtain ⟨U,S,T,E⟩ := o
 simp only at hc
 by_cases hE : E = 0
 ·subst hE
  have HQ : Hid (∀ w',UNx W P A D F m U S w' → Q (.returned (.tuple #[.bool (decide (15 ≤ U.nx)),.bool T])) w') := fun w' hw => by rw [hQ]; exact ⟨rfl,hw⟩
  rw [← hQ]
  have HC := hide hc
  clear h hx hc hQ
  go_enter Tryz.func15,Tryz.ntmps15
  go_wp2_with fail
  refine HC.out.mono ?_
  rintro e w9 ⟨rfl,m9,D9,F9,q9⟩
  have d7 : w9.cell? ⟨P,7,none⟩ = some (uxV P U.nx) := q9.up.cell 7 _ rfl
  have HF := hide (HQ.out w9 ⟨m9,D9,F9,q9⟩)
  clear q9 HC HQ c7 q1
  rcases uxV_cases P U.nx with ⟨h1,h2⟩ | ⟨h1,g,h2⟩
  ·rw [h2] at d7
   rw [decide_eq_true h1] at HF
   have q2 := ufeql0 w9
   clear h1 h2
   go_wp2_with fail
   exact HF.out
  ·rw [h2] at d7
   rw [decide_eq_false (by omega)] at HF
   have q2 := ufeql g #[.pointer (some ⟨P,0,none⟩)] #[] w9
   clear h1 h2
   go_wp2_with fail
   exact HF.out
 ·have HQ : Hid (∀ w',UNx W P A D F m { U with nx := 15,err := E } S w' → Q (.returned (.tuple #[.bool true,.bool T])) w') := fun w' hw => by
   rw [hQ]
   have e1 : (⟨U,S,T,E⟩ : UO).fin = { U with nx := 15,err := E } := if_neg hE
   unfold UsP
   rw [e1]
   exact ⟨rfl,hw⟩
  have hEb : (E == 0) = false := by rw [beq_eq_false_iff_ne]; exact hE
  rw [← hQ]
  have HC := hide hc
  clear h hx hc hQ
  go_enter Tryz.func15,Tryz.ntmps15
  go_wp2_with fail
  refine HC.out.mono ?_
  rintro e w9 ⟨rfl,m9,D9,F9,q9⟩
  have d7 : w9.cell? ⟨P,7,none⟩ = some (uxV P U.nx) := q9.up.cell 7 _ rfl
  have g9 := q9.up.c
  have fz := fun j => frozen_of g9 j
  have ga := block_setCell g9 7 .nilFunc
  have fa := fun j => frozen_of ga j
  have d31 : (w9.setCell ⟨P,7,none⟩ .nilFunc).cell? ⟨P,31,none⟩ = some (.int .i64 U.err) := by rw [cell_of_row _ _ _ _ _ _ ga]; rfl
  have gb := block_setCell ga 31 (.int .i64 E)
  have e7 : ((w9.setCell ⟨P,7,none⟩ .nilFunc).setCell ⟨P,31,none⟩ (.int .i64 E)).cell? ⟨P,7,none⟩ = some .nilFunc := by rw [cell_of_row _ _ _ _ _ _ gb]; rfl
  have q2 := ufeql0 ((w9.setCell ⟨P,7,none⟩ .nilFunc).setCell ⟨P,31,none⟩ (.int .i64 E))
  have HF := hide (HQ.out _ ⟨m9,D9,F9,q9.stop E⟩)
  generalize uxV P U.nx = nxv at *
  clear q9 HC HQ c7 q1 g9 ga gb
  go_wp2_with fail
  exact HF.out
set_option maxHeartbeats 3200000 in
theorem ustp_freeTop (h : UP W P A D m u) (hx : u.nx = 13) (o : UO) (hc : Calls Tryz.prog 206 #[.pointer (some ⟨P,0,none⟩)] W fun e w' => e = .returned (.tuple #[.bool o.tk,.int .i64 o.er]) ∧ UNx W P A D F m o.u o.s w') : Calls Tryz.prog 15 #[.pointer (some ⟨P,0,none⟩)] W (UsP W P A D F m o) := by
 have c7 : W.cell? ⟨P,7,none⟩ = some (.func (.func 206) #[.pointer (some ⟨P,0,none⟩)] #[]) := by
  have := h.cell 7 (uxV P u.nx) rfl
  rw [hx] at this
  exact this
 have q1 := ufeql 206 #[.pointer (some ⟨P,0,none⟩)] #[] W
 obtain ⟨Q,hQ⟩ : ∃ Q,Q = UsP W P A D F m o := ⟨_,rfl⟩
 obtain ⟨U,S,T,E⟩ := o
 simp only at hc
 by_cases hE : E = 0
 ·subst hE
  have HQ : Hid (∀ w',UNx W P A D F m U S w' → Q (.returned (.tuple #[.bool (decide (15 ≤ U.nx)),.bool T])) w') := fun w' hw => by rw [hQ]; exact ⟨rfl,hw⟩
  rw [← hQ]
  have HC := hide hc
  clear h hx hc hQ
  go_enter Tryz.func15,Tryz.ntmps15
  go_wp2_with fail
  refine HC.out.mono ?_
  rintro e w9 ⟨rfl,m9,D9,F9,q9⟩
  have d7 : w9.cell? ⟨P,7,none⟩ = some (uxV P U.nx) := q9.up.cell 7 _ rfl
  have HF := hide (HQ.out w9 ⟨m9,D9,F9,q9⟩)
  clear q9 HC HQ c7 q1
  rcases uxV_cases P U.nx with ⟨h1,h2⟩ | ⟨h1,g,h2⟩
  ·rw [h2] at d7
   rw [decide_eq_true h1] at HF
   have q2 := ufeql0 w9
   clear h1 h2
   go_wp2_with fail
   exact HF.out
  ·rw [h2] at d7
   rw [decide_eq_false (by omega)] at HF
   have q2 := ufeql g #[.pointer (some ⟨P,0,none⟩)] #[] w9
   clear h1 h2
   go_wp2_with fail
   exact HF.out
 ·have HQ : Hid (∀ w',UNx W P A D F m { U with nx := 15,err := E } S w' → Q (.returned (.tuple #[.bool true,.bool T])) w') := fun w' hw => by
   rw [hQ]
   have e1 : (⟨U,S,T,E⟩ : UO).fin = { U with nx := 15,err := E } := if_neg hE
   unfold UsP
   rw [e1]
   exact ⟨rfl,hw⟩
  have hEb : (E == 0) = false := by rw [beq_eq_false_iff_ne]; exact hE
  rw [← hQ]
  have HC := hide hc
  clear h hx hc hQ
  go_enter Tryz.func15,Tryz.ntmps15
  go_wp2_with fail
  refine HC.out.mono ?_
  rintro e w9 ⟨rfl,m9,D9,F9,q9⟩
  have d7 : w9.cell? ⟨P,7,none⟩ = some (uxV P U.nx) := q9.up.cell 7 _ rfl
  have g9 := q9.up.c
  have fz := fun j => frozen_of g9 j
  have ga := block_setCell g9 7 .nilFunc
  have fa := fun j => frozen_of ga j
  have d31 : (w9.setCell ⟨P,7,none⟩ .nilFunc).cell? ⟨P,31,none⟩ = some (.int .i64 U.err) := by rw [cell_of_row _ _ _ _ _ _ ga]; rfl
  have gb := block_setCell ga 31 (.int .i64 E)
  have e7 : ((w9.setCell ⟨P,7,none⟩ .nilFunc).setCell ⟨P,31,none⟩ (.int .i64 E)).cell? ⟨P,7,none⟩ = some .nilFunc := by rw [cell_of_row _ _ _ _ _ _ gb]; rfl
  have q2 := ufeql0 ((w9.setCell ⟨P,7,none⟩ .nilFunc).setCell ⟨P,31,none⟩ (.int .i64 E))
  have HF := hide (HQ.out _ ⟨m9,D9,F9,q9.stop E⟩)
  generalize uxV P U.nx = nxv at *
  clear q9 HC HQ c7 q1 g9 ga gb
  go_wp2_with fail
  exact HF.out
set_option maxHeartbeats 3200000 in
theorem ustp_grow (h : UP W P A D m u) (hx : u.nx = 14) (o : UO) (hc : Calls Tryz.prog 210 #[.pointer (some ⟨P,0,none⟩)] W fun e w' => e = .returned (.tuple #[.bool o.tk,.int .i64 o.er]) ∧ UNx W P A D F m o.u o.s w') : Calls Tryz.prog 15 #[.pointer (some ⟨P,0,none⟩)] W (UsP W P A D F m o) := by
 have c7 : W.cell? ⟨P,7,none⟩ = some (.func (.func 210) #[.pointer (some ⟨P,0,none⟩)] #[]) := by
  have := h.cell 7 (uxV P u.nx) rfl
  rw [hx] at this
  exact this
 have q1 := ufeql 210 #[.pointer (some ⟨P,0,none⟩)] #[] W
 obtain ⟨Q,hQ⟩ : ∃ Q,Q = UsP W P A D F m o := ⟨_,rfl⟩
 obtain ⟨U,S,T,E⟩ := o
 simp only at hc
 by_cases hE : E = 0
 ·subst hE
  have HQ : Hid (∀ w',UNx W P A D F m U S w' → Q (.returned (.tuple #[.bool (decide (15 ≤ U.nx)),.bool T])) w') := fun w' hw => by rw [hQ]; exact ⟨rfl,hw⟩
  rw [← hQ]
  have HC := hide hc
  clear h hx hc hQ
  go_enter Tryz.func15,Tryz.ntmps15
  go_wp2_with fail
  refine HC.out.mono ?_
  rintro e w9 ⟨rfl,m9,D9,F9,q9⟩
  have d7 : w9.cell? ⟨P,7,none⟩ = some (uxV P U.nx) := q9.up.cell 7 _ rfl
  have HF := hide (HQ.out w9 ⟨m9,D9,F9,q9⟩)
  clear q9 HC HQ c7 q1
  rcases uxV_cases P U.nx with ⟨h1,h2⟩ | ⟨h1,g,h2⟩
  ·rw [h2] at d7
   rw [decide_eq_true h1] at HF
   have q2 := ufeql0 w9
   clear h1 h2
   go_wp2_with fail
   exact HF.out
  ·rw [h2] at d7
   rw [decide_eq_false (by omega)] at HF
   have q2 := ufeql g #[.pointer (some ⟨P,0,none⟩)] #[] w9
   clear h1 h2
   go_wp2_with fail
   exact HF.out
 ·have HQ : Hid (∀ w',UNx W P A D F m { U with nx := 15,err := E } S w' → Q (.returned (.tuple #[.bool true,.bool T])) w') := fun w' hw => by
   rw [hQ]
   have e1 : (⟨U,S,T,E⟩ : UO).fin = { U with nx := 15,err := E } := if_neg hE
   unfold UsP
   rw [e1]
   exact ⟨rfl,hw⟩
  have hEb : (E == 0) = false := by rw [beq_eq_false_iff_ne]; exact hE
  rw [← hQ]
  have HC := hide hc
  clear h hx hc hQ
  go_enter Tryz.func15,Tryz.ntmps15
  go_wp2_with fail
  refine HC.out.mono ?_
  rintro e w9 ⟨rfl,m9,D9,F9,q9⟩
  have d7 : w9.cell? ⟨P,7,none⟩ = some (uxV P U.nx) := q9.up.cell 7 _ rfl
  have g9 := q9.up.c
  have fz := fun j => frozen_of g9 j
  have ga := block_setCell g9 7 .nilFunc
  have fa := fun j => frozen_of ga j
  have d31 : (w9.setCell ⟨P,7,none⟩ .nilFunc).cell? ⟨P,31,none⟩ = some (.int .i64 U.err) := by rw [cell_of_row _ _ _ _ _ _ ga]; rfl
  have gb := block_setCell ga 31 (.int .i64 E)
  have e7 : ((w9.setCell ⟨P,7,none⟩ .nilFunc).setCell ⟨P,31,none⟩ (.int .i64 E)).cell? ⟨P,7,none⟩ = some .nilFunc := by rw [cell_of_row _ _ _ _ _ _ gb]; rfl
  have q2 := ufeql0 ((w9.setCell ⟨P,7,none⟩ .nilFunc).setCell ⟨P,31,none⟩ (.int .i64 E))
  have HF := hide (HQ.out _ ⟨m9,D9,F9,q9.stop E⟩)
  generalize uxV P U.nx = nxv at *
  clear q9 HC HQ c7 q1 g9 ga gb
  go_wp2_with fail
  exact HF.out
end
structure UOk (u : US) : Prop where
 way : u.nx = 1 ∨ u.nx = 2 → ∃ ms,u.way = some ms
 cnt : ∀ ms,u.way = some ms → ms.an < 4611686018427387904 ∧ ms.mo < 4611686018427387904
 thr : u.nx = 2 → ∀ ms,u.way = some ms → 5 ≤ ms.nx ∧ ms.wd < 18446744073709551616 ∧ ms.nd.ks.length * 24 ≤ 140737488351900 ∧ ms.nd.vs.length * 24 ≤ 140737488351900 ∧ ms.nd.cs.length * 8 ≤ 140737488351900
 pc : u.nx = 7 → 0 ≤ u.pc ∧ u.pc ≤ 4
 lev : -4611686018427387904 ≤ u.lev ∧ u.lev ≤ 4611686018427387904
section
variable {W w1 w2 : World} {P A : Nat} {D F D1 F1 : Nat → Prop} {m m1 : UM} {u u1 u2 : US} {s s1 : AS}
theorem groS_no {s : AS} {a b : Int} (h : s.groB a b = false) : s.groS a b = s := by
 unfold AS.groS
 rw [if_neg (of_decide_eq_false h)]
theorem us_idle (h : 15 ≤ u.nx) : u.step s = ⟨u,s,false,0⟩ := if_pos h
theorem us_step (h : u.nx < 15) : (u.step s).u = (u.act s).fin ∧ (u.step s).s = (u.act s).s ∧ (u.step s).tk = (u.act s).tk := by
 unfold US.step UO.fin
 rw [if_neg (by omega)]
 split
 ·exact ⟨rfl,rfl,rfl⟩
 ·exact ⟨rfl,rfl,rfl⟩
set_option maxHeartbeats 1600000 in
theorem ustep_any (h : UP W P A D m u) (hp : PX W A F s) (hF : ∀ x,F x → ¬ D x ∧ x ≠ P) (hu : UOk u) : Calls Tryz.prog 15 #[.pointer (some ⟨P,0,none⟩)] W fun e w' => e = .returned (.tuple #[.bool (decide (15 ≤ (u.step s).u.nx)),.bool (u.step s).tk]) ∧ UNx W P A D F m (u.step s).u (u.step s).s w' := by
 have q0 := UQ.begin h hp hF
 by_cases h15 : 15 ≤ u.nx
 ·rw [us_idle h15]
  refine (ustp_idle h h15).mono ?_
  rintro e w' ⟨rfl,rfl⟩
  exact ⟨by rw [decide_eq_true h15],q0.nx⟩
 obtain ⟨e1,e2,e3⟩ := us_step (u := u) (s := s) (by omega)
 rw [e1,e2,e3]
 show Calls Tryz.prog 15 #[.pointer (some ⟨P,0,none⟩)] W (UsP W P A D F m (u.act s))
 obtain ⟨k,hk⟩ : ∃ k,u.nx = k := ⟨_,rfl⟩
 rw [hk] at h15
 match k,hk with
 | 0,hk => exact ustp_refuse h hk _ (u_refuse h hp hF hk)
 | 1,hk =>
  obtain ⟨ms,hms⟩ := hu.way (.inl hk)
  obtain ⟨c1,c2⟩ := hu.cnt ms hms
  rcases h.w with ⟨_,h1⟩ | ⟨p,ms',kk,n,Dm,h1,h2,h3,h4,h5⟩
  ·rw [hms] at h1; cases h1
  ·rw [hms] at h2
   cases h2
   have em : u.m = ms := by unfold US.m; rw [hms]; rfl
   refine ustp_goDown h hk _ (u_goDown q0 h1 h4 h5 h3 (.inl h1) c1 c2 _ ?_ ?_ ?_ ?_)
   ·intro g1 D2 w' q
    have e : u.act s = ⟨{ u with way := some (ms.step s) },s,false,0⟩ := by
     unfold US.act; rw [hk]; simp only [em]; rw [if_pos g1]
    rw [e]; exact ⟨rfl,q.nx⟩
   ·intro g1 g2 D2 w' q
    have e : u.act s = ⟨{ u with way := some (ms.step s),nx := 2 },s,false,0⟩ := by
     unfold US.act; rw [hk]; simp only [em]; rw [if_neg g1,if_pos g2]
    rw [e]; exact ⟨rfl,q.nx⟩
   ·intro g1 g2 g3 D2 w' q
    have e : u.act s = ⟨{ u with way := some (ms.step s) },s,false,101⟩ := by
     unfold US.act; rw [hk]; simp only [em]; rw [if_neg g1,if_neg (fun hn => hn g2),if_pos g3]
    rw [e]; exact ⟨rfl,q.nx⟩
   ·intro g1 g2 g3 D2 w' q
    have e : u.act s = ⟨{ u with way := some (ms.step s),nx := 9 },s,false,0⟩ := by
     unfold US.act; rw [hk]; simp only [em]; rw [if_neg g1,if_neg (fun hn => hn g2),if_neg g3]
    rw [e]; exact ⟨rfl,q.nx⟩
 | 2,hk =>
  obtain ⟨ms,hms⟩ := hu.way (.inr hk)
  obtain ⟨t1,t2,t3⟩ := hu.thr hk ms hms
  rcases h.w with ⟨_,h1⟩ | ⟨p,ms',kk,n,Dm,h1,h2,h3,h4,h5⟩
  ·rw [hms] at h1; cases h1
  ·rw [hms] at h2
   cases h2
   have em : u.m = ms := by unfold US.m; rw [hms]; rfl
   refine ustp_lock h hk _ ((u_lock q0 h1 h4 t1 t2 t3).mono ?_)
   rintro e w' ⟨rfl,m2,D2,F2,q⟩
   cases hL : s.lockB ms.id ms.wd with
   | true =>
    have e : u.act s = ⟨({ u with hid := ms.id } : US).fate ms.nd,s.lockS ms.id ms.wd,false,0⟩ := by
     unfold US.act; rw [hk]; simp only [em]; rw [if_pos hL]
    rw [e]
    rw [if_pos hL] at q
    exact ⟨rfl,q.nx⟩
   | false =>
    have e : u.act s = ⟨u.down,s,false,s.wordE ms.id⟩ := by
     unfold US.act; rw [hk]; simp only [em]; rw [if_neg (by rw [hL]; decide)]
    rw [e]
    rw [if_neg (by rw [hL]; decide),lockS_no hL] at q
    exact ⟨rfl,q.nx⟩
 | 3,hk => exact ustp_layBody h hk _ (u_layBody h hp hF hk)
 | 4,hk =>
  have e : u.act s = ⟨{ u with nx := 15 },s.unlS u.hid true,decide (s.unlE u.hid = 0 ∧ u.lev = 0),s.unlE u.hid⟩ := by unfold US.act; rw [hk]
  refine ustp_free h hk _ ((u_free q0).mono ?_)
  rintro e w' ⟨rfl,F2,q⟩
  rw [e]; exact ⟨rfl,q.nx⟩
 | 5,hk =>
  refine ustp_giveBack h hk _ ((u_giveBack q0).mono ?_)
  rintro e w' ⟨rfl,F2,q⟩
  by_cases hc : s.unlE u.hid = 0 ∧ u.lev = 0
  ·have e : u.act s = ⟨{ u with nx := 15 },s.unlS u.hid false,true,2⟩ := by unfold US.act; rw [hk]; simp only; rw [if_pos hc]
   rw [e]; exact ⟨by rw [if_pos hc],q.nx⟩
  ·have e : u.act s = ⟨{ u with nx := 15 },s.unlS u.hid false,false,s.unlE u.hid⟩ := by unfold US.act; rw [hk]; simp only; rw [if_neg hc]
   rw [e]; exact ⟨by rw [if_neg hc],q.nx⟩
 | 6,hk =>
  refine ustp_takeHalf h hk _ ((u_takeHalf q0).mono ?_)
  rintro e w' ⟨rfl,m2,D2,F2,q⟩
  by_cases hc : s.allE = 0
  ·have e : u.act s = ⟨{ u with hn := u.hn.cut1 s.allI,fid := s.allI,fn := u.hn.cut2,bet := u.hn.cut3,pc := 0,nx := 7 },s.allS,false,0⟩ := by unfold US.act; rw [hk]; simp only; rw [if_pos hc]
   rw [if_pos hc] at q
   rw [e]; exact ⟨rfl,q.nx⟩
  ·have e : u.act s = ⟨{ u with nx := 5 },s.allS,false,0⟩ := by unfold US.act; rw [hk]; simp only; rw [if_neg hc]
   rw [if_neg hc] at q
   rw [e]; exact ⟨rfl,q.nx⟩
 | 7,hk =>
  obtain ⟨p1,p2⟩ := hu.pc hk
  have hpc : u.pc = 0 ∨ u.pc = 1 ∨ u.pc = 2 ∨ u.pc = 3 ∨ u.pc = 4 := by omega
  rcases hpc with hpc | hpc | hpc | hpc | hpc
  ·have e : u.act s = ⟨{ u with pc := 1 },s.hedS u.fid u.fn.lv u.fn.hi u.fn.ri,false,s.unlE u.fid⟩ := by unfold US.act; rw [hk]; simp only [hpc]; rfl
   refine ustp_layHalves h hk _ ((u_lay0 q0 hpc).mono ?_)
   rintro e w' ⟨rfl,m2,D2,F2,q⟩
   rw [e]; exact ⟨rfl,q.nx⟩
  ·have e : u.act s = ⟨{ u with pc := 2 },s.bodS u.fid u.fn.ks u.fn.vs u.fn.cs,false,s.unlE u.fid⟩ := by unfold US.act; rw [hk]; simp only [hpc]; rfl
   refine ustp_layHalves h hk _ ((u_lay1 q0 hpc).mono ?_)
   rintro e w' ⟨rfl,m2,D2,F2,q⟩
   rw [e]; exact ⟨rfl,q.nx⟩
  ·have e : u.act s = ⟨{ u with pc := 3 },s.unlS u.fid true,false,s.unlE u.fid⟩ := by unfold US.act; rw [hk]; simp only [hpc]; rfl
   refine ustp_layHalves h hk _ ((u_lay2 q0 hpc).mono ?_)
   rintro e w' ⟨rfl,m2,D2,F2,q⟩
   rw [e]; exact ⟨rfl,q.nx⟩
  ·have e : u.act s = ⟨{ u with pc := 4 },s.hedS u.hid u.hn.lv u.hn.hi u.hn.ri,false,s.unlE u.hid⟩ := by unfold US.act; rw [hk]; simp only [hpc]; rfl
   refine ustp_layHalves h hk _ ((u_lay3 q0 hpc).mono ?_)
   rintro e w' ⟨rfl,m2,D2,F2,q⟩
   rw [e]; exact ⟨rfl,q.nx⟩
  ·have e : u.act s = ⟨{ u with pc := 5,nx := 8 },s.bodS u.hid u.hn.ks u.hn.vs u.hn.cs,false,s.unlE u.hid⟩ := by unfold US.act; rw [hk]; simp only [hpc]; rfl
   refine ustp_layHalves h hk _ ((u_lay4 q0 hpc).mono ?_)
   rintro e w' ⟨rfl,m2,D2,F2,q⟩
   rw [e]; exact ⟨rfl,q.nx⟩
 | 8,hk =>
  have e : u.act s = ⟨({ u with lft := u.hid,rgt := u.fid,sep := u.bet,lev := u.lev + 1 } : US).down,s.unlS u.hid true,decide (s.unlE u.hid = 0 ∧ u.lev = 0),s.unlE u.hid⟩ := by unfold US.act; rw [hk]
  refine ustp_rise h hk _ ((u_rise q0 hu.lev).mono ?_)
  rintro e w' ⟨rfl,m2,D2,F2,q⟩
  rw [e]; exact ⟨rfl,q.nx⟩
 | 9,hk =>
  have e : u.act s = ⟨{ u with nx := if s.root = u.lft then 10 else 15 },s,false,0⟩ := by unfold US.act; rw [hk]
  refine ustp_seeRoot h hk _ ((u_seeRoot q0).mono ?_)
  rintro e w' ⟨rfl,q⟩
  rw [e]; exact ⟨rfl,q.nx⟩
 | 10,hk =>
  refine ustp_takeTop h hk _ ((u_takeTop q0).mono ?_)
  rintro e w' ⟨rfl,F2,q⟩
  by_cases hc : s.allE = 0
  ·have e : u.act s = ⟨{ u with top := s.allI,nx := 11 },s.allS,false,0⟩ := by unfold US.act; rw [hk]; simp only; rw [if_pos hc]
   rw [if_pos hc] at q
   rw [e]; exact ⟨rfl,q.nx⟩
  ·have e : u.act s = ⟨{ u with nx := 15 },s.allS,false,0⟩ := by unfold US.act; rw [hk]; simp only; rw [if_neg hc]
   rw [if_neg hc] at q
   rw [e]; exact ⟨rfl,q.nx⟩
 | 11,hk => exact ustp_layTopHead h hk _ (u_layTopHead h hp hF hk)
 | 12,hk =>
  have e : u.act s = ⟨{ u with nx := 13 },s.bodS u.top [u.sep] [] [u.lft,u.rgt],false,s.unlE u.top⟩ := by unfold US.act; rw [hk]
  refine ustp_layTopBody h hk _ ((u_layTopBody q0).mono ?_)
  rintro e w' ⟨rfl,m2,D2,F2,q⟩
  rw [e]; exact ⟨rfl,q.nx⟩
 | 13,hk => exact ustp_freeTop h hk _ (u_freeTop h hp hF hk)
 | 14,hk =>
  refine ustp_grow h hk _ ((u_grow q0).mono ?_)
  rintro e w' ⟨rfl,m2,D2,F2,q⟩
  cases hc : s.groB u.lft u.top with
  | true =>
   have e : u.act s = ⟨{ u with nx := 15 },s.groS u.lft u.top,false,s.wordE u.top⟩ := by unfold US.act; rw [hk]; simp only; rw [if_pos hc]
   rw [if_pos hc] at q
   rw [e]; exact ⟨rfl,q.nx⟩
  | false =>
   have e : u.act s = ⟨u.down,s,false,s.wordE u.top⟩ := by unfold US.act; rw [hk]; simp only; rw [if_neg (by rw [hc]; decide)]
   rw [if_neg (by rw [hc]; decide),groS_no hc] at q
   rw [e]; exact ⟨rfl,q.nx⟩
 | n + 15,hk => omega
end
section
variable {c : Cfg} {s t : AS} {C C' : Int → Prop} {cs : List Chn} {u : US} {M : Nat}
structure UFa (u : US) (s : AS) (o : UO) : Prop where
 val : o.u.val = u.val
 lev : o.u.lev = u.lev ∨ (u.nx = 8 ∧ o.u.lev = u.lev + 1)
 sep : o.u.lev = u.lev → o.u.sep = u.sep
 way : o.u.way = u.way ∨ (∃ k l,o.u.way = some (MS.new k l)) ∨ (u.nx = 1 ∧ o.u.way = some (u.m.step s))
 tk : o.tk = true → o.er = 0 → (u.nx = 4 ∨ u.nx = 8) ∧ u.lev = 0
 tk0 : u.nx = 0 → o.er = 3
 err : o.u.err = u.err
theorem fate_fa (u : US) (n : NP) : (u.fate n).val = u.val ∧ (u.fate n).lev = u.lev ∧ (u.fate n).sep = u.sep ∧ (u.fate n).way = u.way ∧ (u.fate n).err = u.err := by
 unfold US.fate
 split
 ·exact ⟨rfl,rfl,rfl,rfl,rfl⟩
 ·split <;> exact ⟨rfl,rfl,rfl,rfl,rfl⟩
theorem ua_facts (u : US) (s : AS) : UFa u s (u.act s) := by
 unfold US.act
 split
 case h_3 e =>
  split
  ·obtain ⟨f1,f2,f3,f4,f5⟩ := fate_fa { u with hid := u.m.id } u.m.nd
   exact ⟨f1,.inl f2,fun _ => f3,.inl f4,fun h => by simp at h,fun h => by omega,f5⟩
  ·exact ⟨rfl,.inl rfl,fun _ => rfl,.inr (.inl ⟨_,_,rfl⟩),fun h => by simp at h,fun h => by omega,rfl⟩
 case h_1 e => exact ⟨rfl,.inl rfl,fun _ => rfl,.inl rfl,fun _ h => by simp at h,fun _ => rfl,rfl⟩
 case h_2 e =>
  simp only
  split
  ·exact ⟨rfl,.inl rfl,fun _ => rfl,.inr (.inr ⟨e,rfl⟩),fun h => by simp at h,fun h => by omega,rfl⟩
  ·split
   ·exact ⟨rfl,.inl rfl,fun _ => rfl,.inr (.inr ⟨e,rfl⟩),fun h => by simp at h,fun h => by omega,rfl⟩
   ·split <;> exact ⟨rfl,.inl rfl,fun _ => rfl,.inr (.inr ⟨e,rfl⟩),fun h => by simp at h,fun h => by omega,rfl⟩
 case h_4 e => exact ⟨rfl,.inl rfl,fun _ => rfl,.inl rfl,fun h => by simp at h,fun h => by omega,rfl⟩
 case h_5 e => exact ⟨rfl,.inl rfl,fun _ => rfl,.inl rfl,fun h _ => ⟨.inl e,(of_decide_eq_true h).2⟩,fun h => by omega,rfl⟩
 case h_6 e =>
  split
  ·exact ⟨rfl,.inl rfl,fun _ => rfl,.inl rfl,fun _ h => by simp at h,fun h => by omega,rfl⟩
  ·exact ⟨rfl,.inl rfl,fun _ => rfl,.inl rfl,fun h => by simp at h,fun h => by omega,rfl⟩
 case h_7 e => split <;> exact ⟨rfl,.inl rfl,fun _ => rfl,.inl rfl,fun h => by simp at h,fun h => by omega,rfl⟩
 case h_8 e =>
  simp only
  split
  ·exact ⟨rfl,.inl rfl,fun _ => rfl,.inl rfl,fun h => by simp at h,fun h => by omega,rfl⟩
  ·split
   ·exact ⟨rfl,.inl rfl,fun _ => rfl,.inl rfl,fun h => by simp at h,fun h => by omega,rfl⟩
   ·split
    ·exact ⟨rfl,.inl rfl,fun _ => rfl,.inl rfl,fun h => by simp at h,fun h => by omega,rfl⟩
    ·split <;> exact ⟨rfl,.inl rfl,fun _ => rfl,.inl rfl,fun h => by simp at h,fun h => by omega,rfl⟩
 case h_9 e => exact ⟨rfl,.inr ⟨e,rfl⟩,fun (h : u.lev + 1 = u.lev) => by omega,.inr (.inl ⟨_,_,rfl⟩),fun h _ => ⟨.inr e,(of_decide_eq_true h).2⟩,fun h => by omega,rfl⟩
 case h_10 e => exact ⟨rfl,.inl rfl,fun _ => rfl,.inl rfl,fun h => by simp at h,fun h => by omega,rfl⟩
 case h_11 e => split <;> exact ⟨rfl,.inl rfl,fun _ => rfl,.inl rfl,fun h => by simp at h,fun h => by omega,rfl⟩
 case h_12 e => exact ⟨rfl,.inl rfl,fun _ => rfl,.inl rfl,fun h => by simp at h,fun h => by omega,rfl⟩
 case h_13 e => exact ⟨rfl,.inl rfl,fun _ => rfl,.inl rfl,fun h => by simp at h,fun h => by omega,rfl⟩
 case h_14 e => exact ⟨rfl,.inl rfl,fun _ => rfl,.inl rfl,fun h => by simp at h,fun h => by omega,rfl⟩
 case h_15 e =>
  split
  ·exact ⟨rfl,.inl rfl,fun _ => rfl,.inl rfl,fun h => by simp at h,fun h => by omega,rfl⟩
  ·exact ⟨rfl,.inl rfl,fun _ => rfl,.inr (.inl ⟨_,_,rfl⟩),fun h => by simp at h,fun h => by omega,rfl⟩
 case h_16 e => exact ⟨rfl,.inl rfl,fun _ => rfl,.inl rfl,fun h => by simp at h,fun h => by omega,rfl⟩
theorem us_facts (u : US) (s : AS) (h15 : u.nx < 15) : (u.step s).u.val = u.val ∧ ((u.step s).u.lev = u.lev ∨ (u.step s).u.lev = u.lev + 1) ∧ ((u.step s).u.lev = u.lev → (u.step s).u.sep = u.sep) ∧ ((u.step s).u.way = u.way ∨ (∃ k l,(u.step s).u.way = some (MS.new k l)) ∨ (u.nx = 1 ∧ (u.step s).u.way = some (u.m.step s))) ∧ ((u.step s).tk = true → (u.step s).er = 0 → (u.nx = 4 ∨ u.nx = 8) ∧ u.lev = 0) ∧ (u.nx = 0 → (u.step s).u.nx = 15) ∧ (u.err = 0 → (u.step s).u.err = (u.step s).er) ∧ ((u.step s).er ≠ 0 → (u.step s).u.nx = 15) := by
 obtain ⟨a1,a2,a3,a4,a5,a6,a7⟩ := ua_facts u s
 have a2' := a2.imp (fun h => h) (fun h => h.2)
 unfold US.step
 rw [if_neg (by omega)]
 split
 ·rename_i h
  exact ⟨a1,a2',a3,a4,a5,fun e => (by rw [a6 e] at h; cases h),fun e => a7.trans (e.trans h.symm),fun e => absurd h e⟩
 ·exact ⟨a1,a2',a3,a4,a5,fun _ => rfl,fun _ => rfl,fun _ => rfl⟩
def USz (p : NP) : Prop := p.ks.length ≤ 100 ∧ p.vs.length ≤ 100 ∧ p.cs.length ≤ 100
structure UB (u : US) (M : Nat) : Prop where
 way : ∀ ms,u.way = some ms → USz ms.nd ∧ ms.an ≤ M ∧ ms.mo ≤ M
 lev : u.lev ≤ M
 err : u.nx < 15 → u.err = 0
def KV (key val : List Int) (u : US) : Prop := u.nx = 0 ∨ u.nx = 15 ∨ ((1 ≤ key.length ∧ key.length ≤ 64 ∧ val.length ≤ 256) ∧ u.val = val ∧ (u.lev = 0 → u.sep = key))
theorem sz_zero : USz NP.zero := ⟨Nat.zero_le _,Nat.zero_le _,Nat.zero_le _⟩
theorem ms_sz {m : MS} (h : USz m.nd) (hs : ∀ k,USz (s.n k)) : USz (m.step s).nd := by
 have hz := sz_zero
 have hg : ∀ k,USz (m.goTo k).nd := fun k => by unfold MS.goTo; exact hz
 unfold MS.step
 split
 ·exact hg _
 ·split
  ·exact h
  ·split
   ·exact hz
   ·split
    ·split <;> exact h
    ·split
     ·exact h
     ·split
      ·exact hs m.id
      ·unfold MS.valid MS.choose
       split
       ·split
        ·exact hz
        ·split
         ·exact hz
         ·split
          ·exact h
          ·exact hg _
       ·exact hz
theorem UB.step (h : UB u M) (hs : ∀ k,USz (s.n k)) : UB (u.step s).u (M + 1) := by
 by_cases h15 : u.nx < 15
 ·obtain ⟨-,a2,-,a4,-,-,a7,a8⟩ := us_facts u s h15
  refine ⟨fun ms hm => ?_,by have := h.lev; omega,fun e => ?_⟩
  ·rcases a4 with g | ⟨k,l,g⟩ | ⟨_,g⟩
   ·rw [g] at hm
    obtain ⟨b1,b2,b3⟩ := h.way ms hm
    exact ⟨b1,by omega,by omega⟩
   ·rw [g] at hm
    obtain rfl := Option.some.inj hm
    exact ⟨sz_zero,Nat.zero_le _,Nat.zero_le _⟩
   ·rw [g] at hm
    obtain rfl := Option.some.inj hm
    have h0 : USz u.m.nd ∧ u.m.an ≤ M ∧ u.m.mo ≤ M := by
     unfold US.m
     cases hw : u.way with
     | none => exact ⟨sz_zero,Nat.zero_le _,Nat.zero_le _⟩
     | some q => exact h.way q hw
    have h1 := MS.step_cnt u.m s
    exact ⟨ms_sz h0.1 hs,by omega,by omega⟩
  ·rw [a7 (h.err h15)]
   refine Decidable.byContradiction fun g => ?_
   rw [a8 g] at e
   omega
 ·have e : u.step s = ⟨u,s,false,0⟩ := if_pos (by omega)
  rw [e]
  exact ⟨fun ms hm => by obtain ⟨b1,b2,b3⟩ := h.way ms hm; exact ⟨b1,by omega,by omega⟩,by have := h.lev; simp only; omega,h.err⟩
theorem UB.mono (h : UB u M) : UB u (M + 1) := ⟨fun ms hm => by obtain ⟨b1,b2,b3⟩ := h.way ms hm; exact ⟨b1,by omega,by omega⟩,by have := h.lev; omega,h.err⟩
theorem UB.new {key value : List Int} : UB (US.new c key value) M := by
 unfold US.new
 split
 ·exact ⟨fun ms hm => (by obtain rfl := Option.some.inj hm; exact ⟨sz_zero,Nat.zero_le _,Nat.zero_le _⟩),Int.natCast_nonneg _,fun _ => rfl⟩
 ·exact ⟨fun ms hm => (by cases hm),Int.natCast_nonneg _,fun _ => rfl⟩
theorem KV.new {key value : List Int} : KV key value (US.new c key value) := by
 unfold US.new
 split
 ·rename_i h
  exact .inr (.inr ⟨h,rfl,fun _ => rfl⟩)
 ·exact .inl rfl
theorem KV.step {key val : List Int} (h : KV key val u) (hl0 : 0 ≤ u.lev) : KV key val (u.step s).u := by
 by_cases h15 : u.nx < 15
 ·obtain ⟨a1,a2,a3,a4,a5,a6,a7,a8⟩ := us_facts u s h15
  rcases h with g | g | ⟨g1,g2,g3⟩
  ·exact .inr (.inl (a6 g))
  ·omega
  ·by_cases hl : (u.step s).u.lev = u.lev
   ·exact .inr (.inr ⟨g1,a1.trans g2,fun e => (a3 hl).trans (g3 (by omega))⟩)
   ·exact .inr (.inr ⟨g1,a1.trans g2,fun e => by omega⟩)
 ·have e : u.step s = ⟨u,s,false,0⟩ := if_pos (by omega)
  rw [e]
  exact h
theorem KV.tk {key val : List Int} (h : KV key val u) (h1 : (u.step s).tk = true) (h2 : (u.step s).er = 0) : (1 ≤ key.length ∧ key.length ≤ 64 ∧ val.length ≤ 256) ∧ u.val = val ∧ u.sep = key := by
 by_cases h15 : u.nx < 15
 ·obtain ⟨a1,a2,a3,a4,a5,a6,a7,a8⟩ := us_facts u s h15
  obtain ⟨b1,b2⟩ := a5 h1 h2
  rcases h with g | g | ⟨g1,g2,g3⟩
  ·omega
  ·omega
  ·exact ⟨g1,g2,g3 b2⟩
 ·have e : u.step s = ⟨u,s,false,0⟩ := if_pos (by omega)
  rw [e] at h1
  cases h1
theorem UB.tkErr (h : UB u M) (h1 : (u.step s).tk = true) : (u.step s).u.err = (u.step s).er := by
 by_cases h15 : u.nx < 15
 ·exact (us_facts u s h15).2.2.2.2.2.2.1 (h.err h15)
 ·have e : u.step s = ⟨u,s,false,0⟩ := if_pos (by omega)
  rw [e] at h1
  cases h1
theorem uok (h : UI c s t C cs u M) (hb : UB u M) (hM : M < 4611686018427387904) : UOk u := by
 refine ⟨fun e => ?_,fun ms hm => ?_,fun e ms hm => ?_,h.pc,?_⟩
 ·rcases e with e | e
  ·obtain ⟨ms,g,_⟩ := h.p1 e
   exact ⟨ms,g⟩
  ·obtain ⟨ms,g,_⟩ := h.p2 e
   exact ⟨ms,g⟩
 ·obtain ⟨_,b2,b3⟩ := hb.way ms hm
  omega
 ·obtain ⟨ms',g1,g2⟩ := h.p2 e
  rw [g1] at hm
  obtain rfl := Option.some.inj hm
  obtain ⟨⟨b1,b2,b3⟩,_,_⟩ := hb.way _ g1
  exact ⟨by rw [g2.nx]; exact Nat.le_refl _,g2.lt,by omega,by omega,by omega⟩
 ·have := h.lev; have := hb.lev; omega
end
section
variable {c : Cfg} {s t : AS} {C C' : Int → Prop} {cs : List Chn} {u : US} {M : Nat}
def SB (s : AS) : Prop := (∀ x ∈ s.sl,USz x.2) ∧ (s.sl.length : Int) ≤ s.nodes
theorem SB.n (h : SB s) (k : Int) : USz (s.n k) := by
 unfold AS.n
 rw [List.getD_eq_getElem?_getD]
 cases e : s.sl[(k - 1).toNat]? with
 | none => exact sz_zero
 | some x => exact h.1 x (List.mem_of_getElem? e)
theorem SB.set {k : Int} {x : Nat} {p : NP} (h : SB s) (hp : USz p) : SB ⟨s.nodes,s.root,s.sl.set (k - 1).toNat (x,p)⟩ := by
 refine ⟨fun y hy => ?_,by simpa using h.2⟩
 rcases List.mem_or_eq_of_mem_set hy with g | rfl
 ·exact h.1 y g
 ·exact hp
theorem SB.unl (h : SB s) (k : Int) (b : Bool) : SB (s.unlS k b) := by
 unfold AS.unlS
 split
 ·exact h.set (h.n k)
 ·exact h
theorem SB.lock (h : SB s) (k : Int) (x : Nat) : SB (s.lockS k x) := by
 unfold AS.lockS
 split
 ·exact h.set (h.n k)
 ·exact h
theorem SB.hed (h : SB s) (k : Int) (lv : Int) (hi : List Int) (ri : Int) : SB (s.hedS k lv hi ri) := by
 unfold AS.hedS
 split
 ·exact h.set (h.n k)
 ·exact h
theorem SB.bod {p : NP} (h : SB s) (k : Int) (hp : USz p) : SB (s.bodS k p.ks p.vs p.cs) := by
 unfold AS.bodS
 split
 ·exact h.set hp
 ·exact h
theorem SB.gro (h : SB s) (a b : Int) : SB (s.groS a b) := by
 unfold AS.groS
 split
 ·exact h
 ·exact h
theorem SB.all (h : SB s) : SB s.allS := by
 unfold AS.allS
 split
 ·rename_i e
  refine ⟨fun y hy => ?_,by simp; omega⟩
  rcases List.mem_append.1 hy with g | g
  ·exact h.1 y g
  ·rw [List.mem_singleton.1 g]; exact sz_zero
 ·exact h
theorem fat_sz (hvt : VT s t C c.nd c.lf c.inn c.fl c.bk cs) (hu : UI c s t C cs u M) (hc : cfgOk c.nd c.lf c.inn c.fl c.bk) (hnd : (s.sl.length : Int) ≤ c.nd) (h3 : 3 ≤ u.nx) (h8 : u.nx ≤ 8) : USz (u.fat (t.n u.hid)) := by
 obtain ⟨low,g⟩ := hu.hd h3 h8
 obtain ⟨f1,f2,f3,f4,-⟩ := fat_ok hvt hu hnd h3 h8 g
 obtain ⟨_,⟨c1,c2⟩,⟨c3,c4⟩,_⟩ := hc
 rcases f1.bd with ⟨b0,b1,b2,_⟩ | ⟨b0,b1,b2,_⟩
 ·have := f3 b0
  exact ⟨by omega,by omega,by omega⟩
 ·have := f4 b0
  exact ⟨by omega,by omega,by omega⟩
theorem one_sz {p : NP} (h : USz p) (r : Int) : USz (p.one r) ∧ USz p.two := by
 obtain ⟨h1,h2,h3⟩ := h
 have hr : p.restK.length ≤ 100 := by
  unfold NP.restK
  split <;> simp <;> omega
 exact ⟨⟨by simp [NP.one]; omega,by simp [NP.one]; omega,by simp [NP.one]; omega⟩,⟨hr,by simp [NP.two]; omega,by simp [NP.two]; omega⟩⟩
theorem SB.step (h : SB s) (hvt : VT s t C c.nd c.lf c.inn c.fl c.bk cs) (hu : UI c s t C cs u M) (hc : cfgOk c.nd c.lf c.inn c.fl c.bk) (hnd : (s.sl.length : Int) ≤ c.nd) : SB (u.step s).s := by
 have hf := fat_sz hvt hu hc hnd
 by_cases h15 : 15 ≤ u.nx
 ·rw [show u.step s = ⟨u,s,false,0⟩ from if_pos h15]
  exact h
 rw [(us_step (u := u) (s := s) (by omega)).2.1]
 unfold US.act
 split
 case h_1 => exact h
 case h_2 =>
  simp only
  split
  ·exact h
  ·split
   ·exact h
   ·split <;> exact h
 case h_3 =>
  split
  ·exact h.lock _ _
  ·exact h
 case h_4 e => exact h.bod _ (by rw [hu.p3 (.inl e)]; exact hf (by omega) (by omega))
 case h_5 => exact h.unl _ _
 case h_6 => split <;> exact h.unl _ _
 case h_7 => split <;> exact h.all
 case h_8 e =>
  obtain ⟨q1,q2,q3⟩ := hu.p7 (.inl e)
  obtain ⟨z1,z2⟩ := one_sz (hf (by omega) (by omega)) u.fid
  simp only
  split
  ·exact h.hed _ _ _ _
  ·split
   ·exact h.bod _ (by rw [q2]; exact z2)
   ·split
    ·exact h.hed _ _ _ _
    ·split
     ·exact h.bod _ (by rw [q1]; exact z1)
     ·exact h.unl _ _
 case h_9 => exact h.unl _ _
 case h_10 => exact h
 case h_11 => split <;> exact h.all
 case h_12 => exact h.hed _ _ _ _
 case h_13 => exact h.bod (p := ⟨0,[],0,[u.sep],[],[u.lft,u.rgt]⟩) _ ⟨by simp,by simp,by simp⟩
 case h_14 => exact h.unl _ _
 case h_15 =>
  split
  ·exact h.gro _ _
  ·exact h
 case h_16 => exact h
theorem SB.new {nodes : Int} (h : 1 ≤ nodes) : SB (AS.new nodes) := ⟨fun x hx => by
 have : x = (0,NP.zero) := by simpa [AS.new] using hx
 rw [this]; exact sz_zero,by simpa [AS.new] using h⟩
theorem VT.look (hvt : VT s t C c.nd c.lf c.inn c.fl c.bk cs) (hc : cfgOk c.nd c.lf c.inn c.fl c.bk) (hh : s.held = []) : s.look c.nd c.lf c.inn c.fl c.bk = .inr cs.reverse ∧ s.map = mp t cs := by
 have hev := held_even hh
 have hn : ∀ (l : Nat) (x : Int × List Int),memL cs l x → s.n x.1 = t.n x.1 := fun l x hm => hvt.rd l x hm (.inl (hev _ ((hvt.inn _).1 (hvt.tre.ckk hm).2.2)))
 have ht := hvt.tre.same (t := s) hvt.root.symm (fun k hk => (hvt.inn k).1 hk) hn
 refine ⟨snd_look (ht.snd hc hev) hh,?_⟩
 have h0 : cs[0]? = some (cs.headD []) := by
  have := ht.ne
  cases cs with
  | nil => exact absurd this (by simp)
  | cons a r => rfl
 rw [ht.map hc hev h0]
 exact entsC_same fun x hx => hn 0 x ⟨_,h0,hx⟩
end
section
variable {c : Cfg} {s : AS} {u : US} {M i : Nat} {us : List US} {kv : List (List Int × List Int)} {E : List (List Int × List Int)} {k : List Int × List Int}
theorem one_at {l : Nat} {x : Chn} (h : ([[((1 : Int),([] : List Int))]] : List Chn)[l]? = some x) : l = 0 ∧ x = [(1,[])] := by
 cases l with
 | zero => exact ⟨rfl,(Option.some.inj h).symm⟩
 | succ n => simp at h
theorem one_no {l : Nat} {x : Chn} (h : ([[((1 : Int),([] : List Int))]] : List Chn)[l + 1]? = some x) : False := by simp at h
theorem new_n (nodes : Int) : (AS.new nodes).n 1 = NP.zero := rfl
theorem new_w (nodes : Int) : (AS.new nodes).w 1 = 0 := rfl
theorem new_inn (nodes : Int) (k : Int) : (AS.new nodes).inn k ↔ k = 1 := by
 unfold AS.inn AS.new
 simp only [List.length_singleton]
 omega
theorem nchk_zero {nd lf inn fl bk : Int} (hc : cfgOk nd lf inn fl bk) : nchkE NP.zero nd lf inn fl bk = 0 := by
 unfold nchkE
 rw [if_pos hc,if_pos]
 obtain ⟨⟨a1,a2⟩,⟨a3,a4⟩,_⟩ := hc
 refine ⟨⟨⟨⟨Int.le_refl 0,by show (0 : Int) ≤ 32; decide⟩,⟨Int.le_refl 0,by show (0 : Int) ≤ nd; omega⟩⟩,⟨fun _ => rfl,fun _ => rfl⟩,Nat.zero_le _⟩,fun j hj => absurd hj (Nat.not_lt_zero j),?_⟩
 unfold BdP OvP
 refine ⟨?_,?_⟩
 ·show ¬ (if (0 : Int) = 0 then lf < ((0 : Nat) : Int) else inn < ((0 : Nat) : Int))
  rw [if_pos rfl]; omega
 ·rw [if_pos (show NP.zero.lv = 0 from rfl)]
  exact ⟨⟨rfl,rfl⟩,fun j hj => absurd hj (Nat.not_lt_zero j)⟩
theorem tre_new (hc : cfgOk c.nd c.lf c.inn c.fl c.bk) : Tre (AS.new c.nd) c.nd c.lf c.inn c.fl c.bk [[(1,[])]] := by
 refine ⟨by simp,fun l x h => ?_,fun l x h => ?_,fun l x d _ h => (one_no h).elim,fun d h => ?_,fun l x h => ?_,fun l x h => ?_,fun l x d _ h => (one_no h).elim⟩
 ·obtain ⟨_,rfl⟩ := one_at h
  exact ⟨1,rfl,.inl ⟨rfl,rfl⟩⟩
 ·obtain ⟨rfl,rfl⟩ := one_at h
  refine ⟨fun x hx => ?_,fun x hx => ?_,fun x hx => ?_⟩ <;> rw [List.mem_singleton.1 hx]
  ·rfl
  ·exact nchk_zero hc
  ·unfold notAb
   simp [new_n,NP.zero]
 ·obtain ⟨_,rfl⟩ := one_at h
  exact ⟨rfl,.inl ⟨rfl,rfl⟩⟩
 ·obtain ⟨_,rfl⟩ := one_at h
  simp
 ·obtain ⟨_,rfl⟩ := one_at h
  intro x hx
  rw [List.mem_singleton.1 hx]
  exact (new_inn _ _).2 rfl
theorem wg_new (hc : cfgOk c.nd c.lf c.inn c.fl c.bk) : WG c (AS.new c.nd) (AS.new c.nd) [[(1,[])]] [] 0 :=
 ⟨⟨tre_new hc,rfl,fun _ => Iff.rfl,fun _ _ _ _ => rfl⟩,fun i u h => (by simp at h),fun i j u v h => (by simp at h),fun i j u v h => (by simp at h),fun k h1 h2 => (by rw [(new_inn _ _).1 h1,new_w] at h2; simp at h2)⟩
structure WS (c : Cfg) (s : AS) (us : List US) (kv : List (List Int × List Int)) (E : List (List Int × List Int)) (M : Nat) : Prop where
 g : ∃ t cs,WG c s t cs us M ∧ mp t cs = E
 sb : SB s
 ub : ∀ u ∈ us,UB u M
 len : us.length = kv.length
 kv : ∀ (i : Nat) (u : US) (k : List Int × List Int),us[i]? = some u → kv[i]? = some k → KV k.1 k.2 u
 nod : s.nodes = c.nd
 cfg : cfgOk c.nd c.lf c.inn c.fl c.bk ∧ c.nd ≤ 60
theorem WS.new (hc : cfgOk c.nd c.lf c.inn c.fl c.bk ∧ c.nd ≤ 60) : WS c (AS.new c.nd) [] [] [] 0 :=
 ⟨⟨_,_,wg_new hc.1,rfl⟩,SB.new hc.1.1.1,fun u h => (by simp at h),rfl,fun i u k h => (by simp at h),rfl,hc⟩
theorem WS.ok (h : WS c s us kv E M) (hi : us[i]? = some u) (hM : M < 4611686018427387904) : UOk u := by
 obtain ⟨t,cs,hg,_⟩ := h.g
 exact uok (hg.ui i u hi) (h.ub u (List.mem_of_getElem? hi)) hM
theorem WS.more (h : WS c s us kv E M) (k : List Int × List Int) : WS c s (us ++ [US.new c k.1 k.2]) (kv ++ [k]) E M := by
 obtain ⟨t,cs,hg,he⟩ := h.g
 have hl := h.len
 refine ⟨⟨t,cs,hg.more,he⟩,h.sb,fun u hu => ?_,by simp [hl],fun i u q h1 h2 => ?_,h.nod,h.cfg⟩
 ·rcases List.mem_append.1 hu with g | g
  ·exact h.ub u g
  ·rw [List.mem_singleton.1 g]; exact UB.new
 ·by_cases e : i < us.length
  ·rw [List.getElem?_append_left e] at h1
   rw [List.getElem?_append_left (by omega)] at h2
   exact h.kv i u q h1 h2
  ·rw [List.getElem?_append_right (by omega)] at h1
   rw [List.getElem?_append_right (by omega),← hl] at h2
   rcases Nat.eq_zero_or_pos (i - us.length) with g | g
   ·rw [g] at h1 h2
    obtain rfl := Option.some.inj h1
    obtain rfl := Option.some.inj h2
    exact KV.new
   ·rw [List.getElem?_eq_none (by simp; omega)] at h1
    cases h1
theorem WS.step (h : WS c s us kv E M) (hi : us[i]? = some u) (hk : kv[i]? = some k) (hw : ∀ k,s.inn k → s.w k < 18446744073709551616) (hM : M < 4611686018427387904) :
  WS c (u.step s).s (us.set i (u.step s).u) kv (if (u.step s).tk = true ∧ (u.step s).u.err = 0 then mset k.1 k.2 E else E) (M + 1) ∧ ((u.step s).tk = true → (u.step s).u.err = 0 → 1 ≤ k.1.length ∧ k.1.length ≤ 64 ∧ k.2.length ≤ 256) := by
 obtain ⟨t,cs,hg,he⟩ := h.g
 have hnd : (s.sl.length : Int) ≤ c.nd := by rw [← h.nod]; exact h.sb.2
 have hub := h.ub u (List.mem_of_getElem? hi)
 have hkv := h.kv i u k hi hk
 have hui := hg.ui i u hi
 have h31 : cs.length ≤ 31 := by
  have g1 := hg.vt.tre.high
  have g2 := hg.vt.len
  have g3 := h.cfg.2
  omega
 obtain ⟨t',cs',q1,q2,q3,_⟩ := hg.step hi h.cfg.1 hw (by omega) hnd h31
 have hE : ((u.step s).tk = true ∧ (u.step s).u.err = 0) ↔ ((u.step s).tk = true ∧ (u.step s).er = 0) := and_congr_right fun e => by rw [hub.tkErr e]
 refine ⟨⟨⟨t',cs',q1,?_⟩,h.sb.step hg.vt hui h.cfg.1 hnd,fun v hv => ?_,by simp [h.len],fun j v q h1 h2 => ?_,q3.trans h.nod,h.cfg⟩,fun e1 e2 => ?_⟩
 ·rw [q2,he]
  by_cases e : (u.step s).tk = true ∧ (u.step s).er = 0
  ·rw [if_pos e,if_pos (hE.2 e)]
   obtain ⟨_,e3,e4⟩ := hkv.tk e.1 e.2
   rw [e3,e4]
  ·rw [if_neg e,if_neg (fun g => e (hE.1 g))]
 ·rcases List.mem_or_eq_of_mem_set hv with g | rfl
  ·exact (h.ub v g).mono
  ·exact hub.step h.sb.n
 ·rw [List.getElem?_set] at h1
  split at h1
  ·rename_i e
   subst e
   rw [hk] at h2
   obtain rfl := Option.some.inj h2
   split at h1
   ·obtain rfl := Option.some.inj h1
    exact hkv.step hui.lev
   ·cases h1
  ·exact h.kv j v q h1 h2
 ·exact (hkv.tk e1 (hE.1 ⟨e1,e2⟩).2).1
theorem WS.look (h : WS c s us kv E M) (hh : s.held = []) : (∃ ls,s.look c.nd c.lf c.inn c.fl c.bk = .inr ls) ∧ s.map = E := by
 obtain ⟨t,cs,hg,he⟩ := h.g
 obtain ⟨a,b⟩ := hg.vt.look h.cfg.1 hh
 exact ⟨⟨_,a⟩,b.trans he⟩
end
def WL (s : AS) : Prop := ∀ x ∈ s.sl,x.1 < 18446744073709551616
section
variable {c : Cfg} {s t : AS} {cs : List Chn} {u : US} {k : List Int × List Int} {E : List (List Int × List Int)} {M : Nat}
theorem WL.w (h : WL s) (k : Int) : s.w k < 18446744073709551616 := by
 unfold AS.w
 by_cases hk : (k - 1).toNat < s.sl.length
 ·rw [List.getD_eq_getElem?_getD,List.getElem?_eq_getElem hk]
  exact h _ (List.getElem_mem hk)
 ·rw [List.getD_eq_getElem?_getD,List.getElem?_eq_none (by omega)]
  decide
theorem WL.setw (h : WL s) (k : Int) {x : Nat} (hx : x < 18446744073709551616) : WL (s.setw k x) := fun y hy => by
 rcases List.mem_or_eq_of_mem_set hy with g | rfl
 ·exact h y g
 ·exact hx
theorem WL.setn (h : WL s) (k : Int) (p : NP) : WL (s.setn k p) := fun y hy => by
 rcases List.mem_or_eq_of_mem_set hy with g | rfl
 ·exact h y g
 ·exact h.w k
theorem WL.lock (h : WL s) (k : Int) (x : Nat) (hx : x < 18446744073709551616) : WL (s.lockS k x) := by
 unfold AS.lockS
 split
 ·rename_i g
  exact h.setw k (by omega)
 ·exact h
theorem WL.unl (h : WL s) (k : Int) (b : Bool) : WL (s.unlS k b) := by
 unfold AS.unlS
 split
 ·have := h.w k
  refine h.setw k ?_
  unfold freeW
  split
  ·exact Nat.mod_lt _ (by decide)
  ·omega
 ·exact h
theorem WL.bod (h : WL s) (k : Int) (a b : List (List Int)) (d : List Int) : WL (s.bodS k a b d) := by
 unfold AS.bodS
 split
 ·exact h.setn _ _
 ·exact h
theorem WL.hed (h : WL s) (k : Int) (a : Int) (b : List Int) (d : Int) : WL (s.hedS k a b d) := by
 unfold AS.hedS
 split
 ·exact h.setn _ _
 ·exact h
theorem WL.all (h : WL s) : WL s.allS := by
 unfold AS.allS
 split
 ·intro y hy
  rcases List.mem_append.1 hy with g | g
  ·exact h y g
  ·rw [List.mem_singleton.1 g]; decide
 ·exact h
theorem WL.gro (h : WL s) (a b : Int) : WL (s.groS a b) := by
 unfold AS.groS
 split
 ·exact h
 ·exact h
theorem lockB_w {k : Int} {x : Nat} (h : s.lockB k x = true) : s.w k = x := (of_decide_eq_true h).2.1
theorem WL.act (h : WL s) (u : US) : WL (u.act s).s := by
 unfold US.act
 split
 ·exact h
 ·simp only
  split
  ·exact h
  ·split
   ·exact h
   ·split <;> exact h
 ·split
  ·rename_i g
   exact h.lock _ _ (by rw [← lockB_w g]; exact h.w _)
  ·exact h
 ·exact h.bod _ _ _ _
 ·exact h.unl _ _
 ·split <;> exact h.unl _ _
 ·split <;> exact h.all
 ·simp only
  split
  ·exact h.hed _ _ _ _
  ·split
   ·exact h.bod _ _ _ _
   ·split
    ·exact h.hed _ _ _ _
    ·split
     ·exact h.bod _ _ _ _
     ·exact h.unl _ _
 ·exact h.unl _ _
 ·exact h
 ·split <;> exact h.all
 ·exact h.hed _ _ _ _
 ·exact h.bod _ _ _ _
 ·exact h.unl _ _
 ·split
  ·exact h.gro _ _
  ·exact h
 ·exact h
theorem WL.step (h : WL s) (u : US) : WL (u.step s).s := by
 unfold US.step
 split
 ·exact h
 ·split
  ·exact h.act u
  ·exact h.act u
structure WA (c : Cfg) (s t : AS) (cs : List Chn) (u : US) (k : List Int × List Int) (E : List (List Int × List Int)) (M : Nat) : Prop where
 g : WG c s t cs [u] M
 mp : mp t cs = E
 am : Am t cs
 sb : SB s
 wl : WL s
 ub : UB u M
 kv : KV k.1 k.2 u
 nod : s.nodes = c.nd
 cfg : cfgOk c.nd c.lf c.inn c.fl c.bk ∧ c.nd ≤ 1000
theorem WA.ui (h : WA c s t cs u k E M) : UI c s t (CU [u]) cs u M := h.g.ui 0 u rfl
theorem WA.nd (h : WA c s t cs u k E M) : (s.sl.length : Int) ≤ c.nd := by rw [← h.nod]; exact h.sb.2
theorem WA.few (h : WA c s t cs u k E M) : cs.length ≤ 10 := by
 have h1 := h.g.vt.len
 have h2 := h.nd
 have h3 := h.cfg.2
 exact h.am.few h.g.vt.tre (by omega)
theorem WA.step (h : WA c s t cs u k E M) (hM : M < 4611686018427387904) :
  ∃ t' cs',WA c (u.step s).s t' cs' (u.step s).u k (if (u.step s).tk = true ∧ (u.step s).er = 0 then mset k.1 k.2 E else E) (M + 1) ∧ (u.nx ≠ 14 → Upl cs cs' u.lev.toNat) ∧ ((u.step s).er = 0 ∨ ((u.step s).er = 3 ∧ u.nx = 0) ∨ ((u.step s).er = 2 ∧ u.nx = 5)) ∧ Cn u (u.step s) t cs t' cs' := by
 obtain ⟨t',cs',q1,q2,q3,q4,q5,q6,q7⟩ := h.g.step (i := 0) rfl h.cfg.1 (fun k _ => h.wl.w k) (by omega) h.nd (by have := h.few; omega)
 refine ⟨t',cs',⟨q1,?_,q5 h.am,h.sb.step h.g.vt h.ui h.cfg.1 h.nd,h.wl.step u,h.ub.step h.sb.n,h.kv.step h.ui.lev,q3.trans h.nod,h.cfg⟩,q6,q4,q7⟩
 rw [q2,h.mp]
 by_cases e : (u.step s).tk = true ∧ (u.step s).er = 0
 ·rw [if_pos e,if_pos e]
  obtain ⟨_,e3,e4⟩ := h.kv.tk e.1 e.2
  rw [e3,e4]
 ·rw [if_neg e,if_neg e]
theorem WA.even (h : WA c s t cs u k E M) (hn : ∀ k,¬ u.odd k) : ∀ id,s.inn id → s.w id % 2 = 0 := fun id hi => by
 refine Decidable.byContradiction fun hc => ?_
 obtain ⟨i,v,h1,h2⟩ := h.g.odd id hi (by omega)
 cases i with
 | zero =>
  obtain rfl := Option.some.inj h1
  exact hn id h2
 | succ i => simp at h1
theorem even_held (h : ∀ id,s.inn id → s.w id % 2 = 0) : s.held = [] := by
 unfold AS.held heldL heldN
 rw [List.map_eq_nil_iff,List.filter_eq_nil_iff]
 intro i hi
 rw [List.mem_range,List.length_map] at hi
 have h1 := h ((i : Int) + 1) (by unfold AS.inn; omega)
 have e : (s.sl.map (·.1)).getD i 0 = s.w ((i : Int) + 1) := by
  unfold AS.w
  rw [show ((i : Int) + 1 - 1).toNat = i by omega,List.getD_eq_getElem?_getD,List.getD_eq_getElem?_getD,List.getElem?_map]
  cases s.sl[i]? <;> rfl
 rw [e]
 simp only [decide_eq_true_eq]
 omega
end
section
variable {c : Cfg} {s t : AS} {cs : List Chn} {u : US} {k : List Int × List Int} {E : List (List Int × List Int)} {M : Nat}
theorem WA.tre (h : WA c s t cs u k E M) (hn : ∀ k,¬ u.odd k) : Tre s c.nd c.lf c.inn c.fl c.bk cs ∧ Am s cs := by
 have hev := h.even hn
 have hvt := h.g.vt
 have hq : ∀ (l : Nat) (x : Int × List Int),memL cs l x → s.n x.1 = t.n x.1 := fun l x hm => hvt.rd l x hm (.inl (hev _ ((hvt.inn _).1 (hvt.tre.ckk hm).2.2)))
 exact ⟨hvt.tre.same (t := s) hvt.root.symm (fun k hk => (hvt.inn k).1 hk) hq,h.am.same hq⟩
def urun : Nat → US × AS → US × AS
 | 0,p => p
 | n + 1,p => urun n ((p.1.step p.2).u,(p.1.step p.2).s)
def Ends (n : Nat) (u : US) (s : AS) : Prop := ∃ m,m ≤ n ∧ 15 ≤ (urun m (u,s)).1.nx
theorem Ends.mono {n m : Nat} (h : Ends n u s) (hm : n ≤ m) : Ends m u s := by
 obtain ⟨a,h1,h2⟩ := h
 exact ⟨a,Nat.le_trans h1 hm,h2⟩
theorem Ends.step {n : Nat} (h : Ends n (u.step s).u (u.step s).s) : Ends (n + 1) u s := by
 obtain ⟨a,h1,h2⟩ := h
 exact ⟨a + 1,by omega,h2⟩
theorem act_one (h : u.nx = 1) : u.act s = if (u.m.step s).nx < 5 then ⟨{ u with way := some (u.m.step s) },s,false,0⟩ else if (u.m.step s).id ≠ 0 then ⟨{ u with way := some (u.m.step s),nx := 2 },s,false,0⟩ else if u.lev = 0 then ⟨{ u with way := some (u.m.step s) },s,false,101⟩ else ⟨{ u with way := some (u.m.step s),nx := 9 },s,false,0⟩ := by
 unfold US.act
 rw [h]
end
def WX (c : Cfg) (s : AS) (u : US) (k : List Int × List Int) (l : Nat) (cs0 : List Chn) (M : Nat) : Prop := ∃ t cs E,WA c s t cs u k E M ∧ ∀ j,l < j → cs[j]? = cs0[j]?
section
variable {c : Cfg} {s t : AS} {cs cs0 : List Chn} {u : US} {k : List Int × List Int} {E : List (List Int × List Int)} {M l : Nat}
theorem WX.step (h : WX c s u k l cs0 M) (hM : M < 4611686018427387904) (hl : u.lev.toNat = l) (h14 : u.nx ≠ 14) : WX c (u.step s).s (u.step s).u k l cs0 (M + 1) := by
 obtain ⟨t,cs,E,hA,hu⟩ := h
 obtain ⟨t',cs',h1,h2,_⟩ := hA.step hM
 refine ⟨t',cs',_,h1,fun j hj => ?_⟩
 rw [h2 h14 j (by omega)]
 exact hu j hj
theorem fate_nx (u : US) (n : NP) : (u.fate n).lev = u.lev ∧ ((u.fate n).nx = 3 ∨ (u.fate n).nx = 5 ∨ (u.fate n).nx = 6) := by
 unfold US.fate
 split
 ·refine ⟨rfl,?_⟩
  simp only
  split <;> simp
 ·split
  ·exact ⟨rfl,.inr (.inl rfl)⟩
  ·refine ⟨rfl,?_⟩
   simp only
   split <;> simp
theorem act_two (h : u.nx = 2) (hl : s.lockB u.m.id u.m.wd = true) : (u.act s).u.lev = u.lev ∧ ((u.act s).u.nx = 3 ∨ (u.act s).u.nx = 5 ∨ (u.act s).u.nx = 6) := by
 unfold US.act
 rw [h]
 simp only
 rw [if_pos hl]
 exact fate_nx _ _
theorem act_three (h : u.nx = 3) : (u.act s).u = { u with nx := 4 } := by unfold US.act; rw [h]
theorem act_four (h : u.nx = 4) : (u.act s).u = { u with nx := 15 } := by unfold US.act; rw [h]
theorem act_seven (h : u.nx = 7) : (u.pc ≠ 4 → (u.act s).u = { u with pc := u.pc + 1 }) ∧ (u.pc = 4 → (u.act s).u = { u with pc := u.pc + 1,nx := 8 }) := by
 unfold US.act
 rw [h]
 simp only
 refine ⟨fun h4 => ?_,fun h4 => ?_⟩
 ·repeat' split
  all_goals first | (simp only [← h]; done) | (exfalso; omega)
 ·rw [if_neg (by omega),if_neg (by omega),if_neg (by omega),if_pos h4]
theorem act_eight (h : u.nx = 8) : (u.act s).u = ({ u with lft := u.hid,rgt := u.fid,sep := u.bet,lev := u.lev + 1 } : US).down := by unfold US.act; rw [h]
theorem act_nine (h : u.nx = 9) : u.act s = ⟨{ u with nx := if s.root = u.lft then 10 else 15 },s,false,0⟩ := by unfold US.act; rw [h]
theorem act_e (h : u.nx = 11) : (u.act s).u = { u with nx := 12 } ∧ (u.act s).s.root = s.root := by
 unfold US.act
 rw [h]
 refine ⟨rfl,?_⟩
 simp only
 unfold AS.hedS
 split <;> rfl
theorem act_t (h : u.nx = 12) : (u.act s).u = { u with nx := 13 } ∧ (u.act s).s.root = s.root := by
 unfold US.act
 rw [h]
 refine ⟨rfl,?_⟩
 simp only
 unfold AS.bodS
 split <;> rfl
theorem act_f (h : u.nx = 13) : (u.act s).u = { u with nx := 14 } ∧ (u.act s).s.root = s.root := by
 unfold US.act
 rw [h]
 refine ⟨rfl,?_⟩
 simp only
 unfold AS.unlS
 split <;> rfl
theorem act_g (h : u.nx = 14) (hg : s.groB u.lft u.top = true) : (u.act s).u.nx = 15 := by
 unfold US.act
 rw [h]
 simp only
 rw [if_pos hg]
end
def remN (u : US) : Nat := if u.nx = 3 then 2 else if u.nx = 4 then 1 else if u.nx = 5 then 1 else if u.nx = 6 then 7 else if u.nx = 7 then (6 - u.pc).toNat else if u.nx = 8 then 1 else 0
def tokN (u : US) : Nat := if u.nx ≤ 2 ∨ (7 ≤ u.nx ∧ u.nx ≤ 14) then 256 else 0
def holB (u : US) : Bool := decide (3 ≤ u.nx ∧ u.nx ≤ 8)
def lokB (s : AS) (u : US) : Bool := decide (u.nx = 2) && s.lockB u.m.id u.m.wd
def potU (s : AS) (cs : List Chn) (u : US) : Nat :=
 if u.nx = 0 then 1 else if u.nx = 1 then 3 + msN s cs u.m
 else if u.nx = 2 then (if s.w u.m.id = u.m.wd then 1 else 245)
 else if u.nx ≤ 8 then 245 else if u.nx = 9 then 2 else if u.nx = 10 then 1 else if u.nx ≤ 14 then 259 - u.nx else 0
section
variable {s s' t : AS} {cs cs' : List Chn} {c : Cfg} {C : Int → Prop} {u v : US} {M : Nat}
theorem len_lock (k : Int) (x : Nat) : (s.lockS k x).sl.length = s.sl.length := by unfold AS.lockS; split; exact AS.setw_len _ _ _; rfl
theorem len_unl (k : Int) (b : Bool) : (s.unlS k b).sl.length = s.sl.length := by unfold AS.unlS; split; exact AS.setw_len _ _ _; rfl
theorem len_bod (k : Int) (a b : List (List Int)) (d : List Int) : (s.bodS k a b d).sl.length = s.sl.length := by unfold AS.bodS; split; exact AS.setn_len _ _ _; rfl
theorem len_hed (k : Int) (a : Int) (b : List Int) (d : Int) : (s.hedS k a b d).sl.length = s.sl.length := by unfold AS.hedS; split; exact AS.setn_len _ _ _; rfl
theorem len_gro (a b : Int) : (s.groS a b).sl.length = s.sl.length := by unfold AS.groS; split <;> rfl
theorem len_all : s.allS.sl.length = s.sl.length + (if s.allE = 0 then 1 else 0) := by
 unfold AS.allS AS.allE
 by_cases h : (s.sl.length : Int) < s.nodes
 ·rw [if_pos h,if_pos h]; simp
 ·rw [if_neg h,if_neg h]; simp
theorem act_len (h6 : u.nx ≠ 6) (h10 : u.nx ≠ 10) : (u.act s).s.sl.length = s.sl.length := by
 unfold US.act
 split
 ·rfl
 ·simp only
  split
  ·rfl
  ·split
   ·rfl
   ·split <;> rfl
 ·split
  ·exact len_lock _ _
  ·rfl
 ·exact len_bod _ _ _ _
 ·exact len_unl _ _
 ·split <;> exact len_unl _ _
 ·rename_i h
  exact absurd h h6
 ·simp only
  split
  ·exact len_hed _ _ _ _
  ·split
   ·exact len_bod _ _ _ _
   ·split
    ·exact len_hed _ _ _ _
    ·split
     ·exact len_bod _ _ _ _
     ·exact len_unl _ _
 ·exact len_unl _ _
 ·rfl
 ·rename_i h
  exact absurd h h10
 ·exact len_hed _ _ _ _
 ·exact len_bod _ _ _ _
 ·exact len_unl _ _
 ·split
  ·exact len_gro _ _
  ·rfl
 ·rfl
theorem act_lenT (h : u.nx = 6 ∨ u.nx = 10) : (u.act s).s.sl.length = s.sl.length + (if s.allE = 0 then 1 else 0) := by
 rw [← len_all]
 unfold US.act
 rcases h with h | h
 ·rw [h]; simp only; split <;> rfl
 ·rw [h]; simp only; split <;> rfl
theorem act_lenM : s.sl.length ≤ (u.act s).s.sl.length := by
 by_cases h6 : u.nx = 6 ∨ u.nx = 10
 ·rw [act_lenT h6]; omega
 ·rw [act_len (fun e => h6 (.inl e)) (fun e => h6 (.inr e))]; exact Nat.le_refl _
theorem unlE_inn {k : Int} (h : s.unlE k = 0) : s.inn k ∧ s.w k % 2 = 1 := by
 unfold AS.unlE at h
 by_cases g : s.inn k
 ·rw [if_pos g] at h
  by_cases g2 : s.w k % 2 = 0
  ·rw [if_pos g2] at h; cases h
  ·exact ⟨g,by omega⟩
 ·rw [if_neg g] at h; cases h
theorem wk_bod {k : Int} (j : Int) (a b : List (List Int)) (d : List Int) : (s.bodS j a b d).w k = s.w k := by
 unfold AS.bodS
 split
 ·rename_i g; exact AS.w_setn (unlE_inn g).1 _ _
 ·rfl
theorem wk_hed {k : Int} (j : Int) (a : Int) (b : List Int) (d : Int) : (s.hedS j a b d).w k = s.w k := by
 unfold AS.hedS
 split
 ·rename_i g; exact AS.w_setn (unlE_inn g).1 _ _
 ·rfl
theorem wk_unl {k : Int} (hk : s.inn k) (he : s.w k % 2 = 0) (j : Int) (b : Bool) : (s.unlS j b).w k = s.w k := by
 unfold AS.unlS
 split
 ·rename_i g
  obtain ⟨g1,g2⟩ := unlE_inn g
  rw [AS.wsetw g1 _ hk,if_neg (fun e => by subst e; omega)]
 ·rfl
theorem wk_all {k : Int} (hk : s.inn k) : s.allS.w k = s.w k := by
 unfold AS.allS
 split
 ·obtain ⟨i,hi,hid,e⟩ := AS.idx hk
  unfold AS.w
  simp only [e]
  rw [List.getD_eq_getElem?_getD,List.getD_eq_getElem?_getD,List.getElem?_append_left hi]
 ·rfl
theorem wk_gro {k : Int} (a b : Int) : (s.groS a b).w k = s.w k := by unfold AS.groS; split <;> rfl
theorem act_w {k : Int} (hk : s.inn k) (he : s.w k % 2 = 0) (hl : lokB s u = false) : (u.act s).s.w k = s.w k := by
 unfold US.act
 split
 ·rfl
 ·simp only
  split
  ·rfl
  ·split
   ·rfl
   ·split <;> rfl
 ·rename_i h
  split
  ·rename_i g
   unfold lokB at hl
   rw [h,g] at hl
   simp at hl
  ·rfl
 ·exact wk_bod _ _ _ _
 ·exact wk_unl hk he _ _
 ·split <;> exact wk_unl hk he _ _
 ·split <;> exact wk_all hk
 ·simp only
  split
  ·exact wk_hed _ _ _ _
  ·split
   ·exact wk_bod _ _ _ _
   ·split
    ·exact wk_hed _ _ _ _
    ·split
     ·exact wk_bod _ _ _ _
     ·exact wk_unl hk he _ _
 ·exact wk_unl hk he _ _
 ·rfl
 ·split <;> exact wk_all hk
 ·exact wk_hed _ _ _ _
 ·exact wk_bod _ _ _ _
 ·exact wk_unl hk he _ _
 ·split
  ·exact wk_gro _ _
  ·rfl
 ·rfl
theorem step_s15 (h : u.nx < 15) : (u.step s).s = (u.act s).s := by
 unfold US.step
 rw [if_neg (by omega)]
 split <;> rfl
theorem ustep_idle (h : 15 ≤ u.nx) : u.step s = ⟨u,s,false,0⟩ := by unfold US.step; rw [if_pos h]
theorem step_w {k : Int} (hk : s.inn k) (he : s.w k % 2 = 0) (hl : lokB s u = false) : (u.step s).s.w k = s.w k := by
 by_cases h : u.nx < 15
 ·rw [step_s15 h]; exact act_w hk he hl
 ·rw [ustep_idle (by omega)]
theorem step_cases (h : u.nx < 15) : ((u.step s).u.nx = 15 ∧ (u.act s).er ≠ 0 ∧ (u.step s).s = (u.act s).s) ∨ ((u.act s).er = 0 ∧ u.step s = u.act s) := by
 by_cases he : (u.act s).er = 0
 ·exact .inr ⟨he,by unfold US.step; rw [if_neg (by omega),if_pos he]⟩
 ·refine .inl ⟨?_,he,step_s15 h⟩
  unfold US.step
  rw [if_neg (by omega),if_neg he]
theorem lok_er (h : lokB s u = true) : u.nx = 2 ∧ s.lockB u.m.id u.m.wd = true ∧ (u.act s).er = 0 := by
 unfold lokB at h
 simp only [Bool.and_eq_true,decide_eq_true_eq] at h
 refine ⟨h.1,h.2,?_⟩
 unfold US.act
 rw [h.1]
 simp only
 rw [if_pos h.2]
theorem rem_hol (hpc : u.nx = 7 → 0 ≤ u.pc ∧ u.pc ≤ 4) (h : holB u = true) : 1 ≤ remN u := by
 unfold holB at h
 simp only [decide_eq_true_eq] at h
 unfold remN
 have : u.nx = 3 ∨ u.nx = 4 ∨ u.nx = 5 ∨ u.nx = 6 ∨ u.nx = 7 ∨ u.nx = 8 := by omega
 rcases this with e | e | e | e | e | e
 ·simp [e]
 ·simp [e]
 ·simp [e]
 ·simp [e]
 ·have := hpc e
  simp [e]
  omega
 ·simp [e]
def PcNx (u u' : US) (al : Prop) : Prop :=
 (u.nx = 1 ∧ (u'.nx = 1 ∨ u'.nx = 2 ∨ u'.nx = 9)) ∨ (u.nx = 2 ∧ (u'.nx = 3 ∨ u'.nx = 5 ∨ u'.nx = 6 ∨ u'.nx = 1)) ∨ (u.nx = 3 ∧ u'.nx = 4) ∨ (u.nx = 4 ∧ u'.nx = 15) ∨ (u.nx = 5 ∧ u'.nx = 15) ∨ (u.nx = 6 ∧ ((al ∧ u'.nx = 7 ∧ u'.pc = 0) ∨ (¬ al ∧ u'.nx = 5))) ∨ (u.nx = 7 ∧ u.pc ≠ 4 ∧ u'.nx = 7 ∧ u'.pc = u.pc + 1) ∨ (u.nx = 7 ∧ u.pc = 4 ∧ u'.nx = 8) ∨ (u.nx = 8 ∧ u'.nx = 1) ∨ (u.nx = 9 ∧ (u'.nx = 10 ∨ u'.nx = 15)) ∨ (u.nx = 10 ∧ ((al ∧ u'.nx = 11) ∨ (¬ al ∧ u'.nx = 15))) ∨ (u.nx = 11 ∧ u'.nx = 12) ∨ (u.nx = 12 ∧ u'.nx = 13) ∨ (u.nx = 13 ∧ u'.nx = 14) ∨ (u.nx = 14 ∧ (u'.nx = 15 ∨ u'.nx = 1))
theorem act_nx (h : u.nx < 15) (he : (u.act s).er = 0) : PcNx u (u.act s).u (s.allE = 0) := by
 unfold PcNx
 have : u.nx = 0 ∨ u.nx = 1 ∨ u.nx = 2 ∨ u.nx = 3 ∨ u.nx = 4 ∨ u.nx = 5 ∨ u.nx = 6 ∨ u.nx = 7 ∨ u.nx = 8 ∨ u.nx = 9 ∨ u.nx = 10 ∨ u.nx = 11 ∨ u.nx = 12 ∨ u.nx = 13 ∨ u.nx = 14 := by omega
 rcases this with e | e | e | e | e | e | e | e | e | e | e | e | e | e | e
 ·exfalso
  unfold US.act at he
  rw [e] at he
  cases he
 ·refine .inl ⟨e,?_⟩
  rw [act_one e] at he ⊢
  split at he
  ·rename_i g; rw [if_pos g]; exact .inl e
  ·rename_i g
   rw [if_neg g]
   split at he
   ·rename_i g2; rw [if_pos g2]; exact .inr (.inl rfl)
   ·rename_i g2
    rw [if_neg g2]
    split at he
    ·cases he
    ·rename_i g3; rw [if_neg g3]; exact .inr (.inr rfl)
 ·refine .inr (.inl ⟨e,?_⟩)
  by_cases g : s.lockB u.m.id u.m.wd = true
  ·rcases (act_two e g).2 with q | q | q
   ·exact .inl q
   ·exact .inr (.inl q)
   ·exact .inr (.inr (.inl q))
  ·unfold US.act
   rw [e]
   simp only
   rw [if_neg g]
   exact .inr (.inr (.inr rfl))
 ·exact .inr (.inr (.inl ⟨e,by rw [act_three e]⟩))
 ·exact .inr (.inr (.inr (.inl ⟨e,by rw [act_four e]⟩)))
 ·refine .inr (.inr (.inr (.inr (.inl ⟨e,?_⟩))))
  unfold US.act
  rw [e]
  simp only
  split <;> rfl
 ·refine .inr (.inr (.inr (.inr (.inr (.inl ⟨e,?_⟩)))))
  unfold US.act
  rw [e]
  simp only
  by_cases g : s.allE = 0
  ·rw [if_pos g]; exact .inl ⟨g,rfl,rfl⟩
  ·rw [if_neg g]; exact .inr ⟨g,rfl⟩
 ·by_cases g : u.pc = 4
  ·exact .inr (.inr (.inr (.inr (.inr (.inr (.inr (.inl ⟨e,g,by rw [(act_seven e).2 g]⟩)))))))
  ·exact .inr (.inr (.inr (.inr (.inr (.inr (.inl ⟨e,g,by rw [(act_seven e).1 g]; exact e,by rw [(act_seven e).1 g]⟩))))))
 ·exact .inr (.inr (.inr (.inr (.inr (.inr (.inr (.inr (.inl ⟨e,by rw [act_eight e]; rfl⟩))))))))
 ·refine .inr (.inr (.inr (.inr (.inr (.inr (.inr (.inr (.inr (.inl ⟨e,?_⟩)))))))))
  rw [act_nine e]
  simp only
  split
  ·exact .inl rfl
  ·exact .inr rfl
 ·refine .inr (.inr (.inr (.inr (.inr (.inr (.inr (.inr (.inr (.inr (.inl ⟨e,?_⟩))))))))))
  unfold US.act
  rw [e]
  simp only
  by_cases g : s.allE = 0
  ·rw [if_pos g]; exact .inl ⟨g,rfl⟩
  ·rw [if_neg g]; exact .inr ⟨g,rfl⟩
 ·exact .inr (.inr (.inr (.inr (.inr (.inr (.inr (.inr (.inr (.inr (.inr (.inl ⟨e,by rw [(act_e e).1]⟩)))))))))))
 ·exact .inr (.inr (.inr (.inr (.inr (.inr (.inr (.inr (.inr (.inr (.inr (.inr (.inl ⟨e,by rw [(act_t e).1]⟩))))))))))))
 ·exact .inr (.inr (.inr (.inr (.inr (.inr (.inr (.inr (.inr (.inr (.inr (.inr (.inr (.inl ⟨e,by rw [(act_f e).1]⟩)))))))))))))
 ·refine .inr (.inr (.inr (.inr (.inr (.inr (.inr (.inr (.inr (.inr (.inr (.inr (.inr (.inr ⟨e,?_⟩)))))))))))))
  unfold US.act
  rw [e]
  simp only
  split
  ·exact .inl rfl
  ·exact .inr rfl
theorem alloc_lt (h : s.allE = 0) : (s.sl.length : Int) < s.nodes := by
 unfold AS.allE at h
 by_cases g : (s.sl.length : Int) < s.nodes
 ·exact g
 ·rw [if_neg g] at h; cases h
set_option linter.unusedSimpArgs false in
theorem step_glob (hpc : u.nx = 7 → 0 ≤ u.pc ∧ u.pc ≤ 4) (hnod : s.nodes ≤ 60) :
  remN (u.step s).u + tokN (u.step s).u + 256 * (60 - (u.step s).s.sl.length) + (if holB u = true ∨ holB (u.step s).u = true then 1 else 0) + (if lokB s u = true then 247 else 0) ≤ remN u + tokN u + 256 * (60 - s.sl.length) := by
 by_cases h15 : u.nx < 15
 case neg =>
  rw [ustep_idle (by omega)]
  have h1 : holB u = false := by unfold holB; simp; omega
  have h2 : lokB s u = false := by unfold lokB; simp; omega
  rw [h1,h2]
  simp
 rcases step_cases (s := s) h15 with ⟨a1,a2,a3⟩ | ⟨a1,a2⟩
 ·have h2 : lokB s u = false := by
   cases g : lokB s u with
   | false => rfl
   | true => exact absurd (lok_er g).2.2 a2
  have h3 : remN (u.step s).u = 0 := by unfold remN; simp [a1]
  have h4 : tokN (u.step s).u = 0 := by unfold tokN; simp [a1]
  have h5 : holB (u.step s).u = false := by unfold holB; simp [a1]
  have h6 := act_lenM (u := u) (s := s)
  rw [h2,h3,h4,h5,a3]
  by_cases g : holB u = true
  ·have := rem_hol hpc g
   simp [g]
   omega
  ·simp [g]
   omega
 ·rw [a2]
  have hl := act_nx h15 a1
  have hlen1 : u.nx ≠ 6 → u.nx ≠ 10 → (u.act s).s.sl.length = s.sl.length := fun h1 h2 => act_len h1 h2
  have hlen2 : u.nx = 6 ∨ u.nx = 10 → (u.act s).s.sl.length = s.sl.length + (if s.allE = 0 then 1 else 0) := fun h => act_lenT h
  have hal : s.allE = 0 → s.sl.length < 60 := fun h => by have := alloc_lt h; omega
  have hlk : lokB s u = true → u.nx = 2 ∧ ((u.act s).u.nx = 3 ∨ (u.act s).u.nx = 5 ∨ (u.act s).u.nx = 6) := fun h => by
   obtain ⟨g1,g2,_⟩ := lok_er h
   exact ⟨g1,(act_two g1 g2).2⟩
  generalize (u.act s).u = u' at hl hlk ⊢
  generalize (u.act s).s.sl.length = L' at hlen1 hlen2 ⊢
  unfold PcNx at hl
  unfold remN tokN holB
  rcases hl with ⟨e,e' | e' | e'⟩ | ⟨e,e' | e' | e' | e'⟩ | ⟨e,e'⟩ | ⟨e,e'⟩ | ⟨e,e'⟩ | ⟨e,⟨g,e',e2⟩ | ⟨g,e'⟩⟩ | ⟨e,g,e',e2⟩ | ⟨e,g,e'⟩ | ⟨e,e'⟩ | ⟨e,e' | e'⟩ | ⟨e,⟨g,e'⟩ | ⟨g,e'⟩⟩ | ⟨e,e'⟩ | ⟨e,e'⟩ | ⟨e,e'⟩ | ⟨e,e' | e'⟩
  all_goals
   have hlk' := hlk
   by_cases hlk1 : lokB s u = true
   ·have := hlk hlk1
    first
     | (exfalso; omega)
     | (have hL := hlen1 (by omega) (by omega)
        simp [e,e',hL,hlk1]
        try omega)
   ·first
     | (have hL := hlen1 (by omega) (by omega)
        have hp := hpc
        simp [e,e',hL,hlk1]
        try omega)
     | (have hL := hlen2 (by omega)
        have := hal
        simp [e,e',hL,hlk1, *]
        try omega)
theorem msN_mono (he : Ext cs cs') (m : MS) : msN s cs' m ≤ msN s cs m := by
 have := beh_mono he m.id
 unfold msN
 repeat' split
 all_goals omega
theorem pot_mono (he : Ext cs cs') (u : US) : potU s cs' u ≤ potU s cs u := by
 have := msN_mono (s := s) he u.m
 unfold potU
 repeat' split
 all_goals omega
theorem msN_le (m : MS) : msN s cs m ≤ 244 := by
 unfold msN
 repeat' split
 all_goals omega
theorem pot_other (he : Ext cs cs') (hw : ∀ k,s.inn k → s.w k % 2 = 0 → lokB s u = false → s'.w k = s.w k) (hv : UI c s t C cs v M) : potU s' cs' v ≤ potU s cs v + (if lokB s u = true then 247 else 0) := by
 refine Nat.le_trans (pot_mono he v) ?_
 by_cases hk : lokB s u = true
 ·rw [if_pos hk]
  have := msN_le (s := s') (cs := cs) v.m
  unfold potU
  repeat' split
  all_goals omega
 have hkf : lokB s u = false := by simpa using hk
 rw [if_neg hk,Nat.add_zero]
 by_cases h1 : v.nx = 1
 ·obtain ⟨ms,e,hd⟩ := hv.p1 h1
  have em : v.m = ms := by unfold US.m; rw [e]; rfl
  have key : msN s' cs ms ≤ msN s cs ms := by
   have hev : 2 ≤ ms.nx → s.inn ms.id ∧ ms.wd % 2 = 0 := fun h2 => by
    have h4 := hd.le
    have : ms.nx = 2 ∨ ms.nx = 3 ∨ ms.nx = 4 := by omega
    rcases this with g | g | g
    ·obtain ⟨n0,a,b,_⟩ := hd.a g; exact ⟨a.inn,b⟩
    ·obtain ⟨n0,a,b,_⟩ := hd.b g; exact ⟨a.inn,b⟩
    ·obtain ⟨n0,a,b,_⟩ := hd.c g; exact ⟨a.inn,b⟩
   unfold msN
   by_cases g0 : ms.nx = 0
   ·rw [if_pos g0,if_pos g0]; exact Nat.le_refl _
   rw [if_neg g0,if_neg g0]
   by_cases g1 : ms.nx = 1
   ·rw [if_pos g1,if_pos g1]; exact Nat.le_refl _
   rw [if_neg g1,if_neg g1]
   by_cases g4 : ms.nx ≤ 4
   case neg => rw [if_neg g4,if_neg g4]; exact Nat.le_refl _
   rw [if_pos g4,if_pos g4]
   obtain ⟨q1,q2⟩ := hev (by omega)
   by_cases g : s.w ms.id = ms.wd
   ·have := hw ms.id q1 (by omega) hkf
    simp only [this,if_pos g,Nat.le_refl]
   ·rw [if_neg g]
    split <;> omega
  unfold potU
  simp only [h1,em]
  simp
  exact key
 ·by_cases h2 : v.nx = 2
  ·obtain ⟨ms,e,hd⟩ := hv.p2 h2
   have em : v.m = ms := by unfold US.m; rw [e]; rfl
   unfold potU
   simp only [h2,em]
   simp
   by_cases g : s.w ms.id = ms.wd
   ·have := hd.ev
    rw [hw ms.id hd.sw.inn (by omega) hkf,if_pos g]
    exact Nat.le_refl _
   ·rw [if_neg g]
    split <;> omega
  ·unfold potU
   simp [h1,h2]
set_option linter.unusedSimpArgs false in
theorem pot_own (hpc : u.nx = 7 → 0 ≤ u.pc ∧ u.pc ≤ 4) (hui : UI c s t C cs u M) (hvt : VT s t C c.nd c.lf c.inn c.fl c.bk cs) (hM : M < 18446744073709551616) (hnod : s.nodes ≤ 60) (hlen : s.sl.length ≤ 60) (h15 : u.nx < 15) :
  potU (u.step s).s cs (u.step s).u + remN (u.step s).u + tokN (u.step s).u + 256 * (60 - (u.step s).s.sl.length) + 1 ≤ potU s cs u + remN u + tokN u + 256 * (60 - s.sl.length) ∨ (u.nx = 1 ∧ u.step s = ⟨u,s,false,0⟩ ∧ ∃ id l low,memL cs l (id,low) ∧ s.inn id ∧ s.w id % 2 = 1) := by
 have h60 : ∀ k,s.inn k → 1 ≤ k ∧ k ≤ 60 := fun k hk => ⟨hk.1,by have := hk.2; omega⟩
 have hpos : 1 ≤ potU s cs u := by
  unfold potU
  repeat' split
  all_goals omega
 rcases step_cases (s := s) h15 with ⟨a1,a2,a3⟩ | ⟨a1,a2⟩
 ·have h3 : remN (u.step s).u = 0 := by unfold remN; simp [a1]
  have h4 : tokN (u.step s).u = 0 := by unfold tokN; simp [a1]
  have h5 : potU (u.step s).s cs (u.step s).u = 0 := by unfold potU; simp [a1]
  have h6 := act_lenM (u := u) (s := s)
  rw [h3,h4,h5,a3]
  exact .inl (by omega)
 rw [a2]
 by_cases h1 : u.nx = 1
 ·obtain ⟨ms,e,hd⟩ := hui.p1 h1
  have em : u.m = ms := by unfold US.m; rw [e]; rfl
  obtain ⟨q1,q2,q3⟩ := msN_step hd hvt hui.lev hM h60
  have ep : potU s cs u = 3 + msN s cs ms := by unfold potU; simp [h1,em]
  have er : remN u = 0 := by unfold remN; simp [h1]
  have et : tokN u = 256 := by unfold tokN; simp [h1]
  rw [ep,er,et]
  rw [act_one h1,em] at a1 ⊢
  by_cases g : (ms.step s).nx < 5
  ·rw [if_pos g]
   rcases q2 g with q | ⟨q,qn,qo⟩
   ·left
    have e1 : potU s cs ({ u with way := some (ms.step s) } : US) = 3 + msN s cs (ms.step s) := by unfold potU US.m; simp [h1]
    have e2 : remN ({ u with way := some (ms.step s) } : US) = 0 := by unfold remN; simp [h1]
    have e3 : tokN ({ u with way := some (ms.step s) } : US) = 256 := by unfold tokN; simp [h1]
    simp only [e1,e2,e3]
    omega
   ·right
    refine ⟨h1,?_,?_⟩
    ·rw [q,← e]
    ·obtain ⟨l,low,hm,_⟩ := hd.on (by omega)
     exact ⟨_,l,low,hm,hvt.onInn (hd.on (by omega)),qo⟩
  ·rw [if_neg g] at a1 ⊢
   left
   by_cases g2 : (ms.step s).id ≠ 0
   ·rw [if_pos g2]
    have e1 : potU s cs ({ u with way := some (ms.step s),nx := 2 } : US) = 1 := by unfold potU US.m; simp [q3 g g2]
    have e2 : remN ({ u with way := some (ms.step s),nx := 2 } : US) = 0 := by unfold remN; simp
    have e3 : tokN ({ u with way := some (ms.step s),nx := 2 } : US) = 256 := by unfold tokN; simp
    simp only [e1,e2,e3]
    omega
   ·rw [if_neg g2] at a1 ⊢
    by_cases g3 : u.lev = 0
    ·rw [if_pos g3] at a1; cases a1
    ·rw [if_neg g3]
     have e1 : potU s cs ({ u with way := some (ms.step s),nx := 9 } : US) = 2 := by unfold potU; simp
     have e2 : remN ({ u with way := some (ms.step s),nx := 9 } : US) = 0 := by unfold remN; simp
     have e3 : tokN ({ u with way := some (ms.step s),nx := 9 } : US) = 256 := by unfold tokN; simp
     simp only [e1,e2,e3]
     omega
 ·left
  have hdown : ∀ w : US,w.nx = 1 → w.way = some (MS.new w.sep w.lev) → potU (u.act s).s cs w = 244 := fun w hw1 hw2 => by
   unfold potU US.m
   rw [hw2]
   simp [hw1,msN,MS.new]
  have hd1 : (u.act s).u.nx = 1 → potU (u.act s).s cs (u.act s).u = 244 := fun g => by
   refine hdown _ g ?_
   have hx := act_nx h15 a1
   unfold PcNx at hx
   have hc : u.nx = 2 ∨ u.nx = 8 ∨ u.nx = 14 := by omega
   rcases hc with hc | hc | hc
   ·by_cases gl : s.lockB u.m.id u.m.wd = true
    ·have := (act_two hc gl).2; omega
    ·unfold US.act
     rw [hc]
     simp only
     rw [if_neg gl]
     rfl
   ·rw [act_eight hc]; rfl
   ·by_cases gg : s.groB u.lft u.top = true
    ·have := act_g hc gg; omega
    ·unfold US.act
     rw [hc]
     simp only
     rw [if_neg gg]
     rfl
  have hl := act_nx h15 a1
  have hlen1 : u.nx ≠ 6 → u.nx ≠ 10 → (u.act s).s.sl.length = s.sl.length := fun h1 h2 => act_len h1 h2
  have hlen2 : u.nx = 6 ∨ u.nx = 10 → (u.act s).s.sl.length = s.sl.length + (if s.allE = 0 then 1 else 0) := fun h => act_lenT h
  have hal : s.allE = 0 → s.sl.length < 60 := fun h => by have := alloc_lt h; omega
  have h2 : u.nx = 2 → ((u.act s).u.nx = 1 → potU s cs u = 245) ∧ ((u.act s).u.nx ≠ 1 → potU s cs u = 1) := fun h2 => by
   obtain ⟨ms,e,hd⟩ := hui.p2 h2
   have em : u.m = ms := by unfold US.m; rw [e]; rfl
   have ep : potU s cs u = if s.w ms.id = ms.wd then 1 else 245 := by unfold potU; simp [h2,em]
   by_cases gl : s.lockB u.m.id u.m.wd = true
   ·have g3 := (act_two h2 gl).2
    have g4 := lockB_w gl
    rw [em] at g4
    rw [ep,if_pos g4]
    exact ⟨fun g => by omega,fun _ => rfl⟩
   ·have g4 : s.w ms.id ≠ ms.wd := fun g => gl (by rw [em]; unfold AS.lockB; exact decide_eq_true ⟨hd.sw.inn,g,hd.ev⟩)
    rw [ep,if_neg g4]
    refine ⟨fun _ => rfl,fun g => ?_⟩
    exfalso
    refine g ?_
    unfold US.act
    rw [h2]
    simp only
    rw [if_neg gl]
    rfl
  have hpn : 3 ≤ u.nx → potU s cs u = if u.nx ≤ 8 then 245 else if u.nx = 9 then 2 else if u.nx = 10 then 1 else if u.nx ≤ 14 then 259 - u.nx else 0 := fun g => by
   unfold potU
   rw [if_neg (by omega),if_neg (by omega),if_neg (by omega)]
  have hpn' : 3 ≤ (u.act s).u.nx → potU (u.act s).s cs (u.act s).u = if (u.act s).u.nx ≤ 8 then 245 else if (u.act s).u.nx = 9 then 2 else if (u.act s).u.nx = 10 then 1 else if (u.act s).u.nx ≤ 14 then 259 - (u.act s).u.nx else 0 := fun g => by
   unfold potU
   rw [if_neg (by omega),if_neg (by omega),if_neg (by omega)]
  generalize potU (u.act s).s cs (u.act s).u = P' at hd1 hpn' ⊢
  generalize potU s cs u = P at h2 hpn hpos ⊢
  generalize (u.act s).u = u' at hl hd1 h2 hpn' ⊢
  generalize (u.act s).s.sl.length = L' at hlen1 hlen2 ⊢
  unfold PcNx at hl
  unfold remN tokN
  rcases hl with ⟨e,_⟩ | ⟨e,e' | e' | e' | e'⟩ | ⟨e,e'⟩ | ⟨e,e'⟩ | ⟨e,e'⟩ | ⟨e,⟨g,e',e2⟩ | ⟨g,e'⟩⟩ | ⟨e,g,e',e2⟩ | ⟨e,g,e'⟩ | ⟨e,e'⟩ | ⟨e,e' | e'⟩ | ⟨e,⟨g,e'⟩ | ⟨g,e'⟩⟩ | ⟨e,e'⟩ | ⟨e,e'⟩ | ⟨e,e'⟩ | ⟨e,e' | e'⟩
  ·exact absurd e h1
  all_goals
   first
    | (have hL := hlen1 (by omega) (by omega)
       have hp := hpc
       simp [e,e'] at h2 hpn hpn' hd1 hp
       simp [e,e',hL, *]
       try omega)
    | (have hL := hlen2 (by omega)
       have := hal
       simp [e,e'] at hpn hpn' hd1
       simp [e,e',hL, *]
       try omega)
end
def gW (s : AS) (us : List US) : Nat := (us.map fun u => remN u + tokN u).sum + 256 * (60 - s.sl.length)
def HiU (us : List US) (k : Nat) : Prop := ∃ (j : Nat) (v : US),k ≤ j ∧ us[j]? = some v ∧ holB v = true
def LoU (us : List US) (k : Nat) : Prop := ∃ (j : Nat) (v : US),j < k ∧ us[j]? = some v ∧ holB v = true
structure EZ (c : Cfg) (s : AS) (us : List US) (M r k K : Nat) : Prop where
 ex : ∃ t cs,WG c s t cs us M ∧ ∀ (i : Nat) (u : US),us[i]? = some u → 15 ≤ u.nx ∨ ((i < k → potU s cs u + gW s us + r + 1 ≤ K ∨ (potU s cs u + gW s us + r ≤ K ∧ HiU us k)) ∧ (k ≤ i → potU s cs u + gW s us + r ≤ K ∧ (LoU us k → potU s cs u + gW s us + r + 1 ≤ K)))
 wl : WL s
section
variable {c : Cfg} {s : AS} {us : List US} {u : US} {kv : List (List Int × List Int)} {E : List (List Int × List Int)} {M r k K : Nat}
theorem sum_setU (f : US → Nat) : ∀ (us : List US) (i : Nat) (u v : US),us[i]? = some u → ((us.set i v).map f).sum + f u = (us.map f).sum + f v
 | [],i,u,v,h => by simp at h
 | x :: r,0,u,v,h => by
  simp only [List.getElem?_cons_zero,Option.some.injEq] at h
  subst h
  simp only [List.set_cons_zero,List.map_cons,List.sum_cons]
  omega
 | x :: r,i + 1,u,v,h => by
  simp only [List.getElem?_cons_succ] at h
  have := sum_setU f r i u v h
  simp only [List.set_cons_succ,List.map_cons,List.sum_cons]
  omega
theorem EZ.step (h : EZ c s us M r k K) (hws : WS c s us kv E M) (hk : us[k]? = some u) (hM : M < 4611686018427387904) : EZ c (u.step s).s (us.set k (u.step s).u) (M + 1) r (k + 1) K := by
 obtain ⟨⟨t,cs,hg,hi⟩,hwl⟩ := h
 have hui := hg.ui k u hk
 have hnd : (s.sl.length : Int) ≤ c.nd := by rw [← hws.nod]; exact hws.sb.2
 have h60 := hws.cfg.2
 have hnod := hws.nod
 have hlt : k < us.length := (List.getElem?_eq_some_iff.1 hk).1
 have h31 : cs.length ≤ 31 := by
  have g1 := hg.vt.tre.high
  have g2 := hg.vt.len
  omega
 obtain ⟨t',cs',q1,_,_,_,_,_,_,q8⟩ := hg.stepX hk hws.cfg.1 (fun k _ => hwl.w k) (by omega) hnd h31
 have hglob := step_glob (s := s) (u := u) hui.pc (by omega)
 have hown : u.nx < 15 → _ := pot_own (s := s) (u := u) hui.pc hui hg.vt (by omega) (by omega) (by omega)
 have hpo : ∀ (i : Nat) (v : US),us[i]? = some v → potU (u.step s).s cs' v ≤ potU s cs v + (if lokB s u = true then 247 else 0) := fun i v hv => pot_other (s' := (u.step s).s) q8 (fun k hk he hl => step_w hk he hl) (hg.ui i v hv)
 have hsum := sum_setU (fun u => remN u + tokN u) us k u (u.step s).u hk
 have hat : ∀ (j : Nat),k ≠ j → (us.set k (u.step s).u)[j]? = us[j]? := fun j e => List.getElem?_set_ne e
 have hatk : (us.set k (u.step s).u)[k]? = some (u.step s).u := List.getElem?_set_self hlt
 have hG : gW (u.step s).s (us.set k (u.step s).u) + (if holB u = true ∨ holB (u.step s).u = true then 1 else 0) + (if lokB s u = true then 247 else 0) ≤ gW s us := by
  unfold gW
  omega
 refine ⟨⟨t',cs',q1,fun i v hv => ?_⟩,hwl.step u⟩
 by_cases e : k = i
 ·subst e
  rw [hatk] at hv
  obtain rfl := Option.some.inj hv
  by_cases h15 : u.nx < 15
  case neg =>
   left
   rw [ustep_idle (by omega)]
   simp only
   omega
  rcases hi k u hk with g | ⟨_,g⟩
  ·omega
  obtain ⟨g1,g2⟩ := g (Nat.le_refl _)
  right
  refine ⟨fun _ => ?_,fun g => absurd g (by omega)⟩
  have hmo := pot_mono (s := (u.step s).s) q8 (u.step s).u
  rcases hown h15 with hp | ⟨p1,p2,id,l,low,p3,p4,p5⟩
  ·left
   unfold gW at g1 ⊢
   omega
  ·obtain ⟨j,v,hj,ho⟩ := hg.odd id p4 p5
   have huv := hg.ui j v hj
   have hh : v.hol id := by
    rcases ho with ho | ⟨a,b,e⟩ | ⟨⟨a,b⟩,e⟩
    ·exact ho
    ·exact absurd e ((huv.fo (.inl a)).2 _ _ p3)
    ·exact absurd e ((huv.tp a (by omega)).2 _ _ p3)
   have hb : holB v = true := by unfold holB; exact decide_eq_true hh.1
   have hjk : j ≠ k := fun e => by
    subst e
    rw [hk] at hj
    obtain rfl := Option.some.inj hj
    have := hh.1
    omega
   have hge : gW (u.step s).s (us.set k (u.step s).u) = gW s us := by
    unfold gW
    rw [p2] at hsum ⊢
    simp only at hsum ⊢
    omega
   rw [hge]
   rw [p2] at hmo ⊢
   simp only at hmo ⊢
   by_cases hlt2 : j < k
   ·left
    have := g2 ⟨j,v,hlt2,hj,hb⟩
    omega
   ·right
    refine ⟨by omega,j,v,by omega,?_,hb⟩
    rw [List.getElem?_set_ne (fun e => hjk e.symm)]
    exact hj
 ·rw [hat i e] at hv
  have hpo := hpo i v hv
  rcases hi i v hv with g | ⟨g1,g2⟩
  ·exact .inl g
  ·right
   refine ⟨fun hlt => ?_,fun hle => ?_⟩
   ·rcases g1 (by omega) with g | ⟨g,j,w,hj,hw,hwb⟩
    ·left
     omega
    ·by_cases ejk : k = j
     ·subst ejk
      rw [hk] at hw
      obtain rfl := Option.some.inj hw
      rw [if_pos (.inl hwb)] at hG
      left
      omega
     ·right
      exact ⟨by omega,j,w,by omega,by rw [hat j ejk]; exact hw,hwb⟩
   ·obtain ⟨a,b⟩ := g2 (by omega)
    refine ⟨by omega,fun ⟨j,w,hj,hw,hwb⟩ => ?_⟩
    by_cases ejk : k = j
    ·subst ejk
     rw [hatk] at hw
     obtain rfl := Option.some.inj hw
     rw [if_pos (.inr hwb)] at hG
     omega
    ·rw [hat j ejk] at hw
     have := b ⟨j,w,by omega,hw,hwb⟩
     omega
theorem EZ.round (h : EZ c s us M r us.length K) : EZ c s us M (r + 1) 0 K := by
 obtain ⟨⟨t,cs,hg,hi⟩,hwl⟩ := h
 refine ⟨⟨t,cs,hg,fun i u hu => ?_⟩,hwl⟩
 have hlt : i < us.length := (List.getElem?_eq_some_iff.1 hu).1
 rcases hi i u hu with g | ⟨g,_⟩
 ·exact .inl g
 ·right
  refine ⟨fun g => absurd g (by omega),fun _ => ⟨?_,fun ⟨j,_,hj,_⟩ => absurd hj (by omega)⟩⟩
  rcases g hlt with g | ⟨_,j,w,hj,hw,_⟩
  ·omega
  ·have := (List.getElem?_eq_some_iff.1 hw).1
   omega
theorem EZ.over (h : EZ c s us M r k K) (hr : K < r) (i : Nat) (u : US) (hu : us[i]? = some u) : 15 ≤ u.nx := by
 obtain ⟨⟨t,cs,hg,hi⟩,hwl⟩ := h
 rcases hi i u hu with g | ⟨g1,g2⟩
 ·exact g
 ·by_cases e : i < k
  ·rcases g1 e with g | ⟨g,_⟩ <;> omega
  ·have := (g2 (by omega)).1
   omega
theorem EZ.new (hws : WS c s us kv E M) (hwl : WL s) (hn : ∀ u ∈ us,u.nx ≤ 1) (hf : us.length ≤ 12) (hl : 1 ≤ s.sl.length) : EZ c s us M 0 0 19000 := by
 obtain ⟨t,cs,hg,_⟩ := hws.g
 have hsum : ∀ (l : List US),(∀ u ∈ l,u.nx ≤ 1) → (l.map fun u => remN u + tokN u).sum ≤ 256 * l.length := fun l => by
  induction l with
  | nil => intro _; simp
  | cons x l ih =>
   intro h
   have h1 := ih (fun u hu => h u (List.mem_cons_of_mem _ hu))
   have h2 := h x List.mem_cons_self
   have h3 : remN x = 0 := by
    unfold remN
    repeat' split
    all_goals omega
   have h4 : tokN x ≤ 256 := by unfold tokN; split <;> omega
   simp only [List.map_cons,List.sum_cons,List.length_cons]
   omega
 have h1 := hsum us hn
 refine ⟨⟨t,cs,hg,fun i u hu => .inr ⟨fun g => absurd g (by omega),fun _ => ?_⟩⟩,hwl⟩
 have h2 : potU s cs u ≤ 248 := by
  have := msN_le (s := s) (cs := cs) u.m
  unfold potU
  repeat' split
  all_goals omega
 refine ⟨?_,fun ⟨j,_,hj,_⟩ => absurd hj (by omega)⟩
 unfold gW
 omega
theorem WS.free (h : WS c s us kv E M) (ha : ∀ (i : Nat) (u : US),us[i]? = some u → 15 ≤ u.nx) : s.held = [] := by
 obtain ⟨t,cs,hg,_⟩ := h.g
 refine even_held fun id hi => ?_
 by_cases g : s.w id % 2 = 1
 ·obtain ⟨j,v,hj,ho⟩ := hg.odd id hi g
  have := ha j v hj
  rcases ho with ⟨a,_⟩ | ⟨a,_⟩ | ⟨a,_⟩ <;> omega
 ·omega
end
section
variable {W w1 w2 : World} {P A : Nat} {D F D1 F1 : Nat → Prop} {m m1 : UM} {u u1 u2 : US} {s s1 : AS}
theorem UQ.texts {k v : Tx} {N : Nat} (h : UQ W P A D F m m1 D1 F1 u1 s1 w1) (hN : W.heap.size ≤ N ∧ ∀ x,D1 x ∨ F1 x → x < N) (hP : P < N) (hk : OwnB w1 N 5 k.v k.s) (hko : k.Ok w1) (hv : OwnB w1 N 5 v.v v.s) (hvo : v.Ok w1) (hu : Upd (fun k => k = P) w1 w2) (hc : w2.heap[P]? = some (.cells (ucel P A { m1 with st := k,vt := v } u2) 121 (0,0))) (ha : ({ u1 with sep := k.s,val := v.s } : US).alike u2) : ∃ D2,UQ W P A D F m { m1 with st := k,vt := v } D2 F1 u2 s1 w2 ∧ ∀ x,D2 x → D1 x ∨ N ≤ x := by
 obtain ⟨a1,a2,a3,a4,a5,a6⟩ := ha
 simp only at a1 a2 a3 a4 a5 a6
 have hs : ∀ x,D1 x → m1.pw ≠ some x → ¬ x = P := fun x hx _ e => h.up.pd (e ▸ hx)
 have hki := ownB_in hk
 have hvi := ownB_in hv
 have hpw : ∀ x,N ≤ x → m1.pw ≠ some x := fun x hx => by
  rcases h.up.w with h1 | ⟨p,ms,k,n,Dm,h1,h2,h3,h4,h5⟩
  ·rw [h1.1]; exact fun e => nomatch e
  ·rw [h1]; intro e; cases e; have := hN.2 _ (.inl h3); omega
 refine ⟨fun x => D1 x ∨ (N ≤ x ∧ x < w2.heap.size),⟨⟨hc,by rw [a1]; exact ⟨hvo.updL hu (fun x e _ e2 => by have := hvi x e; omega),rfl,fun x e _ => ⟨.inr ⟨(hvi x e).1,Nat.lt_of_lt_of_le (hvi x e).2 hu.size⟩,hpw _ (hvi x e).1⟩⟩,by rw [a2]; exact ⟨hko.updL hu (fun x e _ e2 => by have := hki x e; omega),rfl,fun x e _ => ⟨.inr ⟨(hki x e).1,Nat.lt_of_lt_of_le (hki x e).2 hu.size⟩,hpw _ (hki x e).1⟩⟩,by rw [a3]; exact h.up.b.keep hu hs (fun _ hx => .inl hx) (fun _ _ hx => hx),by rw [a4]; exact h.up.h.keep hu hs (fun _ hx => .inl hx) (fun _ _ hx => hx),by rw [a5]; exact h.up.f.keep hu hs (fun _ hx => .inl hx) (fun _ _ hx => hx),?_,?_,?_⟩,h.px.upd hu (fun k hk => (h.ap k hk).2),?_,h.f,?_,h.u.trans (hu.mono (fun _ _ e => .inl e))⟩,fun x hx => hx.imp id (fun hx => hx.1)⟩
 ·rw [a6]
  rcases h.up.w with h1 | ⟨p,ms,k,n,Dm,h1,h2,h3,h4,h5⟩
  ·exact .inl h1
  ·refine .inr ⟨p,ms,k,n,Dm,h1,h2,.inl h3,h4.upd hu (fun x hx e => ?_),fun x hx => .inl (h5 x hx)⟩
   rcases hx with rfl | hx
   ·exact h.up.pd (e ▸ h3)
   ·exact h.up.pd (e ▸ h5 x hx)
 ·rintro (h1 | h1)
  ·exact h.up.pd h1
  ·omega
 ·rintro x (h1 | h1)
  ·exact Nat.lt_of_lt_of_le (h.up.lt x h1) hu.size
  ·exact h1.2
 ·rintro x (h1 | h1)
  ·exact h.d x h1
  ·exact .inr (Nat.le_trans hN.1 h1.1)
 ·intro x hx
  refine ⟨?_,(h.ap x hx).2⟩
  rintro (h1 | h1)
  ·exact (h.ap x hx).1 h1
  ·have := hN.2 x (.inr hx); omega
def uNw (key value : List Int) : Prop := 1 ≤ key.length ∧ key.length ≤ 64 ∧ value.length ≤ 256
instance (key value : List Int) : Decidable (uNw key value) := by unfold uNw; exact inferInstance
set_option maxHeartbeats 1600000 in
theorem umay_any (a b : Option Addr) (l c l2 c2 : Nat) (w : World) : Calls Tryz.prog 48 #[.slice a l c,.slice b l2 c2] w fun e w' => e = .returned (.bool (decide (1 ≤ l ∧ l ≤ 64 ∧ l2 ≤ 256))) ∧ w' = w := by
 by_cases h1 : 1 ≤ l
 ·have j1 : (1 : Int) ≤ (l : Int) := by omega
  by_cases h2 : l ≤ 64
  ·have j2 : (l : Int) ≤ 64 := by omega
   by_cases h3 : l2 ≤ 256
   ·have j3 : (l2 : Int) ≤ 256 := by omega
    rw [decide_eq_true ⟨h1,h2,h3⟩]
    clear h1 h2 h3
    go_enter Tryz.func48,Tryz.ntmps48
    go_wp2_with fail
    go_ret
    exact ⟨rfl,rfl⟩
   ·have j3 : ¬ (l2 : Int) ≤ 256 := by omega
    rw [decide_eq_false (fun h => h3 h.2.2)]
    clear h1 h2 h3
    go_enter Tryz.func48,Tryz.ntmps48
    go_wp2_with fail
    go_ret
    exact ⟨rfl,rfl⟩
  ·have j2 : ¬ (l : Int) ≤ 64 := by omega
   rw [decide_eq_false (fun h => h2 h.2.1)]
   clear h1 h2
   go_enter Tryz.func48,Tryz.ntmps48
   go_wp2_with fail
   go_ret
   exact ⟨rfl,rfl⟩
 ·have j1 : ¬ (1 : Int) ≤ (l : Int) := by omega
  rw [decide_eq_false (fun h => h1 h.1)]
  clear h1
  go_enter Tryz.func48,Tryz.ntmps48
  go_wp2_with fail
  go_ret
  exact ⟨rfl,rfl⟩
def UNewP (W : World) (A : Nat) (F : Nat → Prop) (s : AS) (u : US) (e : Ending) (w' : World) : Prop := ∃ P m D F',e = .returned (.pointer (some ⟨P,0,none⟩)) ∧ UP w' P A D m u ∧ PX w' A F' s ∧ W.heap.size ≤ P ∧ (∀ x,D x → W.heap.size ≤ x) ∧ (∀ x,F' x → F x ∨ W.heap.size ≤ x) ∧ (∀ x,F' x → ¬ D x ∧ x ≠ P) ∧ Upd F W w'
def u00 (c : Cfg) : US := ⟨c,[],15,0,[],none,0,NP.zero,0,NP.zero,[],0,0,0,0,false,0⟩
def m00 : UM := ⟨⟨none,0,[]⟩,⟨none,0,[]⟩,⟨none,0,[]⟩,Nd.zero,Nd.zero,none⟩
theorem up_zero {Y : World} (c : Cfg) (h : Y.heap[P]? = some (.cells (ucel P A m00 (u00 c)) 121 (0,0))) : UP Y P A (fun _ => False) m00 (u00 c) :=
 ⟨h,⟨Tx.nil_ok _,rfl,fun x e => (by cases e)⟩,⟨Tx.nil_ok _,rfl,fun x e => (by cases e)⟩,⟨Tx.nil_ok _,rfl,fun x e => (by cases e)⟩,⟨Nd.zero_ok _,rfl,Nd.zero_in _⟩,⟨Nd.zero_ok _,rfl,Nd.zero_in _⟩,.inl ⟨rfl,rfl⟩,fun e => e,fun _ e => e.elim⟩
set_option maxHeartbeats 6400000 in
theorem unew_any (hp : PX W A F s) (c : Cfg) (k v : Tx) (hk : k.Ok W) (hv : v.Ok W) : Calls Tryz.prog 14 #[.pointer (some ⟨A,0,none⟩),c.v,k.v,v.v] W (UNewP W A F s (US.new c k.s v.s)) := by
 obtain ⟨Q,hQ⟩ : ∃ Q,Q = UNewP W A F s (US.new c k.s v.s) := ⟨_,rfl⟩
 obtain ⟨nd,lf,inn,fl,bk⟩ := c
 obtain ⟨wa,hwa⟩ : ∃ wa,wa = W.alloc (.cells #[.int .i64 nd,.int .i64 lf,.int .i64 inn,.int .i64 fl,.int .i64 bk] 23) := ⟨_,rfl⟩
 have ba : Below W.heap.size W wa := by rw [hwa]; exact (Below.refl _ _).alloc (Nat.le_refl _) _
 have ga : wa.heap[W.heap.size]? = some (.cells #[.int .i64 nd,.int .i64 lf,.int .i64 inn,.int .i64 fl,.int .i64 bk] 23 (0,0)) := by rw [hwa]; exact heap_alloc_new W _
 obtain ⟨P,hP⟩ : ∃ P,P = wa.heap.size := ⟨_,rfl⟩
 have hPW : W.heap.size ≤ P := by rw [hP]; exact ba.size
 obtain ⟨wb,hwb⟩ : ∃ wb,wb = wa.alloc (.cells (ucel P A m00 (u00 ⟨nd,lf,inn,fl,bk⟩)) 121) := ⟨_,rfl⟩
 have bb : Below wa.heap.size wa wb := by rw [hwb]; exact (Below.refl _ _).alloc (Nat.le_refl _) _
 have gb : wb.heap[P]? = some (.cells (ucel P A m00 (u00 ⟨nd,lf,inn,fl,bk⟩)) 121 (0,0)) := by rw [hwb,hP]; exact heap_alloc_new wa _
 have bW : Below W.heap.size W wb := ba.trans (bb.mono ba.size)
 have q0 : UQ wb P A (fun _ => False) F m00 m00 (fun _ => False) F (u00 ⟨nd,lf,inn,fl,bk⟩) s wb := UQ.begin (up_zero _ gb) (hp.upd (S := Noth) (Upd.of_below bW _) (fun _ _ e => e)) (fun x hx => ⟨fun e => e,fun e => by have := hp.lt x hx; omega⟩)
 have HQ : Hid (∀ m' D' F' u' w',UQ wb P A (fun _ => False) F m00 m' D' F' u' s w' → u' = US.new ⟨nd,lf,inn,fl,bk⟩ k.s v.s → Q (.returned (.pointer (some ⟨P,0,none⟩))) w') := fun m' D' F' u' w' q e => by
  rw [hQ]
  subst e
  refine ⟨P,m',D',F',rfl,q.up,q.px,hPW,fun x hx => ?_,fun x hx => ?_,q.ap,?_⟩
  ·rcases q.d x hx with h1 | h1
   ·exact h1.elim
   ·exact Nat.le_trans bW.size h1
  ·rcases q.f x hx with h1 | h1
   ·exact .inl h1
   ·exact .inr (Nat.le_trans bW.size h1)
  ·refine (Upd.of_below bW F).transN q.u (fun x hx e => ?_)
   rcases e with e | e | e
   ·omega
   ·cases e
   ·exact e
 rw [← hQ]
 obtain ⟨ka,kc,kz⟩ := k
 obtain ⟨va,vc,vz⟩ := v
 simp only [Tx.v] at *
 obtain ⟨kl,hkl⟩ : ∃ x,kz.length = x := ⟨_,rfl⟩
 obtain ⟨vl,hvl⟩ : ∃ x,vz.length = x := ⟨_,rfl⟩
 rw [hkl,hvl]
 have HMB : Hid (∀ w,Calls Tryz.prog 48 #[.slice ka kl kc,.slice va vl vc] w fun e w' => e = .returned (.bool (decide (uNw kz vz))) ∧ w' = w) := fun w => by
  have := umay_any ka va kl kc vl vc w
  rw [← hkl,← hvl] at this ⊢
  exact this
 have HCK : Hid (∀ W',Below W.heap.size W W' → Calls Tryz.prog 50 #[.slice ka kl kc] W' fun e w' => ∃ v,e = .returned v ∧ OwnB w' W'.heap.size 5 v kz ∧ Below W'.heap.size W' w') := fun W' hb => bclone_any ka kl kc kz W' hkl (by have := hk.z; simp only [hkl] at this; omega) (fun e => by have := hk.n e; simp only [hkl] at this; exact this) (hk.below hb).r
 have HCV : Hid (∀ W',Below W.heap.size W W' → Calls Tryz.prog 50 #[.slice va vl vc] W' fun e w' => ∃ v,e = .returned v ∧ OwnB w' W'.heap.size 5 v vz ∧ Below W'.heap.size W' w') := fun W' hb => bclone_any va vl vc vz W' hvl (by have := hv.z; simp only [hvl] at this; omega) (fun e => by have := hv.n e; simp only [hvl] at this; exact this) (hv.below hb).r
 have HKB : Hid ((B8 kz ∧ kz.length ≤ 140737488351232) ∧ (B8 vz ∧ vz.length ≤ 140737488351232)) := ⟨⟨hk.b8,hk.z⟩,⟨hv.b8,hv.z⟩⟩
 have HLL := hide (And.intro hkl hvl)
 have HQ0 := hide q0
 have HPB := hide (lt_of_block gb)
 have HBW := hide bW
 have x0 : wa.cell? ⟨W.heap.size,0,none⟩ = some (.int .i64 nd) := by rw [cell_of_row _ _ _ _ _ _ ga]; rfl
 have x1 : wa.cell? ⟨W.heap.size,1,none⟩ = some (.int .i64 lf) := by rw [cell_of_row _ _ _ _ _ _ ga]; rfl
 have x2 : wa.cell? ⟨W.heap.size,2,none⟩ = some (.int .i64 inn) := by rw [cell_of_row _ _ _ _ _ _ ga]; rfl
 have x3 : wa.cell? ⟨W.heap.size,3,none⟩ = some (.int .i64 fl) := by rw [cell_of_row _ _ _ _ _ _ ga]; rfl
 have x4 : wa.cell? ⟨W.heap.size,4,none⟩ = some (.int .i64 bk) := by rw [cell_of_row _ _ _ _ _ _ ga]; rfl
 have fz := frozen_of gb 7
 have d7 : wb.cell? ⟨P,7,none⟩ = some .nilFunc := by rw [cell_of_row _ _ _ _ _ _ gb]; rfl
 have HWA := hide hwa
 have HWB := hide hwb
 have HPE := hide hP
 simp only [ucel,m00,u00,uxV,pwV,Tx.v,TL.v,IL.v,Nd.zero,List.length_nil] at HWB
 clear q0 gb bW bb ba ga hwa hwb hQ hP hk hv hkl hvl hp hPW
 simp only [Cfg.v]
 go_enter Tryz.func14,Tryz.ntmps14
 go_upto_region 1 with fail
 rw [← HWA.out]
 clear HWA
 go_upto_region 2 with fail
 rw [← HWB.out,← HPE.out]
 clear HWB x0 x1 x2 x3 x4
 go_wp2_with fail
 refine keep (HMB.out _) ?_
 clear HMB
 by_cases hkv : uNw kz vz
 case neg =>
  rw [decide_eq_false hkv]
  have HF : Hid (Q (.returned (.pointer (some ⟨P,0,none⟩))) (wb.setCell ⟨P,7,none⟩ (uxV P 0))) := HQ.out _ _ _ { u00 ⟨nd,lf,inn,fl,bk⟩ with nx := 0 } _ (HQ0.out.own (updP (Upd.refl _ _) _ _) (block_setCell HQ0.out.up.c 7 _) ⟨rfl,rfl,rfl,rfl,rfl,rfl⟩) (by have hk2 := hkv; unfold uNw at hk2; unfold US.new; rw [if_neg hk2]; rfl)
  simp only [uxV] at HF
  clear HQ HCK HCV hkv
  go_wp2_with fail
  exact HF.out
 rw [decide_eq_true hkv]
 have HUN : Hid (US.new ⟨nd,lf,inn,fl,bk⟩ kz vz = ({ u00 ⟨nd,lf,inn,fl,bk⟩ with sep := kz,val := vz } : US).down) := by show _ = _; have hk2 := hkv; unfold uNw at hk2; unfold US.new; rw [if_pos hk2]; rfl
 clear hkv d7 fz
 go_wp2_with fail
 refine (HCK.out _ HBW.out).mono ?_
 rintro e w3 ⟨kv,rfl,hko,hb3⟩
 obtain ⟨na,nc,rfl,_,_⟩ := hko.slice
 have HKO := hide hko
 have HB3 := hide hb3
 have HB3W := hide (HBW.out.trans (hb3.mono HBW.out.size))
 clear hko hb3
 rw [HLL.out.1] at HKO ⊢
 go_wp2_with fail
 refine (HCV.out _ HB3W.out).mono ?_
 rintro e w4 ⟨vv,rfl,hvo,hb4⟩
 obtain ⟨ua,uc,rfl,_,_⟩ := hvo.slice
 rw [HLL.out.2] at hvo ⊢
 have q4 := HQ0.out.below (HB3.out.trans (hb4.mono HB3.out.size))
 have hko4 : OwnB w4 wb.heap.size 5 (⟨na,nc,kz⟩ : Tx).v (⟨na,nc,kz⟩ : Tx).s := by simp only [Tx.v,HLL.out.1]; exact HKO.out.below hb4
 have hvo4 : OwnB w4 wb.heap.size 5 (⟨ua,uc,vz⟩ : Tx).v (⟨ua,uc,vz⟩ : Tx).s := by simp only [Tx.v,HLL.out.2]; exact hvo.mono HB3.out.size
 have kk := ownB_ok (x := ⟨na,nc,kz⟩) hko4 HKB.out.1.1 HKB.out.1.2
 have vk := ownB_ok (x := ⟨ua,uc,vz⟩) hvo4 HKB.out.2.1 HKB.out.2.2
 have g4 := q4.up.c
 have fz := fun j => frozen_of g4 j
 have d9 : w4.cell? ⟨P,9,none⟩ = some (.slice none 0 0) := q4.up.cell 9 _ rfl
 have g5 := block_setCell g4 9 (.slice na kl nc)
 have fz5 := fun j => frozen_of g5 j
 have d6 : (w4.setCell ⟨P,9,none⟩ (.slice na kl nc)).cell? ⟨P,6,none⟩ = some (.slice none 0 0) := by rw [cell_of_row _ _ _ _ _ _ g5]; rfl
 obtain ⟨w6,hw6⟩ : ∃ w6,w6 = (w4.setCell ⟨P,9,none⟩ (.slice na kl nc)).setCell ⟨P,6,none⟩ (.slice ua vl uc) := ⟨_,rfl⟩
 obtain ⟨D6,q6,_⟩ := q4.texts (k := ⟨na,nc,kz⟩) (v := ⟨ua,uc,vz⟩) (N := wb.heap.size) (w2 := w6) (u2 := { u00 ⟨nd,lf,inn,fl,bk⟩ with sep := kz,val := vz }) ⟨Nat.le_refl _,fun x hx => by rcases hx with hx | hx; exact hx.elim; exact HQ0.out.px.lt x hx⟩ HPB.out hko4 kk hvo4 vk (by rw [hw6]; exact updP (updP (Upd.refl _ _) _ _) _ _) (by rw [hw6,← HLL.out.1,← HLL.out.2]; exact block_setCell (block_setCell g4 9 _) 6 _) ⟨rfl,rfl,rfl,rfl,rfl,rfl⟩
 have HDN := hide (u_down q6)
 have HW6 := hide hw6
 clear q4 hko4 hvo4 kk vk g4 g5 q6 hvo hb4 hw6 HKO HB3 HCK HCV HKB
 go_upto_region 6 with fail
 rw [← HW6.out]
 clear HW6 d9 d6 fz fz5
 go_wp2_with fail
 refine HDN.out.mono ?_
 rintro e w7 ⟨rfl,m7,D7,q7⟩
 have HF := hide (HQ.out _ _ _ _ _ q7 HUN.out.symm)
 clear q7 HDN HQ
 go_wp2_with fail
 exact HF.out
end
end Go.Proofs.YtljnapejgjffjaaGreat
