/- Texts of one's own. -/
import Derived.Test.YtljnapejgjffjaaGreatH32
import Derived.Deep.DeepCutAuto
namespace Go.Proofs.YtljnapejgjffjaaGreat
open Go.RowKit
set_option maxRecDepth 100000
theorem ufeql (f : FuncId) (r c : Array Value) (W : World) : (binOp .eql 69 (.func (.func f) r c) .nilFunc).run Tryz.prog W = .ok (.bool false) W := by kernel_rfl
theorem ufeql0 (W : World) : (binOp .eql 69 .nilFunc .nilFunc).run Tryz.prog W = .ok (.bool true) W := by kernel_rfl
def UaP (W : World) (P A : Nat) (D F : Nat → Prop) (m : UM) (o : UO) (e : Ending) (w' : World) : Prop := e = .returned (.tuple #[.bool o.tk,.int .i64 o.er]) ∧ UNx W P A D F m o.u o.s w'
section
variable {W : World} {P A : Nat} {D F : Nat → Prop} {m : UM} {u : US} {s : AS}
set_option maxHeartbeats 3200000 in
theorem u_refuse (h : UP W P A D m u) (hp : PX W A F s) (hF : ∀ x,F x → ¬ D x ∧ x ≠ P) (hx : u.nx = 0) : Calls Tryz.prog 49 #[.pointer (some ⟨P,0,none⟩)] W (UaP W P A D F m (u.act s)) := by
 have hq : UaP W P A D F m (u.act s) (.returned (.tuple #[.bool true,.int .i64 3])) W := by
  unfold US.act
  rw [hx]
  exact ⟨rfl,(UQ.begin h hp hF).nx⟩
 have HQ := hide hq
 obtain ⟨Q,hQ⟩ : ∃ Q,Q = UaP W P A D F m (u.act s) := ⟨_,rfl⟩
 rw [← hQ] at HQ ⊢
 clear h hp hF hx hq hQ
 go_enter Tryz.func49,Tryz.ntmps49
 go_wp2_with fail
 exact HQ.out
set_option maxHeartbeats 3200000 in
theorem u_layBody (h : UP W P A D m u) (hp : PX W A F s) (hF : ∀ x,F x → ¬ D x ∧ x ≠ P) (hx : u.nx = 3) : Calls Tryz.prog 168 #[.pointer (some ⟨P,0,none⟩)] W (UaP W P A D F m (u.act s)) := by
 have ek : m.hn.ks.p = u.hn.ks := by rw [← h.h.p]; rfl
 have ev : m.hn.vs.p = u.hn.vs := by rw [← h.h.p]; rfl
 have ec : m.hn.cs.s = u.hn.cs := by rw [← h.h.p]; rfl
 obtain ⟨w1,hw1⟩ : ∃ w1,w1 = W.setCell ⟨P,7,none⟩ (uxV P 4) := ⟨_,rfl⟩
 have u1 : Upd (fun k => k = P) W w1 := by rw [hw1]; exact (Upd.refl _ _).setCell _ _ (fun _ => rfl)
 have q1 : UQ W P A D F m m D F ({ u with nx := 4 }) s w1 := (UQ.begin h hp hF).own u1 (by rw [hw1]; exact block_setCell h.c 7 _) ⟨rfl,rfl,rfl,rfl,rfl,rfl⟩
 obtain ⟨U1,hU1⟩ : ∃ U1,U1 = ({ u with nx := 4 } : US) := ⟨_,rfl⟩
 rw [← hU1] at q1
 have HC : Hid (∀ Y,Below w1.heap.size w1 Y → Calls Tryz.prog 180 #[.pointer (some ⟨A,0,none⟩),.int .i64 u.hid,.agg #[m.hn.ks.v,m.hn.vs.v,m.hn.cs.v]] Y fun e w' => e = .returned (.int .i64 (s.unlE u.hid)) ∧ ∃ F2,UQ W P A D F m m D F2 U1 (s.bodS u.hid u.hn.ks u.hn.vs u.hn.cs) w') := fun Y hb => by
  have q2 := q1.below hb
  refine (px_setB q2.px u.hid m.hn.ks m.hn.vs m.hn.cs q2.up.h.ok.k q2.up.h.ok.v q2.up.h.ok.c q2.up.h.ok.kz q2.up.h.ok.vz q2.up.h.ok.cz).mono ?_
  rintro e w' ⟨rfl,hn⟩
  rw [ek,ev,ec] at hn
  exact ⟨rfl,q2.arena hn⟩
 obtain ⟨E,hE⟩ : ∃ E,E = s.unlE u.hid := ⟨_,rfl⟩
 rw [← hE] at HC
 have HQ : Hid (∀ w' F2,UQ W P A D F m m D F2 U1 (s.bodS u.hid u.hn.ks u.hn.vs u.hn.cs) w' → UaP W P A D F m (u.act s) (.returned (.tuple #[.bool false,.int .i64 E])) w') := fun w' F2 hq => by
  unfold US.act
  rw [hx]
  rw [hU1] at hq
  exact ⟨by rw [hE],hq.nx⟩
 obtain ⟨Q,hQ⟩ : ∃ Q,Q = UaP W P A D F m (u.act s) := ⟨_,rfl⟩
 rw [← hQ] at HQ ⊢
 have fz := frozen_of h.c 7
 have c7 : W.cell? ⟨P,7,none⟩ = some (uxV P u.nx) := h.cell 7 _ rfl
 rw [hx] at c7
 have HW1 := hide hw1
 have c0 : w1.cell? ⟨P,0,none⟩ = some (.pointer (some ⟨A,0,none⟩)) := q1.up.cell 0 _ (by rw [hU1]; rfl)
 have c11 : w1.cell? ⟨P,11,none⟩ = some (.int .i64 u.hid) := q1.up.cell 11 _ (by rw [hU1]; rfl)
 have c15 : w1.cell? ⟨P,15,none⟩ = some (m.hn.ks.v) := q1.up.cell 15 _ (by rw [hU1]; rfl)
 have c16 : w1.cell? ⟨P,16,none⟩ = some (m.hn.vs.v) := q1.up.cell 16 _ (by rw [hU1]; rfl)
 have c17 : w1.cell? ⟨P,17,none⟩ = some (m.hn.cs.v) := q1.up.cell 17 _ (by rw [hU1]; rfl)
 simp only [uxV] at c7 HW1
 have HU := hide hU1
 clear h hp hF hx hQ u1 q1 hw1 hU1 hE
 go_enter Tryz.func168,Tryz.ntmps168
 go_upto_region 2 with fail
 rw [← HW1.out]
 clear HW1 c7 fz
 go_region_held3 (fun Y => Y.cell? ⟨P,0,none⟩ = some (.pointer (some ⟨A,0,none⟩)) ∧ Y.cell? ⟨P,11,none⟩ = some (.int .i64 u.hid) ∧ Y.cell? ⟨P,15,none⟩ = some (m.hn.ks.v) ∧ Y.cell? ⟨P,16,none⟩ = some (m.hn.vs.v) ∧ Y.cell? ⟨P,17,none⟩ = some (m.hn.cs.v)) (go_keep) (first
  | (go_at_call 180; refine (HC.out _ (below_drew (Below.refl _ _))).mono ?_; rintro e w2 ⟨rfl,F2,hq2⟩; have HQ2 := hide (HQ.out w2 F2 hq2); have k0 := hq2.up; have d0 : w2.cell? ⟨P,0,none⟩ = some (.pointer (some ⟨A,0,none⟩)) := k0.cell 0 _ (by rw [HU.out]; rfl); have d11 : w2.cell? ⟨P,11,none⟩ = some (.int .i64 u.hid) := k0.cell 11 _ (by rw [HU.out]; rfl); have d15 : w2.cell? ⟨P,15,none⟩ = some (m.hn.ks.v) := k0.cell 15 _ (by rw [HU.out]; rfl); have d16 : w2.cell? ⟨P,16,none⟩ = some (m.hn.vs.v) := k0.cell 16 _ (by rw [HU.out]; rfl); have d17 : w2.cell? ⟨P,17,none⟩ = some (m.hn.cs.v) := k0.cell 17 _ (by rw [HU.out]; rfl); clear hq2 k0)
  | fail)
 all_goals (try go_wp2_with fail)
 all_goals exact HQ2.out
set_option maxHeartbeats 3200000 in
theorem u_layTopHead (h : UP W P A D m u) (hp : PX W A F s) (hF : ∀ x,F x → ¬ D x ∧ x ≠ P) (hx : u.nx = 11) : Calls Tryz.prog 171 #[.pointer (some ⟨P,0,none⟩)] W (UaP W P A D F m (u.act s)) := by
 obtain ⟨w1,hw1⟩ : ∃ w1,w1 = W.setCell ⟨P,7,none⟩ (uxV P 12) := ⟨_,rfl⟩
 have u1 : Upd (fun k => k = P) W w1 := by rw [hw1]; exact (Upd.refl _ _).setCell _ _ (fun _ => rfl)
 have q1 : UQ W P A D F m m D F ({ u with nx := 12 }) s w1 := (UQ.begin h hp hF).own u1 (by rw [hw1]; exact block_setCell h.c 7 _) ⟨rfl,rfl,rfl,rfl,rfl,rfl⟩
 obtain ⟨U1,hU1⟩ : ∃ U1,U1 = ({ u with nx := 12 } : US) := ⟨_,rfl⟩
 rw [← hU1] at q1
 have HC : Hid (∀ Y,Below w1.heap.size w1 Y → Calls Tryz.prog 193 #[.pointer (some ⟨A,0,none⟩),.int .i64 u.top,.agg #[.int .i64 u.lev,.slice none 0 0,.int .i64 0]] Y fun e w' => e = .returned (.int .i64 (s.unlE u.top)) ∧ ∃ F2,UQ W P A D F m m D F2 U1 (s.hedS u.top u.lev [] 0) w') := fun Y hb => by
  have q2 := q1.below hb
  refine (px_setH q2.px u.top u.lev 0 ⟨none,0,[]⟩ (Tx.nil_ok _)).mono ?_
  rintro e w' ⟨rfl,hn⟩
  exact ⟨rfl,q2.arena hn⟩
 obtain ⟨E,hE⟩ : ∃ E,E = s.unlE u.top := ⟨_,rfl⟩
 rw [← hE] at HC
 have HQ : Hid (∀ w' F2,UQ W P A D F m m D F2 U1 (s.hedS u.top u.lev [] 0) w' → UaP W P A D F m (u.act s) (.returned (.tuple #[.bool false,.int .i64 E])) w') := fun w' F2 hq => by
  unfold US.act
  rw [hx]
  rw [hU1] at hq
  exact ⟨by rw [hE],hq.nx⟩
 obtain ⟨Q,hQ⟩ : ∃ Q,Q = UaP W P A D F m (u.act s) := ⟨_,rfl⟩
 rw [← hQ] at HQ ⊢
 have fz := frozen_of h.c 7
 have c7 : W.cell? ⟨P,7,none⟩ = some (uxV P u.nx) := h.cell 7 _ rfl
 rw [hx] at c7
 have HW1 := hide hw1
 have c0 : w1.cell? ⟨P,0,none⟩ = some (.pointer (some ⟨A,0,none⟩)) := q1.up.cell 0 _ (by rw [hU1]; rfl)
 have c29 : w1.cell? ⟨P,29,none⟩ = some (.int .i64 u.top) := q1.up.cell 29 _ (by rw [hU1]; rfl)
 have c8 : w1.cell? ⟨P,8,none⟩ = some (.int .i64 u.lev) := q1.up.cell 8 _ (by rw [hU1]; rfl)
 simp only [uxV] at c7 HW1
 have HU := hide hU1
 clear h hp hF hx hQ u1 q1 hw1 hU1 hE
 go_enter Tryz.func171,Tryz.ntmps171
 go_upto_region 2 with fail
 rw [← HW1.out]
 clear HW1 c7 fz
 go_region_held3 (fun Y => Y.cell? ⟨P,0,none⟩ = some (.pointer (some ⟨A,0,none⟩)) ∧ Y.cell? ⟨P,29,none⟩ = some (.int .i64 u.top) ∧ Y.cell? ⟨P,8,none⟩ = some (.int .i64 u.lev)) (go_keep) (first
  | (go_at_call 193; refine (HC.out _ (below_drew (Below.refl _ _))).mono ?_; rintro e w2 ⟨rfl,F2,hq2⟩; have HQ2 := hide (HQ.out w2 F2 hq2); have k0 := hq2.up; have d0 : w2.cell? ⟨P,0,none⟩ = some (.pointer (some ⟨A,0,none⟩)) := k0.cell 0 _ (by rw [HU.out]; rfl); have d29 : w2.cell? ⟨P,29,none⟩ = some (.int .i64 u.top) := k0.cell 29 _ (by rw [HU.out]; rfl); have d8 : w2.cell? ⟨P,8,none⟩ = some (.int .i64 u.lev) := k0.cell 8 _ (by rw [HU.out]; rfl); clear hq2 k0)
  | fail)
 all_goals (try go_wp2_with fail)
 all_goals exact HQ2.out
set_option maxHeartbeats 3200000 in
theorem u_freeTop (h : UP W P A D m u) (hp : PX W A F s) (hF : ∀ x,F x → ¬ D x ∧ x ≠ P) (hx : u.nx = 13) : Calls Tryz.prog 206 #[.pointer (some ⟨P,0,none⟩)] W (UaP W P A D F m (u.act s)) := by
 obtain ⟨w1,hw1⟩ : ∃ w1,w1 = W.setCell ⟨P,7,none⟩ (uxV P 14) := ⟨_,rfl⟩
 have u1 : Upd (fun k => k = P) W w1 := by rw [hw1]; exact (Upd.refl _ _).setCell _ _ (fun _ => rfl)
 have q1 : UQ W P A D F m m D F ({ u with nx := 14 }) s w1 := (UQ.begin h hp hF).own u1 (by rw [hw1]; exact block_setCell h.c 7 _) ⟨rfl,rfl,rfl,rfl,rfl,rfl⟩
 obtain ⟨U1,hU1⟩ : ∃ U1,U1 = ({ u with nx := 14 } : US) := ⟨_,rfl⟩
 rw [← hU1] at q1
 have HC : Hid (∀ Y,Below w1.heap.size w1 Y → Calls Tryz.prog 186 #[.pointer (some ⟨A,0,none⟩),.int .i64 u.top,.bool true] Y fun e w' => e = .returned (.int .i64 (s.unlE u.top)) ∧ ∃ F2,UQ W P A D F m m D F2 U1 (s.unlS u.top true) w') := fun Y hb => by
  have q2 := q1.below hb
  refine (px_unlock q2.px u.top true).mono ?_
  rintro e w' ⟨rfl,hn⟩
  exact ⟨rfl,q2.arena hn⟩
 obtain ⟨E,hE⟩ : ∃ E,E = s.unlE u.top := ⟨_,rfl⟩
 rw [← hE] at HC
 have HQ : Hid (∀ w' F2,UQ W P A D F m m D F2 U1 (s.unlS u.top true) w' → UaP W P A D F m (u.act s) (.returned (.tuple #[.bool false,.int .i64 E])) w') := fun w' F2 hq => by
  unfold US.act
  rw [hx]
  rw [hU1] at hq
  exact ⟨by rw [hE],hq.nx⟩
 obtain ⟨Q,hQ⟩ : ∃ Q,Q = UaP W P A D F m (u.act s) := ⟨_,rfl⟩
 rw [← hQ] at HQ ⊢
 have fz := frozen_of h.c 7
 have c7 : W.cell? ⟨P,7,none⟩ = some (uxV P u.nx) := h.cell 7 _ rfl
 rw [hx] at c7
 have HW1 := hide hw1
 have c0 : w1.cell? ⟨P,0,none⟩ = some (.pointer (some ⟨A,0,none⟩)) := q1.up.cell 0 _ (by rw [hU1]; rfl)
 have c29 : w1.cell? ⟨P,29,none⟩ = some (.int .i64 u.top) := q1.up.cell 29 _ (by rw [hU1]; rfl)
 simp only [uxV] at c7 HW1
 have HU := hide hU1
 clear h hp hF hx hQ u1 q1 hw1 hU1 hE
 go_enter Tryz.func206,Tryz.ntmps206
 go_upto_region 2 with fail
 rw [← HW1.out]
 clear HW1 c7 fz
 go_region_held3 (fun Y => Y.cell? ⟨P,0,none⟩ = some (.pointer (some ⟨A,0,none⟩)) ∧ Y.cell? ⟨P,29,none⟩ = some (.int .i64 u.top)) (go_keep) (first
  | (go_at_call 186; refine (HC.out _ (below_drew (Below.refl _ _))).mono ?_; rintro e w2 ⟨rfl,F2,hq2⟩; have HQ2 := hide (HQ.out w2 F2 hq2); have k0 := hq2.up; have d0 : w2.cell? ⟨P,0,none⟩ = some (.pointer (some ⟨A,0,none⟩)) := k0.cell 0 _ (by rw [HU.out]; rfl); have d29 : w2.cell? ⟨P,29,none⟩ = some (.int .i64 u.top) := k0.cell 29 _ (by rw [HU.out]; rfl); clear hq2 k0)
  | fail)
 all_goals (try go_wp2_with fail)
 all_goals exact HQ2.out
end
section
variable {W w1 : World} {P A : Nat} {D F D1 F1 : Nat → Prop} {m m1 : UM} {u u1 : US} {s s1 : AS}
set_option maxHeartbeats 3200000 in
theorem u_down (q : UQ W P A D F m m1 D1 F1 u1 s1 w1) : Calls Tryz.prog 51 #[.pointer (some ⟨P,0,none⟩)] w1 fun e w' => e = .returned (.tuple #[]) ∧ ∃ m2 D2,UQ W P A D F m m2 D2 F1 u1.down s1 w' := by
 have HQ : Hid (∀ Y w2 p k n Dm,Below w1.heap.size w1 Y → PM w2 p A k n Dm (MS.new m1.st.s u1.lev) → Y.heap.size ≤ p → (∀ x,Dm x → Y.heap.size ≤ x) → Below Y.heap.size Y w2 → ∃ m2 D2,UQ W P A D F m m2 D2 F1 u1.down s1 ((w2.setCell ⟨P,10,none⟩ (.pointer (some ⟨p,0,none⟩))).setCell ⟨P,7,none⟩ (uxV P 1))) := fun Y w2 p k n Dm hY hpm hp hD hb => by
  have q2 := (q.below hY)
  have g2 := (q2.below hb).up.c
  rw [q.up.s.s] at hpm
  have hu : Upd (fun k => k = P) w2 ((w2.setCell ⟨P,10,none⟩ (.pointer (some ⟨p,0,none⟩))).setCell ⟨P,7,none⟩ (uxV P 1)) := updP (updP (Upd.refl _ _) _ _) _ _
  obtain ⟨D2,h2⟩ := q2.fresh (u2 := u1.down) hb hpm hp hD hu (block_setCell (block_setCell g2 10 _) 7 _) ⟨rfl,rfl,rfl,rfl,rfl,rfl⟩
  exact ⟨_,D2,h2⟩
 have HN : Hid (∀ Y,Below w1.heap.size w1 Y → Calls Tryz.prog 86 #[.pointer (some ⟨A,0,none⟩),m1.st.v,.int .i64 u1.lev] Y (DNewP Y A m1.st.s u1.lev)) := fun Y hb => dnew_any m1.st u1.lev (q.below hb).up.s.ok
 have HC := hide q.up.c
 have hPl := lt_of_block q.up.c
 have c0 : w1.cell? ⟨P,0,none⟩ = some (.pointer (some ⟨A,0,none⟩)) := q.up.cell 0 _ rfl
 have c9 : w1.cell? ⟨P,9,none⟩ = some m1.st.v := q.up.cell 9 _ rfl
 have c8 : w1.cell? ⟨P,8,none⟩ = some (.int .i64 u1.lev) := q.up.cell 8 _ rfl
 clear q
 obtain ⟨st,hst⟩ : ∃ x,m1.st.v = x := ⟨_,rfl⟩
 obtain ⟨lev,hlev⟩ : ∃ x,u1.lev = x := ⟨_,rfl⟩
 rw [hst,hlev] at HN
 rw [hst] at c9
 rw [hlev] at c8
 rw [hlev] at HQ
 have HSL := hide (And.intro hst hlev)
 clear hst hlev
 have sa : ∀ st0,m1.st.v = st0 → True := fun _ _ => trivial
 obtain ⟨sta,stl,stc,rfl⟩ : ∃ a l c,st = .slice a l c := ⟨m1.st.a,m1.st.s.length,m1.st.c,HSL.out.1.symm⟩
 clear sa
 go_enter Tryz.func51,Tryz.ntmps51
 go_wp2_with fail
 go_region_held3 (fun Y => Y.cell? ⟨P,0,none⟩ = some (.pointer (some ⟨A,0,none⟩)) ∧ Y.cell? ⟨P,9,none⟩ = some (.slice sta stl stc) ∧ Y.cell? ⟨P,8,none⟩ = some (.int .i64 lev)) (go_keep) (first
  | (go_at_call 86; refine (HN.out _ (below_drew (Below.refl _ _))).mono ?_; rintro e w2 ⟨p,k,n,Dm,rfl,hpm,hp,hD,hb2⟩; have HQ2 := hide (HQ.out _ w2 p k n Dm (below_drew (Below.refl _ _)) hpm hp hD hb2); have bb := (below_drew (Below.refl w1.heap.size w1)).trans hb2; have g2 := (bb.block P hPl).trans HC.out; have fz := (fun j => frozen_of g2 j); have c10 : w2.cell? ⟨P,10,none⟩ = some (pwV m1.pw) := (by rw [cell_of_row _ _ _ _ _ _ g2]; rfl); have d0 := (bb.cell (p := ⟨P,0,none⟩) hPl).trans c0; have d9 := (bb.cell (p := ⟨P,9,none⟩) hPl).trans c9; have d8 := (bb.cell (p := ⟨P,8,none⟩) hPl).trans c8; have g3 := block_setCell g2 10 (.pointer (some ⟨p,0,none⟩)); have fz3 := (fun j => frozen_of g3 j); have e0 : (w2.setCell ⟨P,10,none⟩ (.pointer (some ⟨p,0,none⟩))).cell? ⟨P,0,none⟩ = some (.pointer (some ⟨A,0,none⟩)) := (by rw [cell_of_row _ _ _ _ _ _ g3]; rfl); have e9 : (w2.setCell ⟨P,10,none⟩ (.pointer (some ⟨p,0,none⟩))).cell? ⟨P,9,none⟩ = some (.slice sta stl stc) := (by rw [cell_of_row _ _ _ _ _ _ g3,← HSL.out.1]; rfl); have e8 : (w2.setCell ⟨P,10,none⟩ (.pointer (some ⟨p,0,none⟩))).cell? ⟨P,8,none⟩ = some (.int .i64 lev) := (by rw [cell_of_row _ _ _ _ _ _ g3,← HSL.out.2]; rfl); have e7 : (w2.setCell ⟨P,10,none⟩ (.pointer (some ⟨p,0,none⟩))).cell? ⟨P,7,none⟩ = some (uxV P u1.nx) := (by rw [cell_of_row _ _ _ _ _ _ g3]; rfl); clear hpm hp hD hb2 bb g2 g3; generalize pwV m1.pw = pwv at *; generalize uxV P u1.nx = nxv at *)
  | fail)
 all_goals (try go_wp2_with fail)
 all_goals
  go_end0
  exact ⟨rfl,HQ2.out⟩
set_option maxHeartbeats 3200000 in
theorem u_free (q0 : UQ W P A D F m m1 D1 F1 u1 s1 w1) : Calls Tryz.prog 189 #[.pointer (some ⟨P,0,none⟩)] w1 fun e w' => (e = .returned (.tuple #[.bool (decide (s1.unlE u1.hid = 0 ∧ u1.lev = 0)),.int .i64 (s1.unlE u1.hid)])) ∧ ∃ F2,UQ W P A D F m m1 D1 F2 { u1 with nx := 15 } (s1.unlS u1.hid true) w' := by
 obtain ⟨w2,hw2⟩ : ∃ w2,w2 = w1.setCell ⟨P,7,none⟩ .nilFunc := ⟨_,rfl⟩
 have hu2 : Upd (fun k => k = P) w1 w2 := by rw [hw2]; exact (Upd.refl _ _).setCell _ _ (fun _ => rfl)
 have q1 : UQ W P A D F m m1 D1 F1 ({ u1 with nx := 15 }) s1 w2 := q0.own hu2 (by rw [hw2]; exact block_setCell q0.up.c 7 .nilFunc) ⟨rfl,rfl,rfl,rfl,rfl,rfl⟩
 obtain ⟨U1,hU1⟩ : ∃ U1,U1 = ({ u1 with nx := 15 } : US) := ⟨_,rfl⟩
 rw [← hU1] at q1 ⊢
 have HC : Hid (∀ Y,Below w2.heap.size w2 Y → Calls Tryz.prog 186 #[.pointer (some ⟨A,0,none⟩),.int .i64 u1.hid,.bool true] Y fun e w' => e = .returned (.int .i64 (s1.unlE u1.hid)) ∧ ∃ F2,UQ W P A D F m m1 D1 F2 U1 (s1.unlS u1.hid true) w') := fun Y hb => by
  have q2 := q1.below hb
  refine (px_unlock q2.px u1.hid true).mono ?_
  rintro e w' ⟨rfl,hn⟩
  exact ⟨rfl,q2.arena hn⟩
 obtain ⟨E,hE⟩ : ∃ E,s1.unlE u1.hid = E := ⟨_,rfl⟩
 obtain ⟨S2,hS2⟩ : ∃ S2,s1.unlS u1.hid true = S2 := ⟨_,rfl⟩
 rw [hE] at HC ⊢
 rw [hS2] at HC ⊢
 have fz := frozen_of q0.up.c 7
 have c7 : w1.cell? ⟨P,7,none⟩ = some (uxV P u1.nx) := q0.up.cell 7 _ rfl
 have c0 : w2.cell? ⟨P,0,none⟩ = some (.pointer (some ⟨A,0,none⟩)) := q1.up.cell 0 _ rfl
 have c11 : w2.cell? ⟨P,11,none⟩ = some (.int .i64 u1.hid) := q1.up.cell 11 _ (by rw [hU1]; rfl)
 have HL : Hid (∀ w' F2,UQ W P A D F m m1 D1 F2 U1 S2 w' → w'.cell? ⟨P,8,none⟩ = some (.int .i64 u1.lev) ∧ w'.cell? ⟨P,0,none⟩ = some (.pointer (some ⟨A,0,none⟩)) ∧ w'.cell? ⟨P,11,none⟩ = some (.int .i64 u1.hid)) := fun w' F2 hq => ⟨hq.up.cell 8 _ (by rw [hU1]; rfl),hq.up.cell 0 _ rfl,hq.up.cell 11 _ (by rw [hU1]; rfl)⟩
 have HW2 := hide hw2
 generalize uxV P u1.nx = nxv at *
 obtain ⟨hid',hhid⟩ : ∃ x,u1.hid = x := ⟨_,rfl⟩
 obtain ⟨lev',hlev⟩ : ∃ x,u1.lev = x := ⟨_,rfl⟩
 rw [hhid] at HC c11 HL
 rw [hlev] at HL ⊢
 clear q0 q1 hw2 hu2 hE hS2 hU1 hhid hlev
 go_enter Tryz.func189,Tryz.ntmps189
 go_upto_region 2 with fail
 rw [← HW2.out]
 clear HW2 c7 fz
 go_cut [4] (fun q4 wx => q4 = .int .i64 E ∧ wx.cell? ⟨P,8,none⟩ = some (.int .i64 lev') ∧ Hid (∃ F2,UQ W P A D F m m1 D1 F2 U1 S2 wx))
 case first =>
  go_region_held3 (fun Y => Y.cell? ⟨P,0,none⟩ = some (.pointer (some ⟨A,0,none⟩)) ∧ Y.cell? ⟨P,11,none⟩ = some (.int .i64 hid')) (go_keep) (first
   | (go_at_call 186; refine (HC.out _ (below_drew (Below.refl _ _))).mono ?_; rintro e w3 ⟨rfl,F2,hq2⟩; obtain ⟨d8,d0,d11⟩ := HL.out w3 F2 hq2; have HQ2 := hide hq2; clear hq2)
   | fail)
  all_goals (try go_wp2_with fail)
  all_goals
   go_meet
   exact ⟨rfl,d8,⟨F2,HQ2.out⟩⟩
 case rest =>
 rename World => wx
 obtain ⟨rfl,d8,HX⟩ := hcut
 clear HC HL c0 c11
 by_cases hE0 : E = 0
 ·subst hE0
  by_cases hl0 : lev' = 0
  ·subst hl0
   go_wp2_with fail
   go_ret2
   exact ⟨by simp,HX.out⟩
  ·have hlb : (lev' == 0) = false := by rw [beq_eq_false_iff_ne]; exact hl0
   go_wp2_with fail
   go_ret2
   exact ⟨by simp,HX.out⟩
 ·have hEb : (E == 0) = false := by rw [beq_eq_false_iff_ne]; exact hE0
  go_wp2_with fail
  go_ret2
  exact ⟨by simp [hE0],HX.out⟩
set_option maxHeartbeats 3200000 in
theorem u_giveBack (q0 : UQ W P A D F m m1 D1 F1 u1 s1 w1) : Calls Tryz.prog 166 #[.pointer (some ⟨P,0,none⟩)] w1 fun e w' => (e = .returned (if s1.unlE u1.hid = 0 ∧ u1.lev = 0 then .tuple #[.bool true,.int .i64 2] else .tuple #[.bool false,.int .i64 (s1.unlE u1.hid)])) ∧ ∃ F2,UQ W P A D F m m1 D1 F2 { u1 with nx := 15 } (s1.unlS u1.hid false) w' := by
 obtain ⟨w2,hw2⟩ : ∃ w2,w2 = w1.setCell ⟨P,7,none⟩ .nilFunc := ⟨_,rfl⟩
 have hu2 : Upd (fun k => k = P) w1 w2 := by rw [hw2]; exact (Upd.refl _ _).setCell _ _ (fun _ => rfl)
 have q1 : UQ W P A D F m m1 D1 F1 ({ u1 with nx := 15 }) s1 w2 := q0.own hu2 (by rw [hw2]; exact block_setCell q0.up.c 7 .nilFunc) ⟨rfl,rfl,rfl,rfl,rfl,rfl⟩
 obtain ⟨U1,hU1⟩ : ∃ U1,U1 = ({ u1 with nx := 15 } : US) := ⟨_,rfl⟩
 rw [← hU1] at q1 ⊢
 have HC : Hid (∀ Y,Below w2.heap.size w2 Y → Calls Tryz.prog 186 #[.pointer (some ⟨A,0,none⟩),.int .i64 u1.hid,.bool false] Y fun e w' => e = .returned (.int .i64 (s1.unlE u1.hid)) ∧ ∃ F2,UQ W P A D F m m1 D1 F2 U1 (s1.unlS u1.hid false) w') := fun Y hb => by
  have q2 := q1.below hb
  refine (px_unlock q2.px u1.hid false).mono ?_
  rintro e w' ⟨rfl,hn⟩
  exact ⟨rfl,q2.arena hn⟩
 obtain ⟨E,hE⟩ : ∃ E,s1.unlE u1.hid = E := ⟨_,rfl⟩
 obtain ⟨S2,hS2⟩ : ∃ S2,s1.unlS u1.hid false = S2 := ⟨_,rfl⟩
 rw [hE] at HC ⊢
 rw [hS2] at HC ⊢
 have fz := frozen_of q0.up.c 7
 have c7 : w1.cell? ⟨P,7,none⟩ = some (uxV P u1.nx) := q0.up.cell 7 _ rfl
 have c0 : w2.cell? ⟨P,0,none⟩ = some (.pointer (some ⟨A,0,none⟩)) := q1.up.cell 0 _ rfl
 have c11 : w2.cell? ⟨P,11,none⟩ = some (.int .i64 u1.hid) := q1.up.cell 11 _ (by rw [hU1]; rfl)
 have HL : Hid (∀ w' F2,UQ W P A D F m m1 D1 F2 U1 S2 w' → w'.cell? ⟨P,8,none⟩ = some (.int .i64 u1.lev) ∧ w'.cell? ⟨P,0,none⟩ = some (.pointer (some ⟨A,0,none⟩)) ∧ w'.cell? ⟨P,11,none⟩ = some (.int .i64 u1.hid)) := fun w' F2 hq => ⟨hq.up.cell 8 _ (by rw [hU1]; rfl),hq.up.cell 0 _ rfl,hq.up.cell 11 _ (by rw [hU1]; rfl)⟩
 have HW2 := hide hw2
 generalize uxV P u1.nx = nxv at *
 obtain ⟨hid',hhid⟩ : ∃ x,u1.hid = x := ⟨_,rfl⟩
 obtain ⟨lev',hlev⟩ : ∃ x,u1.lev = x := ⟨_,rfl⟩
 rw [hhid] at HC c11 HL
 rw [hlev] at HL ⊢
 clear q0 q1 hw2 hu2 hE hS2 hU1 hhid hlev
 go_enter Tryz.func166,Tryz.ntmps166
 go_upto_region 2 with fail
 rw [← HW2.out]
 clear HW2 c7 fz
 go_cut [4] (fun q4 wx => q4 = .int .i64 E ∧ wx.cell? ⟨P,8,none⟩ = some (.int .i64 lev') ∧ Hid (∃ F2,UQ W P A D F m m1 D1 F2 U1 S2 wx))
 case first =>
  go_region_held3 (fun Y => Y.cell? ⟨P,0,none⟩ = some (.pointer (some ⟨A,0,none⟩)) ∧ Y.cell? ⟨P,11,none⟩ = some (.int .i64 hid')) (go_keep) (first
   | (go_at_call 186; refine (HC.out _ (below_drew (Below.refl _ _))).mono ?_; rintro e w3 ⟨rfl,F2,hq2⟩; obtain ⟨d8,d0,d11⟩ := HL.out w3 F2 hq2; have HQ2 := hide hq2; clear hq2)
   | fail)
  all_goals (try go_wp2_with fail)
  all_goals
   go_meet
   exact ⟨rfl,d8,⟨F2,HQ2.out⟩⟩
 case rest =>
 rename World => wx
 obtain ⟨rfl,d8,HX⟩ := hcut
 clear HC HL c0 c11
 by_cases hE0 : E = 0
 ·subst hE0
  by_cases hl0 : lev' = 0
  ·subst hl0
   go_wp2_with fail
   go_ret2
   exact ⟨by simp,HX.out⟩
  ·have hlb : (lev' == 0) = false := by rw [beq_eq_false_iff_ne]; exact hl0
   go_wp2_with fail
   go_ret2
   exact ⟨by simp,HX.out⟩
 ·have hEb : (E == 0) = false := by rw [beq_eq_false_iff_ne]; exact hE0
  go_wp2_with fail
  go_ret2
  exact ⟨by simp,HX.out⟩
end
section
variable {W w1 w2 : World} {P A : Nat} {D F D1 F1 : Nat → Prop} {m m1 : UM} {u u1 u2 : US} {s s1 : AS}
theorem UQ.sep (h : UQ W P A D F m m1 D1 F1 u1 s1 w1) (hu : Upd (fun k => k = P) w1 w2) (hc : w2.heap[P]? = some (.cells (ucel P A { m1 with st := m1.bt } u2) 121 (0,0))) (ha : ({ u1 with sep := u1.bet } : US).alike u2) : UQ W P A D F m { m1 with st := m1.bt } D1 F1 u2 s1 w2 := by
 obtain ⟨a1,a2,a3,a4,a5,a6⟩ := ha
 simp only at a1 a2 a3 a4 a5 a6
 have hs : ∀ x,D1 x → m1.pw ≠ some x → ¬ x = P := fun x hx _ e => h.up.pd (e ▸ hx)
 refine ⟨⟨hc,by rw [a1]; exact h.up.v.keep hu hs (fun _ hx => hx) (fun _ _ hx => hx),by rw [a2]; exact h.up.b.keep hu hs (fun _ hx => hx) (fun _ _ hx => hx),by rw [a3]; exact h.up.b.keep hu hs (fun _ hx => hx) (fun _ _ hx => hx),by rw [a4]; exact h.up.h.keep hu hs (fun _ hx => hx) (fun _ _ hx => hx),by rw [a5]; exact h.up.f.keep hu hs (fun _ hx => hx) (fun _ _ hx => hx),?_,h.up.pd,fun x hx => Nat.lt_of_lt_of_le (h.up.lt x hx) hu.size⟩,h.px.upd hu (fun k hk => (h.ap k hk).2),h.d,h.f,h.ap,h.u.trans (hu.mono (fun _ _ e => .inl e))⟩
 rw [a6]
 rcases h.up.w with h1 | ⟨p,ms,k,n,Dm,h1,h2,h3,h4,h5⟩
 ·exact .inl h1
 ·refine .inr ⟨p,ms,k,n,Dm,h1,h2,h3,h4.upd hu (fun x hx e => ?_),h5⟩
  rcases hx with rfl | hx
  ·exact h.up.pd (e ▸ h3)
  ·exact h.up.pd (e ▸ h5 x hx)
set_option maxHeartbeats 3200000 in
theorem u_seeRoot (q0 : UQ W P A D F m m1 D1 F1 u1 s1 w1) : Calls Tryz.prog 118 #[.pointer (some ⟨P,0,none⟩)] w1 fun e w' => e = .returned (.tuple #[.bool false,.int .i64 0]) ∧ UQ W P A D F m m1 D1 F1 { u1 with nx := if s1.root = u1.lft then 10 else 15 } s1 w' := by
 obtain ⟨Q,hQ⟩ : ∃ Q : Ending → World → Prop,Q = fun e w' => e = .returned (.tuple #[.bool false,.int .i64 0]) ∧ UQ W P A D F m m1 D1 F1 { u1 with nx := if s1.root = u1.lft then 10 else 15 } s1 w' := ⟨_,rfl⟩
 rw [← hQ]
 have HQ : Hid (∀ e w',(e = .returned (.tuple #[.bool false,.int .i64 0]) ∧ UQ W P A D F m m1 D1 F1 { u1 with nx := if s1.root = u1.lft then 10 else 15 } s1 w') → Q e w') := fun e w' h => by rw [hQ]; exact h
 clear hQ
 obtain ⟨w2,hw2⟩ : ∃ w2,w2 = w1.setCell ⟨P,7,none⟩ .nilFunc := ⟨_,rfl⟩
 have hu2 : Upd (fun k => k = P) w1 w2 := by rw [hw2]; exact updP (Upd.refl _ _) _ _
 have q1 : UQ W P A D F m m1 D1 F1 ({ u1 with nx := 15 }) s1 w2 := q0.own hu2 (by rw [hw2]; exact block_setCell q0.up.c 7 .nilFunc) ⟨rfl,rfl,rfl,rfl,rfl,rfl⟩
 have fz := frozen_of q0.up.c 7
 have c7 : w1.cell? ⟨P,7,none⟩ = some (uxV P u1.nx) := q0.up.cell 7 _ rfl
 have HW2 := hide hw2
 generalize uxV P u1.nx = nxv at *
 have HR : Hid (∀ Y,Below w2.heap.size w2 Y → Calls Tryz.prog 45 #[.pointer (some ⟨A,0,none⟩)] Y fun e w' => e = .returned (.int .i64 s1.root) ∧ w' = Y) := fun Y hb => px_root (q1.below hb).px
 have c0 : w2.cell? ⟨P,0,none⟩ = some (.pointer (some ⟨A,0,none⟩)) := q1.up.cell 0 _ rfl
 have c27 : w2.cell? ⟨P,27,none⟩ = some (.int .i64 u1.lft) := q1.up.cell 27 _ rfl
 have HE : Hid (∀ Y,Below w2.heap.size w2 Y → UQ W P A D F m m1 D1 F1 ({ u1 with nx := 15 }) s1 Y) := fun Y hb => q1.below hb
 obtain ⟨r,hr⟩ : ∃ r,s1.root = r := ⟨_,rfl⟩
 obtain ⟨l,hl⟩ : ∃ l,u1.lft = l := ⟨_,rfl⟩
 have HRL : Hid (s1.root = r ∧ u1.lft = l) := ⟨hr,hl⟩
 rw [hr] at HR
 rw [hl] at c27
 have g2 := q1.up.c
 have f2 := frozen_of g2 7
 have d7 : w2.cell? ⟨P,7,none⟩ = some .nilFunc := q1.up.cell 7 _ rfl
 have hPl := lt_of_block g2
 by_cases hrl : r = l
 ·subst hrl
  have HF : Hid (∀ Y,Below w2.heap.size w2 Y → UQ W P A D F m m1 D1 F1 ({ u1 with nx := 10 }) s1 (Y.setCell ⟨P,7,none⟩ (uxV P 10))) := fun Y hb => (HE.out Y hb).own (updP (Upd.refl _ _) _ _) (block_setCell (HE.out Y hb).up.c 7 _) ⟨rfl,rfl,rfl,rfl,rfl,rfl⟩
  clear q0 q1 hw2 hu2 hr hl g2 HE
  go_enter Tryz.func118,Tryz.ntmps118
  go_upto_region 2 with fail
  rw [← HW2.out]
  clear HW2 c7 fz
  go_cut [16] (fun q wx => q = .bool true ∧ wx.cell? ⟨P,7,none⟩ = some .nilFunc ∧ wx.frozen? ⟨P,7,none⟩ = false ∧ Hid (Below w2.heap.size w2 wx))
  case first =>
   go_region_held3 (fun Y => Y.cell? ⟨P,0,none⟩ = some (.pointer (some ⟨A,0,none⟩)) ∧ Y.cell? ⟨P,27,none⟩ = some (.int .i64 r)) (go_keep) (first
    | (go_at_call 45; refine keep (HR.out _ (below_drew (Below.refl _ _))) ?_)
    | fail)
   all_goals (try go_wp2_with fail)
   all_goals
    go_meet
    exact ⟨by simp,d7,f2,below_drew (Below.refl _ _)⟩
  case rest =>
  rename World => wx
  obtain ⟨rfl,e7,fx,BX⟩ := hcut
  have HF2 := hide (HQ.out _ _ ⟨rfl,by rw [if_pos (HRL.out.1.trans HRL.out.2.symm)]; exact HF.out wx BX.out⟩)
  simp only [uxV] at HF2
  clear HF HR c0 c27 d7 f2 HQ
  go_wp2_with fail
  exact HF2.out
 ·have hb : (r == l) = false := by rw [beq_eq_false_iff_ne]; exact hrl
  clear q0 q1 hw2 hu2 hr hl g2
  go_enter Tryz.func118,Tryz.ntmps118
  go_upto_region 2 with fail
  rw [← HW2.out]
  clear HW2 c7 fz
  go_cut [16] (fun q wx => q = .bool false ∧ Hid (Below w2.heap.size w2 wx))
  case first =>
   go_region_held3 (fun Y => Y.cell? ⟨P,0,none⟩ = some (.pointer (some ⟨A,0,none⟩)) ∧ Y.cell? ⟨P,27,none⟩ = some (.int .i64 l)) (go_keep) (first
    | (go_at_call 45; refine keep (HR.out _ (below_drew (Below.refl _ _))) ?_)
    | fail)
   all_goals (try go_wp2_with fail)
   all_goals
    go_meet
    exact ⟨by simp,below_drew (Below.refl _ _)⟩
  case rest =>
  rename World => wx
  obtain ⟨rfl,BX⟩ := hcut
  have HF2 := hide (HQ.out _ _ ⟨rfl,by rw [if_neg (by rw [HRL.out.1,HRL.out.2]; exact hrl)]; exact HE.out wx BX.out⟩)
  clear HE HR c0 c27 d7 f2 HQ
  go_wp2_with fail
  exact HF2.out
set_option maxHeartbeats 3200000 in
theorem u_takeTop (q0 : UQ W P A D F m m1 D1 F1 u1 s1 w1) : Calls Tryz.prog 144 #[.pointer (some ⟨P,0,none⟩)] w1 fun e w' => e = .returned (.tuple #[.bool false,.int .i64 0]) ∧ ∃ F2,UQ W P A D F m m1 D1 F2 (if s1.allE = 0 then { u1 with top := s1.allI,nx := 11 } else { u1 with nx := 15 }) s1.allS w' := by
 obtain ⟨Q,hQ⟩ : ∃ Q : Ending → World → Prop,Q = fun e w' => e = .returned (.tuple #[.bool false,.int .i64 0]) ∧ ∃ F2,UQ W P A D F m m1 D1 F2 (if s1.allE = 0 then { u1 with top := s1.allI,nx := 11 } else { u1 with nx := 15 }) s1.allS w' := ⟨_,rfl⟩
 rw [← hQ]
 have HQ : Hid (∀ e w',(e = .returned (.tuple #[.bool false,.int .i64 0]) ∧ ∃ F2,UQ W P A D F m m1 D1 F2 (if s1.allE = 0 then { u1 with top := s1.allI,nx := 11 } else { u1 with nx := 15 }) s1.allS w') → Q e w') := fun e w' h => by rw [hQ]; exact h
 clear hQ
 have HA : Hid (Calls Tryz.prog 170 #[.pointer (some ⟨A,0,none⟩)] w1 fun e w' => e = .returned (.tuple #[.int .i64 s1.allI,.int .i64 s1.allE]) ∧ ∃ F2,UQ W P A D F m m1 D1 F2 u1 s1.allS w') := (px_alloc q0.px).mono fun e w' ⟨h1,h2⟩ => ⟨h1,q0.arena h2⟩
 have c0 : w1.cell? ⟨P,0,none⟩ = some (.pointer (some ⟨A,0,none⟩)) := q0.up.cell 0 _ rfl
 obtain ⟨I,hI⟩ : ∃ x,s1.allI = x := ⟨_,rfl⟩
 obtain ⟨E,hE⟩ : ∃ x,s1.allE = x := ⟨_,rfl⟩
 have HIE : Hid (s1.allI = I ∧ s1.allE = E) := ⟨hI,hE⟩
 rw [hI,hE] at HA
 clear q0 hI hE
 go_enter Tryz.func144,Tryz.ntmps144
 go_wp2_with fail
 refine HA.out.mono ?_
 rintro e w2 ⟨rfl,F2,q2⟩
 have g2 := q2.up.c
 have fz := fun j => frozen_of g2 j
 have d7 : w2.cell? ⟨P,7,none⟩ = some (uxV P u1.nx) := q2.up.cell 7 _ rfl
 have d29 : w2.cell? ⟨P,29,none⟩ = some (.int .i64 u1.top) := q2.up.cell 29 _ rfl
 by_cases hE0 : E = 0
 ·subst hE0
  have g3 := block_setCell g2 29 (.int .i64 I)
  have f3 := fun j => frozen_of g3 j
  have e7 : (w2.setCell ⟨P,29,none⟩ (.int .i64 I)).cell? ⟨P,7,none⟩ = some (uxV P u1.nx) := by rw [cell_of_row _ _ _ _ _ _ g3]; rfl
  have HF : Hid (UQ W P A D F m m1 D1 F2 ({ u1 with top := I,nx := 11 }) s1.allS ((w2.setCell ⟨P,29,none⟩ (.int .i64 I)).setCell ⟨P,7,none⟩ (uxV P 11))) := q2.own (updP (updP (Upd.refl _ _) _ _) _ _) (block_setCell g3 7 _) ⟨rfl,rfl,rfl,rfl,rfl,rfl⟩
  generalize uxV P u1.nx = nxv at *
  have HF2 := hide (HQ.out _ _ ⟨rfl,F2,by rw [if_pos HIE.out.2,HIE.out.1]; exact HF.out⟩)
  simp only [uxV] at HF2
  clear q2 g2 g3 HA HF HQ
  go_wp2_with fail
  exact HF2.out
 ·have hEb : (E == 0) = false := by rw [beq_eq_false_iff_ne]; exact hE0
  have HF : Hid (UQ W P A D F m m1 D1 F2 ({ u1 with nx := 15 }) s1.allS (w2.setCell ⟨P,7,none⟩ .nilFunc)) := q2.own (updP (Upd.refl _ _) _ _) (block_setCell g2 7 .nilFunc) ⟨rfl,rfl,rfl,rfl,rfl,rfl⟩
  generalize uxV P u1.nx = nxv at *
  have HF2 := hide (HQ.out _ _ ⟨rfl,F2,by rw [if_neg (by rw [HIE.out.2]; exact hE0)]; exact HF.out⟩)
  clear q2 g2 HA HF HQ
  go_wp2_with fail
  exact HF2.out
set_option maxHeartbeats 3200000 in
theorem u_grow (q0 : UQ W P A D F m m1 D1 F1 u1 s1 w1) : Calls Tryz.prog 210 #[.pointer (some ⟨P,0,none⟩)] w1 fun e w' => e = .returned (.tuple #[.bool false,.int .i64 (s1.wordE u1.top)]) ∧ ∃ m2 D2 F2,UQ W P A D F m m2 D2 F2 (if s1.groB u1.lft u1.top = true then { u1 with nx := 15 } else u1.down) (s1.groS u1.lft u1.top) w' := by
 obtain ⟨Q,hQ⟩ : ∃ Q : Ending → World → Prop,Q = fun e w' => e = .returned (.tuple #[.bool false,.int .i64 (s1.wordE u1.top)]) ∧ ∃ m2 D2 F2,UQ W P A D F m m2 D2 F2 (if s1.groB u1.lft u1.top = true then { u1 with nx := 15 } else u1.down) (s1.groS u1.lft u1.top) w' := ⟨_,rfl⟩
 rw [← hQ]
 have HQ : Hid (∀ e w',(e = .returned (.tuple #[.bool false,.int .i64 (s1.wordE u1.top)]) ∧ ∃ m2 D2 F2,UQ W P A D F m m2 D2 F2 (if s1.groB u1.lft u1.top = true then { u1 with nx := 15 } else u1.down) (s1.groS u1.lft u1.top) w') → Q e w') := fun e w' h => by rw [hQ]; exact h
 clear hQ
 obtain ⟨w2,hw2⟩ : ∃ w2,w2 = w1.setCell ⟨P,7,none⟩ .nilFunc := ⟨_,rfl⟩
 have hu2 : Upd (fun k => k = P) w1 w2 := by rw [hw2]; exact updP (Upd.refl _ _) _ _
 have q1 : UQ W P A D F m m1 D1 F1 ({ u1 with nx := 15 }) s1 w2 := q0.own hu2 (by rw [hw2]; exact block_setCell q0.up.c 7 .nilFunc) ⟨rfl,rfl,rfl,rfl,rfl,rfl⟩
 have fz := frozen_of q0.up.c 7
 have c7 : w1.cell? ⟨P,7,none⟩ = some (uxV P u1.nx) := q0.up.cell 7 _ rfl
 have HW2 := hide hw2
 generalize uxV P u1.nx = nxv at *
 have HG : Hid (∀ Y,Below w2.heap.size w2 Y → Calls Tryz.prog 213 #[.pointer (some ⟨A,0,none⟩),.int .i64 u1.lft,.int .i64 u1.top] Y fun e w' => e = .returned (.tuple #[.bool (s1.groB u1.lft u1.top),.int .i64 (s1.wordE u1.top)]) ∧ ∃ F2,UQ W P A D F m m1 D1 F2 ({ u1 with nx := 15 }) (s1.groS u1.lft u1.top) w') := fun Y hb => (px_grow (q1.below hb).px u1.lft u1.top).mono fun e w' ⟨h1,h2⟩ => ⟨h1,(q1.below hb).arena h2⟩
 have c0 : w2.cell? ⟨P,0,none⟩ = some (.pointer (some ⟨A,0,none⟩)) := q1.up.cell 0 _ rfl
 have c27 : w2.cell? ⟨P,27,none⟩ = some (.int .i64 u1.lft) := q1.up.cell 27 _ rfl
 have c29 : w2.cell? ⟨P,29,none⟩ = some (.int .i64 u1.top) := q1.up.cell 29 _ rfl
 have HL : Hid (∀ w' F2,UQ W P A D F m m1 D1 F2 ({ u1 with nx := 15 }) (s1.groS u1.lft u1.top) w' → w'.cell? ⟨P,0,none⟩ = some (.pointer (some ⟨A,0,none⟩)) ∧ w'.cell? ⟨P,27,none⟩ = some (.int .i64 u1.lft) ∧ w'.cell? ⟨P,29,none⟩ = some (.int .i64 u1.top)) := fun w' F2 hq => ⟨hq.up.cell 0 _ rfl,hq.up.cell 27 _ rfl,hq.up.cell 29 _ rfl⟩
 have HD : Hid (∀ w' F2,UQ W P A D F m m1 D1 F2 ({ u1 with nx := 15 }) (s1.groS u1.lft u1.top) w' → Calls Tryz.prog 51 #[.pointer (some ⟨P,0,none⟩)] w' fun e w'' => e = .returned (.tuple #[]) ∧ ∃ m2 D2,UQ W P A D F m m2 D2 F2 u1.down (s1.groS u1.lft u1.top) w'') := fun w' F2 hq => u_down (u1 := { u1 with nx := 15 }) hq
 obtain ⟨U2,hU2⟩ : ∃ U2,U2 = ({ u1 with nx := 15 } : US) := ⟨_,rfl⟩
 rw [← hU2] at HG HL HD
 have HU2 := hide hU2
 obtain ⟨G,hG⟩ : ∃ x,s1.groB u1.lft u1.top = x := ⟨_,rfl⟩
 obtain ⟨E,hE⟩ : ∃ x,s1.wordE u1.top = x := ⟨_,rfl⟩
 obtain ⟨S2,hS2⟩ : ∃ x,s1.groS u1.lft u1.top = x := ⟨_,rfl⟩
 have HGE : Hid (s1.groB u1.lft u1.top = G ∧ s1.wordE u1.top = E ∧ s1.groS u1.lft u1.top = S2) := ⟨hG,hE,hS2⟩
 rw [hG,hE,hS2] at HG
 rw [hS2] at HL HD
 obtain ⟨l,hl⟩ : ∃ l,u1.lft = l := ⟨_,rfl⟩
 obtain ⟨t,ht⟩ : ∃ l,u1.top = l := ⟨_,rfl⟩
 rw [hl,ht] at HG HL
 rw [hl] at c27
 rw [ht] at c29
 clear q0 q1 hw2 hu2 hG hE hS2 hl ht hU2
 go_enter Tryz.func210,Tryz.ntmps210
 go_upto_region 2 with fail
 rw [← HW2.out]
 clear HW2 c7 fz
 go_cut [4,5] (fun q4 q5 wx => q4 = .bool G ∧ q5 = .int .i64 E ∧ Hid (∃ F2,UQ W P A D F m m1 D1 F2 U2 S2 wx))
 case first =>
  go_region_held3 (fun Y => Y.cell? ⟨P,0,none⟩ = some (.pointer (some ⟨A,0,none⟩)) ∧ Y.cell? ⟨P,27,none⟩ = some (.int .i64 l) ∧ Y.cell? ⟨P,29,none⟩ = some (.int .i64 t)) (go_keep) (first
   | (go_at_call 213; refine (HG.out _ (below_drew (Below.refl _ _))).mono ?_; rintro e w3 ⟨rfl,F2,hq2⟩; obtain ⟨d0,d27,d29⟩ := HL.out w3 F2 hq2; have HQ2 := hide hq2; clear hq2)
   | fail)
  all_goals (try go_wp2_with fail)
  all_goals
   go_meet
   exact ⟨rfl,rfl,⟨F2,HQ2.out⟩⟩
 case rest =>
 rename World => wx
 obtain ⟨rfl,rfl,HX⟩ := hcut
 obtain ⟨F2,hq⟩ := HX.out
 have HDX := hide (HD.out wx F2 hq)
 have HQX := hide hq
 clear hq HX HD HG HL c0 c27 c29
 cases G with
 | true =>
  have HF2 := hide (HQ.out (.returned (.tuple #[.bool false,.int .i64 E])) wx ⟨by rw [HGE.out.2.1],m1,D1,F2,by rw [if_pos HGE.out.1,HGE.out.2.2,← HU2.out]; exact HQX.out⟩)
  clear HQ HQX HDX
  go_wp2_with fail
  exact HF2.out
 | false =>
  go_wp2_with fail
  refine HDX.out.mono ?_
  rintro e w4 ⟨rfl,m2,D2,hq4⟩
  have HF2 := hide (HQ.out (.returned (.tuple #[.bool false,.int .i64 E])) w4 ⟨by rw [HGE.out.2.1],m2,D2,F2,by rw [if_neg (by rw [HGE.out.1]; decide),HGE.out.2.2]; exact hq4⟩)
  clear hq4 HDX HQ HQX
  go_wp2_with fail
  exact HF2.out
end
section
variable {W w1 w2 : World} {P A : Nat} {D F D1 F1 : Nat → Prop} {m m1 : UM} {u u1 u2 : US} {s s1 : AS}
theorem UQ.desc {p : Nat} {k : Tx} {n : Nd} {Dm : Nat → Prop} {ms ms' : MS} (h : UQ W P A D F m m1 D1 F1 u1 s1 w1) (hpw : m1.pw = some p) (_hpm : PM w1 p A k n Dm ms) (hDm : ∀ x,Dm x → D1 x) (hDp : D1 p) (hn : MNx w1 p A k Dm ms' w2) (hnew : m.pw = some p ∨ W.heap.size ≤ p) : ∃ D2,UQ W P A D F m m1 D2 F1 { u1 with way := some ms' } s1 w2 := by
 obtain ⟨n',Dn,h1,h2,hu⟩ := hn
 have hP := lt_of_block h.up.c
 have hpP : p ≠ P := h.up.ne hpw
 have hs : ∀ x,D1 x → m1.pw ≠ some x → ¬ x = p := fun x _ hx e => hx (by rw [e]; exact hpw)
 have hsz := h.u.size
 have hplt := h.up.lt p hDp
 refine ⟨fun x => D1 x ∨ (w1.heap.size ≤ x ∧ x < w2.heap.size),⟨⟨?_,h.up.v.keep hu hs (fun _ hx => .inl hx) (fun _ _ hx => hx),h.up.s.keep hu hs (fun _ hx => .inl hx) (fun _ _ hx => hx),h.up.b.keep hu hs (fun _ hx => .inl hx) (fun _ _ hx => hx),h.up.h.keep hu hs (fun _ hx => .inl hx) (fun _ _ hx => hx),h.up.f.keep hu hs (fun _ hx => .inl hx) (fun _ _ hx => hx),?_,?_,?_⟩,h.px.upd hu (fun x hx e => (h.ap x hx).1 (e ▸ hDp)),?_,h.f,?_,h.u.then hu (fun x hx e => ?_)⟩⟩
 ·exact hu.heap h.up.c (fun e => hpP e.symm)
 ·refine .inr ⟨p,ms',k,n',Dn,hpw,rfl,.inl hDp,h1,fun x hx => ?_⟩
  rcases h2 x hx with h3 | h3
  ·exact .inl (hDm x h3)
  ·exact .inr ⟨h3,h1.lt x hx⟩
 ·rintro (h1 | h1)
  ·exact h.up.pd h1
  ·omega
 ·rintro x (h1 | h1)
  ·exact Nat.lt_of_lt_of_le (h.up.lt x h1) hu.size
  ·exact h1.2
 ·rintro x (h1 | h1)
  ·exact h.d x h1
  ·exact .inr (Nat.le_trans hsz h1.1)
 ·intro x hx
  refine ⟨?_,(h.ap x hx).2⟩
  rintro (h1 | h1)
  ·exact (h.ap x hx).1 h1
  ·have := h.px.lt x hx; omega
 ·rcases hnew with h3 | h3
  ·exact .inr (.inl (by rw [e]; exact h3))
  ·omega
set_option maxHeartbeats 3200000 in
theorem u_rise (q0 : UQ W P A D F m m1 D1 F1 u1 s1 w1) (hlv : -4611686018427387904 ≤ u1.lev ∧ u1.lev ≤ 4611686018427387904) : Calls Tryz.prog 205 #[.pointer (some ⟨P,0,none⟩)] w1 fun e w' => e = .returned (.tuple #[.bool (decide (s1.unlE u1.hid = 0 ∧ u1.lev = 0)),.int .i64 (s1.unlE u1.hid)]) ∧ ∃ m2 D2 F2,UQ W P A D F m m2 D2 F2 ({ u1 with lft := u1.hid,rgt := u1.fid,sep := u1.bet,lev := u1.lev + 1 } : US).down (s1.unlS u1.hid true) w' := by
 have HFR := hide (u_free q0)
 obtain ⟨T,hT⟩ : ∃ T,decide (s1.unlE u1.hid = 0 ∧ u1.lev = 0) = T := ⟨_,rfl⟩
 obtain ⟨E,hE⟩ : ∃ E,s1.unlE u1.hid = E := ⟨_,rfl⟩
 obtain ⟨S2,hS2⟩ : ∃ S2,s1.unlS u1.hid true = S2 := ⟨_,rfl⟩
 rw [hT,hS2] at HFR ⊢
 rw [hE] at HFR ⊢
 obtain ⟨U3,hU3⟩ : ∃ U3,U3 = ({ u1 with nx := 15,lft := u1.hid,rgt := u1.fid,sep := u1.bet,lev := u1.lev + 1 } : US) := ⟨_,rfl⟩
 have hUd : U3.down = ({ u1 with lft := u1.hid,rgt := u1.fid,sep := u1.bet,lev := u1.lev + 1 } : US).down := by rw [hU3]; rfl
 rw [← hUd]
 have HST : Hid (∀ F2 w2,UQ W P A D F m m1 D1 F2 ({ u1 with nx := 15 }) S2 w2 → ∀ Y,Below w2.heap.size w2 Y → UQ W P A D F m { m1 with st := m1.bt } D1 F2 U3 S2 ((((Y.setCell ⟨P,27,none⟩ (.int .i64 u1.hid)).setCell ⟨P,28,none⟩ (.int .i64 u1.fid)).setCell ⟨P,9,none⟩ m1.bt.v).setCell ⟨P,8,none⟩ (.int .i64 (u1.lev + 1)))) := fun F2 w2 q2 Y hb => by
  have q3 := q2.below hb
  rw [hU3]
  exact q3.sep (updP (updP (updP (updP (Upd.refl _ _) _ _) _ _) _ _) _ _) (block_setCell (block_setCell (block_setCell (block_setCell q3.up.c 27 _) 28 _) 9 _) 8 _) ⟨rfl,rfl,rfl,rfl,rfl,rfl⟩
 have hwr : IntKind.i64.wrap (u1.lev + 1) = u1.lev + 1 := by rw [IntKind.wrap_i64]; omega
 clear q0 hT hE hS2 hU3 hUd hlv
 go_enter Tryz.func205,Tryz.ntmps205
 go_wp2_with fail
 refine HFR.out.mono ?_
 rintro e w2 ⟨rfl,F2,q2⟩
 have HS2 := hide (HST.out F2 w2 q2)
 have g2 := q2.up.c
 have HG2 := hide g2
 have fz := fun j => frozen_of g2 j
 have c11 : w2.cell? ⟨P,11,none⟩ = some (.int .i64 u1.hid) := q2.up.cell 11 _ rfl
 have c18 : w2.cell? ⟨P,18,none⟩ = some (.int .i64 u1.fid) := q2.up.cell 18 _ rfl
 have c25 : w2.cell? ⟨P,25,none⟩ = some m1.bt.v := q2.up.cell 25 _ rfl
 have c27 : w2.cell? ⟨P,27,none⟩ = some (.int .i64 u1.lft) := q2.up.cell 27 _ rfl
 have c28 : w2.cell? ⟨P,28,none⟩ = some (.int .i64 u1.rgt) := q2.up.cell 28 _ rfl
 have c9 : w2.cell? ⟨P,9,none⟩ = some m1.st.v := q2.up.cell 9 _ rfl
 have HC : Hid (∀ Y,Below w2.heap.size w2 Y → (((Y.setCell ⟨P,27,none⟩ (.int .i64 u1.hid)).setCell ⟨P,28,none⟩ (.int .i64 u1.fid)).setCell ⟨P,9,none⟩ m1.bt.v).cell? ⟨P,8,none⟩ = some (.int .i64 u1.lev) ∧ (((Y.setCell ⟨P,27,none⟩ (.int .i64 u1.hid)).setCell ⟨P,28,none⟩ (.int .i64 u1.fid)).setCell ⟨P,9,none⟩ m1.bt.v).frozen? ⟨P,8,none⟩ = false) := fun Y hb => by
  have gY := block_setCell (block_setCell (block_setCell ((hb.block P (lt_of_block g2)).trans g2) 27 (.int .i64 u1.hid)) 28 (.int .i64 u1.fid)) 9 m1.bt.v
  exact ⟨by rw [cell_of_row _ _ _ _ _ _ gY]; rfl,frozen_of gY 8⟩
 have gd := block_setCell g2 27 (.int .i64 u1.hid)
 have ge := block_setCell gd 28 (.int .i64 u1.fid)
 have gf := block_setCell ge 9 m1.bt.v
 have d11 : (w2.setCell ⟨P,27,none⟩ (.int .i64 u1.hid)).cell? ⟨P,11,none⟩ = some (.int .i64 u1.hid) := by rw [cell_of_row _ _ _ _ _ _ gd]; rfl
 have d18 : (w2.setCell ⟨P,27,none⟩ (.int .i64 u1.hid)).cell? ⟨P,18,none⟩ = some (.int .i64 u1.fid) := by rw [cell_of_row _ _ _ _ _ _ gd]; rfl
 have d25 : (w2.setCell ⟨P,27,none⟩ (.int .i64 u1.hid)).cell? ⟨P,25,none⟩ = some (m1.bt.v) := by rw [cell_of_row _ _ _ _ _ _ gd]; rfl
 have e11 : ((w2.setCell ⟨P,27,none⟩ (.int .i64 u1.hid)).setCell ⟨P,28,none⟩ (.int .i64 u1.fid)).cell? ⟨P,11,none⟩ = some (.int .i64 u1.hid) := by rw [cell_of_row _ _ _ _ _ _ ge]; rfl
 have e18 : ((w2.setCell ⟨P,27,none⟩ (.int .i64 u1.hid)).setCell ⟨P,28,none⟩ (.int .i64 u1.fid)).cell? ⟨P,18,none⟩ = some (.int .i64 u1.fid) := by rw [cell_of_row _ _ _ _ _ _ ge]; rfl
 have e25 : ((w2.setCell ⟨P,27,none⟩ (.int .i64 u1.hid)).setCell ⟨P,28,none⟩ (.int .i64 u1.fid)).cell? ⟨P,25,none⟩ = some (m1.bt.v) := by rw [cell_of_row _ _ _ _ _ _ ge]; rfl
 have f11 : (((w2.setCell ⟨P,27,none⟩ (.int .i64 u1.hid)).setCell ⟨P,28,none⟩ (.int .i64 u1.fid)).setCell ⟨P,9,none⟩ m1.bt.v).cell? ⟨P,11,none⟩ = some (.int .i64 u1.hid) := by rw [cell_of_row _ _ _ _ _ _ gf]; rfl
 have f18 : (((w2.setCell ⟨P,27,none⟩ (.int .i64 u1.hid)).setCell ⟨P,28,none⟩ (.int .i64 u1.fid)).setCell ⟨P,9,none⟩ m1.bt.v).cell? ⟨P,18,none⟩ = some (.int .i64 u1.fid) := by rw [cell_of_row _ _ _ _ _ _ gf]; rfl
 have f25 : (((w2.setCell ⟨P,27,none⟩ (.int .i64 u1.hid)).setCell ⟨P,28,none⟩ (.int .i64 u1.fid)).setCell ⟨P,9,none⟩ m1.bt.v).cell? ⟨P,25,none⟩ = some (m1.bt.v) := by rw [cell_of_row _ _ _ _ _ _ gf]; rfl
 have z1 := fun j => frozen_of gd j
 have z2 := fun j => frozen_of ge j
 have z28 : (w2.setCell ⟨P,27,none⟩ (.int .i64 u1.hid)).cell? ⟨P,28,none⟩ = some (.int .i64 u1.rgt) := by rw [cell_of_row _ _ _ _ _ _ gd]; rfl
 have z9 : ((w2.setCell ⟨P,27,none⟩ (.int .i64 u1.hid)).setCell ⟨P,28,none⟩ (.int .i64 u1.fid)).cell? ⟨P,9,none⟩ = some m1.st.v := by rw [cell_of_row _ _ _ _ _ _ ge]; rfl
 obtain ⟨ba,bl,bc,hbv⟩ : ∃ a l c,m1.bt.v = .slice a l c := ⟨m1.bt.a,m1.bt.s.length,m1.bt.c,rfl⟩
 obtain ⟨sa,sl,sc,hsv⟩ : ∃ a l c,m1.st.v = .slice a l c := ⟨m1.st.a,m1.st.s.length,m1.st.c,rfl⟩
 rw [hbv] at HS2 c25 HC d25 e25 f11 f18 f25
 rw [hsv] at c9 z9
 clear q2 g2 gd ge gf HFR HST hbv hsv
 go_upto_region 2 with fail
 go_cut [] (fun wx => wx.cell? ⟨P,8,none⟩ = some (.int .i64 u1.lev) ∧ wx.frozen? ⟨P,8,none⟩ = false ∧ Hid (∃ D2 m2,UQ W P A D F m m2 D2 F2 U3 S2 (wx.setCell ⟨P,8,none⟩ (.int .i64 (u1.lev + 1)))))
 case first =>
  go_region_held3 (fun Y => Y.cell? ⟨P,11,none⟩ = some (.int .i64 u1.hid) ∧ Y.cell? ⟨P,18,none⟩ = some (.int .i64 u1.fid) ∧ Y.cell? ⟨P,25,none⟩ = some (.slice ba bl bc)) (go_keep) (fail)
  all_goals (try go_wp2_with fail)
  all_goals
   go_meet
   have hb := below_drew (Below.refl w2.heap.size w2)
   exact ⟨(HC.out _ hb).1,(HC.out _ hb).2,⟨_,_,HS2.out _ hb⟩⟩
 case rest =>
 rename World => wx
 obtain ⟨d8,fx,HX⟩ := hcut
 obtain ⟨D2,m2,q3⟩ := HX.out
 have HD := hide (u_down q3)
 clear q3 HX HS2 HC HG2 c11 c18 c25 c27 c28 c9 fz
 go_wp2_with fail
 refine HD.out.mono ?_
 rintro e w4 ⟨rfl,m3,D3,q4⟩
 have HQ4 := hide q4
 clear q4 HD
 go_wp2_with fail
 go_ret2
 exact ⟨rfl,m3,D3,F2,HQ4.out⟩
end
section
variable {W w1 w2 : World} {P A : Nat} {D F D1 F1 : Nat → Prop} {m m1 : UM} {u u1 u2 : US} {s s1 : AS}
set_option maxHeartbeats 3200000 in
theorem u_goDown {p : Nat} {k : Tx} {n : Nd} {Dm : Nat → Prop} {ms : MS} (q0 : UQ W P A D F m m1 D1 F1 u1 s1 w1) (hpw : m1.pw = some p) (hpm : PM w1 p A k n Dm ms) (hDm : ∀ x,Dm x → D1 x) (hDp : D1 p) (hnew : m.pw = some p ∨ W.heap.size ≤ p) (han : ms.an < 4611686018427387904) (hmo : ms.mo < 4611686018427387904) (Q : Ending → World → Prop)
  (h1 : (ms.step s1).nx < 5 → ∀ D2 w',UQ W P A D F m m1 D2 F1 { u1 with way := some (ms.step s1) } s1 w' → Q (.returned (.tuple #[.bool false,.int .i64 0])) w')
  (h2 : ¬ (ms.step s1).nx < 5 → (ms.step s1).id ≠ 0 → ∀ D2 w',UQ W P A D F m m1 D2 F1 { u1 with way := some (ms.step s1),nx := 2 } s1 w' → Q (.returned (.tuple #[.bool false,.int .i64 0])) w')
  (h3 : ¬ (ms.step s1).nx < 5 → (ms.step s1).id = 0 → u1.lev = 0 → ∀ D2 w',UQ W P A D F m m1 D2 F1 { u1 with way := some (ms.step s1) } s1 w' → Q (.returned (.tuple #[.bool false,.int .i64 101])) w')
  (h4 : ¬ (ms.step s1).nx < 5 → (ms.step s1).id = 0 → u1.lev ≠ 0 → ∀ D2 w',UQ W P A D F m m1 D2 F1 { u1 with way := some (ms.step s1),nx := 9 } s1 w' → Q (.returned (.tuple #[.bool false,.int .i64 0])) w') :
  Calls Tryz.prog 87 #[.pointer (some ⟨P,0,none⟩)] w1 Q := by
 have HST : Hid (Calls Tryz.prog 110 #[.pointer (some ⟨p,0,none⟩)] w1 fun e w2 => e = .returned (.bool (decide (5 ≤ (ms.step s1).nx))) ∧ (∃ D2,UQ W P A D F m m1 D2 F1 { u1 with way := some (ms.step s1) } s1 w2) ∧ ∃ n' Dn,PM w2 p A k n' Dn (ms.step s1)) := by
  refine (step_any hpm q0.px han hmo).mono ?_
  rintro e w2 ⟨rfl,hn⟩
  refine ⟨rfl,q0.desc hpw hpm hDm hDp hn hnew,?_⟩
  obtain ⟨n',Dn,hp,_⟩ := hn
  exact ⟨n',Dn,hp⟩
 have c10 : w1.cell? ⟨P,10,none⟩ = some (.pointer (some ⟨p,0,none⟩)) := by
  have := q0.up.cell 10 (pwV m1.pw) rfl
  rw [hpw] at this
  exact this
 have HPW := hide hpw
 have H1 := hide h1
 have H2 := hide h2
 have H3 := hide h3
 have H4 := hide h4
 clear q0 hpm hDm hDp hnew han hmo hpw h1 h2 h3 h4
 obtain ⟨M,hM⟩ : ∃ M,ms.step s1 = M := ⟨_,rfl⟩
 rw [hM] at HST H1 H2 H3 H4
 clear hM
 by_cases hnx : 5 ≤ M.nx
 case neg =>
  rw [decide_eq_false hnx] at HST
  go_enter Tryz.func87,Tryz.ntmps87
  go_wp2_with fail
  refine HST.out.mono ?_
  rintro e w2 ⟨rfl,⟨D2,q2⟩,_⟩
  have HF := hide (H1.out (by omega) D2 w2 q2)
  clear q2 HST H1 H2 H3 H4
  go_wp2_with fail
  exact HF.out
 rw [decide_eq_true hnx] at HST
 go_enter Tryz.func87,Tryz.ntmps87
 go_wp2_with fail
 refine HST.out.mono ?_
 rintro e w2 ⟨rfl,⟨D2,q2⟩,n',Dn,hp2⟩
 have HAT := hide (dat_any hp2 hnx)
 unfold AtP at HAT
 have d10 : w2.cell? ⟨P,10,none⟩ = some (.pointer (some ⟨p,0,none⟩)) := by
  have := q2.up.cell 10 (pwV m1.pw) rfl
  rw [HPW.out] at this
  exact this
 have HQ2 := hide q2
 clear q2 hp2 HST c10 H1
 go_wp2_with fail
 refine HAT.out.mono ?_
 rintro e w3 ⟨⟨nlv,⟨nha,nhc,nhs⟩,nri,⟨nka,nkc,nK⟩,⟨nva,nvc,nV⟩,⟨nca,ncc,nC⟩⟩,rfl,_,_,hb3⟩
 simp only [Nd.v,Tx.v,TL.v,IL.v]
 generalize nhs.length = nlh at *
 generalize nK.length = nlk at *
 generalize nV.length = nlw at *
 generalize nC.length = nlc at *
 obtain ⟨w4,hw4⟩ : ∃ w4,w4 = w3.alloc (.cells #[.int .i64 nlv,.slice nha nlh nhc,.int .i64 nri,.slice nka nlk nkc,.slice nva nlw nvc,.slice nca nlc ncc] 110) := ⟨_,rfl⟩
 have b4 : Below w3.heap.size w3 w4 := by rw [hw4]; exact (Below.refl _ _).alloc (Nat.le_refl _) _
 have q4 := HQ2.out.below (hb3.trans (b4.mono hb3.size))
 have HW4 := hide hw4
 have c7 : w4.cell? ⟨P,7,none⟩ = some (uxV P u1.nx) := q4.up.cell 7 _ rfl
 have c8 : w4.cell? ⟨P,8,none⟩ = some (.int .i64 u1.lev) := q4.up.cell 8 _ rfl
 have fz := frozen_of q4.up.c 7
 obtain ⟨I,hI⟩ : ∃ I,M.id = I := ⟨_,rfl⟩
 rw [hI] at H2 H3 H4 ⊢
 have HF2 : Hid (I ≠ 0 → Q (.returned (.tuple #[.bool false,.int .i64 0])) (w4.setCell ⟨P,7,none⟩ (uxV P 2))) := fun hi => H2.out (by omega) hi D2 _ (q4.own (updP (Upd.refl _ _) _ _) (block_setCell q4.up.c 7 _) ⟨rfl,rfl,rfl,rfl,rfl,rfl⟩)
 have HF3 : Hid (I = 0 → u1.lev = 0 → Q (.returned (.tuple #[.bool false,.int .i64 101])) w4) := fun hi hl => H3.out (by omega) hi hl D2 _ q4
 have HF4 : Hid (I = 0 → u1.lev ≠ 0 → Q (.returned (.tuple #[.bool false,.int .i64 0])) (w4.setCell ⟨P,7,none⟩ (uxV P 9))) := fun hi hl => H4.out (by omega) hi hl D2 _ (q4.own (updP (Upd.refl _ _) _ _) (block_setCell q4.up.c 7 _) ⟨rfl,rfl,rfl,rfl,rfl,rfl⟩)
 obtain ⟨L,hL⟩ : ∃ L,u1.lev = L := ⟨_,rfl⟩
 rw [hL] at HF3 HF4 c8
 generalize uxV P u1.nx = nxv at *
 simp only [uxV] at HF2 HF4
 clear q4 hb3 b4 hw4 hI hL HQ2 H2 H3 H4 HAT d10 hnx
 go_upto_region 5 with fail
 rw [← HW4.out]
 clear HW4
 by_cases hi : I = 0
 ·subst hi
  by_cases hl : L = 0
  ·subst hl
   have HF := hide (HF3.out rfl rfl)
   clear HF2 HF3 HF4
   go_wp2_with fail
   exact HF.out
  ·have hlb : (L == 0) = false := by rw [beq_eq_false_iff_ne]; exact hl
   have HF := hide (HF4.out rfl hl)
   clear HF2 HF3 HF4
   go_wp2_with fail
   exact HF.out
 ·have hib : (I == 0) = false := by rw [beq_eq_false_iff_ne]; exact hi
  have HF := hide (HF2.out hi)
  clear HF2 HF3 HF4
  go_wp2_with fail
  exact HF.out
end
end Go.Proofs.YtljnapejgjffjaaGreat
