/- Texts of one's own. -/
import Derived.Test.YtljnapejgjffjaaGreatH20
import Derived.Laws.EntriesVeiled
import Derived.Deep.CutBlock
namespace Go.Proofs.YtljnapejgjffjaaGreat
open Go.RowKit
set_option maxRecDepth 100000
theorem m14_3 {W : World} {P : Nat} {T : TypeId} {a0 a1 a2 a3 a4 a5 a6 a7 a8 a9 a10 a11 a12 a13 : Value} (h : W.heap[P]? = some (.cells #[a0,a1,a2,a3,a4,a5,a6,a7,a8,a9,a10,a11,a12,a13] T (0,0))) (x : Value) : (W.setCell ⟨P,3,none⟩ x).heap[P]? = some (.cells #[a0,a1,a2,x,a4,a5,a6,a7,a8,a9,a10,a11,a12,a13] T (0,0)) := block_setCell h 3 x
theorem m14_4 {W : World} {P : Nat} {T : TypeId} {a0 a1 a2 a3 a4 a5 a6 a7 a8 a9 a10 a11 a12 a13 : Value} (h : W.heap[P]? = some (.cells #[a0,a1,a2,a3,a4,a5,a6,a7,a8,a9,a10,a11,a12,a13] T (0,0))) (x : Value) : (W.setCell ⟨P,4,none⟩ x).heap[P]? = some (.cells #[a0,a1,a2,a3,x,a5,a6,a7,a8,a9,a10,a11,a12,a13] T (0,0)) := block_setCell h 4 x
theorem m14_5 {W : World} {P : Nat} {T : TypeId} {a0 a1 a2 a3 a4 a5 a6 a7 a8 a9 a10 a11 a12 a13 : Value} (h : W.heap[P]? = some (.cells #[a0,a1,a2,a3,a4,a5,a6,a7,a8,a9,a10,a11,a12,a13] T (0,0))) (x : Value) : (W.setCell ⟨P,5,none⟩ x).heap[P]? = some (.cells #[a0,a1,a2,a3,a4,x,a6,a7,a8,a9,a10,a11,a12,a13] T (0,0)) := block_setCell h 5 x
theorem m14_6 {W : World} {P : Nat} {T : TypeId} {a0 a1 a2 a3 a4 a5 a6 a7 a8 a9 a10 a11 a12 a13 : Value} (h : W.heap[P]? = some (.cells #[a0,a1,a2,a3,a4,a5,a6,a7,a8,a9,a10,a11,a12,a13] T (0,0))) (x : Value) : (W.setCell ⟨P,6,none⟩ x).heap[P]? = some (.cells #[a0,a1,a2,a3,a4,a5,x,a7,a8,a9,a10,a11,a12,a13] T (0,0)) := block_setCell h 6 x
theorem m14_7 {W : World} {P : Nat} {T : TypeId} {a0 a1 a2 a3 a4 a5 a6 a7 a8 a9 a10 a11 a12 a13 : Value} (h : W.heap[P]? = some (.cells #[a0,a1,a2,a3,a4,a5,a6,a7,a8,a9,a10,a11,a12,a13] T (0,0))) (x : Value) : (W.setCell ⟨P,7,none⟩ x).heap[P]? = some (.cells #[a0,a1,a2,a3,a4,a5,a6,x,a8,a9,a10,a11,a12,a13] T (0,0)) := block_setCell h 7 x
theorem m14_8 {W : World} {P : Nat} {T : TypeId} {a0 a1 a2 a3 a4 a5 a6 a7 a8 a9 a10 a11 a12 a13 : Value} (h : W.heap[P]? = some (.cells #[a0,a1,a2,a3,a4,a5,a6,a7,a8,a9,a10,a11,a12,a13] T (0,0))) (x : Value) : (W.setCell ⟨P,8,none⟩ x).heap[P]? = some (.cells #[a0,a1,a2,a3,a4,a5,a6,a7,x,a9,a10,a11,a12,a13] T (0,0)) := block_setCell h 8 x
theorem m14_9 {W : World} {P : Nat} {T : TypeId} {a0 a1 a2 a3 a4 a5 a6 a7 a8 a9 a10 a11 a12 a13 : Value} (h : W.heap[P]? = some (.cells #[a0,a1,a2,a3,a4,a5,a6,a7,a8,a9,a10,a11,a12,a13] T (0,0))) (x : Value) : (W.setCell ⟨P,9,none⟩ x).heap[P]? = some (.cells #[a0,a1,a2,a3,a4,a5,a6,a7,a8,x,a10,a11,a12,a13] T (0,0)) := block_setCell h 9 x
theorem m14_10 {W : World} {P : Nat} {T : TypeId} {a0 a1 a2 a3 a4 a5 a6 a7 a8 a9 a10 a11 a12 a13 : Value} (h : W.heap[P]? = some (.cells #[a0,a1,a2,a3,a4,a5,a6,a7,a8,a9,a10,a11,a12,a13] T (0,0))) (x : Value) : (W.setCell ⟨P,10,none⟩ x).heap[P]? = some (.cells #[a0,a1,a2,a3,a4,a5,a6,a7,a8,a9,x,a11,a12,a13] T (0,0)) := block_setCell h 10 x
theorem m14_11 {W : World} {P : Nat} {T : TypeId} {a0 a1 a2 a3 a4 a5 a6 a7 a8 a9 a10 a11 a12 a13 : Value} (h : W.heap[P]? = some (.cells #[a0,a1,a2,a3,a4,a5,a6,a7,a8,a9,a10,a11,a12,a13] T (0,0))) (x : Value) : (W.setCell ⟨P,11,none⟩ x).heap[P]? = some (.cells #[a0,a1,a2,a3,a4,a5,a6,a7,a8,a9,a10,x,a12,a13] T (0,0)) := block_setCell h 11 x
theorem m14_12 {W : World} {P : Nat} {T : TypeId} {a0 a1 a2 a3 a4 a5 a6 a7 a8 a9 a10 a11 a12 a13 : Value} (h : W.heap[P]? = some (.cells #[a0,a1,a2,a3,a4,a5,a6,a7,a8,a9,a10,a11,a12,a13] T (0,0))) (x : Value) : (W.setCell ⟨P,12,none⟩ x).heap[P]? = some (.cells #[a0,a1,a2,a3,a4,a5,a6,a7,a8,a9,a10,a11,x,a13] T (0,0)) := block_setCell h 12 x
theorem m14_13 {W : World} {P : Nat} {T : TypeId} {a0 a1 a2 a3 a4 a5 a6 a7 a8 a9 a10 a11 a12 a13 : Value} (h : W.heap[P]? = some (.cells #[a0,a1,a2,a3,a4,a5,a6,a7,a8,a9,a10,a11,a12,a13] T (0,0))) (x : Value) : (W.setCell ⟨P,13,none⟩ x).heap[P]? = some (.cells #[a0,a1,a2,a3,a4,a5,a6,a7,a8,a9,a10,a11,a12,x] T (0,0)) := block_setCell h 13 x
theorem updP {W W' : World} {P : Nat} (h : Upd (fun k => k = P) W W') (j : Nat) (x : Value) : Upd (fun k => k = P) W (W'.setCell ⟨P,j,none⟩ x) := h.setCell _ _ (fun _ => rfl)
structure MS where
 key : List Int
 lev : Int
 nx : Nat
 id : Int
 wd : Nat
 nd : NP
 an : Nat
 mo : Nat
def MS.new (key : List Int) (lev : Int) : MS := ⟨key,lev,0,0,0,NP.zero,0,0⟩
def MS.fail (m : MS) : MS := ⟨m.key,m.lev,6,0,0,NP.zero,m.an,m.mo⟩
def MS.goTo (m : MS) (id : Int) : MS := ⟨m.key,m.lev,1,id,0,NP.zero,m.an,m.mo⟩
def MS.choose (m : MS) : MS :=
 if m.nd.lv < m.lev then m.fail else if beyB m.nd.hi m.key = true then ⟨m.key,m.lev,1,m.nd.ri,0,NP.zero,m.an,m.mo + 1⟩
 else if m.nd.lv = m.lev then ⟨m.key,m.lev,5,m.id,m.wd,m.nd,m.an,m.mo⟩ else m.goTo (chiN m.nd.ks m.nd.cs m.key)
def MS.valid (m : MS) (x : Nat) : MS := if x = m.wd then m.choose else ⟨m.key,m.lev,0,0,0,NP.zero,m.an + 1,m.mo⟩
def MS.step (m : MS) (s : AS) : MS :=
 if m.nx = 0 then m.goTo s.root
 else if 5 ≤ m.nx then m
 else if ¬ s.inn m.id then m.fail
 else if m.nx = 1 then (if s.w m.id % 2 = 0 then ⟨m.key,m.lev,2,m.id,s.w m.id,m.nd,m.an,m.mo⟩ else m)
 else if m.nx = 2 then ⟨m.key,m.lev,3,m.id,m.wd,m.nd.setH (s.n m.id).lv (s.n m.id).hi (s.n m.id).ri,m.an,m.mo⟩
 else if m.nx = 3 then ⟨m.key,m.lev,4,m.id,m.wd,m.nd.setB (s.n m.id).ks (s.n m.id).vs (s.n m.id).cs,m.an,m.mo⟩
 else m.valid (s.w m.id)
def MbP (W : World) (P : Nat) (cs : Array Value) (r : Value) (e : Ending) (w' : World) : Prop := e = .returned r ∧ w'.heap[P]? = some (.cells cs 195 (0,0)) ∧ Upd (fun k => k = P) W w'
section
variable {W : World} {P A : Nat} {F : Nat → Prop} {s : AS} {a0 a1 a2 a3 a4 a5 a6 a7 a8 a9 a10 a11 a12 a13 : Value}
set_option maxHeartbeats 1600000 in
theorem goTo_any (h : W.heap[P]? = some (.cells #[a0,a1,a2,a3,a4,a5,a6,a7,a8,a9,a10,a11,a12,a13] 195 (0,0))) (id : Int) : Calls Tryz.prog 140 #[.pointer (some ⟨P,0,none⟩),.int .i64 id] W (MbP W P #[a0,a1,a2,.func (.func 161) #[.pointer (some ⟨P,0,none⟩)] #[],.int .i64 id,.int .u64 0,.int .i64 0,.slice none 0 0,.int .i64 0,.slice none 0 0,.slice none 0 0,.slice none 0 0,a12,a13] (.tuple #[])) := by
 have F0 := fun j => frozen_of h j
 have c3 : W.cell? ⟨P,3,none⟩ = some (a3) := by rw [cell_of_row _ _ _ _ _ _ h]; rfl
 have c4 : W.cell? ⟨P,4,none⟩ = some (a4) := by rw [cell_of_row _ _ _ _ _ _ h]; rfl
 have c5 : W.cell? ⟨P,5,none⟩ = some (a5) := by rw [cell_of_row _ _ _ _ _ _ h]; rfl
 have c6 : W.cell? ⟨P,6,none⟩ = some (a6) := by rw [cell_of_row _ _ _ _ _ _ h]; rfl
 have c7 : W.cell? ⟨P,7,none⟩ = some (a7) := by rw [cell_of_row _ _ _ _ _ _ h]; rfl
 have c8 : W.cell? ⟨P,8,none⟩ = some (a8) := by rw [cell_of_row _ _ _ _ _ _ h]; rfl
 have c9 : W.cell? ⟨P,9,none⟩ = some (a9) := by rw [cell_of_row _ _ _ _ _ _ h]; rfl
 have c10 : W.cell? ⟨P,10,none⟩ = some (a10) := by rw [cell_of_row _ _ _ _ _ _ h]; rfl
 have c11 : W.cell? ⟨P,11,none⟩ = some (a11) := by rw [cell_of_row _ _ _ _ _ _ h]; rfl
 have HH := hide h
 clear h
 go_enter Tryz.func140,Tryz.ntmps140
 go_wp2
 go_end0
 refine ⟨rfl,?_,?_⟩
 ·exact (m14_3 (m14_11 (m14_10 (m14_9 (m14_8 (m14_7 (m14_6 (m14_5 (m14_4 HH.out (.int .i64 id)) (.int .u64 0)) (.int .i64 0)) (.slice none 0 0)) (.int .i64 0)) (.slice none 0 0)) (.slice none 0 0)) (.slice none 0 0)) (.func (.func 161) #[.pointer (some ⟨P,0,none⟩)] #[]))
 ·exact (updP (updP (updP (updP (updP (updP (updP (updP (updP (Upd.refl _ _) _ _) _ _) _ _) _ _) _ _) _ _) _ _) _ _) _ _)
set_option maxHeartbeats 1600000 in
theorem readRoot_any (h : W.heap[P]? = some (.cells #[a0,a1,a2,a3,a4,a5,a6,a7,a8,a9,a10,a11,a12,a13] 195 (0,0))) (ha : a0 = .pointer (some ⟨A,0,none⟩)) (hp : PX W A F s) : Calls Tryz.prog 115 #[.pointer (some ⟨P,0,none⟩)] W (MbP W P #[a0,a1,a2,.func (.func 161) #[.pointer (some ⟨P,0,none⟩)] #[],.int .i64 s.root,.int .u64 0,.int .i64 0,.slice none 0 0,.int .i64 0,.slice none 0 0,.slice none 0 0,.slice none 0 0,a12,a13] (.bool true)) := by
 have HG := hide (goTo_any h s.root)
 have HR := hide (px_root hp)
 subst ha
 have c0 : W.cell? ⟨P,0,none⟩ = some (.pointer (some ⟨A,0,none⟩)) := by rw [cell_of_row _ _ _ _ _ _ h]; rfl
 clear h hp
 generalize s.root = rt at *
 go_enter Tryz.func115,Tryz.ntmps115
 go_wp2_with fail
 refine keep HR.out ?_
 go_wp2_with fail
 refine HG.out.mono ?_
 rintro e w2 ⟨rfl,h1,h2⟩
 have H1 := hide h1
 have H2 := hide h2
 clear h1 h2
 go_wp2_with fail
 go_ret
 exact ⟨rfl,H1.out,H2.out⟩
end
theorem PX.drewN {W : World} {A : Nat} {F : Nat → Prop} {s : AS} (h : PX W A F s) (m : Nat) : PX (W.drewN m) A F s := h.upd (S := Noth) (upd_drewN _ _ _) (fun _ _ e => e)
section
variable {W : World} {P A : Nat} {F : Nat → Prop} {s : AS} {id : Int} {a0 a1 a2 a3 a4 a5 a6 a7 a8 a9 a10 a11 a12 a13 : Value}
theorem wordQ (hp : PX W A F s) (id : Int) (q : Nat) : Calls Tryz.prog 31 #[.pointer (some ⟨A,0,none⟩),.int .i64 id] (W.drewN q) fun e w' => e = .returned (.tuple #[.int .u64 (s.wordW id : Nat),.int .i64 (s.wordE id)]) ∧ ∃ m,w' = W.drewN m :=
 (px_word (hp.drewN q) id).mono fun _ _ ⟨h1,h2⟩ => ⟨h1,q,h2⟩
set_option maxHeartbeats 1600000 in
theorem readWord_not (h : W.heap[P]? = some (.cells #[a0,a1,a2,a3,a4,a5,a6,a7,a8,a9,a10,a11,a12,a13] 195 (0,0))) (ha : a0 = .pointer (some ⟨A,0,none⟩)) (hi : a4 = .int .i64 id) (hp : PX W A F s) (hin : ¬ s.inn id) : Calls Tryz.prog 161 #[.pointer (some ⟨P,0,none⟩)] W (MbP W P #[a0,a1,a2,a3,a4,a5,a6,a7,a8,a9,a10,a11,a12,a13] (.bool false)) := by
 have HQ := hide (wordQ hp id)
 rw [show s.wordE id = 101 from if_neg hin,show s.wordW id = 0 from if_neg hin] at HQ
 subst ha
 subst hi
 have c0 : W.cell? ⟨P,0,none⟩ = some (.pointer (some ⟨A,0,none⟩)) := by rw [cell_of_row _ _ _ _ _ _ h]; rfl
 have c4 : W.cell? ⟨P,4,none⟩ = some (.int .i64 id) := by rw [cell_of_row _ _ _ _ _ _ h]; rfl
 have HH := hide h
 clear h hp
 go_enter Tryz.func161,Tryz.ntmps161
 go_wp2_with fail
 go_quiet ((go_at_call 31; with_reducible exact HQ.out _))
 clear HQ
 go_wp2_with fail
 go_ret
 exact ⟨rfl,HH.out,upd_drewN _ _ _⟩
set_option maxHeartbeats 1600000 in
theorem readWord_odd (h : W.heap[P]? = some (.cells #[a0,a1,a2,a3,a4,a5,a6,a7,a8,a9,a10,a11,a12,a13] 195 (0,0))) (ha : a0 = .pointer (some ⟨A,0,none⟩)) (hi : a4 = .int .i64 id) (hp : PX W A F s) (hin : s.inn id) (ho : ¬ s.w id % 2 = 0) : Calls Tryz.prog 161 #[.pointer (some ⟨P,0,none⟩)] W (MbP W P #[a0,a1,a2,a3,a4,a5,a6,a7,a8,a9,a10,a11,a12,a13] (.bool true)) := by
 have HQ := hide (wordQ hp id)
 have hx := px_wlt hp id hin
 rw [show s.wordE id = 0 from if_pos hin,show s.wordW id = s.w id from if_pos hin] at HQ
 generalize s.w id = x at *
 have j1 : ¬ (x : Int) % 2 = 0 := by omega
 subst ha
 subst hi
 have c0 : W.cell? ⟨P,0,none⟩ = some (.pointer (some ⟨A,0,none⟩)) := by rw [cell_of_row _ _ _ _ _ _ h]; rfl
 have c4 : W.cell? ⟨P,4,none⟩ = some (.int .i64 id) := by rw [cell_of_row _ _ _ _ _ _ h]; rfl
 have HH := hide h
 clear h hp
 go_enter Tryz.func161,Tryz.ntmps161
 go_wp2_with fail
 go_quiet ((go_at_call 31; with_reducible exact HQ.out _))
 clear HQ
 go_wp2_with fail
 go_ret
 exact ⟨rfl,HH.out,upd_drewN _ _ _⟩
set_option maxHeartbeats 1600000 in
theorem readWord_even (h : W.heap[P]? = some (.cells #[a0,a1,a2,a3,a4,a5,a6,a7,a8,a9,a10,a11,a12,a13] 195 (0,0))) (ha : a0 = .pointer (some ⟨A,0,none⟩)) (hi : a4 = .int .i64 id) (hp : PX W A F s) (hin : s.inn id) (ho : s.w id % 2 = 0) : Calls Tryz.prog 161 #[.pointer (some ⟨P,0,none⟩)] W (MbP W P #[a0,a1,a2,.func (.func 181) #[.pointer (some ⟨P,0,none⟩)] #[],a4,.int .u64 (s.w id : Nat),a6,a7,a8,a9,a10,a11,a12,a13] (.bool true)) := by
 have HQ := hide (wordQ hp id)
 have hx := px_wlt hp id hin
 rw [show s.wordE id = 0 from if_pos hin,show s.wordW id = s.w id from if_pos hin] at HQ
 generalize s.w id = x at *
 have j1 : (x : Int) % 2 = 0 := by omega
 subst ha
 subst hi
 have c0 : W.cell? ⟨P,0,none⟩ = some (.pointer (some ⟨A,0,none⟩)) := by rw [cell_of_row _ _ _ _ _ _ h]; rfl
 have c4 : W.cell? ⟨P,4,none⟩ = some (.int .i64 id) := by rw [cell_of_row _ _ _ _ _ _ h]; rfl
 have c5 : W.cell? ⟨P,5,none⟩ = some (a5) := by rw [cell_of_row _ _ _ _ _ _ h]; rfl
 have c3 : W.cell? ⟨P,3,none⟩ = some (a3) := by rw [cell_of_row _ _ _ _ _ _ h]; rfl
 have F0 := fun j => frozen_of h j
 have HH := hide h
 clear h hp
 go_enter Tryz.func161,Tryz.ntmps161
 go_wp2_with fail
 go_quiet ((go_at_call 31; with_reducible exact HQ.out _))
 clear HQ
 go_wp2_with fail
 go_ret
 exact ⟨rfl,(m14_3 (m14_5 HH.out (.int .u64 (x : Nat))) (.func (.func 181) #[.pointer (some ⟨P,0,none⟩)] #[])),updP (updP (upd_drewN _ _ _) _ _) _ _⟩
end
theorem PX.below {W W' : World} {A : Nat} {F : Nat → Prop} {s : AS} (h : PX W A F s) (hb : Below W.heap.size W W') : PX W' A F s := h.upd (S := Noth) (Upd.of_below hb _) (fun _ _ e => e)
theorem cell_alloc_old (w : World) {P : Nat} (h : P < w.heap.size) (j : Nat) (o : Obj) : (w.alloc o).cell? ⟨P,j,none⟩ = w.cell? ⟨P,j,none⟩ := (((Below.refl w.heap.size w).alloc (Nat.le_refl _) o).cell (p := ⟨P,j,none⟩) h)
section
variable {W : World} {P A : Nat} {F : Nat → Prop} {s : AS} {id : Int} {a0 a1 a2 a3 a4 a5 a6 a7 a8 a9 a10 a11 a12 a13 : Value}
def RhP (W : World) (P : Nat) (C : Value → Value → Value → Array Value) (p : NP) (r : Bool) (e : Ending) (w' : World) : Prop := ∃ t : Tx,MbP W P (C (.int .i64 p.lv) t.v (.int .i64 p.ri)) (.bool r) e w' ∧ t.s = p.hi ∧ OwnB w' W.heap.size 5 t.v t.s ∧ B8 t.s ∧ t.s.length ≤ 140737488351232
set_option maxHeartbeats 1600000 in
theorem readHead_any (h : W.heap[P]? = some (.cells #[a0,a1,a2,a3,a4,a5,a6,a7,a8,a9,a10,a11,a12,a13] 195 (0,0)))(ha : a0 = .pointer (some ⟨A,0,none⟩)) (hi : a4 = .int .i64 id) (hp : PX W A F s) : Calls Tryz.prog 181 #[.pointer (some ⟨P,0,none⟩)] W (RhP W P (fun x0 x1 x2 => #[a0,a1,a2,.func (.func 199) #[.pointer (some ⟨P,0,none⟩)] #[],a4,a5,x0,x1,x2,a9,a10,a11,a12,a13]) (s.rd id) (decide (s.inn id))) := by
 have HQ : Hid (∀ W',Below W.heap.size W W' → Calls Tryz.prog 80 #[.pointer (some ⟨A,0,none⟩),.int .i64 id] W' (HdP2 W' (s.rd id) (s.wordE id))) := fun W' hb => px_head (hp.below hb) id
 have hE : decide (s.inn id) = (s.wordE id == 0) := by
  unfold AS.wordE
  by_cases hin : s.inn id
  ·rw [if_pos hin,decide_eq_true hin]; rfl
  ·rw [if_neg hin,decide_eq_false hin]; rfl
 rw [hE]
 generalize s.rd id = p at *
 generalize s.wordE id = er at *
 subst ha
 subst hi
 have c0 : W.cell? ⟨P,0,none⟩ = some (.pointer (some ⟨A,0,none⟩)) := by rw [cell_of_row _ _ _ _ _ _ h]; rfl
 have c4 : W.cell? ⟨P,4,none⟩ = some (.int .i64 id) := by rw [cell_of_row _ _ _ _ _ _ h]; rfl
 have hPl := lt_of_block h
 have hne : ¬ P = W.heap.size := by omega
 have hne2 : ¬ W.heap.size = P := by omega
 have HH := hide h
 clear h hp hE
 go_enter Tryz.func181,Tryz.ntmps181
 go_wp2_with fail
 go_region_held3 (fun W' => W'.cell? ⟨P,0,none⟩ = some (.pointer (some ⟨A,0,none⟩)) ∧ W'.cell? ⟨P,4,none⟩ = some (.int .i64 id)) (go_keep) (first
  | (go_at_call 80; refine (HQ.out _ (below_drew (Below.refl _ _))).mono ?_; rintro e w2 ⟨⟨ta,tc,ts⟩,rfl,ht1,ht2,ht3,ht4,hb2⟩; have y0 := (hb2.cell (p := ⟨P,0,none⟩) hPl).trans c0; have y4 := (hb2.cell (p := ⟨P,4,none⟩) hPl).trans c4; simp only [Tx.v] at ht2 ⊢; have HT := hide (And.intro ht1 (And.intro ht2 (And.intro ht3 (And.intro ht4 hb2)))); clear ht1 ht2 ht3 ht4 hb2; obtain ⟨lt,hlt⟩ : ∃ lt,ts.length = lt := ⟨_,rfl⟩; rw [hlt]; replace hlt := hide hlt)
  | (go_at_call 80; refine (HQ.out _ (below_drew ((Below.refl _ _).alloc (Nat.le_refl _) _))).mono ?_; rintro e w2 ⟨⟨ta,tc,ts⟩,rfl,ht1,ht2,ht3,ht4,hb2⟩; have g2 := (hb2.block W.heap.size (by simp)).trans (heap_alloc_new W (.cells #[.int .i64 0,.slice none 0 0,.int .i64 0] 105)); obtain ⟨n0,n1,n2⟩ := three_new g2; have nf := fun j => frozen_of g2 j; have y0 := (hb2.cell (p := ⟨P,0,none⟩) (by simp; omega)).trans ((cell_alloc_old W hPl 0 _).trans c0); have y4 := (hb2.cell (p := ⟨P,4,none⟩) (by simp; omega)).trans ((cell_alloc_old W hPl 4 _).trans c4); simp only [Tx.v] at ht2 ⊢; have HT := hide (And.intro ht1 (And.intro ht2 (And.intro ht3 (And.intro ht4 (And.intro g2 hb2))))); clear ht1 ht2 ht3 ht4 hb2 g2; obtain ⟨lt,hlt⟩ : ∃ lt,ts.length = lt := ⟨_,rfl⟩; rw [hlt]; replace hlt := hide hlt)
  | fail)
 ·obtain ⟨w3,hw3⟩ : ∃ w3,w3 = w2.alloc (.cells #[.int .i64 p.lv,.slice ta lt tc,.int .i64 p.ri] 105) := ⟨_,rfl⟩
  have b2 : Below W.heap.size W w2 := (below_drew (Below.refl _ _)).trans HT.out.2.2.2.2
  have b23 : Below w2.heap.size w2 w3 := by rw [hw3]; exact (Below.refl _ _).alloc (Nat.le_refl _) _
  have b3 : Below W.heap.size W w3 := b2.trans (b23.mono b2.size)
  have G : w3.heap[w2.heap.size]? = some (.cells #[.int .i64 p.lv,.slice ta lt tc,.int .i64 p.ri] 105 (0,0)) := by rw [hw3]; exact heap_alloc_new w2 _
  have OB : OwnB w3 W.heap.size 5 (.slice ta lt tc) ts := by rw [← hlt.out]; exact HT.out.2.1.below b23
  have hgP : ¬ P = w2.heap.size := by have := b2.size; omega
  have HTT := hide (And.intro HT.out.1 (And.intro HT.out.2.2.1 HT.out.2.2.2.1))
  rw [← hw3]
  generalize w2.heap.size = gb at *
  clear hw3 b2 b23 HT y0 y4
  have HP3 := (b3.block P hPl).trans HH.out
  have F3 := fun j => frozen_of HP3 j
  obtain ⟨n0,n1,n2⟩ := three_new G
  have hgP2 : ¬ gb = P := fun e => hgP e.symm
  have z6 : w3.cell? ⟨P,6,none⟩ = some a6 := by rw [cell_of_row _ _ _ _ _ _ HP3]; rfl
  have z7 : w3.cell? ⟨P,7,none⟩ = some a7 := by rw [cell_of_row _ _ _ _ _ _ HP3]; rfl
  have z8 : w3.cell? ⟨P,8,none⟩ = some a8 := by rw [cell_of_row _ _ _ _ _ _ HP3]; rfl
  have z3 : w3.cell? ⟨P,3,none⟩ = some a3 := by rw [cell_of_row _ _ _ _ _ _ HP3]; rfl
  have HHP := hide HP3
  have HB3 := hide b3
  have HOB := hide OB
  clear HP3 b3 OB G c0 c4 HH HQ
  go_wp2_with fail
  go_ret
  have UU : Upd (fun k => k = P) W ((((w3.setCell ⟨P,6,none⟩ (.int .i64 p.lv)).setCell ⟨P,7,none⟩ (.slice ta lt tc)).setCell ⟨P,8,none⟩ (.int .i64 p.ri)).setCell ⟨P,3,none⟩ (.func (.func 199) #[.pointer (some ⟨P,0,none⟩)] #[])) := updP (updP (updP (updP (Upd.of_below HB3.out _) _ _) _ _) _ _) _ _
  refine ⟨⟨ta,tc,ts⟩,⟨rfl,?_,UU⟩,HTT.out.1,?_,HTT.out.2.1,HTT.out.2.2⟩
  ·simp only [Tx.v,hlt.out]
   exact m14_3 (m14_8 (m14_7 (m14_6 HHP.out _) _) _) _
  ·simp only [Tx.v,hlt.out]
   exact ownB_upd' HOB.out (updP (updP (updP (updP (Upd.refl _ _) _ _) _ _) _ _) _ _) (fun b h1 _ e => by omega)
 ·obtain ⟨w3,hw3⟩ : ∃ w3,w3 = ((w2.setCell ⟨W.heap.size,0,none⟩ (.int .i64 p.lv)).setCell ⟨W.heap.size,1,none⟩ (.slice ta lt tc)).setCell ⟨W.heap.size,2,none⟩ (.int .i64 p.ri) := ⟨_,rfl⟩
  have hsz : (W.alloc (.cells #[.int .i64 0,.slice none 0 0,.int .i64 0] 105)).drew.heap.size = W.heap.size + 1 := by simp
  have b2 : Below W.heap.size W w2 := (below_drew ((Below.refl _ _).alloc (Nat.le_refl _) _)).trans (HT.out.2.2.2.2.2.mono (by rw [hsz]; omega))
  have u23 : Upd (fun k => k = W.heap.size) w2 w3 := by rw [hw3]; exact updP (updP (updP (Upd.refl _ _) _ _) _ _) _ _
  have b3 : Below W.heap.size W w3 := b2.trans (u23.below b2.size (fun k hk e => by omega))
  have G : w3.heap[W.heap.size]? = some (.cells #[.int .i64 p.lv,.slice ta lt tc,.int .i64 p.ri] 105 (0,0)) := by rw [hw3]; exact block_setCell (block_setCell (block_setCell HT.out.2.2.2.2.1 0 _) 1 _) 2 _
  have OB : OwnB w3 W.heap.size 5 (.slice ta lt tc) ts := by
   rw [← hlt.out]
   refine (ownB_upd' HT.out.2.1 u23 (fun b h1 _ e => by rw [hsz] at h1; omega)).mono (by rw [hsz]; omega)
  have hgP : ¬ P = W.heap.size := hne
  have HTT := hide (And.intro HT.out.1 (And.intro HT.out.2.2.1 HT.out.2.2.2.1))
  rw [← hw3]
  clear hne hne2 hw3 b2 u23 HT y0 y4 n0 n1 n2 nf
  obtain ⟨gb,hgb⟩ : ∃ gb,gb = W.heap.size := ⟨_,rfl⟩
  rw [← hgb] at G hgP ⊢
  clear hgb
  have HP3 := (b3.block P hPl).trans HH.out
  have F3 := fun j => frozen_of HP3 j
  obtain ⟨n0,n1,n2⟩ := three_new G
  have hgP2 : ¬ gb = P := fun e => hgP e.symm
  have z6 : w3.cell? ⟨P,6,none⟩ = some a6 := by rw [cell_of_row _ _ _ _ _ _ HP3]; rfl
  have z7 : w3.cell? ⟨P,7,none⟩ = some a7 := by rw [cell_of_row _ _ _ _ _ _ HP3]; rfl
  have z8 : w3.cell? ⟨P,8,none⟩ = some a8 := by rw [cell_of_row _ _ _ _ _ _ HP3]; rfl
  have z3 : w3.cell? ⟨P,3,none⟩ = some a3 := by rw [cell_of_row _ _ _ _ _ _ HP3]; rfl
  have HHP := hide HP3
  have HB3 := hide b3
  have HOB := hide OB
  clear HP3 b3 OB G c0 c4 HH HQ
  go_wp2_with fail
  go_ret
  have UU : Upd (fun k => k = P) W ((((w3.setCell ⟨P,6,none⟩ (.int .i64 p.lv)).setCell ⟨P,7,none⟩ (.slice ta lt tc)).setCell ⟨P,8,none⟩ (.int .i64 p.ri)).setCell ⟨P,3,none⟩ (.func (.func 199) #[.pointer (some ⟨P,0,none⟩)] #[])) := updP (updP (updP (updP (Upd.of_below HB3.out _) _ _) _ _) _ _) _ _
  refine ⟨⟨ta,tc,ts⟩,⟨rfl,?_,UU⟩,HTT.out.1,?_,HTT.out.2.1,HTT.out.2.2⟩
  ·simp only [Tx.v,hlt.out]
   exact m14_3 (m14_8 (m14_7 (m14_6 HHP.out _) _) _) _
  ·simp only [Tx.v,hlt.out]
   exact ownB_upd' HOB.out (updP (updP (updP (updP (Upd.refl _ _) _ _) _ _) _ _) _ _) (fun b h1 _ e => by omega)
end
section
variable {W : World} {P A : Nat} {F : Nat → Prop} {s : AS} {id : Int} {a0 a1 a2 a3 a4 a5 a6 a7 a8 a9 a10 a11 a12 a13 : Value}
def RbP (W : World) (P : Nat) (C : Value → Value → Value → Array Value) (p : NP) (r : Bool) (e : Ending) (w' : World) : Prop := ∃ (k v : TL) (c : IL),MbP W P (C k.v v.v c.v) (.bool r) e w' ∧ k.p = p.ks ∧ v.p = p.vs ∧ c.s = p.cs ∧ k.Own w' W.heap.size ∧ v.Own w' W.heap.size ∧ w'.ownsRow W.heap.size 3 1 c.v c.s.length (c.s.map (Value.int .i64)) ∧
  (k.L.length * 24 ≤ 140737488352000 ∧ v.L.length * 24 ≤ 140737488352000 ∧ c.s.length * 8 ≤ 140737488352000)
set_option maxHeartbeats 1600000 in
theorem readBody_any (h : W.heap[P]? = some (.cells #[a0,a1,a2,a3,a4,a5,a6,a7,a8,a9,a10,a11,a12,a13] 195 (0,0)))(ha : a0 = .pointer (some ⟨A,0,none⟩)) (hi : a4 = .int .i64 id) (hp : PX W A F s) : Calls Tryz.prog 199 #[.pointer (some ⟨P,0,none⟩)] W (RbP W P (fun x0 x1 x2 => #[a0,a1,a2,.func (.func 208) #[.pointer (some ⟨P,0,none⟩)] #[],a4,a5,a6,a7,a8,x0,x1,x2,a12,a13]) (s.rd id) (decide (s.inn id))) := by
 have HQ : Hid (∀ W',Below W.heap.size W W' → Calls Tryz.prog 82 #[.pointer (some ⟨A,0,none⟩),.int .i64 id] W' (BdP2 W' (s.rd id) (s.wordE id))) := fun W' hb => px_body (hp.below hb) id
 have hE : decide (s.inn id) = (s.wordE id == 0) := by
  unfold AS.wordE
  by_cases hin : s.inn id
  ·rw [if_pos hin,decide_eq_true hin]; rfl
  ·rw [if_neg hin,decide_eq_false hin]; rfl
 rw [hE]
 generalize s.rd id = p at *
 generalize s.wordE id = er at *
 subst ha
 subst hi
 have c0 : W.cell? ⟨P,0,none⟩ = some (.pointer (some ⟨A,0,none⟩)) := by rw [cell_of_row _ _ _ _ _ _ h]; rfl
 have c4 : W.cell? ⟨P,4,none⟩ = some (.int .i64 id) := by rw [cell_of_row _ _ _ _ _ _ h]; rfl
 have hPl := lt_of_block h
 have hne : ¬ P = W.heap.size := by omega
 have hne2 : ¬ W.heap.size = P := by omega
 have HH := hide h
 clear h hp hE
 go_enter Tryz.func199,Tryz.ntmps199
 go_wp2_with fail
 go_region_held3 (fun W' => W'.cell? ⟨P,0,none⟩ = some (.pointer (some ⟨A,0,none⟩)) ∧ W'.cell? ⟨P,4,none⟩ = some (.int .i64 id)) (go_keep) (first
  | (go_at_call 82; refine (HQ.out _ (below_drew (Below.refl _ _))).mono ?_; rintro e w2 ⟨⟨k8,kc8,K8⟩,⟨v8,vc8,V8⟩,⟨c8,cc8,C8⟩,rfl,hk1,hk2,hk3,ho1,ho2,ho3,hz8,hb2⟩; have y0 := (hb2.cell (p := ⟨P,0,none⟩) hPl).trans c0; have y4 := (hb2.cell (p := ⟨P,4,none⟩) hPl).trans c4; simp only [TL.v,IL.v] at ho3 ⊢; have HT := hide (And.intro (And.intro hk1 (And.intro hk2 hk3)) (And.intro (And.intro ho1 (And.intro ho2 ho3)) (And.intro hz8 hb2))); clear hk1 hk2 hk3 ho1 ho2 ho3 hz8 hb2; obtain ⟨l1,hl1⟩ : ∃ l1,K8.length = l1 := ⟨_,rfl⟩; obtain ⟨l2,hl2⟩ : ∃ l2,V8.length = l2 := ⟨_,rfl⟩; obtain ⟨l3,hl3⟩ : ∃ l3,C8.length = l3 := ⟨_,rfl⟩; rw [hl1,hl2,hl3]; have hlt := hide (And.intro hl1 (And.intro hl2 hl3)); clear hl1 hl2 hl3)
  | (go_at_call 82; refine (HQ.out _ (below_drew ((Below.refl _ _).alloc (Nat.le_refl _) _))).mono ?_; rintro e w2 ⟨⟨k8,kc8,K8⟩,⟨v8,vc8,V8⟩,⟨c8,cc8,C8⟩,rfl,hk1,hk2,hk3,ho1,ho2,ho3,hz8,hb2⟩; have g2 := (hb2.block W.heap.size (by simp)).trans (heap_alloc_new W (.cells #[.slice none 0 0,.slice none 0 0,.slice none 0 0] 108)); obtain ⟨n0,n1,n2⟩ := three_new g2; have nf := fun j => frozen_of g2 j; have y0 := (hb2.cell (p := ⟨P,0,none⟩) (by simp; omega)).trans ((cell_alloc_old W hPl 0 _).trans c0); have y4 := (hb2.cell (p := ⟨P,4,none⟩) (by simp; omega)).trans ((cell_alloc_old W hPl 4 _).trans c4); simp only [TL.v,IL.v] at ho3 ⊢; have HT := hide (And.intro (And.intro hk1 (And.intro hk2 hk3)) (And.intro (And.intro ho1 (And.intro ho2 ho3)) (And.intro hz8 (And.intro g2 hb2)))); clear hk1 hk2 hk3 ho1 ho2 ho3 hz8 hb2 g2; obtain ⟨l1,hl1⟩ : ∃ l1,K8.length = l1 := ⟨_,rfl⟩; obtain ⟨l2,hl2⟩ : ∃ l2,V8.length = l2 := ⟨_,rfl⟩; obtain ⟨l3,hl3⟩ : ∃ l3,C8.length = l3 := ⟨_,rfl⟩; rw [hl1,hl2,hl3]; have hlt := hide (And.intro hl1 (And.intro hl2 hl3)); clear hl1 hl2 hl3)
  | fail)
 ·obtain ⟨w3,hw3⟩ : ∃ w3,w3 = w2.alloc (.cells #[.slice k8 l1 kc8,.slice v8 l2 vc8,.slice c8 l3 cc8] 108) := ⟨_,rfl⟩
  have b2 : Below W.heap.size W w2 := (below_drew (Below.refl _ _)).trans HT.out.2.2.2
  have b23 : Below w2.heap.size w2 w3 := by rw [hw3]; exact (Below.refl _ _).alloc (Nat.le_refl _) _
  have b3 : Below W.heap.size W w3 := b2.trans (b23.mono b2.size)
  have G : w3.heap[w2.heap.size]? = some (.cells #[.slice k8 l1 kc8,.slice v8 l2 vc8,.slice c8 l3 cc8] 108 (0,0)) := by rw [hw3]; exact heap_alloc_new w2 _
  have OB : (⟨k8,kc8,K8⟩ : TL).Own w3 W.heap.size ∧ (⟨v8,vc8,V8⟩ : TL).Own w3 W.heap.size ∧ w3.ownsRow W.heap.size 3 1 (⟨c8,cc8,C8⟩ : IL).v C8.length (C8.map (Value.int .i64)) := ⟨HT.out.2.1.1.below b23,HT.out.2.1.2.1.below b23,owns_below HT.out.2.1.2.2 b23⟩
  have hgP : ¬ P = w2.heap.size := by have := b2.size; omega
  have HTT := hide (And.intro HT.out.1 HT.out.2.2.1)
  rw [← hw3]
  generalize w2.heap.size = gb at *
  clear hw3 b2 b23 HT y0 y4
  have HP3 := (b3.block P hPl).trans HH.out
  have F3 := fun j => frozen_of HP3 j
  obtain ⟨n0,n1,n2⟩ := three_new G
  have hgP2 : ¬ gb = P := fun e => hgP e.symm
  have z9 : w3.cell? ⟨P,9,none⟩ = some a9 := by rw [cell_of_row _ _ _ _ _ _ HP3]; rfl
  have z10 : w3.cell? ⟨P,10,none⟩ = some a10 := by rw [cell_of_row _ _ _ _ _ _ HP3]; rfl
  have z11 : w3.cell? ⟨P,11,none⟩ = some a11 := by rw [cell_of_row _ _ _ _ _ _ HP3]; rfl
  have z3 : w3.cell? ⟨P,3,none⟩ = some a3 := by rw [cell_of_row _ _ _ _ _ _ HP3]; rfl
  have HHP := hide HP3
  have HB3 := hide b3
  have HOB := hide OB
  clear HP3 b3 OB G c0 c4 HH HQ
  go_wp2_with fail
  go_ret
  have UU : Upd (fun k => k = P) W ((((w3.setCell ⟨P,9,none⟩ (.slice k8 l1 kc8)).setCell ⟨P,10,none⟩ (.slice v8 l2 vc8)).setCell ⟨P,11,none⟩ (.slice c8 l3 cc8)).setCell ⟨P,3,none⟩ (.func (.func 208) #[.pointer (some ⟨P,0,none⟩)] #[])) := updP (updP (updP (updP (Upd.of_below HB3.out _) _ _) _ _) _ _) _ _
  have U3 : Upd (fun k => k = P) w3 ((((w3.setCell ⟨P,9,none⟩ (.slice k8 l1 kc8)).setCell ⟨P,10,none⟩ (.slice v8 l2 vc8)).setCell ⟨P,11,none⟩ (.slice c8 l3 cc8)).setCell ⟨P,3,none⟩ (.func (.func 208) #[.pointer (some ⟨P,0,none⟩)] #[])) := updP (updP (updP (updP (Upd.refl _ _) _ _) _ _) _ _) _ _
  refine ⟨⟨k8,kc8,K8⟩,⟨v8,vc8,V8⟩,⟨c8,cc8,C8⟩,⟨rfl,?_,UU⟩,HTT.out.1.1,HTT.out.1.2.1,HTT.out.1.2.2,?_,?_,?_,HTT.out.2⟩
  ·simp only [TL.v,IL.v,hlt.out.1,hlt.out.2.1,hlt.out.2.2]
   exact m14_3 (m14_11 (m14_10 (m14_9 HHP.out _) _) _) _
  ·exact HOB.out.1.upd U3 (fun b h1 _ e => by omega)
  ·exact HOB.out.2.1.upd U3 (fun b h1 _ e => by omega)
  ·exact ownsI_upd HOB.out.2.2 U3 (fun b h1 _ e => by omega)
 ·obtain ⟨w3,hw3⟩ : ∃ w3,w3 = ((w2.setCell ⟨W.heap.size,0,none⟩ (.slice k8 l1 kc8)).setCell ⟨W.heap.size,1,none⟩ (.slice v8 l2 vc8)).setCell ⟨W.heap.size,2,none⟩ (.slice c8 l3 cc8) := ⟨_,rfl⟩
  have hsz : (W.alloc (.cells #[.slice none 0 0,.slice none 0 0,.slice none 0 0] 108)).drew.heap.size = W.heap.size + 1 := by simp
  have b2 : Below W.heap.size W w2 := (below_drew ((Below.refl _ _).alloc (Nat.le_refl _) _)).trans (HT.out.2.2.2.2.mono (by rw [hsz]; omega))
  have u23 : Upd (fun k => k = W.heap.size) w2 w3 := by rw [hw3]; exact updP (updP (updP (Upd.refl _ _) _ _) _ _) _ _
  have b3 : Below W.heap.size W w3 := b2.trans (u23.below b2.size (fun k hk e => by omega))
  have G : w3.heap[W.heap.size]? = some (.cells #[.slice k8 l1 kc8,.slice v8 l2 vc8,.slice c8 l3 cc8] 108 (0,0)) := by rw [hw3]; exact block_setCell (block_setCell (block_setCell HT.out.2.2.2.1 0 _) 1 _) 2 _
  have OB : (⟨k8,kc8,K8⟩ : TL).Own w3 W.heap.size ∧ (⟨v8,vc8,V8⟩ : TL).Own w3 W.heap.size ∧ w3.ownsRow W.heap.size 3 1 (⟨c8,cc8,C8⟩ : IL).v C8.length (C8.map (Value.int .i64)) := ⟨(HT.out.2.1.1.upd u23 (fun b h1 _ e => by rw [hsz] at h1; omega)).mono (by rw [hsz]; omega),(HT.out.2.1.2.1.upd u23 (fun b h1 _ e => by rw [hsz] at h1; omega)).mono (by rw [hsz]; omega),owns_mono (ownsI_upd HT.out.2.1.2.2 u23 (fun b h1 _ e => by rw [hsz] at h1; omega)) (by rw [hsz]; omega)⟩
  have hgP : ¬ P = W.heap.size := hne
  have HTT := hide (And.intro HT.out.1 HT.out.2.2.1)
  rw [← hw3]
  clear hne hne2 hw3 b2 u23 HT y0 y4 n0 n1 n2 nf
  obtain ⟨gb,hgb⟩ : ∃ gb,gb = W.heap.size := ⟨_,rfl⟩
  rw [← hgb] at G hgP ⊢
  clear hgb
  have HP3 := (b3.block P hPl).trans HH.out
  have F3 := fun j => frozen_of HP3 j
  obtain ⟨n0,n1,n2⟩ := three_new G
  have hgP2 : ¬ gb = P := fun e => hgP e.symm
  have z9 : w3.cell? ⟨P,9,none⟩ = some a9 := by rw [cell_of_row _ _ _ _ _ _ HP3]; rfl
  have z10 : w3.cell? ⟨P,10,none⟩ = some a10 := by rw [cell_of_row _ _ _ _ _ _ HP3]; rfl
  have z11 : w3.cell? ⟨P,11,none⟩ = some a11 := by rw [cell_of_row _ _ _ _ _ _ HP3]; rfl
  have z3 : w3.cell? ⟨P,3,none⟩ = some a3 := by rw [cell_of_row _ _ _ _ _ _ HP3]; rfl
  have HHP := hide HP3
  have HB3 := hide b3
  have HOB := hide OB
  clear HP3 b3 OB G c0 c4 HH HQ
  go_wp2_with fail
  go_ret
  have UU : Upd (fun k => k = P) W ((((w3.setCell ⟨P,9,none⟩ (.slice k8 l1 kc8)).setCell ⟨P,10,none⟩ (.slice v8 l2 vc8)).setCell ⟨P,11,none⟩ (.slice c8 l3 cc8)).setCell ⟨P,3,none⟩ (.func (.func 208) #[.pointer (some ⟨P,0,none⟩)] #[])) := updP (updP (updP (updP (Upd.of_below HB3.out _) _ _) _ _) _ _) _ _
  have U3 : Upd (fun k => k = P) w3 ((((w3.setCell ⟨P,9,none⟩ (.slice k8 l1 kc8)).setCell ⟨P,10,none⟩ (.slice v8 l2 vc8)).setCell ⟨P,11,none⟩ (.slice c8 l3 cc8)).setCell ⟨P,3,none⟩ (.func (.func 208) #[.pointer (some ⟨P,0,none⟩)] #[])) := updP (updP (updP (updP (Upd.refl _ _) _ _) _ _) _ _) _ _
  refine ⟨⟨k8,kc8,K8⟩,⟨v8,vc8,V8⟩,⟨c8,cc8,C8⟩,⟨rfl,?_,UU⟩,HTT.out.1.1,HTT.out.1.2.1,HTT.out.1.2.2,?_,?_,?_,HTT.out.2⟩
  ·simp only [TL.v,IL.v,hlt.out.1,hlt.out.2.1,hlt.out.2.2]
   exact m14_3 (m14_11 (m14_10 (m14_9 HHP.out _) _) _) _
  ·exact HOB.out.1.upd U3 (fun b h1 _ e => by omega)
  ·exact HOB.out.2.1.upd U3 (fun b h1 _ e => by omega)
  ·exact ownsI_upd HOB.out.2.2 U3 (fun b h1 _ e => by omega)
end
end Go.Proofs.YtljnapejgjffjaaGreat
