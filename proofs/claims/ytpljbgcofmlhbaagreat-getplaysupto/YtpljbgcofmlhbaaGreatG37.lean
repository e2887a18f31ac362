/- A descent: the document's, HEAD and BODY. -/
import Derived.Test.YtpljbgcofmlhbaaGreatG36
namespace Go.Proofs.YtpljbgcofmlhbaaGreat
open Go.RowKit
set_option maxRecDepth 100000
def DhP (W : World) (P : Nat) (C : Value → Value → Value → Array Value) (p : NP) (r : Bool) (e : Ending) (w' : World) : Prop := ∃ t : Tx, MrP W P (C (.int .i64 p.lv) t.v (.int .i64 p.ri)) (.bool r) e w' ∧ t.s = p.hi ∧ OwnB w' W.heap.size 5 t.v t.s ∧ B8 t.s ∧ t.s.length ≤ 140737488351232
def DbP (W : World) (P : Nat) (C : Value → Value → Value → Array Value) (p : NP) (r : Bool) (e : Ending) (w' : World) : Prop := ∃ (k v : TL) (c : IL), MrP W P (C k.v v.v c.v) (.bool r) e w' ∧ k.p = p.ks ∧ v.p = p.vs ∧ c.s = p.cs ∧ k.Own w' W.heap.size ∧ v.Own w' W.heap.size ∧ w'.ownsRow W.heap.size 3 1 c.v c.s.length (c.s.map (Value.int .i64)) ∧
  (k.L.length * 24 ≤ 140737488352000 ∧ v.L.length * 24 ≤ 140737488352000 ∧ c.s.length * 8 ≤ 140737488352000)
section
variable {W : World} {P A : Nat} {F : Nat → Prop} {s : AS} {id : Int} {a0 a1 a2 a3 a4 a5 a6 a7 a8 a9 a10 a11 a12 a13 a14 : Value}
set_option maxHeartbeats 1600000 in
theorem rstep_head_not (h : W.heap[P]? = some (.cells #[a0, a1, a2, a3, a4, a5, a6, a7, a8, a9, a10, a11, a12, a13, a14] 196 (0, 0))) (ha : a0 = .pointer (some ⟨A, 0, none⟩)) (h3 : a3 = .int .i64 2) (hi : a4 = .int .i64 id) (hp : RX W A F s) (hin : ¬ s.inn id) : Calls Tryz.prog 66 #[.pointer (some ⟨P, 0, none⟩)] W (DhP W P (fun x0 x1 x2 => #[a0, a1, a2, .int .i64 5, a4, a5, x0, x1, x2, a9, a10, a11, a12, a13, a14]) (s.rd id) true) := by
 have HQ : Hid (∀ W', Below W.heap.size W W' → Calls Tryz.prog 115 #[.pointer (some ⟨A, 0, none⟩), .int .i64 id] W' (HdP2 W' (s.rd id) (s.wordE id))) := fun W' hb => rx_head (hp.below hb) id
 rw [show s.wordE id = 101 from if_neg hin] at HQ
 generalize s.rd id = p at *
 have hPl := lt_of_block h
 subst ha
 subst h3
 subst hi
 have c0 : W.cell? ⟨P, 0, none⟩ = some (.pointer (some ⟨A, 0, none⟩)) := by rw [cell_of_row _ _ _ _ _ _ h]; rfl
 have c3 : W.cell? ⟨P, 3, none⟩ = some (.int .i64 2) := by rw [cell_of_row _ _ _ _ _ _ h]; rfl
 have c4 : W.cell? ⟨P, 4, none⟩ = some (.int .i64 id) := by rw [cell_of_row _ _ _ _ _ _ h]; rfl
 have F0 := fun j => frozen_of h j
 have HH := hide h
 clear h hp
 go_enter Tryz.func66, Tryz.ntmps66
 go_wp2_with fail
 go_region_held3 (fun W' => W'.cell? ⟨P, 0, none⟩ = some (.pointer (some ⟨A, 0, none⟩)) ∧ W'.cell? ⟨P, 4, none⟩ = some (.int .i64 id)) (go_keep) (first
  | (go_at_call 115; refine (HQ.out _ (below_drew (Below.refl _ _))).mono ?_; rintro e w2 ⟨⟨ta, tc, ts⟩, rfl, ht1, ht2, ht3, ht4, hb2⟩; have g2 := (hb2.block P hPl).trans HH.out; have z0 : w2.cell? ⟨P, 0, none⟩ = some (.pointer (some ⟨A, 0, none⟩)) := (by rw [cell_of_row _ _ _ _ _ _ g2]; rfl); have z4 : w2.cell? ⟨P, 4, none⟩ = some (.int .i64 id) := (by rw [cell_of_row _ _ _ _ _ _ g2]; rfl); have z3 : w2.cell? ⟨P, 3, none⟩ = some (.int .i64 2) := (by rw [cell_of_row _ _ _ _ _ _ g2]; rfl); have z6 : w2.cell? ⟨P, 6, none⟩ = some (a6) := (by rw [cell_of_row _ _ _ _ _ _ g2]; rfl); have z7 : w2.cell? ⟨P, 7, none⟩ = some (a7) := (by rw [cell_of_row _ _ _ _ _ _ g2]; rfl); have z8 : w2.cell? ⟨P, 8, none⟩ = some (a8) := (by rw [cell_of_row _ _ _ _ _ _ g2]; rfl); have k0 : ∀ x y z, (((w2.setCell ⟨P, 6, none⟩ x).setCell ⟨P, 7, none⟩ y).setCell ⟨P, 8, none⟩ z).cell? ⟨P, 0, none⟩ = some (.pointer (some ⟨A, 0, none⟩)) := (fun x y z => by rw [cell_of_row _ _ _ _ _ _ (m15_8 (m15_7 (m15_6 g2 x) y) z)]; rfl); have k4 : ∀ x y z, (((w2.setCell ⟨P, 6, none⟩ x).setCell ⟨P, 7, none⟩ y).setCell ⟨P, 8, none⟩ z).cell? ⟨P, 4, none⟩ = some (.int .i64 id) := (fun x y z => by rw [cell_of_row _ _ _ _ _ _ (m15_8 (m15_7 (m15_6 g2 x) y) z)]; rfl); have k3 : ∀ x y z, (((((w2.setCell ⟨P, 6, none⟩ x).setCell ⟨P, 7, none⟩ y).setCell ⟨P, 8, none⟩ z).setCell ⟨P, 3, none⟩ (.int .i64 3)).setCell ⟨P, 3, none⟩ (.int .i64 5)).cell? ⟨P, 3, none⟩ = some (.int .i64 5) := (fun x y z => by rw [cell_of_row _ _ _ _ _ _ (m15_3 (m15_3 (m15_8 (m15_7 (m15_6 g2 x) y) z) _) _)]; rfl); have FF := (fun j => frozen_of g2 j); have B2 : Hid (Below W.heap.size W w2) := (below_drew (Below.refl _ _)).trans hb2; have G2 := hide g2; clear g2 hb2; simp only [Tx.v] at ht2 ⊢; have HT := hide (And.intro ht1 (And.intro ht2 (And.intro ht3 ht4))); clear ht1 ht2 ht3 ht4; obtain ⟨lt, hlt⟩ : ∃ lt, ts.length = lt := ⟨_, rfl⟩; rw [hlt]; replace hlt := hide hlt)
  | fail)
 clear HQ
 go_wp2_with fail
 go_ret
 have UU : Upd (fun k => k = P) W (((((w2.setCell ⟨P, 6, none⟩ (.int .i64 p.lv)).setCell ⟨P, 7, none⟩ (.slice ta lt tc)).setCell ⟨P, 8, none⟩ (.int .i64 p.ri)).setCell ⟨P, 3, none⟩ (.int .i64 3)).setCell ⟨P, 3, none⟩ (.int .i64 5)) := (updP (updP (updP (updP (updP (Upd.of_below B2.out _) _ _) _ _) _ _) _ _) _ _)
 have U2 : Upd (fun k => k = P) w2 (((((w2.setCell ⟨P, 6, none⟩ (.int .i64 p.lv)).setCell ⟨P, 7, none⟩ (.slice ta lt tc)).setCell ⟨P, 8, none⟩ (.int .i64 p.ri)).setCell ⟨P, 3, none⟩ (.int .i64 3)).setCell ⟨P, 3, none⟩ (.int .i64 5)) := (updP (updP (updP (updP (updP (Upd.refl _ _) _ _) _ _) _ _) _ _) _ _)
 refine ⟨⟨ta, tc, ts⟩, ⟨rfl, ?_, UU⟩, HT.out.1, ?_, HT.out.2.2.1, HT.out.2.2.2⟩
 ·simp only [Tx.v, hlt.out]
  exact (m15_3 (m15_3 (m15_8 (m15_7 (m15_6 G2.out _) _) _) _) _)
 ·simp only [Tx.v]
  exact ownB_upd' HT.out.2.1 U2 (fun b h1 _ e => by have : W.drew.heap.size = W.heap.size := rfl; omega)
set_option maxHeartbeats 1600000 in
theorem rstep_head_go (h : W.heap[P]? = some (.cells #[a0, a1, a2, a3, a4, a5, a6, a7, a8, a9, a10, a11, a12, a13, a14] 196 (0, 0))) (ha : a0 = .pointer (some ⟨A, 0, none⟩)) (h3 : a3 = .int .i64 2) (hi : a4 = .int .i64 id) (hp : RX W A F s) (hin : s.inn id) : Calls Tryz.prog 66 #[.pointer (some ⟨P, 0, none⟩)] W (DhP W P (fun x0 x1 x2 => #[a0, a1, a2, .int .i64 3, a4, a5, x0, x1, x2, a9, a10, a11, a12, a13, a14]) (s.rd id) false) := by
 have HQ : Hid (∀ W', Below W.heap.size W W' → Calls Tryz.prog 115 #[.pointer (some ⟨A, 0, none⟩), .int .i64 id] W' (HdP2 W' (s.rd id) (s.wordE id))) := fun W' hb => rx_head (hp.below hb) id
 rw [show s.wordE id = 0 from if_pos hin] at HQ
 generalize s.rd id = p at *
 have hPl := lt_of_block h
 subst ha
 subst h3
 subst hi
 have c0 : W.cell? ⟨P, 0, none⟩ = some (.pointer (some ⟨A, 0, none⟩)) := by rw [cell_of_row _ _ _ _ _ _ h]; rfl
 have c3 : W.cell? ⟨P, 3, none⟩ = some (.int .i64 2) := by rw [cell_of_row _ _ _ _ _ _ h]; rfl
 have c4 : W.cell? ⟨P, 4, none⟩ = some (.int .i64 id) := by rw [cell_of_row _ _ _ _ _ _ h]; rfl
 have F0 := fun j => frozen_of h j
 have HH := hide h
 clear h hp
 go_enter Tryz.func66, Tryz.ntmps66
 go_wp2_with fail
 go_region_held3 (fun W' => W'.cell? ⟨P, 0, none⟩ = some (.pointer (some ⟨A, 0, none⟩)) ∧ W'.cell? ⟨P, 4, none⟩ = some (.int .i64 id)) (go_keep) (first
  | (go_at_call 115; refine (HQ.out _ (below_drew (Below.refl _ _))).mono ?_; rintro e w2 ⟨⟨ta, tc, ts⟩, rfl, ht1, ht2, ht3, ht4, hb2⟩; have g2 := (hb2.block P hPl).trans HH.out; have z0 : w2.cell? ⟨P, 0, none⟩ = some (.pointer (some ⟨A, 0, none⟩)) := (by rw [cell_of_row _ _ _ _ _ _ g2]; rfl); have z4 : w2.cell? ⟨P, 4, none⟩ = some (.int .i64 id) := (by rw [cell_of_row _ _ _ _ _ _ g2]; rfl); have z3 : w2.cell? ⟨P, 3, none⟩ = some (.int .i64 2) := (by rw [cell_of_row _ _ _ _ _ _ g2]; rfl); have z6 : w2.cell? ⟨P, 6, none⟩ = some (a6) := (by rw [cell_of_row _ _ _ _ _ _ g2]; rfl); have z7 : w2.cell? ⟨P, 7, none⟩ = some (a7) := (by rw [cell_of_row _ _ _ _ _ _ g2]; rfl); have z8 : w2.cell? ⟨P, 8, none⟩ = some (a8) := (by rw [cell_of_row _ _ _ _ _ _ g2]; rfl); have k0 : ∀ x y z, (((w2.setCell ⟨P, 6, none⟩ x).setCell ⟨P, 7, none⟩ y).setCell ⟨P, 8, none⟩ z).cell? ⟨P, 0, none⟩ = some (.pointer (some ⟨A, 0, none⟩)) := (fun x y z => by rw [cell_of_row _ _ _ _ _ _ (m15_8 (m15_7 (m15_6 g2 x) y) z)]; rfl); have k4 : ∀ x y z, (((w2.setCell ⟨P, 6, none⟩ x).setCell ⟨P, 7, none⟩ y).setCell ⟨P, 8, none⟩ z).cell? ⟨P, 4, none⟩ = some (.int .i64 id) := (fun x y z => by rw [cell_of_row _ _ _ _ _ _ (m15_8 (m15_7 (m15_6 g2 x) y) z)]; rfl); have k3 : ∀ x y z, (((((w2.setCell ⟨P, 6, none⟩ x).setCell ⟨P, 7, none⟩ y).setCell ⟨P, 8, none⟩ z).setCell ⟨P, 3, none⟩ (.int .i64 3)).setCell ⟨P, 3, none⟩ (.int .i64 5)).cell? ⟨P, 3, none⟩ = some (.int .i64 5) := (fun x y z => by rw [cell_of_row _ _ _ _ _ _ (m15_3 (m15_3 (m15_8 (m15_7 (m15_6 g2 x) y) z) _) _)]; rfl); have FF := (fun j => frozen_of g2 j); have B2 : Hid (Below W.heap.size W w2) := (below_drew (Below.refl _ _)).trans hb2; have G2 := hide g2; clear g2 hb2; simp only [Tx.v] at ht2 ⊢; have HT := hide (And.intro ht1 (And.intro ht2 (And.intro ht3 ht4))); clear ht1 ht2 ht3 ht4; obtain ⟨lt, hlt⟩ : ∃ lt, ts.length = lt := ⟨_, rfl⟩; rw [hlt]; replace hlt := hide hlt)
  | fail)
 clear HQ
 go_wp2_with fail
 go_ret
 have UU : Upd (fun k => k = P) W ((((w2.setCell ⟨P, 6, none⟩ (.int .i64 p.lv)).setCell ⟨P, 7, none⟩ (.slice ta lt tc)).setCell ⟨P, 8, none⟩ (.int .i64 p.ri)).setCell ⟨P, 3, none⟩ (.int .i64 3)) := (updP (updP (updP (updP (Upd.of_below B2.out _) _ _) _ _) _ _) _ _)
 have U2 : Upd (fun k => k = P) w2 ((((w2.setCell ⟨P, 6, none⟩ (.int .i64 p.lv)).setCell ⟨P, 7, none⟩ (.slice ta lt tc)).setCell ⟨P, 8, none⟩ (.int .i64 p.ri)).setCell ⟨P, 3, none⟩ (.int .i64 3)) := (updP (updP (updP (updP (Upd.refl _ _) _ _) _ _) _ _) _ _)
 refine ⟨⟨ta, tc, ts⟩, ⟨rfl, ?_, UU⟩, HT.out.1, ?_, HT.out.2.2.1, HT.out.2.2.2⟩
 ·simp only [Tx.v, hlt.out]
  exact (m15_3 (m15_8 (m15_7 (m15_6 G2.out _) _) _) _)
 ·simp only [Tx.v]
  exact ownB_upd' HT.out.2.1 U2 (fun b h1 _ e => by have : W.drew.heap.size = W.heap.size := rfl; omega)
set_option maxHeartbeats 1600000 in
theorem rstep_body_not (h : W.heap[P]? = some (.cells #[a0, a1, a2, a3, a4, a5, a6, a7, a8, a9, a10, a11, a12, a13, a14] 196 (0, 0))) (ha : a0 = .pointer (some ⟨A, 0, none⟩)) (h3 : a3 = .int .i64 3) (hi : a4 = .int .i64 id) (hp : RX W A F s) (hin : ¬ s.inn id) : Calls Tryz.prog 66 #[.pointer (some ⟨P, 0, none⟩)] W (DbP W P (fun x0 x1 x2 => #[a0, a1, a2, .int .i64 5, a4, a5, a6, a7, a8, x0, x1, x2, a12, a13, a14]) (s.rd id) true) := by
 have HQ : Hid (∀ W', Below W.heap.size W W' → Calls Tryz.prog 116 #[.pointer (some ⟨A, 0, none⟩), .int .i64 id] W' (BdP2 W' (s.rd id) (s.wordE id))) := fun W' hb => rx_body (hp.below hb) id
 rw [show s.wordE id = 101 from if_neg hin] at HQ
 generalize s.rd id = p at *
 have hPl := lt_of_block h
 subst ha
 subst h3
 subst hi
 have c0 : W.cell? ⟨P, 0, none⟩ = some (.pointer (some ⟨A, 0, none⟩)) := by rw [cell_of_row _ _ _ _ _ _ h]; rfl
 have c3 : W.cell? ⟨P, 3, none⟩ = some (.int .i64 3) := by rw [cell_of_row _ _ _ _ _ _ h]; rfl
 have c4 : W.cell? ⟨P, 4, none⟩ = some (.int .i64 id) := by rw [cell_of_row _ _ _ _ _ _ h]; rfl
 have F0 := fun j => frozen_of h j
 have HH := hide h
 clear h hp
 go_enter Tryz.func66, Tryz.ntmps66
 go_wp2_with fail
 go_region_held3 (fun W' => W'.cell? ⟨P, 0, none⟩ = some (.pointer (some ⟨A, 0, none⟩)) ∧ W'.cell? ⟨P, 4, none⟩ = some (.int .i64 id)) (go_keep) (first
  | (go_at_call 116; refine (HQ.out _ (below_drew (Below.refl _ _))).mono ?_; rintro e w2 ⟨⟨k8, kc8, K8⟩, ⟨v8, vc8, V8⟩, ⟨c8, cc8, C8⟩, rfl, hk1, hk2, hk3, ho1, ho2, ho3, hz8, hb2⟩; have g2 := (hb2.block P hPl).trans HH.out; have z0 : w2.cell? ⟨P, 0, none⟩ = some (.pointer (some ⟨A, 0, none⟩)) := (by rw [cell_of_row _ _ _ _ _ _ g2]; rfl); have z4 : w2.cell? ⟨P, 4, none⟩ = some (.int .i64 id) := (by rw [cell_of_row _ _ _ _ _ _ g2]; rfl); have z3 : w2.cell? ⟨P, 3, none⟩ = some (.int .i64 3) := (by rw [cell_of_row _ _ _ _ _ _ g2]; rfl); have z9 : w2.cell? ⟨P, 9, none⟩ = some (a9) := (by rw [cell_of_row _ _ _ _ _ _ g2]; rfl); have z10 : w2.cell? ⟨P, 10, none⟩ = some (a10) := (by rw [cell_of_row _ _ _ _ _ _ g2]; rfl); have z11 : w2.cell? ⟨P, 11, none⟩ = some (a11) := (by rw [cell_of_row _ _ _ _ _ _ g2]; rfl); have k0 : ∀ x y z, (((w2.setCell ⟨P, 9, none⟩ x).setCell ⟨P, 10, none⟩ y).setCell ⟨P, 11, none⟩ z).cell? ⟨P, 0, none⟩ = some (.pointer (some ⟨A, 0, none⟩)) := (fun x y z => by rw [cell_of_row _ _ _ _ _ _ (m15_11 (m15_10 (m15_9 g2 x) y) z)]; rfl); have k4 : ∀ x y z, (((w2.setCell ⟨P, 9, none⟩ x).setCell ⟨P, 10, none⟩ y).setCell ⟨P, 11, none⟩ z).cell? ⟨P, 4, none⟩ = some (.int .i64 id) := (fun x y z => by rw [cell_of_row _ _ _ _ _ _ (m15_11 (m15_10 (m15_9 g2 x) y) z)]; rfl); have k3 : ∀ x y z, (((((w2.setCell ⟨P, 9, none⟩ x).setCell ⟨P, 10, none⟩ y).setCell ⟨P, 11, none⟩ z).setCell ⟨P, 3, none⟩ (.int .i64 4)).setCell ⟨P, 3, none⟩ (.int .i64 5)).cell? ⟨P, 3, none⟩ = some (.int .i64 5) := (fun x y z => by rw [cell_of_row _ _ _ _ _ _ (m15_3 (m15_3 (m15_11 (m15_10 (m15_9 g2 x) y) z) _) _)]; rfl); have FF := (fun j => frozen_of g2 j); have B2 : Hid (Below W.heap.size W w2) := (below_drew (Below.refl _ _)).trans hb2; have G2 := hide g2; clear g2 hb2; simp only [TL.v, IL.v] at ho3 ⊢; have HT := hide (And.intro (And.intro hk1 (And.intro hk2 hk3)) (And.intro (And.intro ho1 (And.intro ho2 ho3)) hz8)); clear hk1 hk2 hk3 ho1 ho2 ho3 hz8; obtain ⟨l1, hl1⟩ : ∃ l1, K8.length = l1 := ⟨_, rfl⟩; obtain ⟨l2, hl2⟩ : ∃ l2, V8.length = l2 := ⟨_, rfl⟩; obtain ⟨l3, hl3⟩ : ∃ l3, C8.length = l3 := ⟨_, rfl⟩; rw [hl1, hl2, hl3]; have hlt := hide (And.intro hl1 (And.intro hl2 hl3)); clear hl1 hl2 hl3)
  | fail)
 clear HQ
 go_wp2_with fail
 go_ret
 have UU : Upd (fun k => k = P) W (((((w2.setCell ⟨P, 9, none⟩ (.slice k8 l1 kc8)).setCell ⟨P, 10, none⟩ (.slice v8 l2 vc8)).setCell ⟨P, 11, none⟩ (.slice c8 l3 cc8)).setCell ⟨P, 3, none⟩ (.int .i64 4)).setCell ⟨P, 3, none⟩ (.int .i64 5)) := (updP (updP (updP (updP (updP (Upd.of_below B2.out _) _ _) _ _) _ _) _ _) _ _)
 have U2 : Upd (fun k => k = P) w2 (((((w2.setCell ⟨P, 9, none⟩ (.slice k8 l1 kc8)).setCell ⟨P, 10, none⟩ (.slice v8 l2 vc8)).setCell ⟨P, 11, none⟩ (.slice c8 l3 cc8)).setCell ⟨P, 3, none⟩ (.int .i64 4)).setCell ⟨P, 3, none⟩ (.int .i64 5)) := (updP (updP (updP (updP (updP (Upd.refl _ _) _ _) _ _) _ _) _ _) _ _)
 refine ⟨⟨k8, kc8, K8⟩, ⟨v8, vc8, V8⟩, ⟨c8, cc8, C8⟩, ⟨rfl, ?_, UU⟩, HT.out.1.1, HT.out.1.2.1, HT.out.1.2.2, ?_, ?_, ?_, HT.out.2.2⟩
 ·simp only [TL.v, IL.v, hlt.out.1, hlt.out.2.1, hlt.out.2.2]
  exact (m15_3 (m15_3 (m15_11 (m15_10 (m15_9 G2.out _) _) _) _) _)
 ·exact HT.out.2.1.1.upd U2 (fun b h1 _ e => by have : W.drew.heap.size = W.heap.size := rfl; omega)
 ·exact HT.out.2.1.2.1.upd U2 (fun b h1 _ e => by have : W.drew.heap.size = W.heap.size := rfl; omega)
 ·exact ownsI_upd HT.out.2.1.2.2 U2 (fun b h1 _ e => by have : W.drew.heap.size = W.heap.size := rfl; omega)
set_option maxHeartbeats 1600000 in
theorem rstep_body_go (h : W.heap[P]? = some (.cells #[a0, a1, a2, a3, a4, a5, a6, a7, a8, a9, a10, a11, a12, a13, a14] 196 (0, 0))) (ha : a0 = .pointer (some ⟨A, 0, none⟩)) (h3 : a3 = .int .i64 3) (hi : a4 = .int .i64 id) (hp : RX W A F s) (hin : s.inn id) : Calls Tryz.prog 66 #[.pointer (some ⟨P, 0, none⟩)] W (DbP W P (fun x0 x1 x2 => #[a0, a1, a2, .int .i64 4, a4, a5, a6, a7, a8, x0, x1, x2, a12, a13, a14]) (s.rd id) false) := by
 have HQ : Hid (∀ W', Below W.heap.size W W' → Calls Tryz.prog 116 #[.pointer (some ⟨A, 0, none⟩), .int .i64 id] W' (BdP2 W' (s.rd id) (s.wordE id))) := fun W' hb => rx_body (hp.below hb) id
 rw [show s.wordE id = 0 from if_pos hin] at HQ
 generalize s.rd id = p at *
 have hPl := lt_of_block h
 subst ha
 subst h3
 subst hi
 have c0 : W.cell? ⟨P, 0, none⟩ = some (.pointer (some ⟨A, 0, none⟩)) := by rw [cell_of_row _ _ _ _ _ _ h]; rfl
 have c3 : W.cell? ⟨P, 3, none⟩ = some (.int .i64 3) := by rw [cell_of_row _ _ _ _ _ _ h]; rfl
 have c4 : W.cell? ⟨P, 4, none⟩ = some (.int .i64 id) := by rw [cell_of_row _ _ _ _ _ _ h]; rfl
 have F0 := fun j => frozen_of h j
 have HH := hide h
 clear h hp
 go_enter Tryz.func66, Tryz.ntmps66
 go_wp2_with fail
 go_region_held3 (fun W' => W'.cell? ⟨P, 0, none⟩ = some (.pointer (some ⟨A, 0, none⟩)) ∧ W'.cell? ⟨P, 4, none⟩ = some (.int .i64 id)) (go_keep) (first
  | (go_at_call 116; refine (HQ.out _ (below_drew (Below.refl _ _))).mono ?_; rintro e w2 ⟨⟨k8, kc8, K8⟩, ⟨v8, vc8, V8⟩, ⟨c8, cc8, C8⟩, rfl, hk1, hk2, hk3, ho1, ho2, ho3, hz8, hb2⟩; have g2 := (hb2.block P hPl).trans HH.out; have z0 : w2.cell? ⟨P, 0, none⟩ = some (.pointer (some ⟨A, 0, none⟩)) := (by rw [cell_of_row _ _ _ _ _ _ g2]; rfl); have z4 : w2.cell? ⟨P, 4, none⟩ = some (.int .i64 id) := (by rw [cell_of_row _ _ _ _ _ _ g2]; rfl); have z3 : w2.cell? ⟨P, 3, none⟩ = some (.int .i64 3) := (by rw [cell_of_row _ _ _ _ _ _ g2]; rfl); have z9 : w2.cell? ⟨P, 9, none⟩ = some (a9) := (by rw [cell_of_row _ _ _ _ _ _ g2]; rfl); have z10 : w2.cell? ⟨P, 10, none⟩ = some (a10) := (by rw [cell_of_row _ _ _ _ _ _ g2]; rfl); have z11 : w2.cell? ⟨P, 11, none⟩ = some (a11) := (by rw [cell_of_row _ _ _ _ _ _ g2]; rfl); have k0 : ∀ x y z, (((w2.setCell ⟨P, 9, none⟩ x).setCell ⟨P, 10, none⟩ y).setCell ⟨P, 11, none⟩ z).cell? ⟨P, 0, none⟩ = some (.pointer (some ⟨A, 0, none⟩)) := (fun x y z => by rw [cell_of_row _ _ _ _ _ _ (m15_11 (m15_10 (m15_9 g2 x) y) z)]; rfl); have k4 : ∀ x y z, (((w2.setCell ⟨P, 9, none⟩ x).setCell ⟨P, 10, none⟩ y).setCell ⟨P, 11, none⟩ z).cell? ⟨P, 4, none⟩ = some (.int .i64 id) := (fun x y z => by rw [cell_of_row _ _ _ _ _ _ (m15_11 (m15_10 (m15_9 g2 x) y) z)]; rfl); have k3 : ∀ x y z, (((((w2.setCell ⟨P, 9, none⟩ x).setCell ⟨P, 10, none⟩ y).setCell ⟨P, 11, none⟩ z).setCell ⟨P, 3, none⟩ (.int .i64 4)).setCell ⟨P, 3, none⟩ (.int .i64 5)).cell? ⟨P, 3, none⟩ = some (.int .i64 5) := (fun x y z => by rw [cell_of_row _ _ _ _ _ _ (m15_3 (m15_3 (m15_11 (m15_10 (m15_9 g2 x) y) z) _) _)]; rfl); have FF := (fun j => frozen_of g2 j); have B2 : Hid (Below W.heap.size W w2) := (below_drew (Below.refl _ _)).trans hb2; have G2 := hide g2; clear g2 hb2; simp only [TL.v, IL.v] at ho3 ⊢; have HT := hide (And.intro (And.intro hk1 (And.intro hk2 hk3)) (And.intro (And.intro ho1 (And.intro ho2 ho3)) hz8)); clear hk1 hk2 hk3 ho1 ho2 ho3 hz8; obtain ⟨l1, hl1⟩ : ∃ l1, K8.length = l1 := ⟨_, rfl⟩; obtain ⟨l2, hl2⟩ : ∃ l2, V8.length = l2 := ⟨_, rfl⟩; obtain ⟨l3, hl3⟩ : ∃ l3, C8.length = l3 := ⟨_, rfl⟩; rw [hl1, hl2, hl3]; have hlt := hide (And.intro hl1 (And.intro hl2 hl3)); clear hl1 hl2 hl3)
  | fail)
 clear HQ
 go_wp2_with fail
 go_ret
 have UU : Upd (fun k => k = P) W ((((w2.setCell ⟨P, 9, none⟩ (.slice k8 l1 kc8)).setCell ⟨P, 10, none⟩ (.slice v8 l2 vc8)).setCell ⟨P, 11, none⟩ (.slice c8 l3 cc8)).setCell ⟨P, 3, none⟩ (.int .i64 4)) := (updP (updP (updP (updP (Upd.of_below B2.out _) _ _) _ _) _ _) _ _)
 have U2 : Upd (fun k => k = P) w2 ((((w2.setCell ⟨P, 9, none⟩ (.slice k8 l1 kc8)).setCell ⟨P, 10, none⟩ (.slice v8 l2 vc8)).setCell ⟨P, 11, none⟩ (.slice c8 l3 cc8)).setCell ⟨P, 3, none⟩ (.int .i64 4)) := (updP (updP (updP (updP (Upd.refl _ _) _ _) _ _) _ _) _ _)
 refine ⟨⟨k8, kc8, K8⟩, ⟨v8, vc8, V8⟩, ⟨c8, cc8, C8⟩, ⟨rfl, ?_, UU⟩, HT.out.1.1, HT.out.1.2.1, HT.out.1.2.2, ?_, ?_, ?_, HT.out.2.2⟩
 ·simp only [TL.v, IL.v, hlt.out.1, hlt.out.2.1, hlt.out.2.2]
  exact (m15_3 (m15_11 (m15_10 (m15_9 G2.out _) _) _) _)
 ·exact HT.out.2.1.1.upd U2 (fun b h1 _ e => by have : W.drew.heap.size = W.heap.size := rfl; omega)
 ·exact HT.out.2.1.2.1.upd U2 (fun b h1 _ e => by have : W.drew.heap.size = W.heap.size := rfl; omega)
 ·exact ownsI_upd HT.out.2.1.2.2 U2 (fun b h1 _ e => by have : W.drew.heap.size = W.heap.size := rfl; omega)
end
end Go.Proofs.YtpljbgcofmlhbaaGreat
