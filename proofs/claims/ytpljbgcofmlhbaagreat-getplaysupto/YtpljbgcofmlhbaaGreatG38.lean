/- A descent: the document's decide. -/
import Derived.Test.YtpljbgcofmlhbaaGreatG37
namespace Go.Proofs.YtpljbgcofmlhbaaGreat
open Go.RowKit
set_option maxRecDepth 100000
section
variable {W : World} {P : Nat} {lev : Int} {wd an mo now : Nat} {a0 a3 a4 a12 : Value}
set_option maxRecDepth 100000 in
set_option maxHeartbeats 1600000 in
theorem decide_anew (n : Nd) (k : Tx) (h : W.heap[P]? = some (.cells #[a0, k.v, .int .i64 lev, a3, a4, .int .u64 (wd : Nat), .int .i64 n.lv, n.hi.v, .int .i64 n.ri, n.ks.v, n.vs.v, n.cs.v, a12, .int .i64 (an : Nat), .int .i64 (mo : Nat)] 196 (0, 0))) (hn : n.Ok W) (hk : k.Ok W) (han : an < 4611686018427387904) (hne : ¬ now = wd) : Calls Tryz.prog 117 #[.pointer (some ⟨P, 0, none⟩), .int .u64 (now : Nat)] W (MrP W P #[a0, k.v, .int .i64 lev, .int .i64 0, a4, .int .u64 (wd : Nat), .int .i64 n.lv, n.hi.v, .int .i64 n.ri, n.ks.v, n.vs.v, n.cs.v, a12, .int .i64 ((an + 1 : Nat) : Int), .int .i64 (mo : Nat)] (.tuple #[])) := by
 have HBE : Hid (∀ W', Below W.heap.size W W' → Calls Tryz.prog 147 #[n.v, k.v] W' fun e w' => e = .returned (.bool (beyB n.hi.s k.s)) ∧ Below W'.heap.size W' w') := fun W' hb => rbeyond_any n k W' (hn.below hb) (hk.below hb)
 have HCH : Hid (∀ W', Below W.heap.size W W' → Calls Tryz.prog 148 #[n.v, k.v] W' fun e w' => e = .returned (.int .i64 (chiN n.ks.p n.cs.s k.s)) ∧ Below W'.heap.size W' w') := fun W' hb => rchild_any n k W' (hn.below hb) (hk.below hb)
 generalize beyB n.hi.s k.s = bey at *
 generalize chiN n.ks.p n.cs.s k.s = chi at *
 clear hn hk
 obtain ⟨lv, ⟨ha, hc, hs⟩, ri, ⟨ka, kc, K⟩, ⟨va, vc, V⟩, ⟨ca, cc, C⟩⟩ := n
 obtain ⟨xa, xc, xs⟩ := k
 simp only [Nd.v, Tx.v, TL.v, IL.v] at *
 generalize hs.length = lh at *
 generalize K.length = lk at *
 generalize V.length = lw at *
 generalize C.length = lc at *
 generalize xs.length = lx at *
 have c1 : W.cell? ⟨P, 1, none⟩ = some (.slice xa lx xc) := (by rw [cell_of_row _ _ _ _ _ _ h]; rfl)
 have c6 : W.cell? ⟨P, 6, none⟩ = some (.int .i64 lv) := (by rw [cell_of_row _ _ _ _ _ _ h]; rfl)
 have c7 : W.cell? ⟨P, 7, none⟩ = some (.slice ha lh hc) := (by rw [cell_of_row _ _ _ _ _ _ h]; rfl)
 have c8 : W.cell? ⟨P, 8, none⟩ = some (.int .i64 ri) := (by rw [cell_of_row _ _ _ _ _ _ h]; rfl)
 have c9 : W.cell? ⟨P, 9, none⟩ = some (.slice ka lk kc) := (by rw [cell_of_row _ _ _ _ _ _ h]; rfl)
 have c10 : W.cell? ⟨P, 10, none⟩ = some (.slice va lw vc) := (by rw [cell_of_row _ _ _ _ _ _ h]; rfl)
 have c11 : W.cell? ⟨P, 11, none⟩ = some (.slice ca lc cc) := (by rw [cell_of_row _ _ _ _ _ _ h]; rfl)
 have BW : Hid (Below W.heap.size W W) := Below.refl _ _
 have HW := hide h
 clear h
 go_enter Tryz.func117, Tryz.ntmps117
 go_wp2_with fail
 go_region_held3 (fun W' => W'.cell? ⟨P, 6, none⟩ = some (.int .i64 lv) ∧ W'.cell? ⟨P, 7, none⟩ = some (.slice ha lh hc) ∧ W'.cell? ⟨P, 8, none⟩ = some (.int .i64 ri) ∧ W'.cell? ⟨P, 9, none⟩ = some (.slice ka lk kc) ∧ W'.cell? ⟨P, 10, none⟩ = some (.slice va lw vc) ∧ W'.cell? ⟨P, 11, none⟩ = some (.slice ca lc cc) ∧ W'.cell? ⟨P, 1, none⟩ = some (.slice xa lx xc)) (go_keep) (first
  | (go_at_call 147; refine (HBE.out _ (below_drew BW.out)).mono ?_; rintro e w1 ⟨rfl, b⟩; have Bw1 : Hid (Below W.heap.size W w1) := (below_drew BW.out).trans (b.mono BW.out.size); have Hw1 : Hid (w1.heap[P]? = some (.cells #[a0, .slice xa lx xc, .int .i64 lev, a3, a4, .int .u64 (wd : Nat), .int .i64 lv, .slice ha lh hc, .int .i64 ri, .slice ka lk kc, .slice va lw vc, .slice ca lc cc, a12, .int .i64 (an : Nat), .int .i64 (mo : Nat)] 196 (0, 0))) := (b.block _ (lt_of_block HW.out)).trans HW.out; have d1 : w1.cell? ⟨P, 1, none⟩ = some (.slice xa lx xc) := (by rw [cell_of_row _ _ _ _ _ _ Hw1.out]; rfl); have d2 : w1.cell? ⟨P, 2, none⟩ = some (.int .i64 lev) := (by rw [cell_of_row _ _ _ _ _ _ Hw1.out]; rfl); have d6 : w1.cell? ⟨P, 6, none⟩ = some (.int .i64 lv) := (by rw [cell_of_row _ _ _ _ _ _ Hw1.out]; rfl); have d7 : w1.cell? ⟨P, 7, none⟩ = some (.slice ha lh hc) := (by rw [cell_of_row _ _ _ _ _ _ Hw1.out]; rfl); have d8 : w1.cell? ⟨P, 8, none⟩ = some (.int .i64 ri) := (by rw [cell_of_row _ _ _ _ _ _ Hw1.out]; rfl); have d9 : w1.cell? ⟨P, 9, none⟩ = some (.slice ka lk kc) := (by rw [cell_of_row _ _ _ _ _ _ Hw1.out]; rfl); have d10 : w1.cell? ⟨P, 10, none⟩ = some (.slice va lw vc) := (by rw [cell_of_row _ _ _ _ _ _ Hw1.out]; rfl); have d11 : w1.cell? ⟨P, 11, none⟩ = some (.slice ca lc cc) := (by rw [cell_of_row _ _ _ _ _ _ Hw1.out]; rfl); clear b)
  | fail)
 clear c1 c6 c7 c8 c9 c10 c11 HBE
 have d5 : w1.cell? ⟨P, 5, none⟩ = some (.int .u64 (wd : Nat)) := (by rw [cell_of_row _ _ _ _ _ _ Hw1.out]; rfl)
 have F1 := fun j => frozen_of Hw1.out j
 have d13 : w1.cell? ⟨P, 13, none⟩ = some (.int .i64 (an : Nat)) := (by rw [cell_of_row _ _ _ _ _ _ Hw1.out]; rfl)
 have d3 : w1.cell? ⟨P, 3, none⟩ = some (a3) := (by rw [cell_of_row _ _ _ _ _ _ Hw1.out]; rfl)
 have j1 : ¬ (now : Int) = (wd : Int) := by omega
 have j2 : IntKind.i64.wrap ((an : Int) + 1) = (an : Int) + 1 := by rw [IntKind.wrap_i64]; omega
 clear hne han
 go_wp2_with fail
 go_end0
 exact ⟨rfl, (m15_3 (m15_13 Hw1.out _) _), (updP (updP (Upd.of_below Bw1.out _) _ _) _ _)⟩
set_option maxRecDepth 100000 in
set_option maxHeartbeats 1600000 in
theorem decide_low (n : Nd) (k : Tx) (h : W.heap[P]? = some (.cells #[a0, k.v, .int .i64 lev, a3, a4, .int .u64 (wd : Nat), .int .i64 n.lv, n.hi.v, .int .i64 n.ri, n.ks.v, n.vs.v, n.cs.v, a12, .int .i64 (an : Nat), .int .i64 (mo : Nat)] 196 (0, 0))) (hn : n.Ok W) (hk : k.Ok W) (hlv : n.lv < lev) : Calls Tryz.prog 117 #[.pointer (some ⟨P, 0, none⟩), .int .u64 (wd : Nat)] W (MrP W P #[a0, k.v, .int .i64 lev, .int .i64 5, a4, .int .u64 (wd : Nat), .int .i64 n.lv, n.hi.v, .int .i64 n.ri, n.ks.v, n.vs.v, n.cs.v, a12, .int .i64 (an : Nat), .int .i64 (mo : Nat)] (.tuple #[])) := by
 have HBE : Hid (∀ W', Below W.heap.size W W' → Calls Tryz.prog 147 #[n.v, k.v] W' fun e w' => e = .returned (.bool (beyB n.hi.s k.s)) ∧ Below W'.heap.size W' w') := fun W' hb => rbeyond_any n k W' (hn.below hb) (hk.below hb)
 have HCH : Hid (∀ W', Below W.heap.size W W' → Calls Tryz.prog 148 #[n.v, k.v] W' fun e w' => e = .returned (.int .i64 (chiN n.ks.p n.cs.s k.s)) ∧ Below W'.heap.size W' w') := fun W' hb => rchild_any n k W' (hn.below hb) (hk.below hb)
 generalize beyB n.hi.s k.s = bey at *
 generalize chiN n.ks.p n.cs.s k.s = chi at *
 clear hn hk
 obtain ⟨lv, ⟨ha, hc, hs⟩, ri, ⟨ka, kc, K⟩, ⟨va, vc, V⟩, ⟨ca, cc, C⟩⟩ := n
 obtain ⟨xa, xc, xs⟩ := k
 simp only [Nd.v, Tx.v, TL.v, IL.v] at *
 generalize hs.length = lh at *
 generalize K.length = lk at *
 generalize V.length = lw at *
 generalize C.length = lc at *
 generalize xs.length = lx at *
 have c1 : W.cell? ⟨P, 1, none⟩ = some (.slice xa lx xc) := (by rw [cell_of_row _ _ _ _ _ _ h]; rfl)
 have c6 : W.cell? ⟨P, 6, none⟩ = some (.int .i64 lv) := (by rw [cell_of_row _ _ _ _ _ _ h]; rfl)
 have c7 : W.cell? ⟨P, 7, none⟩ = some (.slice ha lh hc) := (by rw [cell_of_row _ _ _ _ _ _ h]; rfl)
 have c8 : W.cell? ⟨P, 8, none⟩ = some (.int .i64 ri) := (by rw [cell_of_row _ _ _ _ _ _ h]; rfl)
 have c9 : W.cell? ⟨P, 9, none⟩ = some (.slice ka lk kc) := (by rw [cell_of_row _ _ _ _ _ _ h]; rfl)
 have c10 : W.cell? ⟨P, 10, none⟩ = some (.slice va lw vc) := (by rw [cell_of_row _ _ _ _ _ _ h]; rfl)
 have c11 : W.cell? ⟨P, 11, none⟩ = some (.slice ca lc cc) := (by rw [cell_of_row _ _ _ _ _ _ h]; rfl)
 have BW : Hid (Below W.heap.size W W) := Below.refl _ _
 have HW := hide h
 clear h
 go_enter Tryz.func117, Tryz.ntmps117
 go_wp2_with fail
 go_region_held3 (fun W' => W'.cell? ⟨P, 6, none⟩ = some (.int .i64 lv) ∧ W'.cell? ⟨P, 7, none⟩ = some (.slice ha lh hc) ∧ W'.cell? ⟨P, 8, none⟩ = some (.int .i64 ri) ∧ W'.cell? ⟨P, 9, none⟩ = some (.slice ka lk kc) ∧ W'.cell? ⟨P, 10, none⟩ = some (.slice va lw vc) ∧ W'.cell? ⟨P, 11, none⟩ = some (.slice ca lc cc) ∧ W'.cell? ⟨P, 1, none⟩ = some (.slice xa lx xc)) (go_keep) (first
  | (go_at_call 147; refine (HBE.out _ (below_drew BW.out)).mono ?_; rintro e w1 ⟨rfl, b⟩; have Bw1 : Hid (Below W.heap.size W w1) := (below_drew BW.out).trans (b.mono BW.out.size); have Hw1 : Hid (w1.heap[P]? = some (.cells #[a0, .slice xa lx xc, .int .i64 lev, a3, a4, .int .u64 (wd : Nat), .int .i64 lv, .slice ha lh hc, .int .i64 ri, .slice ka lk kc, .slice va lw vc, .slice ca lc cc, a12, .int .i64 (an : Nat), .int .i64 (mo : Nat)] 196 (0, 0))) := (b.block _ (lt_of_block HW.out)).trans HW.out; have d1 : w1.cell? ⟨P, 1, none⟩ = some (.slice xa lx xc) := (by rw [cell_of_row _ _ _ _ _ _ Hw1.out]; rfl); have d2 : w1.cell? ⟨P, 2, none⟩ = some (.int .i64 lev) := (by rw [cell_of_row _ _ _ _ _ _ Hw1.out]; rfl); have d6 : w1.cell? ⟨P, 6, none⟩ = some (.int .i64 lv) := (by rw [cell_of_row _ _ _ _ _ _ Hw1.out]; rfl); have d7 : w1.cell? ⟨P, 7, none⟩ = some (.slice ha lh hc) := (by rw [cell_of_row _ _ _ _ _ _ Hw1.out]; rfl); have d8 : w1.cell? ⟨P, 8, none⟩ = some (.int .i64 ri) := (by rw [cell_of_row _ _ _ _ _ _ Hw1.out]; rfl); have d9 : w1.cell? ⟨P, 9, none⟩ = some (.slice ka lk kc) := (by rw [cell_of_row _ _ _ _ _ _ Hw1.out]; rfl); have d10 : w1.cell? ⟨P, 10, none⟩ = some (.slice va lw vc) := (by rw [cell_of_row _ _ _ _ _ _ Hw1.out]; rfl); have d11 : w1.cell? ⟨P, 11, none⟩ = some (.slice ca lc cc) := (by rw [cell_of_row _ _ _ _ _ _ Hw1.out]; rfl); clear b)
  | fail)
 clear c1 c6 c7 c8 c9 c10 c11 HBE
 have d5 : w1.cell? ⟨P, 5, none⟩ = some (.int .u64 (wd : Nat)) := (by rw [cell_of_row _ _ _ _ _ _ Hw1.out]; rfl)
 have F1 := fun j => frozen_of Hw1.out j
 have j1 : lv < lev := hlv
 go_wp2_with fail
 go_quiet (fail)
 clear d1 d2 d5 d6 d7 d8 d9 d10 d11 F1
 obtain ⟨w2, hw2⟩ : ∃ x, x = w1.drewN nq := ⟨_, rfl⟩
 have Bw2 : Hid (Below W.heap.size W w2) := by show Below _ _ _; rw [hw2]; exact below_drewN Bw1.out _
 have Hw2 : Hid (w2.heap[P]? = some (.cells #[a0, .slice xa lx xc, .int .i64 lev, a3, a4, .int .u64 (wd : Nat), .int .i64 lv, .slice ha lh hc, .int .i64 ri, .slice ka lk kc, .slice va lw vc, .slice ca lc cc, a12, .int .i64 (an : Nat), .int .i64 (mo : Nat)] 196 (0, 0))) := by show _ = _; rw [hw2]; exact Hw1.out
 rw [← hw2]
 clear hw2
 have F2 := fun j => frozen_of Hw2.out j
 have e3 : w2.cell? ⟨P, 3, none⟩ = some (a3) := (by rw [cell_of_row _ _ _ _ _ _ Hw2.out]; rfl)
 go_wp2_with fail
 go_end0
 exact ⟨rfl, (m15_3 Hw2.out _), (updP (Upd.of_below Bw2.out _) _ _)⟩
set_option maxRecDepth 100000 in
set_option maxHeartbeats 1600000 in
theorem decide_right (n : Nd) (k : Tx) (h : W.heap[P]? = some (.cells #[a0, k.v, .int .i64 lev, a3, a4, .int .u64 (wd : Nat), .int .i64 n.lv, n.hi.v, .int .i64 n.ri, n.ks.v, n.vs.v, n.cs.v, a12, .int .i64 (an : Nat), .int .i64 (mo : Nat)] 196 (0, 0))) (hn : n.Ok W) (hk : k.Ok W) (hmo : mo < 4611686018427387904) (hlv : ¬ n.lv < lev) (hbe : beyB n.hi.s k.s = true) : Calls Tryz.prog 117 #[.pointer (some ⟨P, 0, none⟩), .int .u64 (wd : Nat)] W (MrP W P #[a0, k.v, .int .i64 lev, .int .i64 1, .int .i64 n.ri, .int .u64 (wd : Nat), .int .i64 n.lv, n.hi.v, .int .i64 n.ri, n.ks.v, n.vs.v, n.cs.v, a12, .int .i64 (an : Nat), .int .i64 ((mo + 1 : Nat) : Int)] (.tuple #[])) := by
 have HBE : Hid (∀ W', Below W.heap.size W W' → Calls Tryz.prog 147 #[n.v, k.v] W' fun e w' => e = .returned (.bool (beyB n.hi.s k.s)) ∧ Below W'.heap.size W' w') := fun W' hb => rbeyond_any n k W' (hn.below hb) (hk.below hb)
 have HCH : Hid (∀ W', Below W.heap.size W W' → Calls Tryz.prog 148 #[n.v, k.v] W' fun e w' => e = .returned (.int .i64 (chiN n.ks.p n.cs.s k.s)) ∧ Below W'.heap.size W' w') := fun W' hb => rchild_any n k W' (hn.below hb) (hk.below hb)
 rw [hbe] at HBE
 clear hbe
 generalize chiN n.ks.p n.cs.s k.s = chi at *
 clear hn hk
 obtain ⟨lv, ⟨ha, hc, hs⟩, ri, ⟨ka, kc, K⟩, ⟨va, vc, V⟩, ⟨ca, cc, C⟩⟩ := n
 obtain ⟨xa, xc, xs⟩ := k
 simp only [Nd.v, Tx.v, TL.v, IL.v] at *
 generalize hs.length = lh at *
 generalize K.length = lk at *
 generalize V.length = lw at *
 generalize C.length = lc at *
 generalize xs.length = lx at *
 have c1 : W.cell? ⟨P, 1, none⟩ = some (.slice xa lx xc) := (by rw [cell_of_row _ _ _ _ _ _ h]; rfl)
 have c6 : W.cell? ⟨P, 6, none⟩ = some (.int .i64 lv) := (by rw [cell_of_row _ _ _ _ _ _ h]; rfl)
 have c7 : W.cell? ⟨P, 7, none⟩ = some (.slice ha lh hc) := (by rw [cell_of_row _ _ _ _ _ _ h]; rfl)
 have c8 : W.cell? ⟨P, 8, none⟩ = some (.int .i64 ri) := (by rw [cell_of_row _ _ _ _ _ _ h]; rfl)
 have c9 : W.cell? ⟨P, 9, none⟩ = some (.slice ka lk kc) := (by rw [cell_of_row _ _ _ _ _ _ h]; rfl)
 have c10 : W.cell? ⟨P, 10, none⟩ = some (.slice va lw vc) := (by rw [cell_of_row _ _ _ _ _ _ h]; rfl)
 have c11 : W.cell? ⟨P, 11, none⟩ = some (.slice ca lc cc) := (by rw [cell_of_row _ _ _ _ _ _ h]; rfl)
 have BW : Hid (Below W.heap.size W W) := Below.refl _ _
 have HW := hide h
 clear h
 go_enter Tryz.func117, Tryz.ntmps117
 go_wp2_with fail
 go_region_held3 (fun W' => W'.cell? ⟨P, 6, none⟩ = some (.int .i64 lv) ∧ W'.cell? ⟨P, 7, none⟩ = some (.slice ha lh hc) ∧ W'.cell? ⟨P, 8, none⟩ = some (.int .i64 ri) ∧ W'.cell? ⟨P, 9, none⟩ = some (.slice ka lk kc) ∧ W'.cell? ⟨P, 10, none⟩ = some (.slice va lw vc) ∧ W'.cell? ⟨P, 11, none⟩ = some (.slice ca lc cc) ∧ W'.cell? ⟨P, 1, none⟩ = some (.slice xa lx xc)) (go_keep) (first
  | (go_at_call 147; refine (HBE.out _ (below_drew BW.out)).mono ?_; rintro e w1 ⟨rfl, b⟩; have Bw1 : Hid (Below W.heap.size W w1) := (below_drew BW.out).trans (b.mono BW.out.size); have Hw1 : Hid (w1.heap[P]? = some (.cells #[a0, .slice xa lx xc, .int .i64 lev, a3, a4, .int .u64 (wd : Nat), .int .i64 lv, .slice ha lh hc, .int .i64 ri, .slice ka lk kc, .slice va lw vc, .slice ca lc cc, a12, .int .i64 (an : Nat), .int .i64 (mo : Nat)] 196 (0, 0))) := (b.block _ (lt_of_block HW.out)).trans HW.out; have d1 : w1.cell? ⟨P, 1, none⟩ = some (.slice xa lx xc) := (by rw [cell_of_row _ _ _ _ _ _ Hw1.out]; rfl); have d2 : w1.cell? ⟨P, 2, none⟩ = some (.int .i64 lev) := (by rw [cell_of_row _ _ _ _ _ _ Hw1.out]; rfl); have d6 : w1.cell? ⟨P, 6, none⟩ = some (.int .i64 lv) := (by rw [cell_of_row _ _ _ _ _ _ Hw1.out]; rfl); have d7 : w1.cell? ⟨P, 7, none⟩ = some (.slice ha lh hc) := (by rw [cell_of_row _ _ _ _ _ _ Hw1.out]; rfl); have d8 : w1.cell? ⟨P, 8, none⟩ = some (.int .i64 ri) := (by rw [cell_of_row _ _ _ _ _ _ Hw1.out]; rfl); have d9 : w1.cell? ⟨P, 9, none⟩ = some (.slice ka lk kc) := (by rw [cell_of_row _ _ _ _ _ _ Hw1.out]; rfl); have d10 : w1.cell? ⟨P, 10, none⟩ = some (.slice va lw vc) := (by rw [cell_of_row _ _ _ _ _ _ Hw1.out]; rfl); have d11 : w1.cell? ⟨P, 11, none⟩ = some (.slice ca lc cc) := (by rw [cell_of_row _ _ _ _ _ _ Hw1.out]; rfl); clear b)
  | fail)
 clear c1 c6 c7 c8 c9 c10 c11 HBE
 have d5 : w1.cell? ⟨P, 5, none⟩ = some (.int .u64 (wd : Nat)) := (by rw [cell_of_row _ _ _ _ _ _ Hw1.out]; rfl)
 have F1 := fun j => frozen_of Hw1.out j
 have j1 : ¬ lv < lev := by omega
 clear hlv
 go_wp2_with fail
 go_quiet (fail)
 clear d1 d2 d5 d6 d7 d8 d9 d10 d11 F1
 obtain ⟨w2, hw2⟩ : ∃ x, x = w1.drewN nq := ⟨_, rfl⟩
 have Bw2 : Hid (Below W.heap.size W w2) := by show Below _ _ _; rw [hw2]; exact below_drewN Bw1.out _
 have Hw2 : Hid (w2.heap[P]? = some (.cells #[a0, .slice xa lx xc, .int .i64 lev, a3, a4, .int .u64 (wd : Nat), .int .i64 lv, .slice ha lh hc, .int .i64 ri, .slice ka lk kc, .slice va lw vc, .slice ca lc cc, a12, .int .i64 (an : Nat), .int .i64 (mo : Nat)] 196 (0, 0))) := by show _ = _; rw [hw2]; exact Hw1.out
 rw [← hw2]
 clear hw2
 have F2 := fun j => frozen_of Hw2.out j
 have e3 : w2.cell? ⟨P, 3, none⟩ = some (a3) := (by rw [cell_of_row _ _ _ _ _ _ Hw2.out]; rfl)
 have e4 : w2.cell? ⟨P, 4, none⟩ = some (a4) := (by rw [cell_of_row _ _ _ _ _ _ Hw2.out]; rfl)
 have e14 : w2.cell? ⟨P, 14, none⟩ = some (.int .i64 (mo : Nat)) := (by rw [cell_of_row _ _ _ _ _ _ Hw2.out]; rfl)
 have e8 : w2.cell? ⟨P, 8, none⟩ = some (.int .i64 ri) := (by rw [cell_of_row _ _ _ _ _ _ Hw2.out]; rfl)
 have j2 : IntKind.i64.wrap ((mo : Int) + 1) = (mo : Int) + 1 := by rw [IntKind.wrap_i64]; omega
 clear hmo
 go_wp2_with fail
 go_end0
 exact ⟨rfl, (m15_3 (m15_4 (m15_14 Hw2.out _) _) _), (updP (updP (updP (Upd.of_below Bw2.out _) _ _) _ _) _ _)⟩
set_option maxRecDepth 100000 in
set_option maxHeartbeats 1600000 in
theorem decide_here (n : Nd) (k : Tx) (h : W.heap[P]? = some (.cells #[a0, k.v, .int .i64 lev, a3, a4, .int .u64 (wd : Nat), .int .i64 n.lv, n.hi.v, .int .i64 n.ri, n.ks.v, n.vs.v, n.cs.v, a12, .int .i64 (an : Nat), .int .i64 (mo : Nat)] 196 (0, 0))) (hn : n.Ok W) (hk : k.Ok W) (hlv : ¬ n.lv < lev) (hbe : beyB n.hi.s k.s = false) (he2 : n.lv = lev) : Calls Tryz.prog 117 #[.pointer (some ⟨P, 0, none⟩), .int .u64 (wd : Nat)] W (MrP W P #[a0, k.v, .int .i64 lev, .int .i64 5, a4, .int .u64 (wd : Nat), .int .i64 n.lv, n.hi.v, .int .i64 n.ri, n.ks.v, n.vs.v, n.cs.v, .bool true, .int .i64 (an : Nat), .int .i64 (mo : Nat)] (.tuple #[])) := by
 have HBE : Hid (∀ W', Below W.heap.size W W' → Calls Tryz.prog 147 #[n.v, k.v] W' fun e w' => e = .returned (.bool (beyB n.hi.s k.s)) ∧ Below W'.heap.size W' w') := fun W' hb => rbeyond_any n k W' (hn.below hb) (hk.below hb)
 have HCH : Hid (∀ W', Below W.heap.size W W' → Calls Tryz.prog 148 #[n.v, k.v] W' fun e w' => e = .returned (.int .i64 (chiN n.ks.p n.cs.s k.s)) ∧ Below W'.heap.size W' w') := fun W' hb => rchild_any n k W' (hn.below hb) (hk.below hb)
 rw [hbe] at HBE
 clear hbe
 generalize chiN n.ks.p n.cs.s k.s = chi at *
 clear hn hk
 obtain ⟨lv, ⟨ha, hc, hs⟩, ri, ⟨ka, kc, K⟩, ⟨va, vc, V⟩, ⟨ca, cc, C⟩⟩ := n
 obtain ⟨xa, xc, xs⟩ := k
 simp only [Nd.v, Tx.v, TL.v, IL.v] at *
 subst he2
 clear hlv
 generalize hs.length = lh at *
 generalize K.length = lk at *
 generalize V.length = lw at *
 generalize C.length = lc at *
 generalize xs.length = lx at *
 have c1 : W.cell? ⟨P, 1, none⟩ = some (.slice xa lx xc) := (by rw [cell_of_row _ _ _ _ _ _ h]; rfl)
 have c6 : W.cell? ⟨P, 6, none⟩ = some (.int .i64 lv) := (by rw [cell_of_row _ _ _ _ _ _ h]; rfl)
 have c7 : W.cell? ⟨P, 7, none⟩ = some (.slice ha lh hc) := (by rw [cell_of_row _ _ _ _ _ _ h]; rfl)
 have c8 : W.cell? ⟨P, 8, none⟩ = some (.int .i64 ri) := (by rw [cell_of_row _ _ _ _ _ _ h]; rfl)
 have c9 : W.cell? ⟨P, 9, none⟩ = some (.slice ka lk kc) := (by rw [cell_of_row _ _ _ _ _ _ h]; rfl)
 have c10 : W.cell? ⟨P, 10, none⟩ = some (.slice va lw vc) := (by rw [cell_of_row _ _ _ _ _ _ h]; rfl)
 have c11 : W.cell? ⟨P, 11, none⟩ = some (.slice ca lc cc) := (by rw [cell_of_row _ _ _ _ _ _ h]; rfl)
 have BW : Hid (Below W.heap.size W W) := Below.refl _ _
 have HW := hide h
 clear h
 go_enter Tryz.func117, Tryz.ntmps117
 go_wp2_with fail
 go_region_held3 (fun W' => W'.cell? ⟨P, 6, none⟩ = some (.int .i64 lv) ∧ W'.cell? ⟨P, 7, none⟩ = some (.slice ha lh hc) ∧ W'.cell? ⟨P, 8, none⟩ = some (.int .i64 ri) ∧ W'.cell? ⟨P, 9, none⟩ = some (.slice ka lk kc) ∧ W'.cell? ⟨P, 10, none⟩ = some (.slice va lw vc) ∧ W'.cell? ⟨P, 11, none⟩ = some (.slice ca lc cc) ∧ W'.cell? ⟨P, 1, none⟩ = some (.slice xa lx xc)) (go_keep) (first
  | (go_at_call 147; refine (HBE.out _ (below_drew BW.out)).mono ?_; rintro e w1 ⟨rfl, b⟩; have Bw1 : Hid (Below W.heap.size W w1) := (below_drew BW.out).trans (b.mono BW.out.size); have Hw1 : Hid (w1.heap[P]? = some (.cells #[a0, .slice xa lx xc, .int .i64 lv, a3, a4, .int .u64 (wd : Nat), .int .i64 lv, .slice ha lh hc, .int .i64 ri, .slice ka lk kc, .slice va lw vc, .slice ca lc cc, a12, .int .i64 (an : Nat), .int .i64 (mo : Nat)] 196 (0, 0))) := (b.block _ (lt_of_block HW.out)).trans HW.out; have d1 : w1.cell? ⟨P, 1, none⟩ = some (.slice xa lx xc) := (by rw [cell_of_row _ _ _ _ _ _ Hw1.out]; rfl); have d2 : w1.cell? ⟨P, 2, none⟩ = some (.int .i64 lv) := (by rw [cell_of_row _ _ _ _ _ _ Hw1.out]; rfl); have d6 : w1.cell? ⟨P, 6, none⟩ = some (.int .i64 lv) := (by rw [cell_of_row _ _ _ _ _ _ Hw1.out]; rfl); have d7 : w1.cell? ⟨P, 7, none⟩ = some (.slice ha lh hc) := (by rw [cell_of_row _ _ _ _ _ _ Hw1.out]; rfl); have d8 : w1.cell? ⟨P, 8, none⟩ = some (.int .i64 ri) := (by rw [cell_of_row _ _ _ _ _ _ Hw1.out]; rfl); have d9 : w1.cell? ⟨P, 9, none⟩ = some (.slice ka lk kc) := (by rw [cell_of_row _ _ _ _ _ _ Hw1.out]; rfl); have d10 : w1.cell? ⟨P, 10, none⟩ = some (.slice va lw vc) := (by rw [cell_of_row _ _ _ _ _ _ Hw1.out]; rfl); have d11 : w1.cell? ⟨P, 11, none⟩ = some (.slice ca lc cc) := (by rw [cell_of_row _ _ _ _ _ _ Hw1.out]; rfl); clear b)
  | fail)
 clear c1 c6 c7 c8 c9 c10 c11 HBE
 have d5 : w1.cell? ⟨P, 5, none⟩ = some (.int .u64 (wd : Nat)) := (by rw [cell_of_row _ _ _ _ _ _ Hw1.out]; rfl)
 have F1 := fun j => frozen_of Hw1.out j
 go_wp2_with fail
 go_quiet (fail)
 clear d1 d2 d5 d6 d7 d8 d9 d10 d11 F1
 obtain ⟨w2, hw2⟩ : ∃ x, x = w1.drewN nq := ⟨_, rfl⟩
 have Bw2 : Hid (Below W.heap.size W w2) := by show Below _ _ _; rw [hw2]; exact below_drewN Bw1.out _
 have Hw2 : Hid (w2.heap[P]? = some (.cells #[a0, .slice xa lx xc, .int .i64 lv, a3, a4, .int .u64 (wd : Nat), .int .i64 lv, .slice ha lh hc, .int .i64 ri, .slice ka lk kc, .slice va lw vc, .slice ca lc cc, a12, .int .i64 (an : Nat), .int .i64 (mo : Nat)] 196 (0, 0))) := by show _ = _; rw [hw2]; exact Hw1.out
 rw [← hw2]
 clear hw2
 have e2 : w2.cell? ⟨P, 2, none⟩ = some (.int .i64 lv) := (by rw [cell_of_row _ _ _ _ _ _ Hw2.out]; rfl)
 have e6 : w2.cell? ⟨P, 6, none⟩ = some (.int .i64 lv) := (by rw [cell_of_row _ _ _ _ _ _ Hw2.out]; rfl)
 go_wp2_with fail
 go_quiet (fail)
 obtain ⟨w3, hw3⟩ : ∃ x, x = w2.drewN nq := ⟨_, rfl⟩
 have Bw3 : Hid (Below W.heap.size W w3) := by show Below _ _ _; rw [hw3]; exact below_drewN Bw2.out _
 have Hw3 : Hid (w3.heap[P]? = some (.cells #[a0, .slice xa lx xc, .int .i64 lv, a3, a4, .int .u64 (wd : Nat), .int .i64 lv, .slice ha lh hc, .int .i64 ri, .slice ka lk kc, .slice va lw vc, .slice ca lc cc, a12, .int .i64 (an : Nat), .int .i64 (mo : Nat)] 196 (0, 0))) := by show _ = _; rw [hw3]; exact Hw2.out
 rw [← hw3]
 clear hw3
 have F3 := fun j => frozen_of Hw3.out j
 have f3 : w3.cell? ⟨P, 3, none⟩ = some (a3) := (by rw [cell_of_row _ _ _ _ _ _ Hw3.out]; rfl)
 have f12 : w3.cell? ⟨P, 12, none⟩ = some (a12) := (by rw [cell_of_row _ _ _ _ _ _ Hw3.out]; rfl)
 go_wp2_with fail
 go_end0
 exact ⟨rfl, (m15_3 (m15_12 Hw3.out _) _), (updP (updP (Upd.of_below Bw3.out _) _ _) _ _)⟩
set_option maxRecDepth 100000 in
set_option maxHeartbeats 1600000 in
theorem decide_child (n : Nd) (k : Tx) (h : W.heap[P]? = some (.cells #[a0, k.v, .int .i64 lev, a3, a4, .int .u64 (wd : Nat), .int .i64 n.lv, n.hi.v, .int .i64 n.ri, n.ks.v, n.vs.v, n.cs.v, a12, .int .i64 (an : Nat), .int .i64 (mo : Nat)] 196 (0, 0))) (hn : n.Ok W) (hk : k.Ok W) (hlv : ¬ n.lv < lev) (hbe : beyB n.hi.s k.s = false) (he2 : ¬ n.lv = lev) : Calls Tryz.prog 117 #[.pointer (some ⟨P, 0, none⟩), .int .u64 (wd : Nat)] W (MrP W P #[a0, k.v, .int .i64 lev, .int .i64 1, .int .i64 (chiN n.ks.p n.cs.s k.s), .int .u64 (wd : Nat), .int .i64 n.lv, n.hi.v, .int .i64 n.ri, n.ks.v, n.vs.v, n.cs.v, a12, .int .i64 (an : Nat), .int .i64 (mo : Nat)] (.tuple #[])) := by
 have HBE : Hid (∀ W', Below W.heap.size W W' → Calls Tryz.prog 147 #[n.v, k.v] W' fun e w' => e = .returned (.bool (beyB n.hi.s k.s)) ∧ Below W'.heap.size W' w') := fun W' hb => rbeyond_any n k W' (hn.below hb) (hk.below hb)
 have HCH : Hid (∀ W', Below W.heap.size W W' → Calls Tryz.prog 148 #[n.v, k.v] W' fun e w' => e = .returned (.int .i64 (chiN n.ks.p n.cs.s k.s)) ∧ Below W'.heap.size W' w') := fun W' hb => rchild_any n k W' (hn.below hb) (hk.below hb)
 rw [hbe] at HBE
 clear hbe
 generalize chiN n.ks.p n.cs.s k.s = chi at *
 clear hn hk
 obtain ⟨lv, ⟨ha, hc, hs⟩, ri, ⟨ka, kc, K⟩, ⟨va, vc, V⟩, ⟨ca, cc, C⟩⟩ := n
 obtain ⟨xa, xc, xs⟩ := k
 simp only [Nd.v, Tx.v, TL.v, IL.v] at *
 generalize hs.length = lh at *
 generalize K.length = lk at *
 generalize V.length = lw at *
 generalize C.length = lc at *
 generalize xs.length = lx at *
 have c1 : W.cell? ⟨P, 1, none⟩ = some (.slice xa lx xc) := (by rw [cell_of_row _ _ _ _ _ _ h]; rfl)
 have c6 : W.cell? ⟨P, 6, none⟩ = some (.int .i64 lv) := (by rw [cell_of_row _ _ _ _ _ _ h]; rfl)
 have c7 : W.cell? ⟨P, 7, none⟩ = some (.slice ha lh hc) := (by rw [cell_of_row _ _ _ _ _ _ h]; rfl)
 have c8 : W.cell? ⟨P, 8, none⟩ = some (.int .i64 ri) := (by rw [cell_of_row _ _ _ _ _ _ h]; rfl)
 have c9 : W.cell? ⟨P, 9, none⟩ = some (.slice ka lk kc) := (by rw [cell_of_row _ _ _ _ _ _ h]; rfl)
 have c10 : W.cell? ⟨P, 10, none⟩ = some (.slice va lw vc) := (by rw [cell_of_row _ _ _ _ _ _ h]; rfl)
 have c11 : W.cell? ⟨P, 11, none⟩ = some (.slice ca lc cc) := (by rw [cell_of_row _ _ _ _ _ _ h]; rfl)
 have BW : Hid (Below W.heap.size W W) := Below.refl _ _
 have HW := hide h
 clear h
 go_enter Tryz.func117, Tryz.ntmps117
 go_wp2_with fail
 go_region_held3 (fun W' => W'.cell? ⟨P, 6, none⟩ = some (.int .i64 lv) ∧ W'.cell? ⟨P, 7, none⟩ = some (.slice ha lh hc) ∧ W'.cell? ⟨P, 8, none⟩ = some (.int .i64 ri) ∧ W'.cell? ⟨P, 9, none⟩ = some (.slice ka lk kc) ∧ W'.cell? ⟨P, 10, none⟩ = some (.slice va lw vc) ∧ W'.cell? ⟨P, 11, none⟩ = some (.slice ca lc cc) ∧ W'.cell? ⟨P, 1, none⟩ = some (.slice xa lx xc)) (go_keep) (first
  | (go_at_call 147; refine (HBE.out _ (below_drew BW.out)).mono ?_; rintro e w1 ⟨rfl, b⟩; have Bw1 : Hid (Below W.heap.size W w1) := (below_drew BW.out).trans (b.mono BW.out.size); have Hw1 : Hid (w1.heap[P]? = some (.cells #[a0, .slice xa lx xc, .int .i64 lev, a3, a4, .int .u64 (wd : Nat), .int .i64 lv, .slice ha lh hc, .int .i64 ri, .slice ka lk kc, .slice va lw vc, .slice ca lc cc, a12, .int .i64 (an : Nat), .int .i64 (mo : Nat)] 196 (0, 0))) := (b.block _ (lt_of_block HW.out)).trans HW.out; have d1 : w1.cell? ⟨P, 1, none⟩ = some (.slice xa lx xc) := (by rw [cell_of_row _ _ _ _ _ _ Hw1.out]; rfl); have d2 : w1.cell? ⟨P, 2, none⟩ = some (.int .i64 lev) := (by rw [cell_of_row _ _ _ _ _ _ Hw1.out]; rfl); have d6 : w1.cell? ⟨P, 6, none⟩ = some (.int .i64 lv) := (by rw [cell_of_row _ _ _ _ _ _ Hw1.out]; rfl); have d7 : w1.cell? ⟨P, 7, none⟩ = some (.slice ha lh hc) := (by rw [cell_of_row _ _ _ _ _ _ Hw1.out]; rfl); have d8 : w1.cell? ⟨P, 8, none⟩ = some (.int .i64 ri) := (by rw [cell_of_row _ _ _ _ _ _ Hw1.out]; rfl); have d9 : w1.cell? ⟨P, 9, none⟩ = some (.slice ka lk kc) := (by rw [cell_of_row _ _ _ _ _ _ Hw1.out]; rfl); have d10 : w1.cell? ⟨P, 10, none⟩ = some (.slice va lw vc) := (by rw [cell_of_row _ _ _ _ _ _ Hw1.out]; rfl); have d11 : w1.cell? ⟨P, 11, none⟩ = some (.slice ca lc cc) := (by rw [cell_of_row _ _ _ _ _ _ Hw1.out]; rfl); clear b)
  | fail)
 clear c1 c6 c7 c8 c9 c10 c11 HBE
 have d5 : w1.cell? ⟨P, 5, none⟩ = some (.int .u64 (wd : Nat)) := (by rw [cell_of_row _ _ _ _ _ _ Hw1.out]; rfl)
 have F1 := fun j => frozen_of Hw1.out j
 have j1 : ¬ lv < lev := by omega
 clear hlv
 have j2 : ¬ lv = lev := he2
 go_wp2_with fail
 go_quiet (fail)
 clear d1 d2 d5 d6 d7 d8 d9 d10 d11 F1
 obtain ⟨w2, hw2⟩ : ∃ x, x = w1.drewN nq := ⟨_, rfl⟩
 have Bw2 : Hid (Below W.heap.size W w2) := by show Below _ _ _; rw [hw2]; exact below_drewN Bw1.out _
 have Hw2 : Hid (w2.heap[P]? = some (.cells #[a0, .slice xa lx xc, .int .i64 lev, a3, a4, .int .u64 (wd : Nat), .int .i64 lv, .slice ha lh hc, .int .i64 ri, .slice ka lk kc, .slice va lw vc, .slice ca lc cc, a12, .int .i64 (an : Nat), .int .i64 (mo : Nat)] 196 (0, 0))) := by show _ = _; rw [hw2]; exact Hw1.out
 rw [← hw2]
 clear hw2
 have e2 : w2.cell? ⟨P, 2, none⟩ = some (.int .i64 lev) := (by rw [cell_of_row _ _ _ _ _ _ Hw2.out]; rfl)
 have e6 : w2.cell? ⟨P, 6, none⟩ = some (.int .i64 lv) := (by rw [cell_of_row _ _ _ _ _ _ Hw2.out]; rfl)
 go_wp2_with fail
 go_quiet (fail)
 obtain ⟨w3, hw3⟩ : ∃ x, x = w2.drewN nq := ⟨_, rfl⟩
 have Bw3 : Hid (Below W.heap.size W w3) := by show Below _ _ _; rw [hw3]; exact below_drewN Bw2.out _
 have Hw3 : Hid (w3.heap[P]? = some (.cells #[a0, .slice xa lx xc, .int .i64 lev, a3, a4, .int .u64 (wd : Nat), .int .i64 lv, .slice ha lh hc, .int .i64 ri, .slice ka lk kc, .slice va lw vc, .slice ca lc cc, a12, .int .i64 (an : Nat), .int .i64 (mo : Nat)] 196 (0, 0))) := by show _ = _; rw [hw3]; exact Hw2.out
 rw [← hw3]
 clear hw3
 have f1 : w3.cell? ⟨P, 1, none⟩ = some (.slice xa lx xc) := (by rw [cell_of_row _ _ _ _ _ _ Hw3.out]; rfl)
 have f6 : w3.cell? ⟨P, 6, none⟩ = some (.int .i64 lv) := (by rw [cell_of_row _ _ _ _ _ _ Hw3.out]; rfl)
 have f7 : w3.cell? ⟨P, 7, none⟩ = some (.slice ha lh hc) := (by rw [cell_of_row _ _ _ _ _ _ Hw3.out]; rfl)
 have f8 : w3.cell? ⟨P, 8, none⟩ = some (.int .i64 ri) := (by rw [cell_of_row _ _ _ _ _ _ Hw3.out]; rfl)
 have f9 : w3.cell? ⟨P, 9, none⟩ = some (.slice ka lk kc) := (by rw [cell_of_row _ _ _ _ _ _ Hw3.out]; rfl)
 have f10 : w3.cell? ⟨P, 10, none⟩ = some (.slice va lw vc) := (by rw [cell_of_row _ _ _ _ _ _ Hw3.out]; rfl)
 have f11 : w3.cell? ⟨P, 11, none⟩ = some (.slice ca lc cc) := (by rw [cell_of_row _ _ _ _ _ _ Hw3.out]; rfl)
 clear e2 e6
 go_wp2_with fail
 go_region_held3 (fun W' => W'.cell? ⟨P, 6, none⟩ = some (.int .i64 lv) ∧ W'.cell? ⟨P, 7, none⟩ = some (.slice ha lh hc) ∧ W'.cell? ⟨P, 8, none⟩ = some (.int .i64 ri) ∧ W'.cell? ⟨P, 9, none⟩ = some (.slice ka lk kc) ∧ W'.cell? ⟨P, 10, none⟩ = some (.slice va lw vc) ∧ W'.cell? ⟨P, 11, none⟩ = some (.slice ca lc cc) ∧ W'.cell? ⟨P, 1, none⟩ = some (.slice xa lx xc)) (go_keep) (first
  | (go_at_call 148; refine (HCH.out _ (below_drew Bw3.out)).mono ?_; rintro e w4 ⟨rfl, b⟩; have Bw4 : Hid (Below W.heap.size W w4) := (below_drew Bw3.out).trans (b.mono Bw3.out.size); have Hw4 : Hid (w4.heap[P]? = some (.cells #[a0, .slice xa lx xc, .int .i64 lev, a3, a4, .int .u64 (wd : Nat), .int .i64 lv, .slice ha lh hc, .int .i64 ri, .slice ka lk kc, .slice va lw vc, .slice ca lc cc, a12, .int .i64 (an : Nat), .int .i64 (mo : Nat)] 196 (0, 0))) := (b.block _ (lt_of_block Hw3.out)).trans Hw3.out; have g1 : w4.cell? ⟨P, 1, none⟩ = some (.slice xa lx xc) := (by rw [cell_of_row _ _ _ _ _ _ Hw4.out]; rfl); have g2 : w4.cell? ⟨P, 2, none⟩ = some (.int .i64 lev) := (by rw [cell_of_row _ _ _ _ _ _ Hw4.out]; rfl); have g6 : w4.cell? ⟨P, 6, none⟩ = some (.int .i64 lv) := (by rw [cell_of_row _ _ _ _ _ _ Hw4.out]; rfl); have g7 : w4.cell? ⟨P, 7, none⟩ = some (.slice ha lh hc) := (by rw [cell_of_row _ _ _ _ _ _ Hw4.out]; rfl); have g8 : w4.cell? ⟨P, 8, none⟩ = some (.int .i64 ri) := (by rw [cell_of_row _ _ _ _ _ _ Hw4.out]; rfl); have g9 : w4.cell? ⟨P, 9, none⟩ = some (.slice ka lk kc) := (by rw [cell_of_row _ _ _ _ _ _ Hw4.out]; rfl); have g10 : w4.cell? ⟨P, 10, none⟩ = some (.slice va lw vc) := (by rw [cell_of_row _ _ _ _ _ _ Hw4.out]; rfl); have g11 : w4.cell? ⟨P, 11, none⟩ = some (.slice ca lc cc) := (by rw [cell_of_row _ _ _ _ _ _ Hw4.out]; rfl); have g4 : w4.cell? ⟨P, 4, none⟩ = some a4 := (by rw [cell_of_row _ _ _ _ _ _ Hw4.out]; rfl); have g3 : w4.cell? ⟨P, 3, none⟩ = some a3 := (by rw [cell_of_row _ _ _ _ _ _ Hw4.out]; rfl); have F4 := (fun j => frozen_of Hw4.out j); have k6 : ∀ x, (w4.setCell ⟨P, 4, none⟩ x).cell? ⟨P, 6, none⟩ = some (.int .i64 lv) := (fun x => by rw [cell_of_row _ _ _ _ _ _ (m15_4 Hw4.out x)]; rfl); have k7 : ∀ x, (w4.setCell ⟨P, 4, none⟩ x).cell? ⟨P, 7, none⟩ = some (.slice ha lh hc) := (fun x => by rw [cell_of_row _ _ _ _ _ _ (m15_4 Hw4.out x)]; rfl); have k8 : ∀ x, (w4.setCell ⟨P, 4, none⟩ x).cell? ⟨P, 8, none⟩ = some (.int .i64 ri) := (fun x => by rw [cell_of_row _ _ _ _ _ _ (m15_4 Hw4.out x)]; rfl); have k9 : ∀ x, (w4.setCell ⟨P, 4, none⟩ x).cell? ⟨P, 9, none⟩ = some (.slice ka lk kc) := (fun x => by rw [cell_of_row _ _ _ _ _ _ (m15_4 Hw4.out x)]; rfl); have k10 : ∀ x, (w4.setCell ⟨P, 4, none⟩ x).cell? ⟨P, 10, none⟩ = some (.slice va lw vc) := (fun x => by rw [cell_of_row _ _ _ _ _ _ (m15_4 Hw4.out x)]; rfl); have k11 : ∀ x, (w4.setCell ⟨P, 4, none⟩ x).cell? ⟨P, 11, none⟩ = some (.slice ca lc cc) := (fun x => by rw [cell_of_row _ _ _ _ _ _ (m15_4 Hw4.out x)]; rfl); have k1 : ∀ x, (w4.setCell ⟨P, 4, none⟩ x).cell? ⟨P, 1, none⟩ = some (.slice xa lx xc) := (fun x => by rw [cell_of_row _ _ _ _ _ _ (m15_4 Hw4.out x)]; rfl); clear b)
  | fail)
 go_wp2_with fail
 go_end0
 exact ⟨rfl, (m15_3 (m15_4 Hw4.out _) _), (updP (updP (Upd.of_below Bw4.out _) _ _) _ _)⟩
end
end Go.Proofs.YtpljbgcofmlhbaaGreat
