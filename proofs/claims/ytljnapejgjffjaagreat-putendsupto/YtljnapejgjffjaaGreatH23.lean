/- Texts of one's own. -/
import Derived.Test.YtljnapejgjffjaaGreatH22
namespace Go.Proofs.YtljnapejgjffjaaGreat
open Go.RowKit
set_option maxRecDepth 100000
def BdP (p : NP) (nd lf inn : Int) : Prop := ¬ OvP p.lv p.ks.length p.cs.length lf inn ∧ (if p.lv = 0 then (p.cs.length = 0 ∧ p.vs.length = p.ks.length) ∧ VlP p.vs else (p.vs.length = 0 ∧ p.cs.length = p.ks.length + 1) ∧ KdP p.cs nd)
instance (p : NP) (nd lf inn : Int) : Decidable (BdP p nd lf inn) := by unfold BdP; exact inferInstance
def nchkE (p : NP) (nd lf inn fl bk : Int) : Int := if cfgOk nd lf inn fl bk then (if HdP p.lv p.hi.length p.ri nd ∧ KyP p.hi p.ks ∧ BdP p nd lf inn then 0 else 91) else 1
set_option maxHeartbeats 3200000 in
theorem bodyMay_any (n : Nd) (nd lf inn fl bk : Int) (w : World) (hn : n.Ok w) : Calls Tryz.prog 174 #[n.v,.agg #[.int .i64 nd,.int .i64 lf,.int .i64 inn,.int .i64 fl,.int .i64 bk]] w fun e w' => e = .returned (.bool (decide (BdP n.p nd lf inn))) ∧ Below w.heap.size w w' := by
 have hkz := hn.kz
 have hvz := hn.vz
 have hcz := hn.cz
 obtain ⟨ov,hov⟩ : ∃ ov,ov = decide (OvP n.lv n.ks.L.length n.cs.s.length lf inn) := ⟨_,rfl⟩
 obtain ⟨vb,hvb⟩ : ∃ vb,vb = decide (VlP n.vs.p) := ⟨_,rfl⟩
 obtain ⟨kb,hkb⟩ : ∃ kb,kb = decide (KdP n.cs.s nd) := ⟨_,rfl⟩
 obtain ⟨il,hil⟩ : ∃ il,il = decide (n.lv = 0) := ⟨_,rfl⟩
 have HOV : Hid (∀ W,Calls Tryz.prog 167 #[n.v,.agg #[.int .i64 nd,.int .i64 lf,.int .i64 inn,.int .i64 fl,.int .i64 bk]] W fun e w' => e = .returned (.bool ov) ∧ Below W.heap.size W w') := fun W => by rw [hov]; exact over_any n nd lf inn fl bk W
 have HIL : Hid (∀ W,Calls Tryz.prog 187 #[n.v] W fun e w' => e = .returned (.bool il) ∧ Below W.heap.size W w') := fun W => by rw [hil]; exact isLeaf_any n W
 have HVL : Hid (∀ W,Below w.heap.size w W → Calls Tryz.prog 195 #[n.vs.v] W fun e w' => e = .returned (.bool vb) ∧ w' = W) := fun W h => by rw [hvb]; exact values_any n.vs.a _ n.vs.c n.vs.L W (hn.below h).v rfl (by omega)
 have HKD : Hid (∀ W,Below w.heap.size w W → Calls Tryz.prog 196 #[n.cs.v,.int .i64 nd] W fun e w' => e = .returned (.bool kb) ∧ w' = W) := fun W h => by rw [hkb]; exact kids_any n.cs.a _ n.cs.c n.cs.s nd W (hn.below h).c.r rfl (hn.below h).c.lc (by omega)
 obtain ⟨R,hR⟩ : ∃ R,R = decide (BdP n.p nd lf inn) := ⟨_,rfl⟩
 have hRR : R = (!ov && (if il = true then decide (n.cs.s.length = 0) && decide (n.vs.L.length = n.ks.L.length) && vb else decide (n.vs.L.length = 0) && decide (n.cs.s.length = n.ks.L.length + 1) && kb)) := by
  rw [hR,hov,hvb,hkb,hil]
  simp only [BdP,Nd.p,TL.p_len]
  by_cases h : n.lv = 0 <;> by_cases o : OvP n.lv n.ks.L.length n.cs.s.length lf inn <;> simp [h,o,and_assoc,Bool.and_assoc]
 rw [← hR]
 replace hRR := hide hRR
 clear hR hn hov hvb hkb hil
 obtain ⟨lv,⟨ha,hc,hs⟩,ri,⟨ka,kc,K⟩,⟨va,vc,V⟩,⟨ca,cc,C⟩⟩ := n
 simp only [Nd.v,Tx.v,TL.v,IL.v] at HOV HIL HVL HKD hkz hvz hcz hRR ⊢
 generalize hs.length = lh at *
 generalize K.length = lk at *
 generalize V.length = lw at *
 generalize C.length = lc at *
 obtain ⟨w0,hw0⟩ : ∃ w0,w0 = (w.alloc (.cells #[.int .i64 lv,.slice ha lh hc,.int .i64 ri,.slice ka lk kc,.slice va lw vc,.slice ca lc cc] 110)).alloc (.cells #[.int .i64 nd,.int .i64 lf,.int .i64 inn,.int .i64 fl,.int .i64 bk] 23) := ⟨_,rfl⟩
 have B0 : Hid (Below w.heap.size w w0) := by show Below _ _ _; rw [hw0]; exact ((Below.refl _ _).alloc (Nat.le_refl _) _).alloc (by simp) _
 have G0 : Hid (w0.heap[w.heap.size]? = some (.cells #[.int .i64 lv,.slice ha lh hc,.int .i64 ri,.slice ka lk kc,.slice va lw vc,.slice ca lc cc] 110 (0,0))) := by show _ = _; rw [hw0]; exact old_at (new_at rfl)
 have F0 : Hid (w0.heap[w.heap.size + 1]? = some (.cells #[.int .i64 nd,.int .i64 lf,.int .i64 inn,.int .i64 fl,.int .i64 bk] 23 (0,0))) := by show _ = _; rw [hw0]; exact new_at (by simp)
 have HW0 := hide hw0
 clear hw0
 go_enter Tryz.func174,Tryz.ntmps174
 go_wp2_with fail
 rw [← HW0.out]
 refine (HOV.out w0).mono ?_
 rintro e w1 ⟨rfl,b⟩
 have B1 := hide (B0.out.trans (b.mono B0.out.size))
 have G1 : Hid (w1.heap[w.heap.size]? = _) := (b.block _ (lt_of_block G0.out)).trans G0.out
 have F1 : Hid (w1.heap[w.heap.size + 1]? = some (.cells #[.int .i64 nd,.int .i64 lf,.int .i64 inn,.int .i64 fl,.int .i64 bk] 23 (0,0))) := (b.block _ (lt_of_block F0.out)).trans F0.out
 clear b HW0
 cases ov with
 | true =>
  have HF : Hid (R = false) := by show _ = _; rw [hRR.out]; rfl
  go_wp2_with fail
  go_ret
  exact ⟨by rw [HF.out]; rfl,B1.out⟩
 | false =>
  obtain ⟨c0,c1,c2,c3,c4,c5⟩ := Six.of G1.out
  have x0 : w1.cell? ⟨w.heap.size + 1,0,none⟩ = some (.int .i64 nd) := by rw [cell_of_row _ _ _ _ _ _ F1.out]; rfl
  have x1 : w1.cell? ⟨w.heap.size + 1,1,none⟩ = some (.int .i64 lf) := by rw [cell_of_row _ _ _ _ _ _ F1.out]; rfl
  have x2 : w1.cell? ⟨w.heap.size + 1,2,none⟩ = some (.int .i64 inn) := by rw [cell_of_row _ _ _ _ _ _ F1.out]; rfl
  have x3 : w1.cell? ⟨w.heap.size + 1,3,none⟩ = some (.int .i64 fl) := by rw [cell_of_row _ _ _ _ _ _ F1.out]; rfl
  have x4 : w1.cell? ⟨w.heap.size + 1,4,none⟩ = some (.int .i64 bk) := by rw [cell_of_row _ _ _ _ _ _ F1.out]; rfl
  go_wp2_with fail
  refine (HIL.out w1).mono ?_
  rintro e w2 ⟨rfl,b⟩
  have B2 := hide (B1.out.trans (b.mono B1.out.size))
  have G2 : Hid (w2.heap[w.heap.size]? = _) := (b.block _ (lt_of_block G1.out)).trans G1.out
  have F2 : Hid (w2.heap[w.heap.size + 1]? = some (.cells #[.int .i64 nd,.int .i64 lf,.int .i64 inn,.int .i64 fl,.int .i64 bk] 23 (0,0))) := (b.block _ (lt_of_block F1.out)).trans F1.out
  clear b
  clear c0 c1 c2 c3 c4 c5 x0 x1 x2 x3 x4
  cases il with
  | true =>
   obtain ⟨c0,c1,c2,c3,c4,c5⟩ := Six.of G2.out
   have x0 : w2.cell? ⟨w.heap.size + 1,0,none⟩ = some (.int .i64 nd) := by rw [cell_of_row _ _ _ _ _ _ F2.out]; rfl
   have x1 : w2.cell? ⟨w.heap.size + 1,1,none⟩ = some (.int .i64 lf) := by rw [cell_of_row _ _ _ _ _ _ F2.out]; rfl
   have x2 : w2.cell? ⟨w.heap.size + 1,2,none⟩ = some (.int .i64 inn) := by rw [cell_of_row _ _ _ _ _ _ F2.out]; rfl
   have x3 : w2.cell? ⟨w.heap.size + 1,3,none⟩ = some (.int .i64 fl) := by rw [cell_of_row _ _ _ _ _ _ F2.out]; rfl
   have x4 : w2.cell? ⟨w.heap.size + 1,4,none⟩ = some (.int .i64 bk) := by rw [cell_of_row _ _ _ _ _ _ F2.out]; rfl
   by_cases p1 : lc = 0
   ·have q1 : ((lc : Int) == 0) = true := by rw [beq_iff_eq]; omega
    by_cases p2 : lw = lk
    ·have q2 : ((lw : Int) == (lk : Int)) = true := by rw [beq_iff_eq]; omega
     have HF : Hid (R = vb) := by show _ = _; rw [hRR.out]; simp [p1,p2]
     replace p1 := hide p1
     replace p2 := hide p2
     go_wp2_with fail
     refine keep (HVL.out w2 B2.out) ?_
     go_wp2_with fail
     go_ret
     exact ⟨by rw [HF.out]; rfl,B2.out⟩
    ·have q2 : ((lw : Int) == (lk : Int)) = false := by rw [beq_eq_false_iff_ne]; omega
     have HF : Hid (R = false) := by show _ = _; rw [hRR.out]; simp [p2]
     replace p1 := hide p1
     go_wp2_with fail
     go_ret
     exact ⟨by rw [HF.out]; rfl,B2.out⟩
   ·have q1 : ((lc : Int) == 0) = false := by rw [beq_eq_false_iff_ne]; omega
    have HF : Hid (R = false) := by show _ = _; rw [hRR.out]; simp [p1]
    go_wp2_with fail
    go_ret
    exact ⟨by rw [HF.out]; rfl,B2.out⟩
  | false =>
   obtain ⟨c0,c1,c2,c3,c4,c5⟩ := Six.of G2.out
   have x0 : w2.cell? ⟨w.heap.size + 1,0,none⟩ = some (.int .i64 nd) := by rw [cell_of_row _ _ _ _ _ _ F2.out]; rfl
   have x1 : w2.cell? ⟨w.heap.size + 1,1,none⟩ = some (.int .i64 lf) := by rw [cell_of_row _ _ _ _ _ _ F2.out]; rfl
   have x2 : w2.cell? ⟨w.heap.size + 1,2,none⟩ = some (.int .i64 inn) := by rw [cell_of_row _ _ _ _ _ _ F2.out]; rfl
   have x3 : w2.cell? ⟨w.heap.size + 1,3,none⟩ = some (.int .i64 fl) := by rw [cell_of_row _ _ _ _ _ _ F2.out]; rfl
   have x4 : w2.cell? ⟨w.heap.size + 1,4,none⟩ = some (.int .i64 bk) := by rw [cell_of_row _ _ _ _ _ _ F2.out]; rfl
   by_cases p1 : lw = 0
   ·have q1 : ((lw : Int) == 0) = true := by rw [beq_iff_eq]; omega
    by_cases p2 : lc = lk + 1
    ·have q2 : ((lc : Int) == (lk : Int) + 1) = true := by rw [beq_iff_eq]; omega
     have HF : Hid (R = kb) := by show _ = _; rw [hRR.out]; simp [p1,p2]
     replace p1 := hide p1
     replace p2 := hide p2
     go_wp2_with fail
     refine keep (HKD.out w2 B2.out) ?_
     go_wp2_with fail
     go_ret
     exact ⟨by rw [HF.out]; rfl,B2.out⟩
    ·have q2 : ((lc : Int) == (lk : Int) + 1) = false := by rw [beq_eq_false_iff_ne]; omega
     have HF : Hid (R = false) := by show _ = _; rw [hRR.out]; simp [p2]
     replace p1 := hide p1
     go_wp2_with fail
     go_ret
     exact ⟨by rw [HF.out]; rfl,B2.out⟩
   ·have q1 : ((lw : Int) == 0) = false := by rw [beq_eq_false_iff_ne]; omega
    have HF : Hid (R = false) := by show _ = _; rw [hRR.out]; simp [p1]
    go_wp2_with fail
    go_ret
    exact ⟨by rw [HF.out]; rfl,B2.out⟩
set_option maxHeartbeats 3200000 in
theorem ncheck_any (n : Nd) (nd lf inn fl bk : Int) (w : World) (hn : n.Ok w) : Calls Tryz.prog 145 #[n.v,.agg #[.int .i64 nd,.int .i64 lf,.int .i64 inn,.int .i64 fl,.int .i64 bk]] w fun e w' => e = .returned (.int .i64 (nchkE n.p nd lf inn fl bk)) ∧ Below w.heap.size w w' := by
 obtain ⟨R,hR⟩ : ∃ R,R = nchkE n.p nd lf inn fl bk := ⟨_,rfl⟩
 rw [← hR]
 unfold nchkE at hR
 obtain ⟨hb,hhb⟩ : ∃ hb,hb = decide (HdP n.lv n.hi.s.length n.ri nd) := ⟨_,rfl⟩
 obtain ⟨kb,hkb⟩ : ∃ kb,kb = decide (KyP n.hi.s n.ks.p) := ⟨_,rfl⟩
 obtain ⟨bb,hbb⟩ : ∃ bb,bb = decide (BdP n.p nd lf inn) := ⟨_,rfl⟩
 have HR : Hid (R = if cfgOk nd lf inn fl bk then (if hb = true ∧ kb = true ∧ bb = true then 0 else 91) else 1) := by show _ = _; rw [hR,hhb,hkb,hbb]; simp only [decide_eq_true_eq]; rfl
 have HCF : Hid (∀ W,Calls Tryz.prog 89 #[.agg #[.int .i64 nd,.int .i64 lf,.int .i64 inn,.int .i64 fl,.int .i64 bk]] W fun e w' => e = .returned (.int .i64 (cfgE nd lf inn fl bk)) ∧ Below W.heap.size W w') := fun W => config_any nd lf inn fl bk W
 have HHM : Hid (∀ W,Calls Tryz.prog 172 #[.agg #[.int .i64 n.lv,.slice n.hi.a n.hi.s.length n.hi.c,.int .i64 n.ri],.agg #[.int .i64 nd,.int .i64 lf,.int .i64 inn,.int .i64 fl,.int .i64 bk]] W fun e w' => e = .returned (.bool hb) ∧ Below W.heap.size W w') := fun W => by rw [hhb]; exact headMay_any n.lv n.ri n.hi.a _ n.hi.c nd lf inn fl bk W (by have := hn.h.z; omega)
 have HKM : Hid (∀ W,Below w.heap.size w W → Calls Tryz.prog 173 #[n.v] W fun e w' => e = .returned (.bool kb) ∧ Below W.heap.size W w') := fun W h => by rw [hkb]; exact keysMay_any n W (hn.below h)
 have HBM : Hid (∀ W,Below w.heap.size w W → Calls Tryz.prog 174 #[n.v,.agg #[.int .i64 nd,.int .i64 lf,.int .i64 inn,.int .i64 fl,.int .i64 bk]] W fun e w' => e = .returned (.bool bb) ∧ Below W.heap.size W w') := fun W h => by rw [hbb]; exact bodyMay_any n nd lf inn fl bk W (hn.below h)
 clear hR hhb hkb hbb hn
 obtain ⟨lv,⟨ha,hc,hs⟩,ri,⟨ka,kc,K⟩,⟨va,vc,V⟩,⟨ca,cc,C⟩⟩ := n
 simp only [Nd.v,Tx.v,TL.v,IL.v] at HHM HKM HBM ⊢
 generalize hs.length = lh at *
 generalize K.length = lk at *
 generalize V.length = lw at *
 generalize C.length = lc at *
 obtain ⟨w0,hw0⟩ : ∃ w0,w0 = (w.alloc (.cells #[.int .i64 lv,.slice ha lh hc,.int .i64 ri,.slice ka lk kc,.slice va lw vc,.slice ca lc cc] 110)).alloc (.cells #[.int .i64 nd,.int .i64 lf,.int .i64 inn,.int .i64 fl,.int .i64 bk] 23) := ⟨_,rfl⟩
 have B0 : Hid (Below w.heap.size w w0) := by show Below _ _ _; rw [hw0]; exact ((Below.refl _ _).alloc (Nat.le_refl _) _).alloc (by simp) _
 have G0 : Hid (w0.heap[w.heap.size]? = some (.cells #[.int .i64 lv,.slice ha lh hc,.int .i64 ri,.slice ka lk kc,.slice va lw vc,.slice ca lc cc] 110 (0,0))) := by show _ = _; rw [hw0]; exact old_at (new_at rfl)
 have F0 : Hid (w0.heap[w.heap.size + 1]? = some (.cells #[.int .i64 nd,.int .i64 lf,.int .i64 inn,.int .i64 fl,.int .i64 bk] 23 (0,0))) := by show _ = _; rw [hw0]; exact new_at (by simp)
 have HW0 := hide hw0
 clear hw0
 by_cases hcf : cfgOk nd lf inn fl bk
 ·rw [show cfgE nd lf inn fl bk = 0 from if_pos hcf] at HCF
  rw [if_pos hcf] at HR
  clear hcf
  go_enter Tryz.func145,Tryz.ntmps145
  go_wp2_with fail
  rw [← HW0.out]
  refine (HCF.out w0).mono ?_
  rintro e w1 ⟨rfl,b⟩
  have B1 := hide (B0.out.trans (b.mono B0.out.size))
  have G1 : Hid (w1.heap[w.heap.size]? = _) := (b.block _ (lt_of_block G0.out)).trans G0.out
  have F1 : Hid (w1.heap[w.heap.size + 1]? = some (.cells #[.int .i64 nd,.int .i64 lf,.int .i64 inn,.int .i64 fl,.int .i64 bk] 23 (0,0))) := (b.block _ (lt_of_block F0.out)).trans F0.out
  clear b HW0
  obtain ⟨c0,c1,c2,c3,c4,c5⟩ := Six.of G1.out
  have x0 : w1.cell? ⟨w.heap.size + 1,0,none⟩ = some (.int .i64 nd) := by rw [cell_of_row _ _ _ _ _ _ F1.out]; rfl
  have x1 : w1.cell? ⟨w.heap.size + 1,1,none⟩ = some (.int .i64 lf) := by rw [cell_of_row _ _ _ _ _ _ F1.out]; rfl
  have x2 : w1.cell? ⟨w.heap.size + 1,2,none⟩ = some (.int .i64 inn) := by rw [cell_of_row _ _ _ _ _ _ F1.out]; rfl
  have x3 : w1.cell? ⟨w.heap.size + 1,3,none⟩ = some (.int .i64 fl) := by rw [cell_of_row _ _ _ _ _ _ F1.out]; rfl
  have x4 : w1.cell? ⟨w.heap.size + 1,4,none⟩ = some (.int .i64 bk) := by rw [cell_of_row _ _ _ _ _ _ F1.out]; rfl
  go_wp2_with fail
  refine (HHM.out w1).mono ?_
  rintro e w2 ⟨rfl,b⟩
  have B2 := hide (B1.out.trans (b.mono B1.out.size))
  have G2 : Hid (w2.heap[w.heap.size]? = _) := (b.block _ (lt_of_block G1.out)).trans G1.out
  have F2 : Hid (w2.heap[w.heap.size + 1]? = some (.cells #[.int .i64 nd,.int .i64 lf,.int .i64 inn,.int .i64 fl,.int .i64 bk] 23 (0,0))) := (b.block _ (lt_of_block F1.out)).trans F1.out
  clear b
  clear c0 c1 c2 c3 c4 c5 x0 x1 x2 x3 x4
  cases hb with
  | false =>
   have HF : Hid (R = 91) := by show _ = _; rw [HR.out]; rfl
   go_wp2_with fail
   go_ret
   exact ⟨by rw [HF.out]; rfl,B2.out⟩
  | true =>
   obtain ⟨c0,c1,c2,c3,c4,c5⟩ := Six.of G2.out
   have x0 : w2.cell? ⟨w.heap.size + 1,0,none⟩ = some (.int .i64 nd) := by rw [cell_of_row _ _ _ _ _ _ F2.out]; rfl
   have x1 : w2.cell? ⟨w.heap.size + 1,1,none⟩ = some (.int .i64 lf) := by rw [cell_of_row _ _ _ _ _ _ F2.out]; rfl
   have x2 : w2.cell? ⟨w.heap.size + 1,2,none⟩ = some (.int .i64 inn) := by rw [cell_of_row _ _ _ _ _ _ F2.out]; rfl
   have x3 : w2.cell? ⟨w.heap.size + 1,3,none⟩ = some (.int .i64 fl) := by rw [cell_of_row _ _ _ _ _ _ F2.out]; rfl
   have x4 : w2.cell? ⟨w.heap.size + 1,4,none⟩ = some (.int .i64 bk) := by rw [cell_of_row _ _ _ _ _ _ F2.out]; rfl
   go_wp2_with fail
   refine (HKM.out w2 B2.out).mono ?_
   rintro e w3 ⟨rfl,b⟩
   have B3 := hide (B2.out.trans (b.mono B2.out.size))
   have G3 : Hid (w3.heap[w.heap.size]? = _) := (b.block _ (lt_of_block G2.out)).trans G2.out
   have F3 : Hid (w3.heap[w.heap.size + 1]? = some (.cells #[.int .i64 nd,.int .i64 lf,.int .i64 inn,.int .i64 fl,.int .i64 bk] 23 (0,0))) := (b.block _ (lt_of_block F2.out)).trans F2.out
   clear b
   clear c0 c1 c2 c3 c4 c5 x0 x1 x2 x3 x4
   cases kb with
   | false =>
    have HF : Hid (R = 91) := by show _ = _; rw [HR.out]; rfl
    go_wp2_with fail
    go_ret
    exact ⟨by rw [HF.out]; rfl,B3.out⟩
   | true =>
    obtain ⟨c0,c1,c2,c3,c4,c5⟩ := Six.of G3.out
    have x0 : w3.cell? ⟨w.heap.size + 1,0,none⟩ = some (.int .i64 nd) := by rw [cell_of_row _ _ _ _ _ _ F3.out]; rfl
    have x1 : w3.cell? ⟨w.heap.size + 1,1,none⟩ = some (.int .i64 lf) := by rw [cell_of_row _ _ _ _ _ _ F3.out]; rfl
    have x2 : w3.cell? ⟨w.heap.size + 1,2,none⟩ = some (.int .i64 inn) := by rw [cell_of_row _ _ _ _ _ _ F3.out]; rfl
    have x3 : w3.cell? ⟨w.heap.size + 1,3,none⟩ = some (.int .i64 fl) := by rw [cell_of_row _ _ _ _ _ _ F3.out]; rfl
    have x4 : w3.cell? ⟨w.heap.size + 1,4,none⟩ = some (.int .i64 bk) := by rw [cell_of_row _ _ _ _ _ _ F3.out]; rfl
    go_wp2_with fail
    refine (HBM.out w3 B3.out).mono ?_
    rintro e w4 ⟨rfl,b⟩
    have B4 := hide (B3.out.trans (b.mono B3.out.size))
    have G4 : Hid (w4.heap[w.heap.size]? = _) := (b.block _ (lt_of_block G3.out)).trans G3.out
    have F4 : Hid (w4.heap[w.heap.size + 1]? = some (.cells #[.int .i64 nd,.int .i64 lf,.int .i64 inn,.int .i64 fl,.int .i64 bk] 23 (0,0))) := (b.block _ (lt_of_block F3.out)).trans F3.out
    clear b
    clear c0 c1 c2 c3 c4 c5 x0 x1 x2 x3 x4
    cases bb with
    | false =>
     have HF : Hid (R = 91) := by show _ = _; rw [HR.out]; rfl
     go_wp2_with fail
     go_ret
     exact ⟨by rw [HF.out]; rfl,B4.out⟩
    | true =>
     have HF : Hid (R = 0) := by show _ = _; rw [HR.out]; rfl
     go_wp2_with fail
     go_ret
     exact ⟨by rw [HF.out]; rfl,B4.out⟩
 ·rw [show cfgE nd lf inn fl bk = 1 from if_neg hcf] at HCF
  rw [if_neg hcf] at HR
  clear hcf
  go_enter Tryz.func145,Tryz.ntmps145
  go_wp2_with fail
  rw [← HW0.out]
  refine (HCF.out w0).mono ?_
  rintro e w1 ⟨rfl,b⟩
  have B1 := hide (B0.out.trans (b.mono B0.out.size))
  have G1 : Hid (w1.heap[w.heap.size]? = _) := (b.block _ (lt_of_block G0.out)).trans G0.out
  have F1 : Hid (w1.heap[w.heap.size + 1]? = some (.cells #[.int .i64 nd,.int .i64 lf,.int .i64 inn,.int .i64 fl,.int .i64 bk] 23 (0,0))) := (b.block _ (lt_of_block F0.out)).trans F0.out
  clear b HW0
  go_wp2_with fail
  go_ret
  exact ⟨by rw [HR.out]; rfl,B1.out⟩
end Go.Proofs.YtljnapejgjffjaaGreat
