/- Texts of one's own. -/
import Derived.Test.YtealejbfloacpaaGreatM17
namespace Go.Proofs.YtealejbfloacpaaGreat
open Go.RowKit
set_option maxRecDepth 100000
theorem may_eq (p : NP) (nd lf inn : Int) (hi : 3 ≤ inn) (hd : HdP p.lv p.hi.length p.ri nd) : (KyP p.hi p.ks ∧ BdP p nd lf inn) ↔ (RtP p ∧ KyP p.hi p.ks ∧ ¬ (p.lv = 0 ∧ lf < (p.ks.length : Int))) ∧ VlP p.vs ∧ ((p.cs.length : Int) ≤ inn ∧ KdP p.cs nd) := by
 have hlv := hd.1.1.1
 have vnil : p.vs.length = 0 → VlP p.vs := fun h j hj => by omega
 have knil : p.cs.length = 0 → KdP p.cs nd := fun h j hj => by omega
 unfold BdP OvP RtP
 by_cases h0 : p.lv = 0
 ·simp only [h0]
  constructor
  ·rintro ⟨hk, ho, ⟨h1, h2⟩, h3⟩
   exact ⟨⟨⟨ky_rs hk, .inl ⟨trivial, h2, h1⟩⟩, hk, fun h => ho h.2⟩, h3, by omega, knil h1⟩
  ·rintro ⟨⟨⟨_, h1⟩, hk, ho⟩, h3, _, _⟩
   rcases h1 with h1 | h1
   ·exact ⟨hk, fun h => ho ⟨trivial, h⟩, ⟨h1.2.2, h1.2.1⟩, h3⟩
   ·exact absurd h1.1 (by omega)
 ·simp only [if_neg h0]
  constructor
  ·rintro ⟨hk, ho, ⟨h1, h2⟩, h3⟩
   exact ⟨⟨⟨ky_rs hk, .inr ⟨by omega, h1, h2⟩⟩, hk, fun h => h0 h.1⟩, vnil h1, by omega, h3⟩
  ·rintro ⟨⟨⟨_, h1⟩, hk, _⟩, _, h4, h5⟩
   rcases h1 with h1 | h1
   ·exact absurd h1.1 h0
   ·exact ⟨hk, by omega, ⟨h1.2.1, h1.2.2⟩, h5⟩
set_option maxRecDepth 100000 in
set_option maxHeartbeats 6400000 in
theorem rcheck_any (n : Nd) (nd lf inn fl bk : Int) (w : World) (hn : n.Ok w) : Calls Tryz.prog 147 #[n.v, .agg #[.int .i64 nd, .int .i64 lf, .int .i64 inn, .int .i64 fl, .int .i64 bk]] w fun e w' => e = .returned (.int .i64 (nchkE n.p nd lf inn fl bk)) ∧ Below w.heap.size w w' := by
 obtain ⟨R, hR⟩ : ∃ R, R = nchkE n.p nd lf inn fl bk := ⟨_, rfl⟩
 rw [← hR]
 unfold nchkE at hR
 obtain ⟨rb, hrb⟩ : ∃ rb, rb = decide (RtP n.p) := ⟨_, rfl⟩
 obtain ⟨kb, hkb⟩ : ∃ kb, kb = decide (KyP n.hi.s n.ks.p) := ⟨_, rfl⟩
 obtain ⟨cb, hcb⟩ : ∃ cb, cb = decide ((n.cs.s.length : Int) ≤ inn ∧ KdP n.cs.s nd) := ⟨_, rfl⟩
 have HN1 : Hid (¬ cfgOk nd lf inn fl bk → R = 1) := fun h => by rw [hR, if_neg h]
 have HN2 : Hid (cfgOk nd lf inn fl bk → ¬ HdP n.lv n.hi.s.length n.ri nd → R = 91) := fun h h2 => by rw [hR, if_pos h, if_neg fun h3 => h2 h3.1]
 have HN3 : Hid (cfgOk nd lf inn fl bk → HdP n.lv n.hi.s.length n.ri nd → ((((rb = true ∧ kb = true ∧ ¬ (n.lv = 0 ∧ lf < (n.ks.L.length : Int))) ∧ VlP n.vs.p ∧ cb = true) → R = 0) ∧ (¬ ((rb = true ∧ kb = true ∧ ¬ (n.lv = 0 ∧ lf < (n.ks.L.length : Int))) ∧ VlP n.vs.p ∧ cb = true) → R = 91))) := fun h h2 => by
  rw [hR, if_pos h, hrb, hkb, hcb]
  simp only [decide_eq_true_eq]
  have he := may_eq n.p nd lf inn h.2.2.1.1 h2
  rw [show n.p.ks.length = n.ks.L.length from TL.p_len _] at he
  exact ⟨fun h3 => if_pos ⟨h2, he.2 h3⟩, fun h3 => if_neg fun h4 => h3 (he.1 h4.2)⟩
 have hkz := hn.kz
 have hvz := hn.vz
 have hhz := hn.h.z
 have HV : Hid (∀ W, Below w.heap.size w W → n.vs.Ok W) := fun W h => (hn.below h).v
 have HCF : Hid (∀ W, Calls Tryz.prog 115 #[.agg #[.int .i64 nd, .int .i64 lf, .int .i64 inn, .int .i64 fl, .int .i64 bk]] W fun e w' => e = .returned (.int .i64 (cfgE nd lf inn fl bk)) ∧ Below W.heap.size W w') := fun W => rconfig_any nd lf inn fl bk W
 have HRT : Hid (∀ W, Below w.heap.size w W → Calls Tryz.prog 56 #[n.v] W fun e w' => e = .returned (.bool rb) ∧ Below W.heap.size W w') := fun W h => by rw [hrb]; exact right_any n W (hn.below h)
 have HKM : Hid (∀ W, Below w.heap.size w W → Calls Tryz.prog 171 #[n.v] W fun e w' => e = .returned (.bool kb) ∧ Below W.heap.size W w') := fun W h => by rw [hkb]; exact rkeys_any n W (hn.below h)
 have HBM : Hid (∀ W, Below w.heap.size w W → Calls Tryz.prog 172 #[n.v, .agg #[.int .i64 nd, .int .i64 lf, .int .i64 inn, .int .i64 fl, .int .i64 bk]] W fun e w' => e = .returned (.bool cb) ∧ Below W.heap.size W w') := fun W h => by rw [hcb]; exact rkids_any n nd lf inn fl bk W (hn.below h)
 clear hR hrb hkb hcb hn
 obtain ⟨lv, ⟨ha, hc, hs⟩, ri, ⟨ka, kc, K⟩, ⟨va, vc, V⟩, ⟨ca, cc, C⟩⟩ := n
 simp only [Nd.v, Tx.v, TL.v, IL.v, TL.p] at HRT HKM HBM HV HN2 HN3 hkz hvz hhz ⊢
 obtain ⟨lw, hlw⟩ : ∃ lw, V.length = lw := ⟨_, rfl⟩
 rw [hlw] at hvz HRT HKM HBM ⊢
 replace hlw := hide hlw
 generalize hs.length = lh at *
 generalize K.length = lk at *
 generalize C.length = lc at *
 have HPL : Hid ((V.map (·.s)).length = lw) := by show _ = _; rw [List.length_map, hlw.out]
 have HGE : Hid (∀ i (h : i < V.length), (V.map (·.s)).getD i [] = V[i].s) := fun i h => tl_getD (t := ⟨va, vc, V⟩) h
 obtain ⟨w0, hw0⟩ : ∃ w0, w0 = (w.alloc (.cells #[.int .i64 lv, .slice ha lh hc, .int .i64 ri, .slice ka lk kc, .slice va lw vc, .slice ca lc cc] 35)).alloc (.cells #[.int .i64 nd, .int .i64 lf, .int .i64 inn, .int .i64 fl, .int .i64 bk] 49) := ⟨_, rfl⟩
 have B0 : Hid (Below w.heap.size w w0) := by show Below _ _ _; rw [hw0]; exact ((Below.refl _ _).alloc (Nat.le_refl _) _).alloc (by simp) _
 have G0 : Hid (w0.heap[w.heap.size]? = some (.cells #[.int .i64 lv, .slice ha lh hc, .int .i64 ri, .slice ka lk kc, .slice va lw vc, .slice ca lc cc] 35 (0, 0))) := by show _ = _; rw [hw0]; exact old_at (new_at rfl)
 have F0 : Hid (w0.heap[w.heap.size + 1]? = some (.cells #[.int .i64 nd, .int .i64 lf, .int .i64 inn, .int .i64 fl, .int .i64 bk] 49 (0, 0))) := by show _ = _; rw [hw0]; exact new_at (by simp)
 have HW0 := hide hw0
 clear hw0
 by_cases hcf : cfgOk nd lf inn fl bk
 ·rw [show cfgE nd lf inn fl bk = 0 from if_pos hcf] at HCF
  replace HN2 := hide (HN2.out hcf)
  replace HN3 := hide (HN3.out hcf)
  clear hcf HN1
  by_cases p0 : 0 ≤ lv
  ·have g0 : ¬ lv < 0 := by omega
   by_cases p1 : lv ≤ 32
   ·have g1 : ¬ 32 < lv := by omega
    by_cases p2 : 0 ≤ ri
    ·have g2 : ¬ ri < 0 := by omega
     by_cases p3 : ri ≤ nd
     ·have g3 : ¬ nd < ri := by omega
      by_cases p4 : (lh = 0 ↔ ri = 0)
      ·have g4 : (((lh : Int) == 0) = (ri == 0)) := by
        by_cases a : lh = 0
        ·have b := p4.1 a; subst a; subst b; rfl
        ·have b : ¬ ri = 0 := fun h => a (p4.2 h)
         rw [beq_eq_false_iff_ne.2 (show (lh : Int) ≠ 0 by omega), beq_eq_false_iff_ne.2 b]
       by_cases p5 : lh ≤ 64
       ·have g5 : ¬ (64 : Int) < (lh : Int) := by omega
        replace HN3 := hide (HN3.out ⟨⟨⟨p0, p1⟩, p2, p3⟩, p4, p5⟩)
        clear p0 p1 p2 p3 p4 p5 HN2
        go_enter Tryz.func147, Tryz.ntmps147
        go_wp2_with fail
        rw [← HW0.out]
        refine (HCF.out w0).mono ?_
        rintro e w1 ⟨rfl, b⟩
        have B1 := hide (B0.out.trans (b.mono B0.out.size))
        have G1 : Hid (w1.heap[w.heap.size]? = _) := (b.block _ (lt_of_block G0.out)).trans G0.out
        have F1 : Hid (w1.heap[w.heap.size + 1]? = some (.cells #[.int .i64 nd, .int .i64 lf, .int .i64 inn, .int .i64 fl, .int .i64 bk] 49 (0, 0))) := (b.block _ (lt_of_block F0.out)).trans F0.out
        clear b HW0
        obtain ⟨c0, c1, c2, c3, c4, c5⟩ := Six.of G1.out
        have x0 : w1.cell? ⟨w.heap.size + 1, 0, none⟩ = some (.int .i64 nd) := by rw [cell_of_row _ _ _ _ _ _ F1.out]; rfl
        have x1 : w1.cell? ⟨w.heap.size + 1, 1, none⟩ = some (.int .i64 lf) := by rw [cell_of_row _ _ _ _ _ _ F1.out]; rfl
        have x2 : w1.cell? ⟨w.heap.size + 1, 2, none⟩ = some (.int .i64 inn) := by rw [cell_of_row _ _ _ _ _ _ F1.out]; rfl
        have x3 : w1.cell? ⟨w.heap.size + 1, 3, none⟩ = some (.int .i64 fl) := by rw [cell_of_row _ _ _ _ _ _ F1.out]; rfl
        have x4 : w1.cell? ⟨w.heap.size + 1, 4, none⟩ = some (.int .i64 bk) := by rw [cell_of_row _ _ _ _ _ _ F1.out]; rfl
        go_wp2_with fail
        refine (HRT.out w1 B1.out).mono ?_
        rintro e w2 ⟨rfl, b⟩
        have B2 := hide (B1.out.trans (b.mono B1.out.size))
        have G2 : Hid (w2.heap[w.heap.size]? = _) := (b.block _ (lt_of_block G1.out)).trans G1.out
        have F2 : Hid (w2.heap[w.heap.size + 1]? = some (.cells #[.int .i64 nd, .int .i64 lf, .int .i64 inn, .int .i64 fl, .int .i64 bk] 49 (0, 0))) := (b.block _ (lt_of_block F1.out)).trans F1.out
        clear b
        clear c0 c1 c2 c3 c4 c5 x0 x1 x2 x3 x4
        obtain ⟨c0, c1, c2, c3, c4, c5⟩ := Six.of G2.out
        have x0 : w2.cell? ⟨w.heap.size + 1, 0, none⟩ = some (.int .i64 nd) := by rw [cell_of_row _ _ _ _ _ _ F2.out]; rfl
        have x1 : w2.cell? ⟨w.heap.size + 1, 1, none⟩ = some (.int .i64 lf) := by rw [cell_of_row _ _ _ _ _ _ F2.out]; rfl
        have x2 : w2.cell? ⟨w.heap.size + 1, 2, none⟩ = some (.int .i64 inn) := by rw [cell_of_row _ _ _ _ _ _ F2.out]; rfl
        have x3 : w2.cell? ⟨w.heap.size + 1, 3, none⟩ = some (.int .i64 fl) := by rw [cell_of_row _ _ _ _ _ _ F2.out]; rfl
        have x4 : w2.cell? ⟨w.heap.size + 1, 4, none⟩ = some (.int .i64 bk) := by rw [cell_of_row _ _ _ _ _ _ F2.out]; rfl
        go_wp2_with fail
        refine (HKM.out w2 B2.out).mono ?_
        rintro e w3 ⟨rfl, b⟩
        have B3 := hide (B2.out.trans (b.mono B2.out.size))
        have G3 : Hid (w3.heap[w.heap.size]? = _) := (b.block _ (lt_of_block G2.out)).trans G2.out
        have F3 : Hid (w3.heap[w.heap.size + 1]? = some (.cells #[.int .i64 nd, .int .i64 lf, .int .i64 inn, .int .i64 fl, .int .i64 bk] 49 (0, 0))) := (b.block _ (lt_of_block F2.out)).trans F2.out
        clear b
        clear c0 c1 c2 c3 c4 c5 x0 x1 x2 x3 x4
        cases rb with
        | false =>
         have HF : Hid (R = 91) := by show _ = _; exact HN3.out.2 fun h => absurd h.1.1 (by decide)
         go_wp2_with fail
         go_ret
         exact ⟨by rw [HF.out]; rfl, B3.out⟩
        | true =>
         cases kb with
         | false =>
          have HF : Hid (R = 91) := by show _ = _; exact HN3.out.2 fun h => absurd h.1.2.1 (by decide)
          go_wp2_with fail
          go_ret
          exact ⟨by rw [HF.out]; rfl, B3.out⟩
         | true =>
          obtain ⟨c0, c1, c2, c3, c4, c5⟩ := Six.of G3.out
          have x0 : w3.cell? ⟨w.heap.size + 1, 0, none⟩ = some (.int .i64 nd) := by rw [cell_of_row _ _ _ _ _ _ F3.out]; rfl
          have x1 : w3.cell? ⟨w.heap.size + 1, 1, none⟩ = some (.int .i64 lf) := by rw [cell_of_row _ _ _ _ _ _ F3.out]; rfl
          have x2 : w3.cell? ⟨w.heap.size + 1, 2, none⟩ = some (.int .i64 inn) := by rw [cell_of_row _ _ _ _ _ _ F3.out]; rfl
          have x3 : w3.cell? ⟨w.heap.size + 1, 3, none⟩ = some (.int .i64 fl) := by rw [cell_of_row _ _ _ _ _ _ F3.out]; rfl
          have x4 : w3.cell? ⟨w.heap.size + 1, 4, none⟩ = some (.int .i64 bk) := by rw [cell_of_row _ _ _ _ _ _ F3.out]; rfl
          by_cases q1 : lv = 0
          ·have r1 : (lv == 0) = true := by rw [beq_iff_eq]; exact q1
           by_cases q2 : lf < (lk : Int)
           ·have HF : Hid (R = 91) := by show _ = _; exact HN3.out.2 fun h => h.1.2.2 ⟨q1, q2⟩
            replace q1 := hide q1
            go_wp2_with fail
            go_ret
            exact ⟨by rw [HF.out]; rfl, B3.out⟩
           ·have HQ : Hid (¬ (lv = 0 ∧ lf < (lk : Int))) := fun h => q2 h.2
            replace q1 := hide q1
            go_wp2_with fail
            clear c0 c1 c2 c3 c4 c5 x0 x1 x2 x3 x4
            go_loopw [8] (fun q wr => ∃ i : Nat, q = .int .i64 (i : Int) ∧ i ≤ lw ∧ Hid (Below w.heap.size w wr) ∧ Hid (wr.heap[w.heap.size]? = some (.cells #[.int .i64 lv, .slice ha lh hc, .int .i64 ri, .slice ka lk kc, .slice va lw vc, .slice ca lc cc] 35 (0, 0))) ∧ Hid (wr.heap[w.heap.size + 1]? = some (.cells #[.int .i64 nd, .int .i64 lf, .int .i64 inn, .int .i64 fl, .int .i64 bk] 49 (0, 0))) ∧ Hid (∀ j, j < i → ((V.map (·.s)).getD j []).length ≤ 256)) (fun q _ => lw - (intOf q).toNat)
            case atStart => exact ⟨0, rfl, Nat.zero_le _, B3, G3, F3, fun j hj => absurd hj (Nat.not_lt_zero j)⟩
            case round =>
             clear B1 B2 B3 G1 G2 G3 F1 F2 F3 B0 G0 F0
             obtain ⟨i, rfl, hle, B3, G3, F3, HE⟩ := hrel
             rename World => w3
             obtain ⟨c0, c1, c2, c3, c4, c5⟩ := Six.of G3.out
             have x0 : w3.cell? ⟨w.heap.size + 1, 0, none⟩ = some (.int .i64 nd) := by rw [cell_of_row _ _ _ _ _ _ F3.out]; rfl
             have x1 : w3.cell? ⟨w.heap.size + 1, 1, none⟩ = some (.int .i64 lf) := by rw [cell_of_row _ _ _ _ _ _ F3.out]; rfl
             have x2 : w3.cell? ⟨w.heap.size + 1, 2, none⟩ = some (.int .i64 inn) := by rw [cell_of_row _ _ _ _ _ _ F3.out]; rfl
             have x3 : w3.cell? ⟨w.heap.size + 1, 3, none⟩ = some (.int .i64 fl) := by rw [cell_of_row _ _ _ _ _ _ F3.out]; rfl
             have x4 : w3.cell? ⟨w.heap.size + 1, 4, none⟩ = some (.int .i64 bk) := by rw [cell_of_row _ _ _ _ _ _ F3.out]; rfl
             by_cases hlt : i < lw
             ·have j1 : (i : Int) < (lw : Int) := by omega
              have j2 : (0 : Int) ≤ (i : Int) := by omega
              have h1 : i < V.length := by rw [hlw.out]; exact hlt
              obtain ⟨b1, o1, ha1, s1⟩ := (HV.out w3 B3.out).r i h1
              simp only at ha1
              subst ha1
              have e1 := HGE.out i h1
              obtain ⟨x, hx⟩ : ∃ x, x = V[i] := ⟨_, rfl⟩
              simp only [← hx] at s1 e1
              clear hx
              unfold Tx.v at s1
              obtain ⟨n1, hn1⟩ : ∃ n1, x.s.length = n1 := ⟨_, rfl⟩
              rw [hn1] at s1
              have HVA := hide (rvalue_any x.a n1 x.c w3)
              by_cases hc : n1 ≤ 256
              ·rw [decide_eq_true hc] at HVA
               have HE2 : Hid (∀ j, j < i + 1 → ((V.map (·.s)).getD j []).length ≤ 256) := fun j hj => by
                by_cases e : j = i
                ·rw [e, e1, hn1]; exact hc
                ·exact HE.out j (by omega)
               clear HE e1 hn1 hc
               go_wp2_with fail
               refine keep HVA.out ?_
               go_wp2_with fail
               go_roundw
               case rel => exact ⟨i + 1, by go_num, by omega, B3, G3, F3, HE2⟩
               case measure => simp [intOf]; omega
              ·rw [decide_eq_false hc] at HVA
               have HF : Hid (R = 91) := by
                show _ = _
                refine HN3.out.2 fun h => hc ?_
                have := h.2.1 i (by rw [HPL.out]; exact hlt)
                rw [e1, hn1] at this
                exact this
               clear HE e1 hn1 hc
               go_wp2_with fail
               refine keep HVA.out ?_
               go_wp2_with fail
               go_ret
               exact ⟨by rw [HF.out]; rfl, B3.out⟩
             ·have j1 : ¬ (i : Int) < (lw : Int) := by omega
              have HVP : VlP (V.map (·.s)) := fun j hj => HE.out j (by rw [HPL.out] at hj; omega)
              replace HVP := hide HVP
              clear HE
              go_wp2_with fail
              refine (HBM.out w3 B3.out).mono ?_
              rintro e w4 ⟨rfl, b⟩
              have B4 := hide (B3.out.trans (b.mono B3.out.size))
              have G4 : Hid (w4.heap[w.heap.size]? = _) := (b.block _ (lt_of_block G3.out)).trans G3.out
              have F4 : Hid (w4.heap[w.heap.size + 1]? = some (.cells #[.int .i64 nd, .int .i64 lf, .int .i64 inn, .int .i64 fl, .int .i64 bk] 49 (0, 0))) := (b.block _ (lt_of_block F3.out)).trans F3.out
              clear b
              clear c0 c1 c2 c3 c4 c5 x0 x1 x2 x3 x4
              cases cb with
              | false =>
               have HF : Hid (R = 91) := HN3.out.2 fun h => absurd h.2.2 (by decide)
               go_wp2_with fail
               go_ret
               exact ⟨by rw [HF.out]; rfl, B4.out⟩
              | true =>
               have HF : Hid (R = 0) := HN3.out.1 ⟨⟨True.intro, True.intro, HQ.out⟩, HVP.out, rfl⟩
               go_wp2_with fail
               go_ret
               exact ⟨by rw [HF.out]; rfl, B4.out⟩
          ·have r1 : (lv == 0) = false := by rw [beq_eq_false_iff_ne]; exact q1
           have HQ : Hid (¬ (lv = 0 ∧ lf < (lk : Int))) := fun h => q1 h.1
           replace q1 : Hid (lv ≠ 0) := q1
           go_wp2_with fail
           clear c0 c1 c2 c3 c4 c5 x0 x1 x2 x3 x4
           go_loopw [8] (fun q wr => ∃ i : Nat, q = .int .i64 (i : Int) ∧ i ≤ lw ∧ Hid (Below w.heap.size w wr) ∧ Hid (wr.heap[w.heap.size]? = some (.cells #[.int .i64 lv, .slice ha lh hc, .int .i64 ri, .slice ka lk kc, .slice va lw vc, .slice ca lc cc] 35 (0, 0))) ∧ Hid (wr.heap[w.heap.size + 1]? = some (.cells #[.int .i64 nd, .int .i64 lf, .int .i64 inn, .int .i64 fl, .int .i64 bk] 49 (0, 0))) ∧ Hid (∀ j, j < i → ((V.map (·.s)).getD j []).length ≤ 256)) (fun q _ => lw - (intOf q).toNat)
           case atStart => exact ⟨0, rfl, Nat.zero_le _, B3, G3, F3, fun j hj => absurd hj (Nat.not_lt_zero j)⟩
           case round =>
            clear B1 B2 B3 G1 G2 G3 F1 F2 F3 B0 G0 F0
            obtain ⟨i, rfl, hle, B3, G3, F3, HE⟩ := hrel
            rename World => w3
            obtain ⟨c0, c1, c2, c3, c4, c5⟩ := Six.of G3.out
            have x0 : w3.cell? ⟨w.heap.size + 1, 0, none⟩ = some (.int .i64 nd) := by rw [cell_of_row _ _ _ _ _ _ F3.out]; rfl
            have x1 : w3.cell? ⟨w.heap.size + 1, 1, none⟩ = some (.int .i64 lf) := by rw [cell_of_row _ _ _ _ _ _ F3.out]; rfl
            have x2 : w3.cell? ⟨w.heap.size + 1, 2, none⟩ = some (.int .i64 inn) := by rw [cell_of_row _ _ _ _ _ _ F3.out]; rfl
            have x3 : w3.cell? ⟨w.heap.size + 1, 3, none⟩ = some (.int .i64 fl) := by rw [cell_of_row _ _ _ _ _ _ F3.out]; rfl
            have x4 : w3.cell? ⟨w.heap.size + 1, 4, none⟩ = some (.int .i64 bk) := by rw [cell_of_row _ _ _ _ _ _ F3.out]; rfl
            by_cases hlt : i < lw
            ·have j1 : (i : Int) < (lw : Int) := by omega
             have j2 : (0 : Int) ≤ (i : Int) := by omega
             have h1 : i < V.length := by rw [hlw.out]; exact hlt
             obtain ⟨b1, o1, ha1, s1⟩ := (HV.out w3 B3.out).r i h1
             simp only at ha1
             subst ha1
             have e1 := HGE.out i h1
             obtain ⟨x, hx⟩ : ∃ x, x = V[i] := ⟨_, rfl⟩
             simp only [← hx] at s1 e1
             clear hx
             unfold Tx.v at s1
             obtain ⟨n1, hn1⟩ : ∃ n1, x.s.length = n1 := ⟨_, rfl⟩
             rw [hn1] at s1
             have HVA := hide (rvalue_any x.a n1 x.c w3)
             by_cases hc : n1 ≤ 256
             ·rw [decide_eq_true hc] at HVA
              have HE2 : Hid (∀ j, j < i + 1 → ((V.map (·.s)).getD j []).length ≤ 256) := fun j hj => by
               by_cases e : j = i
               ·rw [e, e1, hn1]; exact hc
               ·exact HE.out j (by omega)
              clear HE e1 hn1 hc
              go_wp2_with fail
              refine keep HVA.out ?_
              go_wp2_with fail
              go_roundw
              case rel => exact ⟨i + 1, by go_num, by omega, B3, G3, F3, HE2⟩
              case measure => simp [intOf]; omega
             ·rw [decide_eq_false hc] at HVA
              have HF : Hid (R = 91) := by
               show _ = _
               refine HN3.out.2 fun h => hc ?_
               have := h.2.1 i (by rw [HPL.out]; exact hlt)
               rw [e1, hn1] at this
               exact this
              clear HE e1 hn1 hc
              go_wp2_with fail
              refine keep HVA.out ?_
              go_wp2_with fail
              go_ret
              exact ⟨by rw [HF.out]; rfl, B3.out⟩
            ·have j1 : ¬ (i : Int) < (lw : Int) := by omega
             have HVP : VlP (V.map (·.s)) := fun j hj => HE.out j (by rw [HPL.out] at hj; omega)
             replace HVP := hide HVP
             clear HE
             go_wp2_with fail
             refine (HBM.out w3 B3.out).mono ?_
             rintro e w4 ⟨rfl, b⟩
             have B4 := hide (B3.out.trans (b.mono B3.out.size))
             have G4 : Hid (w4.heap[w.heap.size]? = _) := (b.block _ (lt_of_block G3.out)).trans G3.out
             have F4 : Hid (w4.heap[w.heap.size + 1]? = some (.cells #[.int .i64 nd, .int .i64 lf, .int .i64 inn, .int .i64 fl, .int .i64 bk] 49 (0, 0))) := (b.block _ (lt_of_block F3.out)).trans F3.out
             clear b
             clear c0 c1 c2 c3 c4 c5 x0 x1 x2 x3 x4
             cases cb with
             | false =>
              have HF : Hid (R = 91) := HN3.out.2 fun h => absurd h.2.2 (by decide)
              go_wp2_with fail
              go_ret
              exact ⟨by rw [HF.out]; rfl, B4.out⟩
             | true =>
              have HF : Hid (R = 0) := HN3.out.1 ⟨⟨True.intro, True.intro, HQ.out⟩, HVP.out, rfl⟩
              go_wp2_with fail
              go_ret
              exact ⟨by rw [HF.out]; rfl, B4.out⟩
       ·have g5 : (64 : Int) < (lh : Int) := by omega
        have HF : Hid (R = 91) := HN2.out fun h => p5 h.2.2
        clear HN2 HN3
        go_enter Tryz.func147, Tryz.ntmps147
        go_wp2_with fail
        rw [← HW0.out]
        refine (HCF.out w0).mono ?_
        rintro e w1 ⟨rfl, b⟩
        have B1 := hide (B0.out.trans (b.mono B0.out.size))
        have G1 : Hid (w1.heap[w.heap.size]? = _) := (b.block _ (lt_of_block G0.out)).trans G0.out
        have F1 : Hid (w1.heap[w.heap.size + 1]? = some (.cells #[.int .i64 nd, .int .i64 lf, .int .i64 inn, .int .i64 fl, .int .i64 bk] 49 (0, 0))) := (b.block _ (lt_of_block F0.out)).trans F0.out
        clear b HW0
        obtain ⟨c0, c1, c2, c3, c4, c5⟩ := Six.of G1.out
        have x0 : w1.cell? ⟨w.heap.size + 1, 0, none⟩ = some (.int .i64 nd) := by rw [cell_of_row _ _ _ _ _ _ F1.out]; rfl
        have x1 : w1.cell? ⟨w.heap.size + 1, 1, none⟩ = some (.int .i64 lf) := by rw [cell_of_row _ _ _ _ _ _ F1.out]; rfl
        have x2 : w1.cell? ⟨w.heap.size + 1, 2, none⟩ = some (.int .i64 inn) := by rw [cell_of_row _ _ _ _ _ _ F1.out]; rfl
        have x3 : w1.cell? ⟨w.heap.size + 1, 3, none⟩ = some (.int .i64 fl) := by rw [cell_of_row _ _ _ _ _ _ F1.out]; rfl
        have x4 : w1.cell? ⟨w.heap.size + 1, 4, none⟩ = some (.int .i64 bk) := by rw [cell_of_row _ _ _ _ _ _ F1.out]; rfl
        go_wp2_with fail
        go_ret
        exact ⟨by rw [HF.out]; rfl, B1.out⟩
      ·have g4 : ¬ (((lh : Int) == 0) = (ri == 0)) := by
        by_cases a : lh = 0
        ·have b : ¬ ri = 0 := fun h => p4 ⟨fun _ => h, fun _ => a⟩
         subst a
         rw [beq_eq_false_iff_ne.2 b]; decide
        ·have b : ri = 0 := Classical.byContradiction fun h => p4 ⟨fun h' => absurd h' a, fun h' => absurd h' h⟩
         subst b
         rw [beq_eq_false_iff_ne.2 (show (lh : Int) ≠ 0 by omega)]; decide
       have HF : Hid (R = 91) := HN2.out fun h => p4 h.2.1
       clear HN2 HN3
       go_enter Tryz.func147, Tryz.ntmps147
       go_wp2_with fail
       rw [← HW0.out]
       refine (HCF.out w0).mono ?_
       rintro e w1 ⟨rfl, b⟩
       have B1 := hide (B0.out.trans (b.mono B0.out.size))
       have G1 : Hid (w1.heap[w.heap.size]? = _) := (b.block _ (lt_of_block G0.out)).trans G0.out
       have F1 : Hid (w1.heap[w.heap.size + 1]? = some (.cells #[.int .i64 nd, .int .i64 lf, .int .i64 inn, .int .i64 fl, .int .i64 bk] 49 (0, 0))) := (b.block _ (lt_of_block F0.out)).trans F0.out
       clear b HW0
       obtain ⟨c0, c1, c2, c3, c4, c5⟩ := Six.of G1.out
       have x0 : w1.cell? ⟨w.heap.size + 1, 0, none⟩ = some (.int .i64 nd) := by rw [cell_of_row _ _ _ _ _ _ F1.out]; rfl
       have x1 : w1.cell? ⟨w.heap.size + 1, 1, none⟩ = some (.int .i64 lf) := by rw [cell_of_row _ _ _ _ _ _ F1.out]; rfl
       have x2 : w1.cell? ⟨w.heap.size + 1, 2, none⟩ = some (.int .i64 inn) := by rw [cell_of_row _ _ _ _ _ _ F1.out]; rfl
       have x3 : w1.cell? ⟨w.heap.size + 1, 3, none⟩ = some (.int .i64 fl) := by rw [cell_of_row _ _ _ _ _ _ F1.out]; rfl
       have x4 : w1.cell? ⟨w.heap.size + 1, 4, none⟩ = some (.int .i64 bk) := by rw [cell_of_row _ _ _ _ _ _ F1.out]; rfl
       go_wp2_with fail
       go_ret
       exact ⟨by rw [HF.out]; rfl, B1.out⟩
     ·have g3 : nd < ri := by omega
      have HF : Hid (R = 91) := HN2.out fun h => p3 h.1.2.2
      clear HN2 HN3
      go_enter Tryz.func147, Tryz.ntmps147
      go_wp2_with fail
      rw [← HW0.out]
      refine (HCF.out w0).mono ?_
      rintro e w1 ⟨rfl, b⟩
      have B1 := hide (B0.out.trans (b.mono B0.out.size))
      have G1 : Hid (w1.heap[w.heap.size]? = _) := (b.block _ (lt_of_block G0.out)).trans G0.out
      have F1 : Hid (w1.heap[w.heap.size + 1]? = some (.cells #[.int .i64 nd, .int .i64 lf, .int .i64 inn, .int .i64 fl, .int .i64 bk] 49 (0, 0))) := (b.block _ (lt_of_block F0.out)).trans F0.out
      clear b HW0
      obtain ⟨c0, c1, c2, c3, c4, c5⟩ := Six.of G1.out
      have x0 : w1.cell? ⟨w.heap.size + 1, 0, none⟩ = some (.int .i64 nd) := by rw [cell_of_row _ _ _ _ _ _ F1.out]; rfl
      have x1 : w1.cell? ⟨w.heap.size + 1, 1, none⟩ = some (.int .i64 lf) := by rw [cell_of_row _ _ _ _ _ _ F1.out]; rfl
      have x2 : w1.cell? ⟨w.heap.size + 1, 2, none⟩ = some (.int .i64 inn) := by rw [cell_of_row _ _ _ _ _ _ F1.out]; rfl
      have x3 : w1.cell? ⟨w.heap.size + 1, 3, none⟩ = some (.int .i64 fl) := by rw [cell_of_row _ _ _ _ _ _ F1.out]; rfl
      have x4 : w1.cell? ⟨w.heap.size + 1, 4, none⟩ = some (.int .i64 bk) := by rw [cell_of_row _ _ _ _ _ _ F1.out]; rfl
      go_wp2_with fail
      go_ret
      exact ⟨by rw [HF.out]; rfl, B1.out⟩
    ·have g2 : ri < 0 := by omega
     have HF : Hid (R = 91) := HN2.out fun h => p2 h.1.2.1
     clear HN2 HN3
     go_enter Tryz.func147, Tryz.ntmps147
     go_wp2_with fail
     rw [← HW0.out]
     refine (HCF.out w0).mono ?_
     rintro e w1 ⟨rfl, b⟩
     have B1 := hide (B0.out.trans (b.mono B0.out.size))
     have G1 : Hid (w1.heap[w.heap.size]? = _) := (b.block _ (lt_of_block G0.out)).trans G0.out
     have F1 : Hid (w1.heap[w.heap.size + 1]? = some (.cells #[.int .i64 nd, .int .i64 lf, .int .i64 inn, .int .i64 fl, .int .i64 bk] 49 (0, 0))) := (b.block _ (lt_of_block F0.out)).trans F0.out
     clear b HW0
     obtain ⟨c0, c1, c2, c3, c4, c5⟩ := Six.of G1.out
     have x0 : w1.cell? ⟨w.heap.size + 1, 0, none⟩ = some (.int .i64 nd) := by rw [cell_of_row _ _ _ _ _ _ F1.out]; rfl
     have x1 : w1.cell? ⟨w.heap.size + 1, 1, none⟩ = some (.int .i64 lf) := by rw [cell_of_row _ _ _ _ _ _ F1.out]; rfl
     have x2 : w1.cell? ⟨w.heap.size + 1, 2, none⟩ = some (.int .i64 inn) := by rw [cell_of_row _ _ _ _ _ _ F1.out]; rfl
     have x3 : w1.cell? ⟨w.heap.size + 1, 3, none⟩ = some (.int .i64 fl) := by rw [cell_of_row _ _ _ _ _ _ F1.out]; rfl
     have x4 : w1.cell? ⟨w.heap.size + 1, 4, none⟩ = some (.int .i64 bk) := by rw [cell_of_row _ _ _ _ _ _ F1.out]; rfl
     go_wp2_with fail
     go_ret
     exact ⟨by rw [HF.out]; rfl, B1.out⟩
   ·have g1 : 32 < lv := by omega
    have HF : Hid (R = 91) := HN2.out fun h => p1 h.1.1.2
    clear HN2 HN3
    go_enter Tryz.func147, Tryz.ntmps147
    go_wp2_with fail
    rw [← HW0.out]
    refine (HCF.out w0).mono ?_
    rintro e w1 ⟨rfl, b⟩
    have B1 := hide (B0.out.trans (b.mono B0.out.size))
    have G1 : Hid (w1.heap[w.heap.size]? = _) := (b.block _ (lt_of_block G0.out)).trans G0.out
    have F1 : Hid (w1.heap[w.heap.size + 1]? = some (.cells #[.int .i64 nd, .int .i64 lf, .int .i64 inn, .int .i64 fl, .int .i64 bk] 49 (0, 0))) := (b.block _ (lt_of_block F0.out)).trans F0.out
    clear b HW0
    obtain ⟨c0, c1, c2, c3, c4, c5⟩ := Six.of G1.out
    have x0 : w1.cell? ⟨w.heap.size + 1, 0, none⟩ = some (.int .i64 nd) := by rw [cell_of_row _ _ _ _ _ _ F1.out]; rfl
    have x1 : w1.cell? ⟨w.heap.size + 1, 1, none⟩ = some (.int .i64 lf) := by rw [cell_of_row _ _ _ _ _ _ F1.out]; rfl
    have x2 : w1.cell? ⟨w.heap.size + 1, 2, none⟩ = some (.int .i64 inn) := by rw [cell_of_row _ _ _ _ _ _ F1.out]; rfl
    have x3 : w1.cell? ⟨w.heap.size + 1, 3, none⟩ = some (.int .i64 fl) := by rw [cell_of_row _ _ _ _ _ _ F1.out]; rfl
    have x4 : w1.cell? ⟨w.heap.size + 1, 4, none⟩ = some (.int .i64 bk) := by rw [cell_of_row _ _ _ _ _ _ F1.out]; rfl
    go_wp2_with fail
    go_ret
    exact ⟨by rw [HF.out]; rfl, B1.out⟩
  ·have g0 : lv < 0 := by omega
   have HF : Hid (R = 91) := HN2.out fun h => p0 h.1.1.1
   clear HN2 HN3
   go_enter Tryz.func147, Tryz.ntmps147
   go_wp2_with fail
   rw [← HW0.out]
   refine (HCF.out w0).mono ?_
   rintro e w1 ⟨rfl, b⟩
   have B1 := hide (B0.out.trans (b.mono B0.out.size))
   have G1 : Hid (w1.heap[w.heap.size]? = _) := (b.block _ (lt_of_block G0.out)).trans G0.out
   have F1 : Hid (w1.heap[w.heap.size + 1]? = some (.cells #[.int .i64 nd, .int .i64 lf, .int .i64 inn, .int .i64 fl, .int .i64 bk] 49 (0, 0))) := (b.block _ (lt_of_block F0.out)).trans F0.out
   clear b HW0
   obtain ⟨c0, c1, c2, c3, c4, c5⟩ := Six.of G1.out
   have x0 : w1.cell? ⟨w.heap.size + 1, 0, none⟩ = some (.int .i64 nd) := by rw [cell_of_row _ _ _ _ _ _ F1.out]; rfl
   have x1 : w1.cell? ⟨w.heap.size + 1, 1, none⟩ = some (.int .i64 lf) := by rw [cell_of_row _ _ _ _ _ _ F1.out]; rfl
   have x2 : w1.cell? ⟨w.heap.size + 1, 2, none⟩ = some (.int .i64 inn) := by rw [cell_of_row _ _ _ _ _ _ F1.out]; rfl
   have x3 : w1.cell? ⟨w.heap.size + 1, 3, none⟩ = some (.int .i64 fl) := by rw [cell_of_row _ _ _ _ _ _ F1.out]; rfl
   have x4 : w1.cell? ⟨w.heap.size + 1, 4, none⟩ = some (.int .i64 bk) := by rw [cell_of_row _ _ _ _ _ _ F1.out]; rfl
   go_wp2_with fail
   go_ret
   exact ⟨by rw [HF.out]; rfl, B1.out⟩
 ·rw [show cfgE nd lf inn fl bk = 1 from if_neg hcf] at HCF
  have HF : Hid (R = 1) := HN1.out hcf
  clear hcf HN1 HN2 HN3
  go_enter Tryz.func147, Tryz.ntmps147
  go_wp2_with fail
  rw [← HW0.out]
  refine (HCF.out w0).mono ?_
  rintro e w1 ⟨rfl, b⟩
  have B1 := hide (B0.out.trans (b.mono B0.out.size))
  have G1 : Hid (w1.heap[w.heap.size]? = _) := (b.block _ (lt_of_block G0.out)).trans G0.out
  have F1 : Hid (w1.heap[w.heap.size + 1]? = some (.cells #[.int .i64 nd, .int .i64 lf, .int .i64 inn, .int .i64 fl, .int .i64 bk] 49 (0, 0))) := (b.block _ (lt_of_block F0.out)).trans F0.out
  clear b HW0
  go_wp2_with fail
  go_ret
  exact ⟨by rw [HF.out]; rfl, B1.out⟩
end Go.Proofs.YtealejbfloacpaaGreat
