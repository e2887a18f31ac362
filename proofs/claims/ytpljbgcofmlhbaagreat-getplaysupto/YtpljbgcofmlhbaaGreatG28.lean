/- Check's parts of the document: Key, Value, keys. -/
import Derived.Test.YtpljbgcofmlhbaaGreatG27
import Derived.Test.YtpljbgcofmlhbaaGreatG22
import Derived.Test.YtpljbgcofmlhbaaGreatG18
import Derived.Test.YtpljbgcofmlhbaaGreatG26
namespace Go.Proofs.YtpljbgcofmlhbaaGreat
open Go.RowKit
set_option maxRecDepth 100000
set_option maxHeartbeats 400000 in
theorem rvalue_any (a : Option Addr) (l c : Nat) (w : World) : Calls Tryz.prog 25 #[.slice a l c] w fun e w' => e = .returned (.bool (decide (l ≤ 256))) ∧ w' = w := by
 have HD : Hid (decide ((l : Int) ≤ 256) = decide (l ≤ 256)) := by show _ = _; exact decide_eq_decide.2 (by omega)
 rw [← HD.out]
 go_enter Tryz.func25, Tryz.ntmps25
 go_wp2
 go_ret
 exact ⟨rfl, rfl⟩
set_option maxHeartbeats 400000 in
theorem rkey_any (a : Option Addr) (l c : Nat) (w : World) : Calls Tryz.prog 24 #[.slice a l c] w fun e w' => e = .returned (.bool (decide (1 ≤ l ∧ l ≤ 64))) ∧ w' = w := by
 by_cases h1 : 1 ≤ l
 ·have i1 : (1 : Int) ≤ (l : Int) := by omega
  have HD : Hid (decide ((l : Int) ≤ 64) = decide (1 ≤ l ∧ l ≤ 64)) := by show _ = _; exact decide_eq_decide.2 (by omega)
  rw [← HD.out]
  clear h1
  go_enter Tryz.func24, Tryz.ntmps24
  go_wp2
  go_ret
  exact ⟨rfl, rfl⟩
 ·have i1 : ¬ (1 : Int) ≤ (l : Int) := by omega
  have HD : Hid (decide (1 ≤ l ∧ l ≤ 64) = false) := by show _ = _; exact decide_eq_false fun h => h1 h.1
  rw [HD.out]
  clear h1
  go_enter Tryz.func24, Tryz.ntmps24
  go_wp2
  go_ret
  exact ⟨rfl, rfl⟩
theorem ky_rs {hi : List Int} {ks : List (List Int)} (h : KyP hi ks) : Rs ks := fun j hj => by
 have := (h (j + 1) (by omega)).2 (Nat.succ_pos j)
 rwa [Nat.add_sub_cancel] at this
end Go.Proofs.YtpljbgcofmlhbaaGreat
namespace Go.Proofs.YtpljbgcofmlhbaaGreat
open Go.RowKit
set_option maxRecDepth 100000
theorem set_ins {α : Type} {l : List α} {i : Nat} (h : i < l.length) (x : α) : l.set i x = insL (remL l i) i x := by
 obtain ⟨A, y, B, rfl, rfl⟩ := split_at1 h
 rw [remL_at, insL_at]
 simp
theorem in_lt {p : NP} {key : List Int} (h : RtP p) (hi : isIn p.ks key = true) : cntB p.ks key < p.ks.length := by
 obtain ⟨A, B, _, _, hc, hor⟩ := parts p.ks key h.1.pair
 rcases hor with ⟨_, hk⟩ | ⟨hf, _⟩
 ·rw [hc, hk]; simp
 ·rw [hi] at hf; cases hf
theorem leaf_len {p : NP} (h : RtP p) (h0 : p.lv = 0) : p.vs.length = p.ks.length := by
 rcases h.2 with h | h
 ·exact h.2.1
 ·omega
set_option maxRecDepth 100000 in
set_option maxHeartbeats 3200000 in
theorem rwith_any (n : Nd) (k v : Tx) (w : World) (hn : n.Ok w) (hk : k.Ok w) (hv : v.Ok w) (hR : RtP n.p) (h0 : n.lv = 0) (hz1 : n.ks.L.length * 24 ≤ 140737488351900) (hz2 : n.vs.L.length * 24 ≤ 140737488351900) :
  Calls Tryz.prog 55 #[n.v, k.v, v.v] w (NdPost w (n.p.with_ k.s v.s)) := by
 have HFI : Hid (∀ W, Below w.heap.size w W → Calls Tryz.prog 68 #[n.v, k.v] W fun e w' => e = .returned (.tuple #[.int .i64 (cntB n.ks.p k.s : Nat), .bool (isIn n.ks.p k.s)]) ∧ Below W.heap.size W w') := fun W h => rfind_any n k W (hn.below h) (hk.below h)
 have HCL : Hid (∀ W, Below w.heap.size w W → Calls Tryz.prog 107 #[n.v] W (RcPost W n)) := fun W h => rclone_any n W (hn.below h)
 have hcb := cntB_le n.ks.p k.s
 rw [TL.p_len] at hcb
 have hlt : isIn n.ks.p k.s = true → cntB n.ks.p k.s < n.ks.L.length := fun h => by have := in_lt hR h; rw [show n.p.ks = n.ks.p from rfl, TL.p_len] at this; exact this
 have hvl : n.vs.L.length = n.ks.L.length := by have := leaf_len hR h0; rw [show n.p.ks = n.ks.p from rfl, show n.p.vs = n.vs.p from rfl, TL.p_len, TL.p_len] at this; exact this
 have HP : Hid (n.p.with_ k.s v.s = if isIn n.ks.p k.s then { n.p with vs := insL (remL n.vs.p (cntB n.ks.p k.s)) (cntB n.ks.p k.s) v.s } else { n.p with ks := insL n.ks.p (cntB n.ks.p k.s) k.s, vs := insL n.vs.p (cntB n.ks.p k.s) v.s }) := rfl
 have HOKN : Hid (∀ W, Below w.heap.size w W → n.Ok W) := fun W h => hn.below h
 have HOKK : Hid (∀ W, Below w.heap.size w W → k.Ok W) := fun W h => hk.below h
 have HOKV : Hid (∀ W, Below w.heap.size w W → v.Ok W) := fun W h => hv.below h
 obtain ⟨cb, hcb'⟩ : ∃ cb, cb = cntB n.ks.p k.s := ⟨_, rfl⟩
 obtain ⟨ib, hib⟩ : ∃ ib, ib = isIn n.ks.p k.s := ⟨_, rfl⟩
 rw [← hcb'] at HFI HP hcb hlt
 rw [← hib] at HFI HP hlt
 obtain ⟨P, hP⟩ : ∃ P, P = n.p.with_ k.s v.s := ⟨_, rfl⟩
 rw [← hP] at HP ⊢
 unfold RcPost at HCL
 have HPL : Hid (n.p.hi.length = n.hi.s.length ∧ n.p.ks.length = n.ks.L.length ∧ n.p.vs.length = n.vs.L.length ∧ n.p.cs.length = n.cs.s.length) := ⟨rfl, TL.p_len _, TL.p_len _, rfl⟩
 have HCS : Hid (n.cs.s.length * 8 ≤ 140737488352000) := hn.cz
 clear hcb' hib hP hn hk hR h0 hv
 obtain ⟨np, hnp⟩ : ∃ np, np = n.p := ⟨_, rfl⟩
 rw [← hnp] at HCL HPL
 have HNP := hide hnp
 clear hnp
 obtain ⟨lv, ⟨ha, hc, hs⟩, ri, ⟨ka, kc, K⟩, ⟨va, vc, V⟩, ⟨ca, cc, C⟩⟩ := n
 simp only [Nd.v, Tx.v, TL.v, IL.v] at HFI HCL HPL hcb hlt hvl hz1 hz2 HCS ⊢
 obtain ⟨lh, hlh⟩ : ∃ lh, hs.length = lh := ⟨_, rfl⟩
 obtain ⟨lk, hlk⟩ : ∃ lk, K.length = lk := ⟨_, rfl⟩
 obtain ⟨lw, hlw⟩ : ∃ lw, V.length = lw := ⟨_, rfl⟩
 obtain ⟨lc, hlc⟩ : ∃ lc, C.length = lc := ⟨_, rfl⟩
 obtain ⟨lx, hlx⟩ : ∃ lx, k.s.length = lx := ⟨_, rfl⟩
 obtain ⟨ly, hly⟩ : ∃ ly, v.s.length = ly := ⟨_, rfl⟩
 rw [hlh, hlk, hlw, hlc, hlx] at HFI
 rw [hlh, hlk, hlw, hlc] at HCL HPL
 rw [hlk] at hz1 hcb hlt hvl
 rw [hlw] at hz2 hvl
 rw [hlc] at HCS
 rw [hlh, hlk, hlw, hlc, hlx, hly]
 replace hlh := hide hlh
 replace hlk := hide hlk
 replace hlw := hide hlw
 replace hlc := hide hlc
 replace hlx := hide hlx
 replace hly := hide hly
 replace hvl := hide hvl
 obtain ⟨w0, hw0⟩ : ∃ w0, w0 = (w.alloc (.cells #[.int .i64 lv, .slice ha lh hc, .int .i64 ri, .slice ka lk kc, .slice va lw vc, .slice ca lc cc] 36)).alloc (.cells #[.int .i64 0, .slice none 0 0, .int .i64 0, .slice none 0 0, .slice none 0 0, .slice none 0 0] 36) := ⟨_, rfl⟩
 have z0 : w0.heap.size = w.heap.size + 2 := by rw [hw0]; simp
 have B0 : Hid (Below w.heap.size w w0) := by show Below _ _ _; rw [hw0]; exact ((Below.refl _ _).alloc (Nat.le_refl _) _).alloc (by simp) _
 have A0 : Hid (w0.heap[w.heap.size]? = some (.cells #[.int .i64 lv, .slice ha lh hc, .int .i64 ri, .slice ka lk kc, .slice va lw vc, .slice ca lc cc] 36 (0, 0))) := by show _ = _; rw [hw0]; exact old_at (new_at rfl)
 have R0 : Hid (w0.heap[w.heap.size + 1]? = some (.cells #[.int .i64 0, .slice none 0 0, .int .i64 0, .slice none 0 0, .slice none 0 0, .slice none 0 0] 36 (0, 0))) := by show _ = _; rw [hw0]; exact new_at (by simp)
 have HW0 := hide hw0
 have Z0 := hide z0
 clear hw0 z0
 go_enter Tryz.func55, Tryz.ntmps55
 go_wp2_with fail
 rw [← HW0.out]
 refine (HCL.out w0 B0.out).mono ?_
 rintro e w1 ⟨m, N1, N2, rfl, hpm, hom, b1, hN1, hok1, hN2, hov2, hN12⟩
 have L1 : Hid (m.hi.s.length = lh) := by show _ = _; rw [← HPL.out.1, ← hpm]; rfl
 have L2 : Hid (m.ks.L.length = lk) := by show _ = _; rw [← HPL.out.2.1, ← hpm]; exact (TL.p_len _).symm
 have L3 : Hid (m.vs.L.length = lw) := by show _ = _; rw [← HPL.out.2.2.1, ← hpm]; exact (TL.p_len _).symm
 have L4 : Hid (m.cs.s.length = lc) := by show _ = _; rw [← HPL.out.2.2.2, ← hpm]; rfl
 have HPM := hide (hpm.trans HNP.out)
 have HOM := hide hom
 have OK1 := hide hok1
 have OV2 := hide hov2
 have HN2 := hide hN2
 have hN12' := hide hN12
 have B1 := hide (B0.out.trans (b1.mono B0.out.size))
 have A1 : Hid (w1.heap[w.heap.size]? = _) := (b1.block _ (lt_of_block A0.out)).trans A0.out
 have R1 : Hid (w1.heap[w.heap.size + 1]? = _) := (b1.block _ (lt_of_block R0.out)).trans R0.out
 have hsz1 := b1.size
 rw [Z0.out] at hsz1
 rw [Z0.out] at HOM
 clear hpm hom b1 hN1 hok1 hN2 hov2 hN12 HCL HW0 HPL HNP
 obtain ⟨lv6, ⟨ha6, hc6, hs6⟩, ri6, ⟨ka6, kc6, K6⟩, ⟨va6, vc6, V6⟩, ⟨ca6, cc6, C6⟩⟩ := m
 dsimp only
 simp only at L1 L2 L3 L4
 rw [L1.out, L2.out, L3.out, L4.out]
 obtain ⟨X, hX⟩ : ∃ X, X = w1.heap.size := ⟨_, rfl⟩
 obtain ⟨w2, hw2⟩ : ∃ w2, w2 = w1.alloc (.cells #[.int .i64 lv6, .slice ha6 lh hc6, .int .i64 ri6, .slice ka6 lk kc6, .slice va6 lw vc6, .slice ca6 lc cc6] 36) := ⟨_, rfl⟩
 have b12 : Below w1.heap.size w1 w2 := by rw [hw2]; exact (Below.refl _ _).alloc (Nat.le_refl _) _
 have X2 : Hid (w2.heap[X]? = some (.cells #[.int .i64 lv6, .slice ha6 lh hc6, .int .i64 ri6, .slice ka6 lk kc6, .slice va6 lw vc6, .slice ca6 lc cc6] 36 (0, 0))) := by show _ = _; rw [hw2, hX]; exact heap_alloc_new w1 _
 have B2 := hide (B1.out.trans (b12.mono B1.out.size))
 have A2 : Hid (w2.heap[w.heap.size]? = _) := (b12.block _ (lt_of_block A1.out)).trans A1.out
 have R2 : Hid (w2.heap[w.heap.size + 1]? = _) := (b12.block _ (lt_of_block R1.out)).trans R1.out
 have B12 := hide b12
 have HW2 := hide hw2
 have HX := hide hX
 clear b12 hw2 hX
 obtain ⟨c0, c1, c2, c3, c4, c5⟩ := Six.of A2.out
 rw [HW2.out] at c0 c1 c2 c3 c4 c5
 go_wp2_with fail
 rw [← HX.out, ← HW2.out]
 clear c0 c1 c2 c3 c4 c5
 refine (HFI.out w2 B2.out).mono ?_
 rintro e w3 ⟨rfl, b3⟩
 have B13 := hide (B12.out.trans (b3.mono B12.out.size))
 have B3 := hide (B2.out.trans (b3.mono B2.out.size))
 have A3 : Hid (w3.heap[w.heap.size]? = _) := (b3.block _ (lt_of_block A2.out)).trans A2.out
 have R3 : Hid (w3.heap[w.heap.size + 1]? = _) := (b3.block _ (lt_of_block R2.out)).trans R2.out
 have X3 : Hid (w3.heap[X]? = _) := (b3.block _ (lt_of_block X2.out)).trans X2.out
 have hX3 := lt_of_block X3.out
 have hsX : w.heap.size + 2 ≤ X := by have := HX.out; omega
 have hxa : ¬ X = w.heap.size := by omega
 have hxb : ¬ w.heap.size = X := by omega
 have hxc : ¬ X = w.heap.size + 1 := by omega
 have hxd : ¬ w.heap.size + 1 = X := by omega
 clear b3 HFI HW2
 cases ib with
 | true =>
  replace hlt := hlt rfl
  have hvl2 : lw ≤ lk := by have := hvl.out; omega
  have hvl3 : lk ≤ lw := by have := hvl.out; omega
  have j1 : (cb : Int) < (lw : Int) := by omega
  have j2 : (0 : Int) ≤ (cb : Int) := by omega
  have OV := hide (OV2.out.below B13.out)
  obtain ⟨gv, hgv, cur, hcur, hN2g⟩ : ∃ gv, va6 = some ⟨gv, 0, none⟩ ∧ ∃ cur, w3.heap[gv]? = some (.cells cur 28 (0, 0)) ∧ N2 ≤ gv := by
   rcases OV.out.row.2 with ⟨_, h0⟩ | ⟨g, c', cur, hv', hb, hh, _⟩
   ·simp only [L3.out] at h0; omega
   ·simp only [TL.v, Value.slice.injEq] at hv'; exact ⟨g, hv'.1, cur, hh, hb⟩
  subst hgv
  have s0 : w3.cell? ⟨gv, cb, none⟩ = some (V6[cb]'(by rw [L3.out]; omega)).v := by
   have := OV.out.row.cells (g := gv) rfl cb _ (by rw [List.getElem?_map, List.getElem?_eq_getElem (by rw [L3.out]; omega)]; rfl)
   rwa [Addr.add_lit, Nat.zero_add] at this
  unfold Tx.v at s0
  have x4 := (Six.of X3.out).2.2.2.2.1
  have HBY : Hid (Calls Tryz.prog 108 #[.slice v.a ly v.c] w3.drew fun e w' => ∃ na nc, e = .returned (.slice na ly nc) ∧ OwnB w' w3.heap.size 5 (.slice na ly nc) v.s ∧ Below w3.heap.size w3 w') := by
   refine (rbytes_any v.a ly v.c v.s w3.drew hly.out (by have := (HOKV.out w (Below.refl _ _)).z; have := hly.out; omega) (by have := (HOKV.out w (Below.refl _ _)).n; rw [hly.out] at this; exact this) (show Row w3 .u8 v.a v.s from (HOKV.out w3 B3.out).r)).mono ?_
   rintro e w' ⟨v', rfl, ho, hb⟩
   obtain ⟨na, nc, hve, _, _, _⟩ := ho.slice
   rw [hly.out] at hve
   subst hve
   exact ⟨na, nc, rfl, ho, ⟨hb.os, hb.tape, hb.output, hb.size, hb.block⟩⟩
  have hgl := lt_of_block hcur
  have HCUR := hide hcur
  clear hcur
  go_wp2_with fail
  go_region_held3 (fun W => W.cell? ⟨X, 4, none⟩ = some (.slice (some ⟨gv, 0, none⟩) lw vc6)) (go_keep) (first
   | (go_at_call 108; refine HBY.out.mono ?_; rintro e w4 ⟨na, nc, rfl, ho4, b4⟩; have z4 := (b4.cell (p := ⟨X, 4, none⟩) hX3).trans x4; have z5 := (b4.cell (p := ⟨gv, cb, none⟩) hgl).trans s0; have z6 : w4.frozen? ⟨gv, cb, none⟩ = false := frozen_of ((b4.block gv hgl).trans HCUR.out) cb; have HGX : Hid (gv ≠ X) := (fun e => by have h1 := HCUR.out; rw [e, X3.out] at h1; simp at h1); have hgx := HGX.out; have O4 := hide ho4; have B34 := hide b4; clear ho4 b4)
   | fail)
  have hXw : w1.heap.size ≤ X ∧ X ≤ w1.heap.size := by have := HX.out; omega
  have C4 : Hid (w4.heap[gv]? = _) := (B34.out.block gv hgl).trans HCUR.out
  have B4 := hide (B3.out.trans (B34.out.mono B3.out.size))
  have B14 := hide (B13.out.trans (B34.out.mono B13.out.size))
  have hs34 := B34.out.size
  have R4 : Hid (w4.heap[w.heap.size + 1]? = _) := (B34.out.block _ (lt_of_block R3.out)).trans R3.out
  have X4 : Hid (w4.heap[X]? = _) := (B34.out.block _ (lt_of_block X3.out)).trans X3.out
  have hgw : w.heap.size + 2 ≤ gv := ((HOM.out.v.row).lt gv rfl).1
  obtain ⟨w5, hw5⟩ : ∃ w5, w5 = w4.setCell ⟨gv, cb, none⟩ (.slice na ly nc) := ⟨_, rfl⟩
  have U5 : Upd (fun b => b = gv) w4 w5 := by rw [hw5]; exact upd_set _ _ _ _ _ rfl
  have R5 : Hid (w5.heap[w.heap.size + 1]? = some (.cells #[.int .i64 0, .slice none 0 0, .int .i64 0, .slice none 0 0, .slice none 0 0, .slice none 0 0] 36 (0, 0))) := U5.heap R4.out (by omega)
  have X5 : Hid (w5.heap[X]? = _) := U5.heap X4.out (fun e => HGX.out e.symm)
  have B5 : Below w.heap.size w w5 := B4.out.trans (U5.below B4.out.size (fun k hk e => by omega))
  have OM4 := HOM.out.below B14.out
  have OV4 := OV.out.below B34.out
  have OK4 := OK1.out.below B14.out
  have hnv : (⟨na, nc, v.s⟩ : Tx).v = .slice na ly nc := by simp only [Tx.v, hly.out]
  have OWN : (⟨lv6, ⟨ha6, hc6, hs6⟩, ri6, ⟨ka6, kc6, K6⟩, ⟨some ⟨gv, 0, none⟩, vc6, V6.set cb ⟨na, nc, v.s⟩⟩, ⟨ca6, cc6, C6⟩⟩ : Nd).Own w5 (w.heap.size + 2) := by
   refine ⟨?_, OM4.hb, ?_, ?_, ?_, OM4.kz, by simp only [List.length_set]; exact OM4.vz, OM4.cz⟩
   ·exact OM4.h.upd U5 (typ_ne OM4.h C4.out)
   ·refine ⟨?_, fun x hx => (OM4.k.each x hx).upd U5 (typ_ne (OM4.k.each x hx) C4.out), OM4.k.b8⟩
    refine owns_upd OM4.k.row U5 fun b hb e => ?_
    have h1 := HN2.out b hb
    omega
   ·refine ⟨?_, fun x hx => ?_, fun x hx => ?_⟩
    ·have h1 := own_setV (OM4.v.row) cb (.slice na ly nc)
     simp only [TL.v, List.length_set, List.map_set, hnv]
     rw [hw5]
     exact h1
    ·rcases List.mem_or_eq_of_mem_set hx with h | h
     ·exact (OM4.v.each x h).upd U5 (typ_ne (OM4.v.each x h) C4.out)
     ·subst h
      have h1 : OwnB w4 (w.heap.size + 2) 5 (⟨na, nc, v.s⟩ : Tx).v v.s := by rw [hnv]; exact O4.out.mono (by omega)
      exact h1.upd U5 (typ_ne h1 C4.out)
    ·rcases List.mem_or_eq_of_mem_set hx with h | h
     ·exact OM4.v.b8 x h
     ·subst h; exact ⟨(HOKV.out w (Below.refl _ _)).b8, (HOKV.out w (Below.refl _ _)).z⟩
   ·refine owns_upd OM4.c U5 fun b hb e => ?_
    rcases OM4.c.2 with ⟨hv', _⟩ | ⟨g', c', cur', hv', _, hh, _⟩
    ·rw [hv'] at hb; cases hb
    ·rw [hv'] at hb; cases hb; have e' : g' = gv := e; rw [e', C4.out] at hh; simp at hh
  have HPP : (⟨lv6, ⟨ha6, hc6, hs6⟩, ri6, ⟨ka6, kc6, K6⟩, ⟨some ⟨gv, 0, none⟩, vc6, V6.set cb ⟨na, nc, v.s⟩⟩, ⟨ca6, cc6, C6⟩⟩ : Nd).p = P := by
   have e1 := congrArg NP.lv HPM.out
   have e2 := congrArg NP.hi HPM.out
   have e3 := congrArg NP.ri HPM.out
   have e4 := congrArg NP.cs HPM.out
   have e5 := congrArg NP.ks HPM.out
   have e6 := congrArg NP.vs HPM.out
   simp only [Nd.p, TL.p] at e1 e2 e3 e4 e5 e6
   rw [HP.out]
   simp only [Nd.p, TL.p, if_true, List.map_set, e1, e2, e3, e4, e5, e6]
   rw [set_ins (by rw [List.length_map, hlw.out]; omega)]
  obtain ⟨hF, q0, q1, q2, q3, q4, q5⟩ := tail_six (w := w) R5.out OWN HPP (by omega) (by omega) B5
  simp only [Nd.v, Tx.v, TL.v, IL.v, List.length_set, L1.out, L2.out, L3.out, L4.out] at q0 q1 q2 q3 q4 q5 hF
  have HWF : Hid (sixN w5 (w.heap.size + 1) ⟨lv6, ⟨ha6, hc6, hs6⟩, ri6, ⟨ka6, kc6, K6⟩, ⟨some ⟨gv, 0, none⟩, vc6, V6.set cb ⟨na, nc, v.s⟩⟩, ⟨ca6, cc6, C6⟩⟩ = six6 w5 (w.heap.size + 1) (.int .i64 lv6) (.slice ha6 lh hc6) (.int .i64 ri6) (.slice ka6 lk kc6) (.slice (some ⟨gv, 0, none⟩) lw vc6) (.slice ca6 lc cc6)) := by show _ = _; simp only [sixN, Tx.v, TL.v, IL.v, List.length_set, L1.out, L2.out, L3.out, L4.out]
  have HQ := hide (And.intro hF (And.intro q0 (And.intro q1 (And.intro q2 (And.intro q3 (And.intro q4 q5))))))
  have HW5 := hide hw5
  clear hF q0 q1 q2 q3 q4 q5 HPP OWN U5 B5 OM4 OV4 OK4 hnv z4 z5 z6 s0 x4 hw5 hgx
  rw [← HW5.out]
  obtain ⟨x0, x1, x2, x3, x4, x5⟩ := Six.of X5.out
  obtain ⟨y0, y1, y2, y3, y4, y5⟩ := Six.of R5.out
  have f8 := fun j => frozen_of R5.out j
  go_wp2_with fail
  (try simp only [Exit.inBlock, Exit.then])
  obtain ⟨hF, q0, q1, q2, q3, q4, q5⟩ := HQ.out
  rw [HWF.out] at q0 q1 q2 q3 q4 q5 hF
  unfold six6 at q0 q1 q2 q3 q4 q5 hF
  exact bodyPost_ret (v := .agg #[.int .i64 lv6, .slice ha6 lh hc6, .int .i64 ri6, .slice ka6 lk kc6, .slice (some ⟨gv, 0, none⟩) lw vc6, .slice ca6 lc cc6]) (by simp [results, Tryz.results55, go_sem, q0, q1, q2, q3, q4, q5]) rfl hF
 | false =>
  have HE : Hid (cb ≤ lk) := hcb
  have hvl2 : lw ≤ lk := by have := hvl.out; omega
  have hvl3 : lk ≤ lw := by have := hvl.out; omega
  obtain ⟨c0, c1, c2, c3, c4, c5⟩ := Six.of A3.out
  obtain ⟨x0, x1, x2, x3, x4, x5⟩ := Six.of X3.out
  have f3 := frozen_of X3.out 3
  have HR := hide (rput_any ka lk kc cb K k w3 (HOKN.out w3 B3.out).k (HOKK.out w3 B3.out) hlk.out (by omega) (by omega))
  unfold MkP at HR
  rw [hlx.out] at HR
  go_wp2_with fail
  refine HR.out.mono ?_
  rintro e w4 ⟨na, nc, CK, rfl, hs4, hl4, ho4, b4⟩
  have B14 := hide (B13.out.trans (b4.mono B13.out.size))
  have B4 := hide (B3.out.trans (b4.mono B3.out.size))
  have A4 : Hid (w4.heap[w.heap.size]? = _) := (b4.block _ (lt_of_block A3.out)).trans A3.out
  have R4 : Hid (w4.heap[w.heap.size + 1]? = _) := (b4.block _ (lt_of_block R3.out)).trans R3.out
  have X4 : Hid (w4.heap[X]? = _) := (b4.block _ (lt_of_block X3.out)).trans X3.out
  have O4 := hide ho4
  have S4 := hide hs4
  have LK := hide hl4
  have hs4' := b4.size
  clear hs4 hl4 ho4 b4 HR c0 c1 c2 c3 c4 c5 x0 x1 x2 x3 x4 x5 f3
  obtain ⟨c0, c1, c2, c3, c4, c5⟩ := Six.of A4.out
  obtain ⟨x0, x1, x2, x3, x4, x5⟩ := Six.of X4.out
  have f4 := frozen_of X4.out 3
  obtain ⟨w5, hw5⟩ : ∃ w5, w5 = w4.setCell ⟨X, 3, none⟩ (.slice na (lk + 1) nc) := ⟨_, rfl⟩
  have U5 : Hid (Upd (fun b => b = X) w4 w5) := by show Upd _ _ _; rw [hw5]; exact upd_set _ _ _ _ _ rfl
  have X5 : Hid (w5.heap[X]? = some (.cells #[.int .i64 lv6, .slice ha6 lh hc6, .int .i64 ri6, .slice na (lk + 1) nc, .slice va6 lw vc6, .slice ca6 lc cc6] 36 (0, 0))) := by show _ = _; rw [hw5]; exact (blk_one X4.out _).1
  have A5 : Hid (w5.heap[w.heap.size]? = _) := U5.out.heap A4.out (by omega)
  have R5 : Hid (w5.heap[w.heap.size + 1]? = _) := U5.out.heap R4.out (by omega)
  have B5 : Hid (Below w.heap.size w w5) := B4.out.trans (U5.out.below B4.out.size (fun k hk e => by omega))
  have hs5 := U5.out.size
  have HI := hide (rput_any va lw vc cb V v w5 (HOKN.out w5 B5.out).v (HOKV.out w5 B5.out) hlw.out (by omega) (by omega))
  unfold MkP at HI
  rw [hly.out] at HI
  have HW5 := hide hw5
  clear hw5
  go_wp2_with fail
  rw [← HW5.out]
  refine HI.out.mono ?_
  rintro e w6 ⟨ua, uc, CV, rfl, hs6', hl6, ho6, b6⟩
  have B56 := hide b6
  have B6 := hide (B5.out.trans (b6.mono B5.out.size))
  have R6 : Hid (w6.heap[w.heap.size + 1]? = _) := (b6.block _ (lt_of_block R5.out)).trans R5.out
  have X6 : Hid (w6.heap[X]? = _) := (b6.block _ (lt_of_block X5.out)).trans X5.out
  have O6 := hide ho6
  have S6 := hide hs6'
  have LV := hide hl6
  have hs6z := b6.size
  clear hs6' hl6 ho6 b6 HI HW5 c0 c1 c2 c3 c4 c5 x0 x1 x2 x3 x4 x5 f4
  obtain ⟨x0, x1, x2, x3, x4, x5⟩ := Six.of X6.out
  have f6 := frozen_of X6.out 4
  obtain ⟨w7, hw7⟩ : ∃ w7, w7 = w6.setCell ⟨X, 4, none⟩ (.slice ua (lw + 1) uc) := ⟨_, rfl⟩
  have U7 : Upd (fun b => b = X) w6 w7 := by rw [hw7]; exact upd_set _ _ _ _ _ rfl
  have R7 : w7.heap[w.heap.size + 1]? = some (.cells #[.int .i64 0, .slice none 0 0, .int .i64 0, .slice none 0 0, .slice none 0 0, .slice none 0 0] 36 (0, 0)) := U7.heap R6.out (by omega)
  have B7 : Below w.heap.size w w7 := B6.out.trans (U7.below B6.out.size (fun k hk e => by omega))
  have U47 : Upd (fun b => b = X) w4 w7 := (U5.out.trans (Upd.of_below B56.out _)).trans U7
  have U17 : Upd (fun b => b = X) w1 w7 := (Upd.of_below B14.out _).trans U47
  have hXw : w1.heap.size ≤ X ∧ X ≤ w1.heap.size := by have := HX.out; omega
  have OWN : (⟨lv6, ⟨ha6, hc6, hs6⟩, ri6, ⟨na, nc, CK⟩, ⟨ua, uc, CV⟩, ⟨ca6, cc6, C6⟩⟩ : Nd).Own w7 (w.heap.size + 2) := by
   refine ⟨?_, HOM.out.hb, ?_, ?_, ?_, ?_, ?_, HOM.out.cz⟩
   ·exact ownB_upd' HOM.out.h U17 (fun b _ h e => by omega)
   ·exact (O4.out.upd U47 (fun b h _ e => by omega)).mono (by omega)
   ·exact (O6.out.upd U7 (fun b h _ e => by omega)).mono (by omega)
   ·exact ownsI_upd HOM.out.c U17 (fun b _ h e => by omega)
   ·simp only [LK.out]; omega
   ·simp only [LV.out]; omega
  have HPP : (⟨lv6, ⟨ha6, hc6, hs6⟩, ri6, ⟨na, nc, CK⟩, ⟨ua, uc, CV⟩, ⟨ca6, cc6, C6⟩⟩ : Nd).p = P := by
   have e1 := congrArg NP.lv HPM.out
   have e2 := congrArg NP.hi HPM.out
   have e3 := congrArg NP.ri HPM.out
   have e4 := congrArg NP.cs HPM.out
   simp only [Nd.p] at e1 e2 e3 e4
   rw [HP.out]
   simp only [Nd.p, TL.p, Bool.false_eq_true, if_false, e1, e2, e3, e4]
   rw [show CK.map (·.s) = _ from S4.out, show CV.map (·.s) = _ from S6.out]
  obtain ⟨hF, q0, q1, q2, q3, q4, q5⟩ := tail_six (w := w) R7 OWN HPP (by omega) (by omega) B7
  simp only [Nd.v, Tx.v, TL.v, IL.v, L1.out, LK.out, LV.out, L4.out] at q0 q1 q2 q3 q4 q5 hF
  have HWF : Hid (sixN w7 (w.heap.size + 1) ⟨lv6, ⟨ha6, hc6, hs6⟩, ri6, ⟨na, nc, CK⟩, ⟨ua, uc, CV⟩, ⟨ca6, cc6, C6⟩⟩ = six6 w7 (w.heap.size + 1) (.int .i64 lv6) (.slice ha6 lh hc6) (.int .i64 ri6) (.slice na (lk + 1) nc) (.slice ua (lw + 1) uc) (.slice ca6 lc cc6)) := by show _ = _; simp only [sixN, Tx.v, TL.v, IL.v, L1.out, LK.out, LV.out, L4.out]
  have y := Six.of R6.out
  obtain ⟨y0, y1, y2, y3, y4, y5⟩ := y
  have f8 := fun j => frozen_of R6.out j
  have HQ := hide (And.intro hF (And.intro q0 (And.intro q1 (And.intro q2 (And.intro q3 (And.intro q4 q5))))))
  have HW7 := hide hw7
  clear hF q0 q1 q2 q3 q4 q5 hw7 OWN HPP U7 U47 U17 R7 B7
  go_wp2_with fail
  (try simp only [Exit.inBlock, Exit.then])
  rw [← HW7.out]
  obtain ⟨hF, q0, q1, q2, q3, q4, q5⟩ := HQ.out
  rw [HWF.out] at q0 q1 q2 q3 q4 q5 hF
  unfold six6 at q0 q1 q2 q3 q4 q5 hF
  exact bodyPost_ret (v := .agg #[.int .i64 lv6, .slice ha6 lh hc6, .int .i64 ri6, .slice na (lk + 1) nc, .slice ua (lw + 1) uc, .slice ca6 lc cc6]) (by simp [results, Tryz.results55, go_sem, q0, q1, q2, q3, q4, q5]) rfl hF
set_option maxRecDepth 100000 in
set_option maxHeartbeats 3200000 in
theorem rwithout_any (n : Nd) (k : Tx) (w : World) (hn : n.Ok w) (hk : k.Ok w) (hR : RtP n.p) (h0 : n.lv = 0) (hz1 : n.ks.L.length * 24 ≤ 140737488351900) (hz2 : n.vs.L.length * 24 ≤ 140737488351900) :
  Calls Tryz.prog 56 #[n.v, k.v] w (NdBPost w (n.p.without k.s) (isIn n.ks.p k.s)) := by
 have HFI : Hid (∀ W, Below w.heap.size w W → Calls Tryz.prog 68 #[n.v, k.v] W fun e w' => e = .returned (.tuple #[.int .i64 (cntB n.ks.p k.s : Nat), .bool (isIn n.ks.p k.s)]) ∧ Below W.heap.size W w') := fun W h => rfind_any n k W (hn.below h) (hk.below h)
 have HCL : Hid (∀ W, Below w.heap.size w W → Calls Tryz.prog 107 #[n.v] W (RcPost W n)) := fun W h => rclone_any n W (hn.below h)
 have hcb := cntB_le n.ks.p k.s
 rw [TL.p_len] at hcb
 have hlt : isIn n.ks.p k.s = true → cntB n.ks.p k.s < n.ks.L.length := fun h => by have := in_lt hR h; rw [show n.p.ks = n.ks.p from rfl, TL.p_len] at this; exact this
 have hvl : n.vs.L.length = n.ks.L.length := by have := leaf_len hR h0; rw [show n.p.ks = n.ks.p from rfl, show n.p.vs = n.vs.p from rfl, TL.p_len, TL.p_len] at this; exact this
 have HP : Hid (n.p.without k.s = if isIn n.ks.p k.s then { n.p with ks := remL n.ks.p (cntB n.ks.p k.s), vs := remL n.vs.p (cntB n.ks.p k.s) } else n.p) := rfl
 have HOKN : Hid (∀ W, Below w.heap.size w W → n.Ok W) := fun W h => hn.below h
 have HOKK : Hid (∀ W, Below w.heap.size w W → k.Ok W) := fun W h => hk.below h
 obtain ⟨cb, hcb'⟩ : ∃ cb, cb = cntB n.ks.p k.s := ⟨_, rfl⟩
 obtain ⟨ib, hib⟩ : ∃ ib, ib = isIn n.ks.p k.s := ⟨_, rfl⟩
 rw [← hcb'] at HFI HP hcb hlt
 rw [← hib] at HFI HP hlt ⊢
 obtain ⟨P, hP⟩ : ∃ P, P = n.p.without k.s := ⟨_, rfl⟩
 rw [← hP] at HP ⊢
 unfold RcPost at HCL
 have HPL : Hid (n.p.hi.length = n.hi.s.length ∧ n.p.ks.length = n.ks.L.length ∧ n.p.vs.length = n.vs.L.length ∧ n.p.cs.length = n.cs.s.length) := ⟨rfl, TL.p_len _, TL.p_len _, rfl⟩
 have HCS : Hid (n.cs.s.length * 8 ≤ 140737488352000) := hn.cz
 clear hcb' hib hP hn hk hR h0
 obtain ⟨np, hnp⟩ : ∃ np, np = n.p := ⟨_, rfl⟩
 rw [← hnp] at HCL HPL
 have HNP := hide hnp
 clear hnp
 obtain ⟨lv, ⟨ha, hc, hs⟩, ri, ⟨ka, kc, K⟩, ⟨va, vc, V⟩, ⟨ca, cc, C⟩⟩ := n
 simp only [Nd.v, Tx.v, TL.v, IL.v] at HFI HCL HPL hcb hlt hvl hz1 hz2 HCS ⊢
 obtain ⟨lh, hlh⟩ : ∃ lh, hs.length = lh := ⟨_, rfl⟩
 obtain ⟨lk, hlk⟩ : ∃ lk, K.length = lk := ⟨_, rfl⟩
 obtain ⟨lw, hlw⟩ : ∃ lw, V.length = lw := ⟨_, rfl⟩
 obtain ⟨lc, hlc⟩ : ∃ lc, C.length = lc := ⟨_, rfl⟩
 obtain ⟨lx, hlx⟩ : ∃ lx, k.s.length = lx := ⟨_, rfl⟩
 rw [hlh, hlk, hlw, hlc, hlx] at HFI
 rw [hlh, hlk, hlw, hlc] at HCL HPL
 rw [hlk] at hz1 hcb hlt hvl
 rw [hlw] at hz2 hvl
 rw [hlc] at HCS
 rw [hlh, hlk, hlw, hlc, hlx]
 replace hlh := hide hlh
 replace hlk := hide hlk
 replace hlw := hide hlw
 replace hlc := hide hlc
 replace hlx := hide hlx
 replace hvl := hide hvl
 obtain ⟨w0, hw0⟩ : ∃ w0, w0 = (w.alloc (.cells #[.int .i64 lv, .slice ha lh hc, .int .i64 ri, .slice ka lk kc, .slice va lw vc, .slice ca lc cc] 36)).alloc (.cells #[.int .i64 0, .slice none 0 0, .int .i64 0, .slice none 0 0, .slice none 0 0, .slice none 0 0] 36) := ⟨_, rfl⟩
 have z0 : w0.heap.size = w.heap.size + 2 := by rw [hw0]; simp
 have B0 : Hid (Below w.heap.size w w0) := by show Below _ _ _; rw [hw0]; exact ((Below.refl _ _).alloc (Nat.le_refl _) _).alloc (by simp) _
 have A0 : Hid (w0.heap[w.heap.size]? = some (.cells #[.int .i64 lv, .slice ha lh hc, .int .i64 ri, .slice ka lk kc, .slice va lw vc, .slice ca lc cc] 36 (0, 0))) := by show _ = _; rw [hw0]; exact old_at (new_at rfl)
 have R0 : Hid (w0.heap[w.heap.size + 1]? = some (.cells #[.int .i64 0, .slice none 0 0, .int .i64 0, .slice none 0 0, .slice none 0 0, .slice none 0 0] 36 (0, 0))) := by show _ = _; rw [hw0]; exact new_at (by simp)
 have HW0 := hide hw0
 have Z0 := hide z0
 clear hw0 z0
 go_enter Tryz.func56, Tryz.ntmps56
 go_wp2_with fail
 rw [← HW0.out]
 refine (HCL.out w0 B0.out).mono ?_
 rintro e w1 ⟨m, N1, N2, rfl, hpm, hom, b1, hN1, hok1, hN2, hov2, hN12⟩
 have L1 : Hid (m.hi.s.length = lh) := by show _ = _; rw [← HPL.out.1, ← hpm]; rfl
 have L2 : Hid (m.ks.L.length = lk) := by show _ = _; rw [← HPL.out.2.1, ← hpm]; exact (TL.p_len _).symm
 have L3 : Hid (m.vs.L.length = lw) := by show _ = _; rw [← HPL.out.2.2.1, ← hpm]; exact (TL.p_len _).symm
 have L4 : Hid (m.cs.s.length = lc) := by show _ = _; rw [← HPL.out.2.2.2, ← hpm]; rfl
 have HPM := hide (hpm.trans HNP.out)
 have HOM := hide hom
 have OK1 := hide hok1
 have OV2 := hide hov2
 have HN2 := hide hN2
 have hN12' := hide hN12
 have B1 := hide (B0.out.trans (b1.mono B0.out.size))
 have A1 : Hid (w1.heap[w.heap.size]? = _) := (b1.block _ (lt_of_block A0.out)).trans A0.out
 have R1 : Hid (w1.heap[w.heap.size + 1]? = _) := (b1.block _ (lt_of_block R0.out)).trans R0.out
 have hsz1 := b1.size
 rw [Z0.out] at hsz1
 rw [Z0.out] at HOM
 clear hpm hom b1 hN1 hok1 hN2 hov2 hN12 HCL HW0 HPL HNP
 obtain ⟨lv6, ⟨ha6, hc6, hs6⟩, ri6, ⟨ka6, kc6, K6⟩, ⟨va6, vc6, V6⟩, ⟨ca6, cc6, C6⟩⟩ := m
 dsimp only
 simp only at L1 L2 L3 L4
 rw [L1.out, L2.out, L3.out, L4.out]
 obtain ⟨X, hX⟩ : ∃ X, X = w1.heap.size := ⟨_, rfl⟩
 obtain ⟨w2, hw2⟩ : ∃ w2, w2 = w1.alloc (.cells #[.int .i64 lv6, .slice ha6 lh hc6, .int .i64 ri6, .slice ka6 lk kc6, .slice va6 lw vc6, .slice ca6 lc cc6] 36) := ⟨_, rfl⟩
 have b12 : Below w1.heap.size w1 w2 := by rw [hw2]; exact (Below.refl _ _).alloc (Nat.le_refl _) _
 have X2 : Hid (w2.heap[X]? = some (.cells #[.int .i64 lv6, .slice ha6 lh hc6, .int .i64 ri6, .slice ka6 lk kc6, .slice va6 lw vc6, .slice ca6 lc cc6] 36 (0, 0))) := by show _ = _; rw [hw2, hX]; exact heap_alloc_new w1 _
 have B2 := hide (B1.out.trans (b12.mono B1.out.size))
 have A2 : Hid (w2.heap[w.heap.size]? = _) := (b12.block _ (lt_of_block A1.out)).trans A1.out
 have R2 : Hid (w2.heap[w.heap.size + 1]? = _) := (b12.block _ (lt_of_block R1.out)).trans R1.out
 have B12 := hide b12
 have HW2 := hide hw2
 have HX := hide hX
 clear b12 hw2 hX
 obtain ⟨c0, c1, c2, c3, c4, c5⟩ := Six.of A2.out
 rw [HW2.out] at c0 c1 c2 c3 c4 c5
 go_wp2_with fail
 rw [← HX.out, ← HW2.out]
 clear c0 c1 c2 c3 c4 c5
 refine (HFI.out w2 B2.out).mono ?_
 rintro e w3 ⟨rfl, b3⟩
 have B13 := hide (B12.out.trans (b3.mono B12.out.size))
 have B3 := hide (B2.out.trans (b3.mono B2.out.size))
 have A3 : Hid (w3.heap[w.heap.size]? = _) := (b3.block _ (lt_of_block A2.out)).trans A2.out
 have R3 : Hid (w3.heap[w.heap.size + 1]? = _) := (b3.block _ (lt_of_block R2.out)).trans R2.out
 have X3 : Hid (w3.heap[X]? = _) := (b3.block _ (lt_of_block X2.out)).trans X2.out
 have hX3 := lt_of_block X3.out
 have hsX : w.heap.size + 2 ≤ X := by have := HX.out; omega
 have hxa : ¬ X = w.heap.size := by omega
 have hxb : ¬ w.heap.size = X := by omega
 have hxc : ¬ X = w.heap.size + 1 := by omega
 have hxd : ¬ w.heap.size + 1 = X := by omega
 clear b3 HFI HW2
 cases ib with
 | true =>
  have HE : Hid (cb ≤ lk) := hcb
  replace hlt := hlt rfl
  have hvl2 : lw ≤ lk := by have := hvl.out; omega
  have hvl3 : lk ≤ lw := by have := hvl.out; omega
  obtain ⟨c0, c1, c2, c3, c4, c5⟩ := Six.of A3.out
  obtain ⟨x0, x1, x2, x3, x4, x5⟩ := Six.of X3.out
  have f3 := frozen_of X3.out 3
  have HR := hide (rcut_any ka lk kc cb K w3 (HOKN.out w3 B3.out).k hlk.out (by omega) (by omega))
  unfold MkP at HR
  go_wp2_with fail
  refine HR.out.mono ?_
  rintro e w4 ⟨na, nc, CK, rfl, hs4, hl4, ho4, b4⟩
  have B14 := hide (B13.out.trans (b4.mono B13.out.size))
  have B4 := hide (B3.out.trans (b4.mono B3.out.size))
  have A4 : Hid (w4.heap[w.heap.size]? = _) := (b4.block _ (lt_of_block A3.out)).trans A3.out
  have R4 : Hid (w4.heap[w.heap.size + 1]? = _) := (b4.block _ (lt_of_block R3.out)).trans R3.out
  have X4 : Hid (w4.heap[X]? = _) := (b4.block _ (lt_of_block X3.out)).trans X3.out
  have O4 := hide ho4
  have S4 := hide hs4
  have LK := hide hl4
  have hs4' := b4.size
  clear hs4 hl4 ho4 b4 HR c0 c1 c2 c3 c4 c5 x0 x1 x2 x3 x4 x5 f3
  obtain ⟨c0, c1, c2, c3, c4, c5⟩ := Six.of A4.out
  obtain ⟨x0, x1, x2, x3, x4, x5⟩ := Six.of X4.out
  have f4 := frozen_of X4.out 3
  obtain ⟨w5, hw5⟩ : ∃ w5, w5 = w4.setCell ⟨X, 3, none⟩ (.slice na (lk - 1) nc) := ⟨_, rfl⟩
  have U5 : Hid (Upd (fun b => b = X) w4 w5) := by show Upd _ _ _; rw [hw5]; exact upd_set _ _ _ _ _ rfl
  have X5 : Hid (w5.heap[X]? = some (.cells #[.int .i64 lv6, .slice ha6 lh hc6, .int .i64 ri6, .slice na (lk - 1) nc, .slice va6 lw vc6, .slice ca6 lc cc6] 36 (0, 0))) := by show _ = _; rw [hw5]; exact (blk_one X4.out _).1
  have A5 : Hid (w5.heap[w.heap.size]? = _) := U5.out.heap A4.out (by omega)
  have R5 : Hid (w5.heap[w.heap.size + 1]? = _) := U5.out.heap R4.out (by omega)
  have B5 : Hid (Below w.heap.size w w5) := B4.out.trans (U5.out.below B4.out.size (fun k hk e => by omega))
  have hs5 := U5.out.size
  have HI := hide (rcut_any va lw vc cb V w5 (HOKN.out w5 B5.out).v hlw.out (by omega) (by omega))
  unfold MkP at HI
  have HW5 := hide hw5
  clear hw5
  go_wp2_with fail
  rw [← HW5.out]
  refine HI.out.mono ?_
  rintro e w6 ⟨ua, uc, CV, rfl, hs6', hl6, ho6, b6⟩
  have B56 := hide b6
  have B6 := hide (B5.out.trans (b6.mono B5.out.size))
  have R6 : Hid (w6.heap[w.heap.size + 1]? = _) := (b6.block _ (lt_of_block R5.out)).trans R5.out
  have X6 : Hid (w6.heap[X]? = _) := (b6.block _ (lt_of_block X5.out)).trans X5.out
  have O6 := hide ho6
  have S6 := hide hs6'
  have LV := hide hl6
  have hs6z := b6.size
  clear hs6' hl6 ho6 b6 HI HW5 c0 c1 c2 c3 c4 c5 x0 x1 x2 x3 x4 x5 f4
  obtain ⟨x0, x1, x2, x3, x4, x5⟩ := Six.of X6.out
  have f6 := frozen_of X6.out 4
  obtain ⟨w7, hw7⟩ : ∃ w7, w7 = w6.setCell ⟨X, 4, none⟩ (.slice ua (lw - 1) uc) := ⟨_, rfl⟩
  have U7 : Upd (fun b => b = X) w6 w7 := by rw [hw7]; exact upd_set _ _ _ _ _ rfl
  have R7 : w7.heap[w.heap.size + 1]? = some (.cells #[.int .i64 0, .slice none 0 0, .int .i64 0, .slice none 0 0, .slice none 0 0, .slice none 0 0] 36 (0, 0)) := U7.heap R6.out (by omega)
  have B7 : Below w.heap.size w w7 := B6.out.trans (U7.below B6.out.size (fun k hk e => by omega))
  have U47 : Upd (fun b => b = X) w4 w7 := (U5.out.trans (Upd.of_below B56.out _)).trans U7
  have U17 : Upd (fun b => b = X) w1 w7 := (Upd.of_below B14.out _).trans U47
  have hXw : w1.heap.size ≤ X ∧ X ≤ w1.heap.size := by have := HX.out; omega
  have OWN : (⟨lv6, ⟨ha6, hc6, hs6⟩, ri6, ⟨na, nc, CK⟩, ⟨ua, uc, CV⟩, ⟨ca6, cc6, C6⟩⟩ : Nd).Own w7 (w.heap.size + 2) := by
   refine ⟨?_, HOM.out.hb, ?_, ?_, ?_, ?_, ?_, HOM.out.cz⟩
   ·exact ownB_upd' HOM.out.h U17 (fun b _ h e => by omega)
   ·exact (O4.out.upd U47 (fun b h _ e => by omega)).mono (by omega)
   ·exact (O6.out.upd U7 (fun b h _ e => by omega)).mono (by omega)
   ·exact ownsI_upd HOM.out.c U17 (fun b _ h e => by omega)
   ·simp only [LK.out]; omega
   ·simp only [LV.out]; omega
  have HPP : (⟨lv6, ⟨ha6, hc6, hs6⟩, ri6, ⟨na, nc, CK⟩, ⟨ua, uc, CV⟩, ⟨ca6, cc6, C6⟩⟩ : Nd).p = P := by
   have e1 := congrArg NP.lv HPM.out
   have e2 := congrArg NP.hi HPM.out
   have e3 := congrArg NP.ri HPM.out
   have e4 := congrArg NP.cs HPM.out
   simp only [Nd.p] at e1 e2 e3 e4
   rw [HP.out]
   simp only [Nd.p, TL.p, if_true, e1, e2, e3, e4]
   rw [show CK.map (·.s) = _ from S4.out, show CV.map (·.s) = _ from S6.out]
  obtain ⟨hF, q0, q1, q2, q3, q4, q5⟩ := tail_six (w := w) R7 OWN HPP (by omega) (by omega) B7
  simp only [Nd.v, Tx.v, TL.v, IL.v, L1.out, LK.out, LV.out, L4.out] at q0 q1 q2 q3 q4 q5 hF
  have HWF : Hid (sixN w7 (w.heap.size + 1) ⟨lv6, ⟨ha6, hc6, hs6⟩, ri6, ⟨na, nc, CK⟩, ⟨ua, uc, CV⟩, ⟨ca6, cc6, C6⟩⟩ = six6 w7 (w.heap.size + 1) (.int .i64 lv6) (.slice ha6 lh hc6) (.int .i64 ri6) (.slice na (lk - 1) nc) (.slice ua (lw - 1) uc) (.slice ca6 lc cc6)) := by show _ = _; simp only [sixN, Tx.v, TL.v, IL.v, L1.out, LK.out, LV.out, L4.out]
  have y := Six.of R6.out
  obtain ⟨y0, y1, y2, y3, y4, y5⟩ := y
  have f8 := fun j => frozen_of R6.out j
  have HQ := hide (And.intro hF (And.intro q0 (And.intro q1 (And.intro q2 (And.intro q3 (And.intro q4 q5))))))
  have HW7 := hide hw7
  clear hF q0 q1 q2 q3 q4 q5 hw7 OWN HPP U7 U47 U17 R7 B7
  go_wp2_with fail
  (try simp only [Exit.inBlock, Exit.then])
  rw [← HW7.out]
  obtain ⟨hF, q0, q1, q2, q3, q4, q5⟩ := HQ.out
  rw [HWF.out] at q0 q1 q2 q3 q4 q5 hF
  unfold six6 at q0 q1 q2 q3 q4 q5 hF
  exact bodyPost_ret (v := .tuple #[.agg #[.int .i64 lv6, .slice ha6 lh hc6, .int .i64 ri6, .slice na (lk - 1) nc, .slice ua (lw - 1) uc, .slice ca6 lc cc6], .bool true]) (by simp [results, Tryz.results56, go_sem, q0, q1, q2, q3, q4, q5]) rfl ⟨_, rfl, hF⟩
 | false =>
  have HPP : (⟨lv6, ⟨ha6, hc6, hs6⟩, ri6, ⟨ka6, kc6, K6⟩, ⟨va6, vc6, V6⟩, ⟨ca6, cc6, C6⟩⟩ : Nd).p = P := by rw [HPM.out, HP.out]; simp only [Bool.false_eq_true, if_false]
  obtain ⟨hF, q0, q1, q2, q3, q4, q5⟩ := tail_six (w := w) R3.out (HOM.out.below B13.out) HPP (by omega) (by omega) B3.out
  simp only [Nd.v, Tx.v, TL.v, IL.v, L1.out, L2.out, L3.out, L4.out] at q0 q1 q2 q3 q4 q5 hF
  have HWF : Hid (sixN w3 (w.heap.size + 1) ⟨lv6, ⟨ha6, hc6, hs6⟩, ri6, ⟨ka6, kc6, K6⟩, ⟨va6, vc6, V6⟩, ⟨ca6, cc6, C6⟩⟩ = six6 w3 (w.heap.size + 1) (.int .i64 lv6) (.slice ha6 lh hc6) (.int .i64 ri6) (.slice ka6 lk kc6) (.slice va6 lw vc6) (.slice ca6 lc cc6)) := by show _ = _; simp only [sixN, Tx.v, TL.v, IL.v, L1.out, L2.out, L3.out, L4.out]
  have HQ := hide (And.intro hF (And.intro q0 (And.intro q1 (And.intro q2 (And.intro q3 (And.intro q4 q5))))))
  clear hF q0 q1 q2 q3 q4 q5 HPP
  obtain ⟨x0, x1, x2, x3, x4, x5⟩ := Six.of X3.out
  obtain ⟨y0, y1, y2, y3, y4, y5⟩ := Six.of R3.out
  have f8 := fun j => frozen_of R3.out j
  go_wp2_with fail
  (try simp only [Exit.inBlock, Exit.then])
  obtain ⟨hF, q0, q1, q2, q3, q4, q5⟩ := HQ.out
  rw [HWF.out] at q0 q1 q2 q3 q4 q5 hF
  unfold six6 at q0 q1 q2 q3 q4 q5 hF
  exact bodyPost_ret (v := .tuple #[.agg #[.int .i64 lv6, .slice ha6 lh hc6, .int .i64 ri6, .slice ka6 lk kc6, .slice va6 lw vc6, .slice ca6 lc cc6], .bool false]) (by simp [results, Tryz.results56, go_sem, q0, q1, q2, q3, q4, q5]) rfl ⟨_, rfl, hF⟩
end Go.Proofs.YtpljbgcofmlhbaaGreat
