/- Texts of one's own. -/
import Derived.Test.YtealejbfloacpaaGreatM38
import Derived.Test.YtealejbfloacpaaGreatM40
import Derived.Test.YtealejbfloacpaaGreatM41
import Derived.Test.YtealejbfloacpaaGreatM7
import Derived.Deep.LoopGhost
import Derived.Deep.DeepCutAuto
namespace Go.Proofs.YtealejbfloacpaaGreat
open Go.RowKit
set_option maxRecDepth 100000
theorem infoLvl : (Tryz.prog.info? 141).map (fun i => (i.zero, i.size, i.bytes)) = some (some (.agg #[.slice none 0 0, .slice none 0 0]), 2, 48) := by kernel_rfl
theorem lvs_root {s : AS} {ck : NP → Int} {f : Nat} {lev id : Int} (h : ¬ s.inn id) : s.lvs ck (f + 1) lev id [] = .inl (id, 101) := by
 rw [lvs_succ]
 have e : s.chn ck lev (idsOf []) (s.sl.length + 1 - (idsOf []).length) id [] [] = .inl (id, 101) := by
  show s.chn ck lev [] (s.sl.length + 1) id [] [] = _
  have h1 : s.metE ck lev [] ([] ++ ([] : Chn).map (·.1)) id = 101 := if_neg h
  rw [chn_succ, h1]
  rfl
 rw [e]
 rfl
theorem RX.belowN {W w : World} {A : Nat} {F : Nat → Prop} {s : AS} (h : RX W A F s) (hb : Below W.heap.size W w) : RX w A F s := h.upd (S := Noth) (Upd.of_below hb _) (fun _ _ e => e)
def RlP (W : World) (F : Nat → Prop) (s : AS) (ck : NP → Int) (R : (Int × Int) ⊕ List Chn) (e : Ending) (w' : World) : Prop :=
 Below W.heap.size W w' ∧ ((∃ id er, R = .inl (id, er) ∧ e = .returned (.tuple #[.slice none 0 0, rpt false id er 0 0 0])) ∨
  ∃ ls Q oa oc M ma mc, R = .inr ls ∧ e = .returned (.tuple #[.slice oa Q.length oc, rpt true 0 0 0 0 0]) ∧ RLS w' W.heap.size F ls Q oa oc M ma mc ∧ Lvp s ck ls (-1))
set_option maxRecDepth 100000 in
set_option maxHeartbeats 12800000 in
theorem rlevels_any {W : World} {A : Nat} {F : Nat → Prop} {s : AS} (hp : RX W A F s) (nd lf inn fl bk : Int) :
  Calls Tryz.prog 63 #[.pointer (some ⟨A, 0, none⟩), .agg #[.int .i64 nd, .int .i64 lf, .int .i64 inn, .int .i64 fl, .int .i64 bk]] W (RlP W F s (fun p => nchkE p nd lf inn fl bk) (s.look nd lf inn fl bk)) := by
 obtain ⟨iV, hiV, hzV0, hzV1, hzV2⟩ := info_parts infoLvl
 obtain ⟨w1, hw1⟩ : ∃ x, x = W.alloc (.cells #[.int .i64 nd, .int .i64 lf, .int .i64 inn, .int .i64 fl, .int .i64 bk] 49) := ⟨_, rfl⟩
 obtain ⟨w2, hw2⟩ : ∃ x, x = w1.alloc (.cells #[.bool false, .int .i64 0, .int .i64 0, .int .i64 0, .int .i64 0, .int .i64 0] 42) := ⟨_, rfl⟩
 have z1 : w1.heap.size = W.heap.size + 1 := by rw [hw1]; simp
 have b1 : Below W.heap.size W w1 := by rw [hw1]; exact (Below.refl _ _).alloc (Nat.le_refl _) _
 have b12 : Below w1.heap.size w1 w2 := by rw [hw2]; exact (Below.refl _ _).alloc (Nat.le_refl _) _
 have G1 : w2.heap[W.heap.size]? = some (.cells #[.int .i64 nd, .int .i64 lf, .int .i64 inn, .int .i64 fl, .int .i64 bk] 49 (0, 0)) := (b12.block _ (by omega)).trans (by rw [hw1]; exact heap_alloc_new W _)
 have G2 : w2.heap[W.heap.size + 1]? = some (.cells #[.bool false, .int .i64 0, .int .i64 0, .int .i64 0, .int .i64 0, .int .i64 0] 42 (0, 0)) := by rw [← z1, hw2]; exact heap_alloc_new w1 _
 have b2 := b1.trans (b12.mono b1.size)
 have HW2 : Hid ((W.alloc (.cells #[.int .i64 nd, .int .i64 lf, .int .i64 inn, .int .i64 fl, .int .i64 bk] 49)).alloc (.cells #[.bool false, .int .i64 0, .int .i64 0, .int .i64 0, .int .i64 0, .int .i64 0] 42) = w2) := by show _ = _; rw [hw2, hw1]
 have HP := hide hp
 have HFL : Hid (∀ k, F k → k < W.heap.size) := hp.lt
 obtain ⟨R, hR⟩ : ∃ R, R = s.look nd lf inn fl bk := ⟨_, rfl⟩
 rw [← hR]
 have HR := hide hR
 obtain ⟨d0, d1, d2, d3, d4⟩ := five_of G1
 have HCFG := hide (rconfig_any nd lf inn fl bk w2)
 have B2 := hide b2
 have HG1 := hide G1
 have HG2 := hide G2
 clear hw1 hw2 z1 b1 b12 b2 G1 G2 hp hR
 go_enter Tryz.func63, Tryz.ntmps63
 go_upto_region 1 with fail
 rw [HW2.out]
 go_wp2_with fail
 refine HCFG.out.mono ?_
 rintro e w3 ⟨rfl, hb3⟩
 have G31 : Hid (w3.heap[W.heap.size]? = some (.cells #[.int .i64 nd, .int .i64 lf, .int .i64 inn, .int .i64 fl, .int .i64 bk] 49 (0, 0))) := (hb3.block _ (lt_of_block HG1.out)).trans HG1.out
 have G32 : Hid (w3.heap[W.heap.size + 1]? = some (.cells #[.bool false, .int .i64 0, .int .i64 0, .int .i64 0, .int .i64 0, .int .i64 0] 42 (0, 0))) := (hb3.block _ (lt_of_block HG2.out)).trans HG2.out
 have B3 : Hid (Below W.heap.size W w3) := B2.out.trans (hb3.mono B2.out.size)
 clear hb3 HCFG HG1 HG2 d0 d1 d2 d3 d4
 by_cases hcf : cfgOk nd lf inn fl bk
 ·have hce : cfgE nd lf inn fl bk = 0 := if_pos hcf
  rw [hce]
  have HRl : Hid (R = match s.held with | h :: _ => .inl (h, 102) | [] => s.lvs (fun p => nchkE p nd lf inn fl bk) (s.sl.length + 1) (s.rd s.root).lv s.root []) := by show _ = _; rw [HR.out]; exact if_pos hcf
  have HHE := hide (rx_held (HP.out.belowN B3.out))
  clear hce HR hcf
  go_wp2_with fail
  refine HHE.out.mono ?_
  rintro e w4 ⟨v4, rfl, ho4, hb4⟩
  obtain ⟨a4, k4, rfl, _, _⟩ := vok_of_owns ho4
  have HRW4 : Hid (Row w4 .i64 a4 s.held) := row_of_owns2 ho4
  have G41 : Hid (w4.heap[W.heap.size]? = some (.cells #[.int .i64 nd, .int .i64 lf, .int .i64 inn, .int .i64 fl, .int .i64 bk] 49 (0, 0))) := (hb4.block _ (lt_of_block G31.out)).trans G31.out
  have G42 : Hid (w4.heap[W.heap.size + 1]? = some (.cells #[.bool false, .int .i64 0, .int .i64 0, .int .i64 0, .int .i64 0, .int .i64 0] 42 (0, 0))) := (hb4.block _ (lt_of_block G32.out)).trans G32.out
  have B4 : Hid (Below W.heap.size W w4) := B3.out.trans (hb4.mono B3.out.size)
  clear ho4 hb4 HHE G31 G32 B3
  cases hh : s.held with
  | cons h0 tl =>
   rw [hh] at HRl HRW4
   have HRE : Hid (R = .inl (h0, 102)) := HRl.out
   obtain ⟨hb, hof, hha, hhc⟩ := HRW4.out 0 (by simp)
   subst hha
   simp only [List.getD_cons_zero, Nat.add_zero] at hhc
   obtain ⟨hl, hhl⟩ : ∃ hl, (h0 :: tl).length = hl := ⟨_, rfl⟩
   have hl0 : (0 : Int) < (hl : Int) := Int.natCast_pos.2 (by rw [← hhl]; simp)
   rw [hhl]
   clear hhl HRl HRW4 hh
   have HWR : Hid (Calls Tryz.prog 116 #[.int .i64 h0, .int .i64 102] w4 fun e w' => e = .returned (.agg #[.bool false, .int .i64 h0, .int .i64 102, .int .i64 0, .int .i64 0, .int .i64 0]) ∧ Below w4.heap.size w4 w') := rwrong_any h0 102 w4
   go_wp2_with fail
   refine HWR.out.mono ?_
   rintro e wf ⟨rfl, hbf⟩
   have HRB : Hid (wf.heap[W.heap.size + 1]? = some (.cells #[.bool false, .int .i64 0, .int .i64 0, .int .i64 0, .int .i64 0, .int .i64 0] 42 (0, 0))) := (hbf.block _ (lt_of_block G42.out)).trans G42.out
   have BWF : Hid (Below W.heap.size W wf) := B4.out.trans (hbf.mono B4.out.size)
   clear hbf
   obtain ⟨y0, y1, y2, y3, y4, y5⟩ := Six.of HRB.out
   have F5 := fun j => frozen_of HRB.out j
   go_wp2_with fail
   (try simp only [Exit.inBlock, Exit.then])
   (try rw [Exit.noGoto_ret])
   have G9 := six_block HRB.out (.bool false) (.int .i64 h0) (.int .i64 102) (.int .i64 0) (.int .i64 0) (.int .i64 0)
   have U9 : Upd (fun b => b = W.heap.size + 1) wf (six6 wf (W.heap.size + 1) (.bool false) (.int .i64 h0) (.int .i64 102) (.int .i64 0) (.int .i64 0) (.int .i64 0)) := six_upd _ _ _ _ _ _ _ _ _ rfl
   obtain ⟨w9, hw9⟩ : ∃ x, x = six6 wf (W.heap.size + 1) (.bool false) (.int .i64 h0) (.int .i64 102) (.int .i64 0) (.int .i64 0) (.int .i64 0) := ⟨_, rfl⟩
   show bodyPost _ _ _ _ _ (six6 wf (W.heap.size + 1) (.bool false) (.int .i64 h0) (.int .i64 102) (.int .i64 0) (.int .i64 0) (.int .i64 0))
   rw [← hw9] at G9 U9 ⊢
   clear hw9
   obtain ⟨q0, q1, q2, q3, q4, q5⟩ := Six.of G9
   have B9 : Below W.heap.size W w9 := BWF.out.trans (U9.below BWF.out.size (fun k hk e => by omega))
   exact bodyPost_ret (v := .tuple #[.slice none 0 0, .agg #[.bool false, .int .i64 h0, .int .i64 102, .int .i64 0, .int .i64 0, .int .i64 0]]) (by simp [results, Tryz.results63, go_sem, q0, q1, q2, q3, q4, q5]) rfl ⟨B9, .inl ⟨h0, 102, HRE.out, rfl⟩⟩
  | nil =>
   rw [hh] at HRl
   have HRL2 : Hid (R = s.lvs (fun p => nchkE p nd lf inn fl bk) (s.sl.length + 1) (s.rd s.root).lv s.root []) := HRl.out
   obtain ⟨g, c, Mf, D, L, hra, hnd, hfo, hflt⟩ := HP.out
   have HRA : Hid (∀ Y, Below W.heap.size W Y → RA Y A g c Mf D s.nodes s.root L) := fun Y hb => hra.upd (S := fun k => W.heap.size ≤ k) ⟨hb.os, hb.tape, hb.output, hb.size, fun k _ hk => hb.block k (by omega)⟩ (fun k hk e => by have := hflt k (hfo k hk); omega)
   have HLS : Hid (L.length = s.sl.length) := ndsR_lenS hnd
   have HNA : Hid (∀ i (hi : i < L.length) (id : Int), id = (i : Int) + 1 → s.n id = L[i].n.p) := fun i hi id hid => (ndsR_at hnd hi hid).2
   have hsl : L.length ≤ 65536 := hra.n_le
   have ra := HRA.out w4 B4.out
   obtain ⟨_, r1, r2⟩ := ra.cells
   have HTH : Hid (Calls Tryz.prog 69 #[.pointer (some ⟨A, 0, none⟩), .int .i64 s.root] w4 fun e w' => e = .returned (.bool (decide (s.inn s.root))) ∧ w' = w4) := by
    show Calls _ _ _ _ _
    have := there_any ra s.root
    rw [HLS.out] at this
    exact this
   obtain ⟨rt, hrt⟩ : ∃ rt, s.root = rt := ⟨_, rfl⟩
   rw [hrt] at HTH r2 HRL2
   clear hra hnd hfo hflt ra hh HRl HRW4
   rw [List.length_nil]
   by_cases hin : s.inn rt
   ·rw [decide_eq_true hin] at HTH
    have hrd : s.rd rt = s.n rt := if_pos hin
    rw [hrd] at HRL2
    obtain ⟨i0, hi0, hid, _⟩ := AS.idx hin
    have hiL : i0 < L.length := by rw [HLS.out]; exact hi0
    have f1 := ((HRA.out w4 B4.out).node6 i0 hiL).1
    have hnl : L[i0].n.lv = (s.n rt).lv := by rw [HNA.out i0 hiL rt hid]; rfl
    rw [hnl] at f1
    obtain ⟨lv0, hlv0⟩ : ∃ lv0, (s.n rt).lv = lv0 := ⟨_, rfl⟩
    rw [hlv0] at f1 HRL2
    have x1 : IntKind.i64.wrap (rt - 1) = (i0 : Int) := by rw [IntKind.wrap_i64]; omega
    have x2 : (i0 : Int) < (L.length : Int) := by omega
    have x3 : (0 : Int) ≤ (i0 : Int) := by omega
    obtain ⟨ll, hll⟩ : ∃ ll, L.length = ll := ⟨_, rfl⟩
    rw [hll] at r1 x2
    clear hrd hlv0 hnl hid hi0 hin hrt hll hiL
    go_wp2_with fail
    refine keep HTH.out ?_
    go_upto_region 13 with fail
    go_cut [12] (fun s12 wx => s12 = .int .i64 lv0 ∧ Hid (∃ m, wx = w4.drewN m))
    case first =>
     go_wp2_with fail
     go_quiet (fail)
     try go_wp2_with fail
     go_meet
     exact ⟨rfl, _, rfl⟩
    case rest =>
    rename World => w5
    obtain ⟨rfl, HJ⟩ := hcut
    have b45 : Below w4.heap.size w4 w5 := by obtain ⟨j, hj⟩ := HJ.out; rw [hj]; exact below_drewN (Below.refl _ _) j
    have B5 : Hid (Below W.heap.size W w5) := B4.out.trans (b45.mono B4.out.size)
    have G51 : Hid (w5.heap[W.heap.size]? = some (.cells #[.int .i64 nd, .int .i64 lf, .int .i64 inn, .int .i64 fl, .int .i64 bk] 49 (0, 0)) ∧ w5.heap[W.heap.size + 1]? = some (.cells #[.bool false, .int .i64 0, .int .i64 0, .int .i64 0, .int .i64 0, .int .i64 0] 42 (0, 0))) := ⟨(b45.block _ (lt_of_block G41.out)).trans G41.out, (b45.block _ (lt_of_block G42.out)).trans G42.out⟩
    have HL0 : Hid (RLS w5 W.heap.size F [] [] none 0 (idsOf []) none 0) := ⟨World.ownsRow_nil _ _ _ _, rfl, fun i hi => absurd hi (Nat.not_lt_zero i), World.ownsRow_nil _ _ _ _, fun q hq => (by cases hq), HFL.out, B5.out.size⟩
    clear b45 HJ f1 r1 r2 x1 x2 x3 HTH G41 G42 B4
    go_wp2_with fail
    go_loopg [9, 10, 11, 12] (s.sl.length + 1) (fun gi q9 q10 q11 q12 wr => ∃ lev first outs Q oa oc ma mc, q9 = .slice oa Q.length oc ∧ q10 = .slice ma (idsOf outs).length mc ∧ q11 = .int .i64 first ∧ q12 = .int .i64 lev ∧ Hid (RLS wr W.heap.size F outs Q oa oc (idsOf outs) ma mc ∧ Lvp s (fun p => nchkE p nd lf inn fl bk) outs lev ∧ R = s.lvs (fun p => nchkE p nd lf inn fl bk) gi lev first outs ∧ gi + outs.length = s.sl.length + 1 ∧ Below W.heap.size W wr) ∧ Hid (wr.heap[W.heap.size]? = some (.cells #[.int .i64 nd, .int .i64 lf, .int .i64 inn, .int .i64 fl, .int .i64 bk] 49 (0, 0)) ∧ wr.heap[W.heap.size + 1]? = some (.cells #[.bool false, .int .i64 0, .int .i64 0, .int .i64 0, .int .i64 0, .int .i64 0] 42 (0, 0))))
    case atStart => exact ⟨lv0, rt, [], [], none, 0, none, 0, rfl, rfl, rfl, rfl, ⟨HL0.out, Lvp.nil _ _ _, HRL2.out, by simp, B5.out⟩, G51⟩
    case round =>
     obtain ⟨lev, first, outs, Q, oa, oc, ma, mc, rfl, rfl, rfl, rfl, HS, HBB⟩ := hrel
     rename World => wr
     clear HL0 B5 G51 HRL2 hsl
     obtain ⟨hrl, hlv, hR, hgi, hbw⟩ := HS.out
     have hge := ids_ge hlv.ne
     have hml := hlv.met.len
     have HSZ : Hid (s.sl.length ≤ 65536) := by have := (HRA.out wr hbw).n_le; rw [HLS.out] at this; exact this
     have hsz := HSZ.out
     obtain ⟨g0, rfl⟩ : ∃ g0, gk = g0 + 1 := ⟨gk - 1, by omega⟩
     rw [lvs_succ] at hR
     have HCH := hide (rchain_any (HP.out.belowN hbw) W.heap.size HFL.out hbw.size nd lf inn fl bk first lev (idsOf outs) ma mc hrl.oM hlv.met)
     obtain ⟨RC, hRC⟩ : ∃ RC, RC = s.chn (fun p => nchkE p nd lf inn fl bk) lev (idsOf outs) (s.sl.length + 1 - (idsOf outs).length) first [] [] := ⟨_, rfl⟩
     rw [← hRC] at HCH hR
     have HRC := hide hRC
     have HRL := hide hrl
     have HLV := hide hlv
     have HRR := hide hR
     have HGI := hide hgi
     have BW := hide hbw
     have hqm : Q.length ≤ 65536 := by rw [hrl.len]; omega
     obtain ⟨m, hm⟩ : ∃ m, (idsOf outs).length = m := ⟨_, rfl⟩
     obtain ⟨q, hq⟩ : ∃ q, Q.length = q := ⟨_, rfl⟩
     rw [hm] at HCH ⊢
     rw [hq] at hqm ⊢
     have HM := hide hm
     have HQ := hide hq
     obtain ⟨d0, d1, d2, d3, d4⟩ := five_of HBB.out.1
     clear hrl hlv hR hgi hbw HS hRC hm hq hge hml
     go_wp2_with fail
     refine HCH.out.mono ?_
     rintro e w4 ⟨hb4, hu4, ⟨id, er, a0, n0, c0, a1, n1, c1, a2, n2, c2, hR4, rfl⟩ | ⟨ch, b, lI, lO, ma', mc', hR4, rfl, hrc, his, hos, hmk⟩⟩
     ·have HRE : Hid (R = .inl (id, er)) := by show _ = _; rw [HRR.out, hR4]; rfl
      have BW4 : Hid (Below W.heap.size W w4) := BW.out.trans hb4
      have hnm : ∀ k, k = W.heap.size ∨ k = W.heap.size + 1 → ¬ (Value.slice ma (idsOf outs).length mc).ownBlock = some k := fun k hk e => by
       obtain ⟨cur, h5, _⟩ := own_ty HRL.out.oM e
       rcases hk with rfl | rfl
       ·rw [HBB.out.1] at h5; cases h5
       ·rw [HBB.out.2] at h5; cases h5
      have HB4 : Hid (w4.heap[W.heap.size + 1]? = some (.cells #[.bool false, .int .i64 0, .int .i64 0, .int .i64 0, .int .i64 0, .int .i64 0] 42 (0, 0))) := hu4.heap HBB.out.2 (hnm _ (.inr rfl))
      obtain ⟨w5, hw5⟩ : ∃ x, x = (w4.alloc (.cells #[.slice a0 n0 c0, .slice a1 n1 c1] 141)).alloc (.cells #[.bool false, .int .i64 id, .int .i64 er, .int .i64 0, .int .i64 0, .int .i64 0] 42) := ⟨_, rfl⟩
      have b5 : Below w4.heap.size w4 w5 := by rw [hw5]; exact ((Below.refl _ _).alloc (Nat.le_refl _) _).alloc (by simp) _
      have G5 : w5.heap[w4.heap.size + 1]? = some (.cells #[.bool false, .int .i64 id, .int .i64 er, .int .i64 0, .int .i64 0, .int .i64 0] 42 (0, 0)) := by
       rw [hw5]
       have := heap_alloc_new (w4.alloc (.cells #[.slice a0 n0 c0, .slice a1 n1 c1] 141)) (.cells #[.bool false, .int .i64 id, .int .i64 er, .int .i64 0, .int .i64 0, .int .i64 0] 42)
       simpa using this
      have HRB : Hid (w5.heap[W.heap.size + 1]? = some (.cells #[.bool false, .int .i64 0, .int .i64 0, .int .i64 0, .int .i64 0, .int .i64 0] 42 (0, 0))) := (b5.block _ (lt_of_block HB4.out)).trans HB4.out
      have BWF : Hid (Below W.heap.size W w5) := BW4.out.trans (b5.mono BW4.out.size)
      have hw4 : W.heap.size + 1 < w4.heap.size := lt_of_block HB4.out
      have n1' : ¬ W.heap.size + 1 = w4.heap.size + 1 := by omega
      have n2' : ¬ w4.heap.size + 1 = W.heap.size + 1 := by omega
      have HW5 := hide hw5
      obtain ⟨p0, p1, p2, p3, p4, p5⟩ := Six.of G5
      obtain ⟨y0, y1, y2, y3, y4, y5⟩ := Six.of HRB.out
      have F5 := fun j => frozen_of HRB.out j
      clear hw5 b5 G5 hnm HB4 BW4 hb4 hu4 hR4 d0 d1 d2 d3 d4 HRL HLV HRR HRC
      simp only [rpt_form]
      go_upto_region 16 with fail
      rw [← HW5.out]
      go_wp2_with fail
      go_region
      go_wp2_with fail
      (try simp only [Exit.inBlock, Exit.then])
      (try rw [Exit.noGoto_ret])
      have G9 := six_block HRB.out (.bool false) (.int .i64 id) (.int .i64 er) (.int .i64 0) (.int .i64 0) (.int .i64 0)
      have U9 : Upd (fun b => b = W.heap.size + 1) w5 (six6 w5 (W.heap.size + 1) (.bool false) (.int .i64 id) (.int .i64 er) (.int .i64 0) (.int .i64 0) (.int .i64 0)) := six_upd _ _ _ _ _ _ _ _ _ rfl
      obtain ⟨w9, hw9⟩ : ∃ x, x = six6 w5 (W.heap.size + 1) (.bool false) (.int .i64 id) (.int .i64 er) (.int .i64 0) (.int .i64 0) (.int .i64 0) := ⟨_, rfl⟩
      show bodyPost _ _ _ _ _ (six6 w5 (W.heap.size + 1) (.bool false) (.int .i64 id) (.int .i64 er) (.int .i64 0) (.int .i64 0) (.int .i64 0)).drew
      rw [← hw9] at G9 U9 ⊢
      clear hw9
      obtain ⟨q0, q1, q2, q3, q4, q5⟩ := Six.of (W := w9.drew) G9
      have B9 : Below W.heap.size W w9.drew := below_drew (BWF.out.trans (U9.below BWF.out.size (fun k hk e => by omega)))
      exact bodyPost_ret (v := .tuple #[.slice none 0 0, .agg #[.bool false, .int .i64 id, .int .i64 er, .int .i64 0, .int .i64 0, .int .i64 0]]) (by simp [results, Tryz.results63, go_sem, q0, q1, q2, q3, q4, q5]) rfl ⟨B9, .inl ⟨id, er, HRE.out, rfl⟩⟩
     ·obtain ⟨hmet', hcok, hcne⟩ := chn_ok _ _ _ _ _ (HRC.out.symm.trans hR4) (by rw [List.map_nil, List.append_nil]; exact HLV.out.met) (ChnOk.nil _ _ _)
      have hlen' := hmet'.len
      have BW4 : Hid (Below W.heap.size W w4) := BW.out.trans hb4
      have hnm : ∀ k, k = W.heap.size ∨ k = W.heap.size + 1 → ¬ (Value.slice ma (idsOf outs).length mc).ownBlock = some k := fun k hk e => by
       obtain ⟨cur, h5, _⟩ := own_ty HRL.out.oM e
       rcases hk with rfl | rfl
       ·rw [HBB.out.1] at h5; cases h5
       ·rw [HBB.out.2] at h5; cases h5
      have HB4 : Hid (w4.heap[W.heap.size]? = some (.cells #[.int .i64 nd, .int .i64 lf, .int .i64 inn, .int .i64 fl, .int .i64 bk] 49 (0, 0)) ∧ w4.heap[W.heap.size + 1]? = some (.cells #[.bool false, .int .i64 0, .int .i64 0, .int .i64 0, .int .i64 0, .int .i64 0] 42 (0, 0))) := ⟨hu4.heap HBB.out.1 (hnm _ (.inl rfl)), hu4.heap HBB.out.2 (hnm _ (.inr rfl))⟩
      have RL4 := hide (HRL.out.met hu4 hrc.oM hmk)
      have QL4 : Hid (QLv w4 W.heap.size F (lI, lO) ch) := ⟨hrc.oL, hrc.oO, hrc.ok, hrc.li, his, hos⟩
      have LM4 := hide hrc.lm
      have HOW : Hid (∀ k, (Value.slice oa q oc).ownBlock = some k → k < w4.heap.size) := fun k hk => by rw [← HQ.out] at hk; obtain ⟨cur, h5, _⟩ := own_ty RL4.out.row hk; exact lt_of_block h5
      have HLV2 := hide (HLV.out.add hmet' hcok hcne)
      have HCN := hide hcne
      have HCO := hide hcok
      have HMT2 := hide hmet'
      have HR4 := hide hR4
      have hw4 : W.heap.size + 1 < w4.heap.size := lt_of_block HB4.out.2
      have HWW : Hid (wr.heap.size ≤ w4.heap.size) := hu4.size
      have hchl : ch.length ≤ 65536 := by rw [List.length_append, List.length_map] at hlen'; omega
      obtain ⟨m', hm'⟩ : ∃ m', (idsOf outs ++ ch.map (·.1)).length = m' := ⟨_, rfl⟩
      rw [hm']
      have HM' := hide hm'
      obtain ⟨ia, ic, is⟩ := lI
      obtain ⟨ta, tc, ts⟩ := lO
      simp only [rpt_form, IL.v, TL.v]
      obtain ⟨il, hil⟩ : ∃ il, is.length = il := ⟨_, rfl⟩
      obtain ⟨tl, htl⟩ : ∃ tl, ts.length = tl := ⟨_, rfl⟩
      rw [hil, htl]
      have HIL := hide (And.intro hil htl)
      obtain ⟨w5, hw5⟩ : ∃ x, x = (w4.alloc (.cells #[.slice ia il ic, .slice ta tl tc] 141)).alloc (.cells #[.bool true, .int .i64 0, .int .i64 0, .int .i64 0, .int .i64 0, .int .i64 0] 42) := ⟨_, rfl⟩
      have b5 : Below w4.heap.size w4 w5 := by rw [hw5]; exact ((Below.refl _ _).alloc (Nat.le_refl _) _).alloc (by simp) _
      have G5 : w5.heap[w4.heap.size + 1]? = some (.cells #[.bool true, .int .i64 0, .int .i64 0, .int .i64 0, .int .i64 0, .int .i64 0] 42 (0, 0)) := by
       rw [hw5]
       have := heap_alloc_new (w4.alloc (.cells #[.slice ia il ic, .slice ta tl tc] 141)) (.cells #[.bool true, .int .i64 0, .int .i64 0, .int .i64 0, .int .i64 0, .int .i64 0] 42)
       simpa using this
      have G5l : w5.heap[w4.heap.size]? = some (.cells #[.slice ia il ic, .slice ta tl tc] 141 (0, 0)) := by
       rw [hw5, Below.heap_alloc _ _ _ (by simp)]
       exact heap_alloc_new w4 _
      have RL5 := hide (RL4.out.below b5)
      have QL5 : Hid (QLv w5 W.heap.size F (⟨ia, ic, is⟩, ⟨ta, tc, ts⟩) ch) := QL4.out.upd (S := Noth) (Upd.of_below b5 _) (fun _ _ e => e) (fun _ _ e => e) (fun _ _ e => e)
      have HB5 : Hid (w5.heap[W.heap.size]? = some (.cells #[.int .i64 nd, .int .i64 lf, .int .i64 inn, .int .i64 fl, .int .i64 bk] 49 (0, 0)) ∧ w5.heap[W.heap.size + 1]? = some (.cells #[.bool false, .int .i64 0, .int .i64 0, .int .i64 0, .int .i64 0, .int .i64 0] 42 (0, 0))) := ⟨(b5.block _ (by omega)).trans HB4.out.1, (b5.block _ (by omega)).trans HB4.out.2⟩
      have BW5 : Hid (Below W.heap.size W w5) := BW4.out.trans (b5.mono BW4.out.size)
      have HW5 := hide hw5
      have HG5 := hide G5
      have HG5l := hide G5l
      have p0 := (Six.of G5).1
      have HQL : Hid (Q.length = outs.length) := RL5.out.len
      clear hw5 b5 G5 G5l hnm HB4 BW4 hb4 hu4 hR4 d0 d1 d2 d3 d4 HRL HRC hrc his hos hmk hmet' hcok hcne hlen' hm' hil htl RL4 QL4 HCH BW HBB
      go_upto_region 16 with fail
      rw [← HW5.out]
      go_upto_if 81 with fail
      go_cut [] (fun wx => Hid (RLS wx W.heap.size F outs Q oa oc (idsOf outs ++ ch.map (·.1)) ma' mc' ∧ QLv wx W.heap.size F (⟨ia, ic, is⟩, ⟨ta, tc, ts⟩) ch ∧ wx.heap[w4.heap.size]? = some (.cells #[.slice ia il ic, .slice ta tl tc] 141 (0, 0)) ∧ (wx.heap[W.heap.size]? = some (.cells #[.int .i64 nd, .int .i64 lf, .int .i64 inn, .int .i64 fl, .int .i64 bk] 49 (0, 0)) ∧ wx.heap[W.heap.size + 1]? = some (.cells #[.bool false, .int .i64 0, .int .i64 0, .int .i64 0, .int .i64 0, .int .i64 0] 42 (0, 0))) ∧ Below W.heap.size W wx ∧ s.stray (outs.getLastD []) ch = none))
      case first =>
       by_cases hq0 : q = 0
       ·subst hq0
        have HST : Hid (s.stray (outs.getLastD []) ch = none) := by
         have : outs = [] := List.eq_nil_of_length_eq_zero (by rw [← HQL.out, HQ.out])
         rw [this]; rfl
        go_wp2_with fail
        go_meet
        exact ⟨RL5.out, QL5.out, HG5l.out, HB5.out, BW5.out, HST.out⟩
       ·obtain ⟨p, hp⟩ : ∃ p, q = p + 1 := ⟨q - 1, by omega⟩
        have hpQ : p < Q.length := by rw [HQ.out]; omega
        have hpo : p < outs.length := by rw [← HQL.out]; exact hpQ
        have hlast : outs.getLastD [] = outs[p] := by
         rw [List.getLastD_eq_getLast?, List.getLast?_eq_getElem?, show outs.length - 1 = p by have := HQL.out; have := HQ.out; omega, List.getElem?_eq_getElem hpo]
         rfl
        obtain ⟨go, hoa, hc0, hc1⟩ := RL5.out.at_ p hpQ
        have HOA := hide hoa
        subst hoa
        have QLp := hide (RL5.out.q p hpQ hpo)
        have HINp : Hid (∀ x ∈ outs[p], s.inn x.1) := fun x hx => HLV.out.met.inn _ (ids_mem (List.getElem_mem hpo) hx)
        have HCKp : Hid (∀ x ∈ outs[p], (s.n x.1).cs.length ≤ (s.n x.1).ks.length + 1) := fun x hx => by
         obtain ⟨h1, _, h2, h3, _⟩ := nchk_facts (HLV.out.ck _ (List.getElem_mem hpo) x hx)
         by_cases h4 : 0 < (s.n x.1).lv
         ·rw [h2 h4]; exact Nat.le_refl _
         ·rw [h3 (by omega)]; omega
        have hopz : outs[p].length ≤ 65536 := by
         have h1 := ids_le (List.getElem_mem hpo)
         have h2 := HLV.out.met.len
         omega
        obtain ⟨ok, hok⟩ : ∃ ok, outs[p] = ok := ⟨_, rfl⟩
        rw [hok] at QLp HINp HCKp hopz hlast
        obtain ⟨⟨⟨ja, jc, js⟩, ⟨va, vc, vs⟩⟩, hqp⟩ : ∃ x, Q[p] = x := ⟨_, rfl⟩
        rw [hqp] at hc0 hc1 QLp
        simp only [IL.v, TL.v] at hc0 hc1
        obtain ⟨jl, hjl⟩ : ∃ jl, js.length = jl := ⟨_, rfl⟩
        obtain ⟨vl, hvl⟩ : ∃ vl, vs.length = vl := ⟨_, rfl⟩
        rw [hjl] at hc0
        rw [hvl] at hc1
        have HKI : Hid (∀ Y, Below w5.heap.size w5 Y → Calls Tryz.prog 118 #[.pointer (some ⟨A, 0, none⟩), .agg #[.slice ja jl jc, .slice va vl vc], .agg #[.slice ia il ic, .slice ta tl tc]] Y fun e w' => e = .returned (kidR (s.stray ok ch)) ∧ Below Y.heap.size Y w') := fun Y hb => by
         have := lkids_any ((HP.out.belowN BW5.out).belowN hb) ok ch ⟨ja, jc, js⟩ ⟨ia, ic, is⟩ ⟨va, vc, vs⟩ ⟨ta, tc, ts⟩ ((QLp.out.lvo hopz).below hb) ((QL5.out.lvo hchl).below hb) HINp.out HCKp.out
         simp only [IL.v, TL.v, hjl, hvl, HIL.out.1, HIL.out.2] at this
         exact this
        have x0 : (0 : Int) < (q : Int) := by omega
        have x1 : IntKind.i64.wrap ((q : Int) - 1) = (p : Int) := by rw [IntKind.wrap_i64]; omega
        have x2 : (p : Int) < (q : Int) := by omega
        obtain ⟨l0, l1⟩ := two_at HG5l.out
        have HLT : Hid (go < w5.heap.size ∧ w4.heap.size < w5.heap.size) := ⟨World.block_lt_of_cell? w5 ⟨go, p * 2, none⟩ hc0, lt_of_block HG5l.out⟩
        have hgo : go < w4.heap.size := HOW.out go rfl
        have m1 : ¬ go = w4.heap.size + 1 := by omega
        have m2 : ¬ w4.heap.size + 1 = go := by omega
        have m3 : ¬ w4.heap.size = w4.heap.size + 1 := by omega
        have m4 : ¬ w4.heap.size + 1 = w4.heap.size := by omega
        have HLA := hide hlast
        clear hp hqp hjl hvl hok hlast hpQ hpo QLp HINp HCKp hopz hq0
        cases hst : s.stray ok ch with
        | none =>
         rw [hst] at HKI
         simp only [kidR, rpt_form] at HKI
         have HST : Hid (s.stray (outs.getLastD []) ch = none) := by show _ = _; rw [HLA.out]; exact hst
         clear hst
         go_upto_region 20 with fail
         go_cut [] (fun wy => Hid (∃ w6, wy = six6 w6 (w4.heap.size + 1) (.bool true) (.int .i64 0) (.int .i64 0) (.int .i64 0) (.int .i64 0) (.int .i64 0) ∧ Below w5.heap.size w5 w6))
         case first =>
          go_wp2_with fail
          go_region_held3 (fun Y => (Y.cell? ⟨go, p * 2, none⟩ = some (.slice ja jl jc) ∧ Y.cell? ⟨go, p * 2 + 1, none⟩ = some (.slice va vl vc)) ∧ Y.cell? ⟨w4.heap.size, 0, none⟩ = some (.slice ia il ic) ∧ Y.cell? ⟨w4.heap.size, 1, none⟩ = some (.slice ta tl tc)) (go_keep) (first
           | (go_at_call 118; refine (HKI.out w5.drew (below_drew (Below.refl _ _))).mono ?_; rintro e w6 ⟨rfl, hb6⟩; have b56 : Below w5.heap.size w5 w6 := (below_drew (Below.refl w5.heap.size w5)).trans hb6; have P6 : w6.heap[w4.heap.size + 1]? = some (.cells #[.bool true, .int .i64 0, .int .i64 0, .int .i64 0, .int .i64 0, .int .i64 0] 42 (0, 0)) := (b56.block _ (lt_of_block HG5.out)).trans HG5.out; obtain ⟨y0, y1, y2, y3, y4, y5⟩ := Six.of P6; have F6 := (fun j => frozen_of P6 j); have kc0 : w6.cell? ⟨go, p * 2, none⟩ = some (.slice ja jl jc) := (b56.cell (p := ⟨go, p * 2, none⟩) HLT.out.1).trans hc0; have kc1 : w6.cell? ⟨go, p * 2 + 1, none⟩ = some (.slice va vl vc) := (b56.cell (p := ⟨go, p * 2 + 1, none⟩) HLT.out.1).trans hc1; have kl0 : w6.cell? ⟨w4.heap.size, 0, none⟩ = some (.slice ia il ic) := (b56.cell (p := ⟨w4.heap.size, 0, none⟩) HLT.out.2).trans l0; have kl1 : w6.cell? ⟨w4.heap.size, 1, none⟩ = some (.slice ta tl tc) := (b56.cell (p := ⟨w4.heap.size, 1, none⟩) HLT.out.2).trans l1; have HM6 : Hid (∃ w6', six6 w6 (w4.heap.size + 1) (.bool true) (.int .i64 0) (.int .i64 0) (.int .i64 0) (.int .i64 0) (.int .i64 0) = six6 w6' (w4.heap.size + 1) (.bool true) (.int .i64 0) (.int .i64 0) (.int .i64 0) (.int .i64 0) (.int .i64 0) ∧ Below w5.heap.size w5 w6') := ⟨w6, rfl, b56⟩; clear P6 hb6 b56)
           | fail)
          all_goals
           try go_wp2_with fail
           go_meet
           exact HM6
         case rest =>
         rename World => w7
         obtain ⟨w6, hw7, b56⟩ := hcut.out
         have B56 := hide b56
         have P6 : w6.heap[w4.heap.size + 1]? = some (.cells #[.bool true, .int .i64 0, .int .i64 0, .int .i64 0, .int .i64 0, .int .i64 0] 42 (0, 0)) := (b56.block _ (lt_of_block HG5.out)).trans HG5.out
         have U7 : Hid (Upd (fun b => b = w4.heap.size + 1) w6 w7) := (by rw [hw7]; exact six_upd _ _ _ _ _ _ _ _ _ rfl)
         have G7 : Hid (w7.heap[w4.heap.size + 1]? = some (.cells #[.bool true, .int .i64 0, .int .i64 0, .int .i64 0, .int .i64 0, .int .i64 0] 42 (0, 0))) := (by show _ = _; rw [hw7]; exact six_block P6 _ _ _ _ _ _)
         clear hw7 P6 b56 hcut
         have z0 := (Six.of G7.out).1
         go_wp2_with fail
         go_meet
         have n9 : ∀ k, k < w5.heap.size → k ≠ w4.heap.size + 1 → ∀ o, w5.heap[k]? = some o → w7.heap[k]? = some o := fun k hk h1 o ho => U7.out.heap ((B56.out.block k hk).trans ho) h1
         refine ⟨(RL5.out.below B56.out).upd U7.out (fun k cs T hk hb => ?_) (fun k hk e => ?_), (QL5.out.upd (S := Noth) (Upd.of_below B56.out _) (fun _ _ e => e) (fun _ _ e => e) (fun _ _ e => e)).upd U7.out (fun k hk e => ?_) (fun k hk e => ?_) (fun k hk e => ?_), n9 _ (lt_of_block HG5l.out) (by omega) _ HG5l.out, ⟨n9 _ (lt_of_block HB5.out.1) (by omega) _ HB5.out.1, n9 _ (lt_of_block HB5.out.2) (by omega) _ HB5.out.2⟩, (BW5.out.trans (B56.out.mono BW5.out.size)).trans (U7.out.below (by have := BW5.out.size; have := B56.out.size; omega) (fun k hk e => by omega)), HST.out⟩
         ·rw [hk, (B56.out.block _ (lt_of_block HG5.out)).trans HG5.out] at hb; cases hb; exact ⟨by decide, by decide, by decide⟩
         ·have := HFL.out k hk; omega
         ·obtain ⟨cur, h5, _⟩ := own_ty QL5.out.oL hk; rw [e, HG5.out] at h5; cases h5
         ·obtain ⟨cur, h5, _⟩ := own_ty QL5.out.oO hk; rw [e, HG5.out] at h5; cases h5
         ·have := HFL.out k hk; omega
        | some u =>
         rw [hst] at HKI
         simp only [kidR, rpt_form] at HKI
         have HRE : Hid (R = .inl (u, 113)) := by show _ = _; rw [HRR.out, HR4.out]; simp only [AS.step, HLA.out, hst]
         clear hst
         go_upto_region 20 with fail
         go_cut [] (fun wy => Hid (∃ w6, wy = six6 w6 (w4.heap.size + 1) (.bool false) (.int .i64 u) (.int .i64 113) (.int .i64 0) (.int .i64 0) (.int .i64 0) ∧ Below w5.heap.size w5 w6))
         case first =>
          go_wp2_with fail
          go_region_held3 (fun Y => (Y.cell? ⟨go, p * 2, none⟩ = some (.slice ja jl jc) ∧ Y.cell? ⟨go, p * 2 + 1, none⟩ = some (.slice va vl vc)) ∧ Y.cell? ⟨w4.heap.size, 0, none⟩ = some (.slice ia il ic) ∧ Y.cell? ⟨w4.heap.size, 1, none⟩ = some (.slice ta tl tc)) (go_keep) (first
           | (go_at_call 118; refine (HKI.out w5.drew (below_drew (Below.refl _ _))).mono ?_; rintro e w6 ⟨rfl, hb6⟩; have b56 : Below w5.heap.size w5 w6 := (below_drew (Below.refl w5.heap.size w5)).trans hb6; have P6 : w6.heap[w4.heap.size + 1]? = some (.cells #[.bool true, .int .i64 0, .int .i64 0, .int .i64 0, .int .i64 0, .int .i64 0] 42 (0, 0)) := (b56.block _ (lt_of_block HG5.out)).trans HG5.out; obtain ⟨y0, y1, y2, y3, y4, y5⟩ := Six.of P6; have F6 := (fun j => frozen_of P6 j); have kc0 : w6.cell? ⟨go, p * 2, none⟩ = some (.slice ja jl jc) := (b56.cell (p := ⟨go, p * 2, none⟩) HLT.out.1).trans hc0; have kc1 : w6.cell? ⟨go, p * 2 + 1, none⟩ = some (.slice va vl vc) := (b56.cell (p := ⟨go, p * 2 + 1, none⟩) HLT.out.1).trans hc1; have kl0 : w6.cell? ⟨w4.heap.size, 0, none⟩ = some (.slice ia il ic) := (b56.cell (p := ⟨w4.heap.size, 0, none⟩) HLT.out.2).trans l0; have kl1 : w6.cell? ⟨w4.heap.size, 1, none⟩ = some (.slice ta tl tc) := (b56.cell (p := ⟨w4.heap.size, 1, none⟩) HLT.out.2).trans l1; have HM6 : Hid (∃ w6', six6 w6 (w4.heap.size + 1) (.bool false) (.int .i64 u) (.int .i64 113) (.int .i64 0) (.int .i64 0) (.int .i64 0) = six6 w6' (w4.heap.size + 1) (.bool false) (.int .i64 u) (.int .i64 113) (.int .i64 0) (.int .i64 0) (.int .i64 0) ∧ Below w5.heap.size w5 w6') := ⟨w6, rfl, b56⟩; clear P6 hb6 b56)
           | fail)
          all_goals
           try go_wp2_with fail
           go_meet
           exact HM6
         case rest =>
         rename World => w7
         obtain ⟨w6, hw7, b56⟩ := hcut.out
         have B56 := hide b56
         have P6 : w6.heap[w4.heap.size + 1]? = some (.cells #[.bool true, .int .i64 0, .int .i64 0, .int .i64 0, .int .i64 0, .int .i64 0] 42 (0, 0)) := (b56.block _ (lt_of_block HG5.out)).trans HG5.out
         have U7 : Hid (Upd (fun b => b = w4.heap.size + 1) w6 w7) := (by rw [hw7]; exact six_upd _ _ _ _ _ _ _ _ _ rfl)
         have G7 : Hid (w7.heap[w4.heap.size + 1]? = some (.cells #[.bool false, .int .i64 u, .int .i64 113, .int .i64 0, .int .i64 0, .int .i64 0] 42 (0, 0))) := (by show _ = _; rw [hw7]; exact six_block P6 _ _ _ _ _ _)
         clear hw7 P6 b56 hcut
         obtain ⟨p0', p1, p2, p3, p4, p5⟩ := Six.of G7.out
         have HRB : Hid (w7.heap[W.heap.size + 1]? = some (.cells #[.bool false, .int .i64 0, .int .i64 0, .int .i64 0, .int .i64 0, .int .i64 0] 42 (0, 0))) := U7.out.heap ((B56.out.block _ (lt_of_block HB5.out.2)).trans HB5.out.2) (by omega)
         have BWF : Hid (Below W.heap.size W w7) := (BW5.out.trans (B56.out.mono BW5.out.size)).trans (U7.out.below (by have := BW5.out.size; have := B56.out.size; omega) (fun k hk e => by omega))
         clear p0
         obtain ⟨y0, y1, y2, y3, y4, y5⟩ := Six.of HRB.out
         have F5 := fun j => frozen_of HRB.out j
         have n1' : ¬ W.heap.size + 1 = w4.heap.size + 1 := by omega
         have n2' : ¬ w4.heap.size + 1 = W.heap.size + 1 := by omega
         go_wp2_with fail
         go_region
         go_wp2_with fail
         (try simp only [Exit.inBlock, Exit.then])
         (try rw [Exit.noGoto_ret])
         have G9 := six_block HRB.out (.bool false) (.int .i64 u) (.int .i64 113) (.int .i64 0) (.int .i64 0) (.int .i64 0)
         have U9 : Upd (fun b => b = W.heap.size + 1) w7 (six6 w7 (W.heap.size + 1) (.bool false) (.int .i64 u) (.int .i64 113) (.int .i64 0) (.int .i64 0) (.int .i64 0)) := six_upd _ _ _ _ _ _ _ _ _ rfl
         obtain ⟨w9, hw9⟩ : ∃ x, x = six6 w7 (W.heap.size + 1) (.bool false) (.int .i64 u) (.int .i64 113) (.int .i64 0) (.int .i64 0) (.int .i64 0) := ⟨_, rfl⟩
         show bodyPost _ _ _ _ _ (six6 w7 (W.heap.size + 1) (.bool false) (.int .i64 u) (.int .i64 113) (.int .i64 0) (.int .i64 0) (.int .i64 0)).drew
         rw [← hw9] at G9 U9 ⊢
         clear hw9
         obtain ⟨q0, q1, q2, q3, q4, q5⟩ := Six.of (W := w9.drew) G9
         have B9 : Below W.heap.size W w9.drew := below_drew (BWF.out.trans (U9.below BWF.out.size (fun k hk e => by omega)))
         exact bodyPost_ret (v := .tuple #[.slice none 0 0, .agg #[.bool false, .int .i64 u, .int .i64 113, .int .i64 0, .int .i64 0, .int .i64 0]]) (by simp [results, Tryz.results63, go_sem, q0, q1, q2, q3, q4, q5]) rfl ⟨B9, .inl ⟨u, 113, HRE.out, rfl⟩⟩
      case rest =>
      rename World => wx
      obtain ⟨hrl, hql, hgl, hbb, hbw, hstr⟩ := hcut.out
      have RLX := hide (hrl.below ((Below.refl _ _).alloc (Nat.le_refl _) (.cells #[.slice ia il ic, .slice ta tl tc] 141)))
      have QLX : Hid (QLv (wx.alloc (.cells #[.slice ia il ic, .slice ta tl tc] 141)) W.heap.size F (⟨ia, ic, is⟩, ⟨ta, tc, ts⟩) ch) := hql.upd (S := Noth) (Upd.of_below ((Below.refl _ _).alloc (Nat.le_refl _) _) _) (fun _ _ e => e) (fun _ _ e => e) (fun _ _ e => e)
      have ROW : Hid (wx.ownsRow W.heap.size 141 2 (.slice oa q oc) q (Q.flatMap cells2)) := by show World.ownsRow _ _ _ _ _ _ _; rw [← HQ.out]; exact hrl.row
      have HGL := hide hgl
      have HBX := hide hbb
      have BWX := hide hbw
      have HSTR := hide hstr
      obtain ⟨l0, l1⟩ := two_at hgl
      have hnx : W.heap.size ≤ wx.heap.size := hbw.size
      have HAL : Hid (Below wx.heap.size wx (wx.alloc (.cells #[.slice ia il ic, .slice ta tl tc] 141))) := (Below.refl _ _).alloc (Nat.le_refl _) _
      clear hrl hql hgl hbb hbw hstr RL5 QL5 HG5 HG5l HB5 BW5 hcut
      go_upto_region 24 with (first
       | (at_builtin; refine append_mineN rfl (.tmp 95) (.tmp 97) 137 rfl W.heap.size 141 iV (.agg #[.slice none 0 0, .slice none 0 0]) 2 48 Tryz.underlying137 hiV hzV0 hzV1 hzV2 rfl (by decide) (.slice oa q oc) q (Q.flatMap cells2) rfl (ROW.out.alloc _) ⟨wx.heap.size, 0, none⟩ 1 1 [.slice ia il ic, .slice ta tl tc] rfl rfl (cell_two_new _ _ _ _) (by intro u hu; simp at hu; rcases hu with rfl | rfl <;> rfl) (by omega) (by unfold maxLen; omega) (by omega) (by simp; omega) ?_; intro g8 c8 w8 o8 gr8 k8; have RL8 := hide (RLX.out.push (q := (⟨ia, ic, is⟩, ⟨ta, tc, ts⟩)) (ch := ch) QLX.out LM4.out (g' := g8) (c' := c8) (w' := w8) (by simp only [IL.v, TL.v, HIL.out.1, HIL.out.2, HQ.out]; exact o8) (by rw [HQ.out]; exact gr8)); have U8 : Hid (Upd (fun k => (Value.slice oa q oc).ownBlock = some k) (wx.alloc (.cells #[.slice ia il ic, .slice ta tl tc] 141)) w8) := Upd.of_grown gr8 (fun k hk _ => hk); clear o8 gr8 k8)
       | fail)
      have UX8 : Hid (Upd (fun k => (Value.slice oa q oc).ownBlock = some k) wx w8) := (Upd.of_below HAL.out _).trans U8.out
      have hnx1 : ∀ k, k = W.heap.size ∨ k = W.heap.size + 1 → ¬ (Value.slice oa q oc).ownBlock = some k := fun k hk e => by
       obtain ⟨cur, h5, _⟩ := own_ty ROW.out e
       rcases hk with rfl | rfl
       ·rw [HBX.out.1] at h5; cases h5
       ·rw [HBX.out.2] at h5; cases h5
      have G8 : Hid (w8.heap[W.heap.size]? = some (.cells #[.int .i64 nd, .int .i64 lf, .int .i64 inn, .int .i64 fl, .int .i64 bk] 49 (0, 0)) ∧ w8.heap[W.heap.size + 1]? = some (.cells #[.bool false, .int .i64 0, .int .i64 0, .int .i64 0, .int .i64 0, .int .i64 0] 42 (0, 0))) := ⟨UX8.out.heap HBX.out.1 (hnx1 _ (.inl rfl)), UX8.out.heap HBX.out.2 (hnx1 _ (.inr rfl))⟩
      have G8l : Hid (w8.heap[w4.heap.size]? = some (.cells #[.slice ia il ic, .slice ta tl tc] 141 (0, 0))) := UX8.out.heap HGL.out (fun e => by have := HOW.out _ e; omega)
      have B8 : Hid (Below W.heap.size W w8) := BWX.out.trans (UX8.out.below hnx (fun k hk e => by obtain ⟨_, _, h⟩ := own_ty ROW.out e; omega))
      clear hnx1 UX8 U8 HGL HBX BWX RLX QLX ROW l0 l1
      by_cases hl0 : lev = 0
      ·subst hl0
       have hl0 : True := trivial
       have HRE : Hid (R = .inr (outs ++ [ch])) := by show _ = _; rw [HRR.out, HR4.out]; simp only [AS.step, HSTR.out, if_true]
       have HRB : Hid (w8.heap[W.heap.size + 1]? = some (.cells #[.bool false, .int .i64 0, .int .i64 0, .int .i64 0, .int .i64 0, .int .i64 0] 42 (0, 0))) := G8.out.2
       have BWF := B8
       have HLEN : Hid ((Q ++ [((⟨ia, ic, is⟩, ⟨ta, tc, ts⟩) : IL × TL)]).length = q + 1) := by show _ = _; rw [List.length_append, HQ.out]; rfl
       have HLV3 : Hid (Lvp s (fun p => nchkE p nd lf inn fl bk) (outs ++ [ch]) (-1)) := HLV2.out
       obtain ⟨w9, hw9⟩ : ∃ x, x = six6 w8 (W.heap.size + 1) (.bool true) (.int .i64 0) (.int .i64 0) (.int .i64 0) (.int .i64 0) (.int .i64 0) := ⟨_, rfl⟩
       have HW9 : Hid (w9 = ((((((w8.setCell ⟨W.heap.size + 1, 0, none⟩ (.bool true)).setCell ⟨W.heap.size + 1, 1, none⟩ (.int .i64 0)).setCell ⟨W.heap.size + 1, 2, none⟩ (.int .i64 0)).setCell ⟨W.heap.size + 1, 3, none⟩ (.int .i64 0)).setCell ⟨W.heap.size + 1, 4, none⟩ (.int .i64 0)).setCell ⟨W.heap.size + 1, 5, none⟩ (.int .i64 0))) := hw9
       have U9 : Hid (Upd (fun b => b = W.heap.size + 1) w8 w9) := by rw [hw9]; exact six_upd _ _ _ _ _ _ _ _ _ rfl
       have G9 : Hid (w9.heap[W.heap.size + 1]? = some (.cells #[.bool true, .int .i64 0, .int .i64 0, .int .i64 0, .int .i64 0, .int .i64 0] 42 (0, 0))) := by show _ = _; rw [hw9]; exact six_block HRB.out _ _ _ _ _ _
       have B9 : Hid (Below W.heap.size W w9) := BWF.out.trans (U9.out.below BWF.out.size (fun k hk e => by omega))
       have RL9 := hide (RL8.out.upd U9.out (fun k cs T hk hb => by
        have hk' : k = W.heap.size + 1 := hk
        rw [hk', HRB.out] at hb
        cases hb
        exact ⟨by decide, by decide, by decide⟩) (fun k hk e => by have h1 := HFL.out k hk; have h2 : k = W.heap.size + 1 := e; omega))
       obtain ⟨y0, y1, y2, y3, y4, y5⟩ := Six.of HRB.out
       have F5 := fun j => frozen_of HRB.out j
       clear hw9 hl0
       go_wp2_with fail
       (try simp only [Exit.inBlock, Exit.then])
       (try rw [Exit.noGoto_ret])
       rw [← HW9.out]
       obtain ⟨q0, q1, q2, q3, q4, q5⟩ := Six.of G9.out
       refine bodyPost_ret (v := .tuple #[.slice (some ⟨g8, 0, none⟩) (q + 1) c8, .agg #[.bool true, .int .i64 0, .int .i64 0, .int .i64 0, .int .i64 0, .int .i64 0]]) (by simp [results, Tryz.results63, go_sem, q0, q1, q2, q3, q4, q5]) rfl ⟨B9.out, .inr ⟨_, _, _, _, _, _, _, HRE.out, ?_, RL9.out, HLV3.out⟩⟩
       rw [HLEN.out]
       rfl
      ·have hl0' : (lev == 0) = false := by rw [beq_eq_false_iff_ne]; exact hl0
       have HRN : Hid (R = s.lvs (fun p => nchkE p nd lf inn fl bk) g0 (lev - 1) (s.first ch) (outs ++ [ch])) := by show _ = _; rw [HRR.out, HR4.out]; simp only [AS.step, HSTR.out]; rw [if_neg hl0]
       obtain ⟨x, r, hxr⟩ : ∃ x r, ch = x :: r := by
        cases hc : ch with
        | nil => exact absurd hc HCN.out
        | cons a r => exact ⟨a, r, rfl⟩
       have hxm : x ∈ ch := by rw [hxr]; exact .head _
       have hxi : s.inn x.1 := HMT2.out.inn x.1 (List.mem_append.2 (.inr (List.mem_map.2 ⟨x, hxm, rfl⟩)))
       obtain ⟨i1, hi1, hid1, _⟩ := AS.idx hxi
       have hi1L : i1 < L.length := by rw [HLS.out]; exact hi1
       have ra8 := HRA.out w8 B8.out
       obtain ⟨_, r1, _⟩ := ra8.cells
       have f6 := (ra8.node6 i1 hi1L).2.2.2.2.2
       have HN8 := hide ((ra8.sl L[i1] (List.getElem_mem hi1L)).n)
       have hnp := HNA.out i1 hi1L x.1 hid1
       have hcs : (s.n x.1).cs = L[i1].n.cs.s := by rw [hnp]; rfl
       have hcpos : 0 < L[i1].n.cs.s.length := by
        rw [← hcs]
        obtain ⟨h1, _, h2, _⟩ := nchk_facts (HCO.out.ck x hxm)
        have h3 := HCO.out.lv x hxm
        rw [h2 (by omega)]
        omega
       have hfirst : s.first ch = L[i1].n.cs.s.getD 0 0 := by rw [hxr]; unfold AS.first; simp only [List.headD_cons]; rw [hcs]
       obtain ⟨bc, oc', hca, hcc⟩ := HN8.out.c.r 0 hcpos
       rw [← hfirst, Nat.add_zero] at hcc
       obtain ⟨⟨ca, cc, C⟩, hC⟩ : ∃ y, L[i1].n.cs = y := ⟨_, rfl⟩
       rw [hC] at f6 hca hcpos
       simp only [IL.v] at f6 hca hcpos
       subst hca
       obtain ⟨lcc, hlcc⟩ : ∃ y, C.length = y := ⟨_, rfl⟩
       rw [hlcc] at f6 hcpos
       have QL8 : Hid (QLv w8 W.heap.size F (⟨ia, ic, is⟩, ⟨ta, tc, ts⟩) ch) := by
        have h1 : Q.length < (Q ++ [((⟨ia, ic, is⟩, ⟨ta, tc, ts⟩) : IL × TL)]).length := by simp
        have h2 : Q.length < (outs ++ [ch]).length := by rw [HQL.out]; simp
        have := RL8.out.q Q.length h1 h2
        show QLv _ _ _ _ _
        simpa [HQL.out] using this
       have his0 : 0 < is.length := by have h1 : is = ch.map (·.1) := QL8.out.is; rw [h1, hxr]; simp
       obtain ⟨bi, oi, hia, hic⟩ := (il_of_owns QL8.out.oL).r 0 his0
       simp only at hia hic
       subst hia
       have hisx : is.getD 0 0 = x.1 := by have h1 : is = ch.map (·.1) := QL8.out.is; rw [h1, hxr]; rfl
       rw [hisx, Nat.add_zero] at hic
       obtain ⟨l0, l1⟩ := two_at G8l.out
       have x1 : IntKind.i64.wrap (x.1 - 1) = (i1 : Int) := by rw [IntKind.wrap_i64]; have := HLS.out; have := HSZ.out; omega
       have x2 : (i1 : Int) < (L.length : Int) := by omega
       have x3 : (0 : Int) < (lcc : Int) := by omega
       have x4 : (0 : Int) < (il : Int) := by have := HIL.out.1; omega
       have x5 : IntKind.i64.wrap (lev - 1) = lev - 1 := by
        have h1 := nchk_facts (HCO.out.ck x hxm)
        have h3 := HCO.out.lv x hxm
        rw [IntKind.wrap_i64]; omega
       obtain ⟨ll1, hll1⟩ : ∃ y, L.length = y := ⟨_, rfl⟩
       rw [hll1] at r1 x2
       obtain ⟨fs, hfs⟩ : ∃ fs, s.first ch = fs := ⟨_, rfl⟩
       rw [hfs] at hcc HRN
       obtain ⟨xi, hxi'⟩ : ∃ xi, x.1 = xi := ⟨_, rfl⟩
       rw [hxi'] at hic x1
       have HLB : Hid (idsOf outs ++ ch.map (·.1) = idsOf (outs ++ [ch])) := (ids_snoc outs ch).symm
       clear hl0 hxr hxm hxi hi1 hid1 ra8 hnp hcs hfirst hC hlcc hisx his0 hll1 hfs hxi' hi1L QL8 HN8
       have HBY : Hid (∀ n, Below w8.heap.size w8 (w8.drewN n)) := fun n => below_drewN (Below.refl _ _) n
       have RL9 : Hid (∀ n, RLS (w8.drewN n) W.heap.size F (outs ++ [ch]) (Q ++ [((⟨some ⟨bi, oi, none⟩, ic, is⟩, ⟨ta, tc, ts⟩) : IL × TL)]) (some ⟨g8, 0, none⟩) c8 (idsOf (outs ++ [ch])) ma' mc') := fun n => by
        have := RL8.out.below (HBY.out n)
        rw [HLB.out] at this
        exact this
       go_wp2_with fail
       go_quiet (fail)
       go_wp2_with fail
       go_roundg g0
       case measure => omega
       case rel => exact ⟨lev - 1, fs, outs ++ [ch], Q ++ [((⟨some ⟨bi, oi, none⟩, ic, is⟩, ⟨ta, tc, ts⟩) : IL × TL)], some ⟨g8, 0, none⟩, c8, ma', mc', by rw [List.length_append, HQ.out]; rfl, by rw [← HLB.out, HM'.out], rfl, rfl, ⟨RL9.out _, HLV2.out, HRN.out, by rw [List.length_append]; have := HGI.out; simp only [List.length_cons, List.length_nil]; omega, B8.out.trans ((HBY.out _).mono B8.out.size)⟩, G8⟩
   ·rw [decide_eq_false hin] at HTH
    have HRE : Hid (R = .inl (rt, 101)) := by show _ = _; rw [HRL2.out]; exact lvs_root hin
    clear hin HRL2
    go_wp2_with fail
    refine keep HTH.out ?_
    have HWR : Hid (Calls Tryz.prog 116 #[.int .i64 rt, .int .i64 101] w4 fun e w' => e = .returned (.agg #[.bool false, .int .i64 rt, .int .i64 101, .int .i64 0, .int .i64 0, .int .i64 0]) ∧ Below w4.heap.size w4 w') := rwrong_any rt 101 w4
    go_wp2_with fail
    refine HWR.out.mono ?_
    rintro e wf ⟨rfl, hbf⟩
    have HRB : Hid (wf.heap[W.heap.size + 1]? = some (.cells #[.bool false, .int .i64 0, .int .i64 0, .int .i64 0, .int .i64 0, .int .i64 0] 42 (0, 0))) := (hbf.block _ (lt_of_block G42.out)).trans G42.out
    have BWF : Hid (Below W.heap.size W wf) := B4.out.trans (hbf.mono B4.out.size)
    clear hbf
    obtain ⟨y0, y1, y2, y3, y4, y5⟩ := Six.of HRB.out
    have F5 := fun j => frozen_of HRB.out j
    go_wp2_with fail
    (try simp only [Exit.inBlock, Exit.then])
    (try rw [Exit.noGoto_ret])
    have G9 := six_block HRB.out (.bool false) (.int .i64 rt) (.int .i64 101) (.int .i64 0) (.int .i64 0) (.int .i64 0)
    have U9 : Upd (fun b => b = W.heap.size + 1) wf (six6 wf (W.heap.size + 1) (.bool false) (.int .i64 rt) (.int .i64 101) (.int .i64 0) (.int .i64 0) (.int .i64 0)) := six_upd _ _ _ _ _ _ _ _ _ rfl
    obtain ⟨w9, hw9⟩ : ∃ x, x = six6 wf (W.heap.size + 1) (.bool false) (.int .i64 rt) (.int .i64 101) (.int .i64 0) (.int .i64 0) (.int .i64 0) := ⟨_, rfl⟩
    show bodyPost _ _ _ _ _ (six6 wf (W.heap.size + 1) (.bool false) (.int .i64 rt) (.int .i64 101) (.int .i64 0) (.int .i64 0) (.int .i64 0))
    rw [← hw9] at G9 U9 ⊢
    clear hw9
    obtain ⟨q0, q1, q2, q3, q4, q5⟩ := Six.of G9
    have B9 : Below W.heap.size W w9 := BWF.out.trans (U9.below BWF.out.size (fun k hk e => by omega))
    exact bodyPost_ret (v := .tuple #[.slice none 0 0, .agg #[.bool false, .int .i64 rt, .int .i64 101, .int .i64 0, .int .i64 0, .int .i64 0]]) (by simp [results, Tryz.results63, go_sem, q0, q1, q2, q3, q4, q5]) rfl ⟨B9, .inl ⟨rt, 101, HRE.out, rfl⟩⟩
 ·have hce : cfgE nd lf inn fl bk = 1 := if_neg hcf
  rw [hce]
  have HRE : Hid (R = .inl (0, 1)) := by show _ = _; rw [HR.out]; exact if_neg hcf
  clear hce HR hcf
  have HWR : Hid (Calls Tryz.prog 116 #[.int .i64 0, .int .i64 1] w3 fun e w' => e = .returned (.agg #[.bool false, .int .i64 0, .int .i64 1, .int .i64 0, .int .i64 0, .int .i64 0]) ∧ Below w3.heap.size w3 w') := rwrong_any 0 1 w3
  go_wp2_with fail
  refine HWR.out.mono ?_
  rintro e wf ⟨rfl, hbf⟩
  have HRB : Hid (wf.heap[W.heap.size + 1]? = some (.cells #[.bool false, .int .i64 0, .int .i64 0, .int .i64 0, .int .i64 0, .int .i64 0] 42 (0, 0))) := (hbf.block _ (lt_of_block G32.out)).trans G32.out
  have BWF : Hid (Below W.heap.size W wf) := B3.out.trans (hbf.mono B3.out.size)
  clear hbf
  obtain ⟨y0, y1, y2, y3, y4, y5⟩ := Six.of HRB.out
  have F5 := fun j => frozen_of HRB.out j
  go_wp2_with fail
  (try simp only [Exit.inBlock, Exit.then])
  (try rw [Exit.noGoto_ret])
  have G9 := six_block HRB.out (.bool false) (.int .i64 0) (.int .i64 1) (.int .i64 0) (.int .i64 0) (.int .i64 0)
  have U9 : Upd (fun b => b = W.heap.size + 1) wf (six6 wf (W.heap.size + 1) (.bool false) (.int .i64 0) (.int .i64 1) (.int .i64 0) (.int .i64 0) (.int .i64 0)) := six_upd _ _ _ _ _ _ _ _ _ rfl
  obtain ⟨w9, hw9⟩ : ∃ x, x = six6 wf (W.heap.size + 1) (.bool false) (.int .i64 0) (.int .i64 1) (.int .i64 0) (.int .i64 0) (.int .i64 0) := ⟨_, rfl⟩
  show bodyPost _ _ _ _ _ (six6 wf (W.heap.size + 1) (.bool false) (.int .i64 0) (.int .i64 1) (.int .i64 0) (.int .i64 0) (.int .i64 0))
  rw [← hw9] at G9 U9 ⊢
  clear hw9
  obtain ⟨q0, q1, q2, q3, q4, q5⟩ := Six.of G9
  have B9 : Below W.heap.size W w9 := BWF.out.trans (U9.below BWF.out.size (fun k hk e => by omega))
  exact bodyPost_ret (v := .tuple #[.slice none 0 0, .agg #[.bool false, .int .i64 0, .int .i64 1, .int .i64 0, .int .i64 0, .int .i64 0]]) (by simp [results, Tryz.results63, go_sem, q0, q1, q2, q3, q4, q5]) rfl ⟨B9, .inl ⟨0, 1, HRE.out, rfl⟩⟩
end Go.Proofs.YtealejbfloacpaaGreat
