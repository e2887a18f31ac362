/- Texts of one's own. -/
import Derived.Test.YtealejbfloacpaaGreatM38
import Derived.Deep.DeepCutAuto
namespace Go.Proofs.YtealejbfloacpaaGreat
open Go.RowKit
set_option maxRecDepth 100000
set_option maxRecDepth 100000 in
set_option maxHeartbeats 6400000 in
theorem lkids_any {W : World} {A : Nat} {F : Nat → Prop} {s : AS} (hp : RX W A F s) (up down : Chn) (uI dI : IL) (uO dO : TL) (hu : LvO W up uI uO) (hd : LvO W down dI dO) (hin : ∀ x ∈ up, s.inn x.1) (hck : ∀ x ∈ up, (s.n x.1).cs.length ≤ (s.n x.1).ks.length + 1) :
  Calls Tryz.prog 118 #[.pointer (some ⟨A, 0, none⟩), .agg #[uI.v, uO.v], .agg #[dI.v, dO.v]] W fun e w' => e = .returned (kidR (s.stray up down)) ∧ Below W.heap.size W w' := by
 obtain ⟨g, c, Mf, D, L, hra, hnd, hfo, hflt⟩ := hp
 obtain ⟨w1, hw1⟩ : ∃ x, x = W.alloc (.cells #[uI.v, uO.v] 141) := ⟨_, rfl⟩
 obtain ⟨w2, hw2⟩ : ∃ x, x = w1.alloc (.cells #[dI.v, dO.v] 141) := ⟨_, rfl⟩
 obtain ⟨w3, hw3⟩ : ∃ x, x = w2.alloc (.cells #[.bool false, .int .i64 0, .int .i64 0, .int .i64 0, .int .i64 0, .int .i64 0] 42) := ⟨_, rfl⟩
 have z1 : w1.heap.size = W.heap.size + 1 := by rw [hw1]; simp
 have z2 : w2.heap.size = W.heap.size + 1 + 1 := by rw [hw2]; simp; omega
 have z3 : w3.heap.size = W.heap.size + 3 := by rw [hw3]; simp; omega
 have b1 : Below W.heap.size W w1 := by rw [hw1]; exact (Below.refl _ _).alloc (Nat.le_refl _) _
 have b12 : Below w1.heap.size w1 w2 := by rw [hw2]; exact (Below.refl _ _).alloc (Nat.le_refl _) _
 have b23 : Below w2.heap.size w2 w3 := by rw [hw3]; exact (Below.refl _ _).alloc (Nat.le_refl _) _
 have b13 := b12.trans (b23.mono b12.size)
 have b03 := b1.trans (b13.mono b1.size)
 have G1 : w3.heap[W.heap.size]? = some (.cells #[uI.v, uO.v] 141 (0, 0)) := (b13.block _ (by omega)).trans (by rw [hw1]; exact heap_alloc_new W _)
 have G2 : w3.heap[W.heap.size + 1]? = some (.cells #[dI.v, dO.v] 141 (0, 0)) := (b23.block _ (by omega)).trans (by rw [← z1, hw2]; exact heap_alloc_new w1 _)
 have G3 : w3.heap[W.heap.size + 1 + 1]? = some (.cells #[.bool false, .int .i64 0, .int .i64 0, .int .i64 0, .int .i64 0, .int .i64 0] 42 (0, 0)) := by rw [← z2, hw3]; exact heap_alloc_new w2 _
 have HW3 : Hid (((W.alloc (.cells #[uI.v, uO.v] 141)).alloc (.cells #[dI.v, dO.v] 141)).alloc (.cells #[.bool false, .int .i64 0, .int .i64 0, .int .i64 0, .int .i64 0, .int .i64 0] 42) = w3) := by show _ = _; rw [hw3, hw2, hw1]
 have HBX : Hid (∀ Y, Below w3.heap.size w3 Y → Below W.heap.size W Y ∧ (Y.heap[W.heap.size]? = some (.cells #[uI.v, uO.v] 141 (0, 0)) ∧ Y.heap[W.heap.size + 1]? = some (.cells #[dI.v, dO.v] 141 (0, 0)) ∧ Y.heap[W.heap.size + 1 + 1]? = some (.cells #[.bool false, .int .i64 0, .int .i64 0, .int .i64 0, .int .i64 0, .int .i64 0] 42 (0, 0)))) := fun Y hb => ⟨b03.trans (hb.mono b03.size), (hb.block _ (by omega)).trans G1, (hb.block _ (by omega)).trans G2, (hb.block _ (by omega)).trans G3⟩
 have HRA : Hid (∀ Y, Below W.heap.size W Y → RA Y A g c Mf D s.nodes s.root L) := fun Y hb => hra.upd (S := fun k => W.heap.size ≤ k) ⟨hb.os, hb.tape, hb.output, hb.size, fun k _ hk => hb.block k (by omega)⟩ (fun k hk e => by have := hflt k (hfo k hk); omega)
 have HLS : Hid (L.length = s.sl.length) := ndsR_lenS hnd
 have HNA : Hid (∀ i (hi : i < L.length) (id : Int), id = (i : Int) + 1 → s.n id = L[i].n.p) := fun i hi id hid => (ndsR_at hnd hi hid).2
 have hsl : L.length ≤ 65536 := hra.n_le
 have HU := hide hu
 have HD := hide hd
 have HIN := hide hin
 have HCK := hide hck
 have HZ3 := hide z3
 obtain ⟨R, hR⟩ : ∃ R, R = s.stray up down := ⟨_, rfl⟩
 rw [← hR]
 have HR := hide hR
 obtain ⟨ia, ic, is⟩ := uI
 obtain ⟨oa, oc, os⟩ := uO
 obtain ⟨ja, jc, js⟩ := dI
 obtain ⟨pa, pc, ps⟩ := dO
 simp only [IL.v, TL.v] at HW3 HBX ⊢
 have e1 : is.length = up.length := by have := congrArg List.length hu.is; simpa using this
 have e2 : os.length = up.length := by have := congrArg List.length hu.os; rw [TL.p_len] at this; simpa using this
 have e3 : js.length = down.length := by have := congrArg List.length hd.is; simpa using this
 have e4 : ps.length = down.length := by have := congrArg List.length hd.os; rw [TL.p_len] at this; simpa using this
 have hz1 := hu.z
 have hz2 := hd.z
 obtain ⟨lu, hlu⟩ : ∃ lu, up.length = lu := ⟨_, rfl⟩
 obtain ⟨ld, hld⟩ : ∃ ld, down.length = ld := ⟨_, rfl⟩
 rw [hlu] at e1 e2 hz1
 rw [hld] at e3 e4 hz2
 rw [e1, e2, e3, e4] at HW3 HBX ⊢
 have HE := hide (And.intro (And.intro e1 e2) (And.intro e3 e4))
 have HLU := hide hlu
 have HLD := hide hld
 clear hra hnd hfo hflt hw1 hw2 hw3 z1 z2 z3 b1 b12 b23 b13 b03 G1 G2 G3 hu hd hin hck hR e1 e2 e3 e4 hlu hld
 go_enter Tryz.func118, Tryz.ntmps118
 go_upto_region 1 with fail
 rw [HW3.out]
 go_wp2_with fail
 go_loopw [7, 8, 9, 10, 11, 12] (fun q7 _ _ _ _ _ wr => ∃ i : Nat, i ≤ lu ∧ q7 = .int .i64 (i : Int) ∧ Hid (∀ j (hj : j < up.length), j < i → s.kidsOk down up[j]) ∧ Hid (Below w3.heap.size w3 wr)) (fun q7 _ _ _ _ _ _ => lu - (intOf q7).toNat)
 case atStart => exact ⟨0, Nat.zero_le _, rfl, fun j _ hj => absurd hj (Nat.not_lt_zero j), Below.refl _ _⟩
 case round =>
  obtain ⟨i, hi, rfl, HOK, HBW⟩ := hrel
  rename World => wr
  obtain ⟨hbw, gu, gd, gr⟩ := HBX.out wr HBW.out
  have BW := hide hbw
  have hz := hbw.size
  have u0 : wr.cell? ⟨W.heap.size, 0, none⟩ = some (.slice ia lu ic) := by rw [cell_of_row _ _ _ _ _ _ gu]; rfl
  have HGU := hide gu
  have HGD := hide gd
  have HGR := hide gr
  clear hbw gu gd gr
  by_cases hlt : i < lu
  ·have j1 : (i : Int) < (lu : Int) := by omega
   have hiu : i < up.length := by rw [HLU.out]; exact hlt
   have his : i < is.length := by rw [HE.out.1.1]; exact hlt
   have U1 := hide (HU.out.below BW.out)
   obtain ⟨bi, oi, hva, hcell⟩ := U1.out.i.r i his
   simp only at hva hcell
   subst hva
   have hgd : is.getD i 0 = up[i].1 := by
    have h1 : is = up.map (·.1) := HU.out.is
    rw [h1]; simp [hiu]
   rw [hgd] at hcell
   have hinn := HIN.out up[i] (List.getElem_mem hiu)
   have HCK1 := hide (HCK.out up[i] (List.getElem_mem hiu))
   obtain ⟨id, hid0⟩ : ∃ id, up[i].1 = id := ⟨_, rfl⟩
   rw [hid0] at hcell hinn HCK1
   have HID := hide hid0
   obtain ⟨k0, hk0, hid, _⟩ := AS.idx hinn
   have hkL : k0 < L.length := by rw [HLS.out]; exact hk0
   have ra := HRA.out wr BW.out
   obtain ⟨_, r1, _⟩ := ra.cells
   have HSL := hide (ra.sl L[k0] (List.getElem_mem hkL))
   obtain ⟨f1, f2, f3, f4, f5, f6⟩ := ra.node6 k0 hkL
   have HNN := hide (HNA.out k0 hkL id hid)
   obtain ⟨n0, hn0⟩ : ∃ n0, L[k0].n = n0 := ⟨_, rfl⟩
   rw [hn0] at f1 f2 f3 f4 f5 f6 HNN
   have HNO : Hid (n0.Ok wr) := by rw [← hn0]; exact HSL.out.n
   have x1 : IntKind.i64.wrap (id - 1) = (k0 : Int) := by rw [IntKind.wrap_i64]; omega
   have x2 : (k0 : Int) < (L.length : Int) := by omega
   have x3 : (0 : Int) ≤ (k0 : Int) := by omega
   obtain ⟨ll, hll⟩ : ∃ ll, L.length = ll := ⟨_, rfl⟩
   rw [hll] at r1 x2
   obtain ⟨nlv, ⟨ha, hc, hs⟩, ri, ⟨ka, kc, K⟩, ⟨va, vc, V⟩, ⟨ca, cc, C⟩⟩ := n0
   have HNV : Hid (s.n id = (⟨nlv, ⟨ha, hc, hs⟩, ri, ⟨ka, kc, K⟩, ⟨va, vc, V⟩, ⟨ca, cc, C⟩⟩ : Nd).p) := HNN.out
   simp only [Tx.v, TL.v, IL.v] at f1 f2 f3 f4 f5 f6
   obtain ⟨lh, hlh⟩ : ∃ x, hs.length = x := ⟨_, rfl⟩
   obtain ⟨lk, hlk⟩ : ∃ x, K.length = x := ⟨_, rfl⟩
   obtain ⟨lw, hlw⟩ : ∃ x, V.length = x := ⟨_, rfl⟩
   obtain ⟨lcc, hlc⟩ : ∃ x, C.length = x := ⟨_, rfl⟩
   rw [hlh] at f2
   rw [hlk] at f4
   rw [hlw] at f5
   rw [hlc] at f6
   have HLL := hide (And.intro hlk hlc)
   clear hn0 hll hlh hlk hlw hlc HNN HSL ra hid hk0 hinn hid0 hgd hkL
   have l1 : W.heap.size < wr.heap.size := lt_of_block HGU.out
   have l2 : A < wr.heap.size := World.block_lt_of_cell? wr ⟨A, 1, none⟩ r1
   have l3 : g < wr.heap.size := World.block_lt_of_cell? wr ⟨g, k0 * 7 + 1, none⟩ f1
   have l4 : bi < wr.heap.size := World.block_lt_of_cell? wr ⟨bi, oi + i, none⟩ hcell
   go_upto_region 4 with fail
   go_cut [8] (fun s8 wx => s8 = .pointer (some ⟨wr.heap.size, 0, none⟩) ∧ Hid (wx = (wr.alloc (.cells #[.int .i64 nlv, .slice ha lh hc, .int .i64 ri, .slice ka lk kc, .slice va lw vc, .slice ca lcc cc] 35)).drew))
   case first =>
    go_wp2_with fail
    go_region
    try go_wp2_with fail
    go_meet
    exact ⟨rfl, rfl⟩
   case rest =>
   rename World => wn
   obtain ⟨rfl, HWN⟩ := hcut
   have hwn := HWN.out
   clear HWN
   have bn : Below wr.heap.size wr wn := by rw [hwn]; exact below_drew ((Below.refl _ _).alloc (Nat.le_refl _) _)
   have gn : wn.heap[wr.heap.size]? = some (.cells #[.int .i64 nlv, .slice ha lh hc, .int .i64 ri, .slice ka lk kc, .slice va lw vc, .slice ca lcc cc] 35 (0, 0)) := by rw [hwn]; exact heap_alloc_new wr _
   have BN := hide (BW.out.trans (bn.mono BW.out.size))
   have B3N := hide (HBW.out.trans (bn.mono HBW.out.size))
   have UN := hide (HU.out.below BN.out)
   have DN := hide (HD.out.below BN.out)
   have NON := hide (HNO.out.below bn)
   obtain ⟨_, gu, gd, gr⟩ := HBX.out wn B3N.out
   obtain ⟨_, _, _, t3, _, t5⟩ := Six.of gn
   have tu0 : wn.cell? ⟨W.heap.size, 0, none⟩ = some (.slice (some ⟨bi, oi, none⟩) lu ic) := by rw [cell_of_row _ _ _ _ _ _ gu]; rfl
   have tu1 : wn.cell? ⟨W.heap.size, 1, none⟩ = some (.slice oa lu oc) := by rw [cell_of_row _ _ _ _ _ _ gu]; rfl
   have td0 : wn.cell? ⟨W.heap.size + 1, 0, none⟩ = some (.slice ja ld jc) := by rw [cell_of_row _ _ _ _ _ _ gd]; rfl
   have td1 : wn.cell? ⟨W.heap.size + 1, 1, none⟩ = some (.slice pa ld pc) := by rw [cell_of_row _ _ _ _ _ _ gd]; rfl
   have hcn : wn.cell? ⟨bi, oi + i, none⟩ = some (.int .i64 id) := (bn.cell (p := ⟨bi, oi + i, none⟩) l4).trans hcell
   have GRN := hide gr
   have hios : i < os.length := by rw [HE.out.1.2]; exact hlt
   obtain ⟨bo, oo, hoa, hoc⟩ := UN.out.o.r i hios
   simp only at hoa hoc
   subst hoa
   have HO1 := hide (UN.out.o.ok os[i] (List.getElem_mem hios))
   have HO2 : Hid (os[i].s = up[i].2) := by
    show _ = _
    have h1 : os.map (·.s) = up.map (·.2) := HU.out.os
    have := congrArg (fun l => l[i]?) h1
    simpa [hios, hiu] using this
   obtain ⟨⟨wa, wc', ws⟩, hx⟩ : ∃ x, os[i] = x := ⟨_, rfl⟩
   rw [hx] at hoc HO1 HO2
   simp only [Tx.v] at hoc
   obtain ⟨wl, hwl⟩ : ∃ wl, ws.length = wl := ⟨_, rfl⟩
   rw [hwl] at hoc
   have HWL := hide hwl
   have HKD : Hid (∀ k, k < lcc → (s.kidAt up[i] k).1 = C.getD k 0) := fun k hk => by
    show (s.n up[i].1).cs.getD k 0 = _
    rw [HID.out, HNV.out]; rfl
   have HKK : Hid (∀ k, (hk : 0 < k) → k < lcc → ∃ h : k - 1 < K.length, (s.kidAt up[i] k).2 = K[k - 1].s) := fun k hk h2 => by
    have h3 := HCK1.out
    rw [HNV.out] at h3
    have h4 : C.length ≤ K.length + 1 := by simpa [Nd.p, TL.p] using h3
    have h5 : k - 1 < K.length := by have := HLL.out.2; omega
    refine ⟨h5, ?_⟩
    show (if k = 0 then up[i].2 else (s.n up[i].1).ks.getD (k - 1) []) = _
    rw [if_neg (by omega), HID.out, HNV.out]
    simp [Nd.p, TL.p, h5]
   have HK0 : Hid (s.kidAt up[i] 0 = (C.getD 0 0, ws)) := by
    show ((s.n up[i].1).cs.getD 0 0, if 0 = 0 then up[i].2 else _) = _
    rw [if_pos rfl, ← HO2.out, HID.out, HNV.out]; rfl
   have HKOK : Hid ((∀ k, k < lcc → s.kidAt up[i] k ∈ down) → s.kidsOk down up[i]) := fun h k hk => h k (by
    rw [HID.out, HNV.out] at hk
    have : k < C.length := hk
    rw [HLL.out.2] at this
    exact this)
   have HKNO : Hid (∀ k, k < lcc → s.kidAt up[i] k ∉ down → ¬ s.kidsOk down up[i]) := fun k hk hn h => hn (h k (by
    rw [HID.out, HNV.out]
    show k < C.length
    rw [HLL.out.2]
    exact hk))
   have hczz : lcc ≤ 140737488355000 := by have := HNO.out.cz; simp only at this; have := HLL.out.2; omega
   have BNn := hide bn
   clear bn gn gu gd gr hwn hx hwl HNO HBW HNV HCK1 BW U1 HGU HGD HGR u0 hcell f1 f2 f3 f4 f5 f6 r1 x1 x2 x3 l1 l2 l3
   go_wp2_with fail
   go_loopw [9, 10, 11, 12] (fun q9 _ _ _ wy => ∃ k m : Nat, k ≤ lcc ∧ q9 = .int .i64 (k : Int) ∧ Hid (∀ k', k' < k → s.kidAt up[i] k' ∈ down) ∧ wy = wn.drewN m) (fun q9 _ _ _ _ => lcc - (intOf q9).toNat)
   case atStart => exact ⟨0, 0, Nat.zero_le _, rfl, fun k hk => absurd hk (Nat.not_lt_zero k), rfl⟩
   case round =>
    obtain ⟨k, m, hk, rfl, HKS, rfl⟩ := hrel
    replace t3 : (wn.drewN m).cell? ⟨wr.heap.size, 3, none⟩ = some (.slice ka lk kc) := t3
    replace t5 : (wn.drewN m).cell? ⟨wr.heap.size, 5, none⟩ = some (.slice ca lcc cc) := t5
    replace tu0 : (wn.drewN m).cell? ⟨W.heap.size, 0, none⟩ = some (.slice (some ⟨bi, oi, none⟩) lu ic) := tu0
    replace tu1 : (wn.drewN m).cell? ⟨W.heap.size, 1, none⟩ = some (.slice (some ⟨bo, oo, none⟩) lu oc) := tu1
    replace hoc : (wn.drewN m).cell? ⟨bo, oo + i, none⟩ = some (.slice wa wl wc') := hoc
    replace hcn : (wn.drewN m).cell? ⟨bi, oi + i, none⟩ = some (.int .i64 id) := hcn
    by_cases hkl : k < lcc
    ·have j2 : (k : Int) < (lcc : Int) := by omega
     have hkC : k < C.length := by rw [HLL.out.2]; exact hkl
     obtain ⟨bc, oc', hca, hcc⟩ := NON.out.c.r k hkC
     simp only at hca hcc
     subst hca
     replace hcc : (wn.drewN m).cell? ⟨bc, oc' + k, none⟩ = some (.int .i64 (C.getD k 0)) := hcc
     have hkd := HKD.out k hkl
     obtain ⟨x, hxx⟩ : ∃ x, s.kidAt up[i] k = x := ⟨_, rfl⟩
     rw [hxx] at hkd
     rw [← hkd] at hcc
     have HX := hide hxx
     clear hkd hxx
     go_upto_if 47 with fail
     go_cut [10] (fun s10 wx => ∃ (ta : Option Addr) (tl tc : Nat), s10 = .slice ta tl tc ∧ Hid (∃ ts, ts.length = tl ∧ Row wn .u8 ta ts ∧ B8 ts ∧ ts = x.2) ∧ wx = wn.drewN m)
     case first =>
      by_cases hk0 : k = 0
      ·have j3 : ¬ (0 : Int) < (k : Int) := by omega
       have HT : Hid (∃ ts, ts.length = wl ∧ Row wn .u8 wa ts ∧ B8 ts ∧ ts = x.2) := ⟨ws, HWL.out, HO1.out.r, HO1.out.b8, by rw [← HX.out, hk0, HK0.out]⟩
       clear hk0
       go_wp2_with fail
       go_meet
       exact ⟨wa, wl, wc', rfl, HT, rfl⟩
      ·have j3 : (0 : Int) < (k : Int) := by omega
       obtain ⟨hkK, hke⟩ := HKK.out k (by omega) hkl
       obtain ⟨bk, ok, hka, hkc⟩ := NON.out.k.r (k - 1) hkK
       simp only at hka hkc
       subst hka
       have HK1 := hide (NON.out.k.ok K[k - 1] (List.getElem_mem hkK))
       have HK2 : Hid (K[k - 1].s = x.2) := by rw [← HX.out]; exact hke.symm
       obtain ⟨⟨ya, yc, ys⟩, hy⟩ : ∃ y, K[k - 1] = y := ⟨_, rfl⟩
       rw [hy] at hkc HK1 HK2
       simp only [Tx.v] at hkc
       obtain ⟨yl, hyl⟩ : ∃ yl, ys.length = yl := ⟨_, rfl⟩
       rw [hyl] at hkc
       have HT : Hid (∃ ts, ts.length = yl ∧ Row wn .u8 ya ts ∧ B8 ts ∧ ts = x.2) := ⟨ys, hyl, HK1.out.r, HK1.out.b8, HK2.out⟩
       obtain ⟨p, hp⟩ : ∃ p, k - 1 = p := ⟨_, rfl⟩
       rw [hp] at hkc
       replace hkc : (wn.drewN m).cell? ⟨bk, ok + p, none⟩ = some (.slice ya yl yc) := hkc
       have j4 : IntKind.i64.wrap ((k : Int) - 1) = (p : Int) := by rw [IntKind.wrap_i64]; omega
       have j5 : (p : Int) < (lk : Int) := by have := HLL.out.1; omega
       clear hy hyl hke hkK HK1 HK2 hk0 hp
       go_wp2_with fail
       go_meet
       exact ⟨ya, yl, yc, rfl, HT, rfl⟩
     case rest =>
     obtain ⟨ta, tl, tc, rfl, HT, rfl⟩ := hcut
     go_wp2_with fail
     go_loopw [11, 12] (fun q11 q12 wz => ∃ (j : Nat) (ok : Bool), j ≤ ld ∧ q12 = .int .i64 (j : Int) ∧ q11 = .bool ok ∧ Hid (ok = true ↔ ∃ j', ∃ h : j' < down.length, j' < j ∧ down[j'] = x) ∧ Hid (∃ m, wz = wn.drewN m)) (fun _ q12 _ => ld - (intOf q12).toNat)
     case atStart => exact ⟨0, false, Nat.zero_le _, rfl, rfl, ⟨fun h => (by cases h), fun ⟨j', _, h, _⟩ => absurd h (Nat.not_lt_zero _)⟩, ⟨m, rfl⟩⟩
     case round =>
      obtain ⟨j, ok, hj, rfl, rfl, HOK2, HJZ⟩ := hrel
      rename World => wz
      have HST : Hid (∀ p, wz.cell? p = wn.cell? p) := by obtain ⟨m2, hm⟩ := HJZ.out; show ∀ p, _; rw [hm]; exact fun p => rfl
      have HBZ : Hid (Below wn.heap.size wn wz) := by obtain ⟨m2, hm⟩ := HJZ.out; show Below _ _ _; rw [hm]; exact below_drewN (Below.refl _ _) m2
      have HNZ : Hid (∀ n, Hid (∃ m, wz.drewN n = wn.drewN m)) := by obtain ⟨m2, hm⟩ := HJZ.out; exact fun n => ⟨m2 + n, by rw [hm, World.drewN_drewN]⟩
      replace td0 : wz.cell? ⟨W.heap.size + 1, 0, none⟩ = some (.slice ja ld jc) := (HST.out _).trans td0
      replace td1 : wz.cell? ⟨W.heap.size + 1, 1, none⟩ = some (.slice pa ld pc) := (HST.out _).trans td1
      by_cases hjl : j < ld
      ·have j6 : (j : Int) < (ld : Int) := by omega
       have hjd : j < down.length := by rw [HLD.out]; exact hjl
       have hjs : j < js.length := by rw [HE.out.2.1]; exact hjl
       have hjp : j < ps.length := by rw [HE.out.2.2]; exact hjl
       have HNX : Hid (∀ ok', (ok' = true ↔ ok = true ∨ down[j] = x) → (ok' = true ↔ ∃ j', ∃ h : j' < down.length, j' < j + 1 ∧ down[j'] = x)) := fun ok' h => by
        rw [h, HOK2.out]
        constructor
        ·rintro (⟨j', h1, h2, h3⟩ | h3)
         ·exact ⟨j', h1, by omega, h3⟩
         ·exact ⟨j, hjd, by omega, h3⟩
        ·rintro ⟨j', h1, h2, h3⟩
         rcases Nat.lt_or_ge j' j with h4 | h4
         ·exact .inl ⟨j', h1, h4, h3⟩
         ·obtain rfl : j' = j := by omega
          exact .inr h3
       cases ok with
       | true =>
        clear HOK2
        go_wp2_with fail
        go_quiet (fail)
        go_wp2_with fail
        go_roundw
        case rel => exact ⟨j + 1, true, by omega, by go_num, rfl, HNX.out true ⟨fun _ => .inl (by trivial), fun _ => rfl⟩, HNZ.out _⟩
        case measure => simp [intOf]; omega
       | false =>
        obtain ⟨bj, oj, hja, hjc⟩ := DN.out.i.r j hjs
        obtain ⟨bp, op, hpa, hpc⟩ := DN.out.o.r j hjp
        simp only at hja hjc hpa hpc
        subst hja
        subst hpa
        have hjg : js.getD j 0 = down[j].1 := by
         have h1 : js = down.map (·.1) := HD.out.is
         rw [h1]; simp [hjd]
        rw [hjg] at hjc
        replace hjc : wz.cell? ⟨bj, oj + j, none⟩ = some (.int .i64 down[j].1) := (HST.out _).trans hjc
        replace t5 : wz.cell? ⟨wr.heap.size, 5, none⟩ = some (.slice (some ⟨bc, oc', none⟩) lcc cc) := (HST.out _).trans t5
        replace hcc : wz.cell? ⟨bc, oc' + k, none⟩ = some (.int .i64 x.1) := (HST.out _).trans hcc
        have HP1 := hide (DN.out.o.ok ps[j] (List.getElem_mem hjp))
        have HP2 : Hid (ps[j].s = down[j].2) := by
         show _ = _
         have h1 : ps.map (·.s) = down.map (·.2) := HD.out.os
         have := congrArg (fun l => l[j]?) h1
         simpa [hjp, hjd] using this
        obtain ⟨d, hd⟩ : ∃ d, down[j] = d := ⟨_, rfl⟩
        rw [hd] at hjc HP2 HNX
        obtain ⟨⟨ya, yc, ys⟩, hy⟩ : ∃ y, ps[j] = y := ⟨_, rfl⟩
        rw [hy] at hpc HP1 HP2
        simp only [Tx.v] at hpc
        obtain ⟨yl, hyl⟩ : ∃ yl, ys.length = yl := ⟨_, rfl⟩
        rw [hyl] at hpc
        replace hpc : wz.cell? ⟨bp, op + j, none⟩ = some (.slice ya yl yc) := (HST.out _).trans hpc
        obtain ⟨d1, d2⟩ := d
        obtain ⟨xk, xt⟩ := x
        simp only at hjc hcc HP2 HT
        by_cases hkid : d1 = xk
        ·subst hkid
         obtain ⟨ts, hts, htr, ht8, hte⟩ := HT.out
         have k1 : ∀ q, (convert 23 9 (.slice ya yl yc)).run Tryz.prog (wz.drewN q) = .ok (.string (strOfNums ys)) (wz.drewN q) := fun q => nconv_row yc hyl ((HP1.out.below HBZ.out).drewN q).r
         have k2 : ∀ q, (convert 23 9 (.slice ta tl tc)).run Tryz.prog (wz.drewN q) = .ok (.string (strOfNums ts)) (wz.drewN q) := fun q => nconv_row tc hts (htr.below2 (below_drewN HBZ.out q))
         by_cases heq : ys = ts
         ·have HNX2 := hide (HNX.out true ⟨fun _ => .inr (by rw [← HP2.out, heq, hte]), fun _ => rfl⟩)
          rw [heq] at k1
          generalize strOfNums ts = st at *
          clear HT hts htr ht8 hte hyl hy hd HP1 HP2 HNX HOK2 hjg heq
          go_wp2_with fail
          go_quiet (fail)
          go_wp2_with fail
          go_roundw
          case rel => exact ⟨j + 1, true, by omega, by go_num, rfl, ⟨fun _ => HNX2.out.1 trivial, fun _ => rfl⟩, HNZ.out _⟩
          case measure => simp [intOf]; omega
         ·have hs1 : ((strOfNums ys).toList == (strOfNums ts).toList) = false := by rw [str_eq HP1.out.b8 ht8, decide_eq_false heq]
          have HNX2 := hide (HNX.out false ⟨fun h => (by cases h), fun h => h.elim (fun h => by cases h) (fun h => absurd ((HP2.out.trans (Prod.mk.inj h).2).trans hte.symm) heq)⟩)
          generalize strOfNums ys = sy at *
          generalize strOfNums ts = st at *
          clear HT hts htr ht8 hte hyl hy hd HP1 HP2 HNX HOK2 hjg heq
          go_wp2_with fail
          go_quiet (fail)
          go_wp2_with fail
          go_roundw
          case rel => exact ⟨j + 1, false, by omega, by go_num, rfl, HNX2, HNZ.out _⟩
          case measure => simp [intOf]; omega
        ·have j7 : (d1 == xk) = false := by rw [beq_eq_false_iff_ne]; exact hkid
         have HNX2 := hide (HNX.out false ⟨fun h => (by cases h), fun h => h.elim (fun h => by cases h) (fun h => absurd (Prod.mk.inj h).1 hkid)⟩)
         clear hyl hy hd HP1 HP2 HNX HOK2 hjg
         go_wp2_with fail
         go_quiet (fail)
         go_wp2_with fail
         go_roundw
         case rel => exact ⟨j + 1, false, by omega, by go_num, rfl, HNX2, HNZ.out _⟩
         case measure => simp [intOf]; omega
      ·have j6 : ¬ (j : Int) < (ld : Int) := by omega
       have HALL : Hid (ok = true ↔ x ∈ down) := by
        show _ ↔ _
        rw [HOK2.out, List.mem_iff_getElem]
        exact ⟨fun ⟨j', h1, _, h3⟩ => ⟨j', h1, h3⟩, fun ⟨j', h1, h3⟩ => ⟨j', h1, by have := HLD.out; omega, h3⟩⟩
       clear HOK2
       cases ok with
       | true =>
        have hmem := HALL.out.1 rfl
        have HKS2 : Hid (∀ k', k' < k + 1 → s.kidAt up[i] k' ∈ down) := fun k' h => by
         rcases Nat.lt_or_ge k' k with h4 | h4
         ·exact HKS.out k' h4
         ·obtain rfl : k' = k := by omega
          rw [HX.out]; exact hmem
        clear HALL hmem HKS HX
        go_wp2_with fail
        go_roundw
        case rel =>
         obtain ⟨m2, hm2⟩ := HJZ.out
         exact ⟨k + 1, m2, by omega, by go_num, HKS2, hm2⟩
        case measure => simp [intOf]; omega
       | false =>
        have hmem : x ∉ down := fun h => by have := HALL.out.2 h; cases this
        have hRs : R = some id := by
         rw [HR.out, ← HID.out]
         exact stray_at hiu (fun j hj h => HOK.out j hj h) (HKNO.out k hkl (by rw [HX.out]; exact hmem))
        subst hRs
        replace tu0 : wz.cell? ⟨W.heap.size, 0, none⟩ = some (.slice (some ⟨bi, oi, none⟩) lu ic) := (HST.out _).trans tu0
        replace hcn : wz.cell? ⟨bi, oi + i, none⟩ = some (.int .i64 id) := (HST.out _).trans hcn
        have HWR := hide (rwrong_any id 113 wz)
        have GRZ := hide ((HBZ.out.block _ (lt_of_block GRN.out)).trans GRN.out)
        simp only [rpt_form] at HWR
        clear HALL hmem HKS HX HOK HKNO
        go_wp2_with fail
        refine HWR.out.mono ?_
        rintro e w5 ⟨rfl, hb5⟩
        have G5 := (hb5.block _ (lt_of_block GRZ.out)).trans GRZ.out
        have B5 := hide ((BN.out.trans (HBZ.out.mono BN.out.size)).trans (hb5.mono (by have := BN.out.size; have := HBZ.out.size; omega)))
        obtain ⟨y0, y1, y2, y3, y4, y5⟩ := Six.of G5
        have F5 := fun j => frozen_of G5 j
        have HG6 := hide (six_block G5 (.bool false) (.int .i64 id) (.int .i64 113) (.int .i64 0) (.int .i64 0) (.int .i64 0))
        have U6 : Upd (fun b => b = W.heap.size + 1 + 1) w5 (six6 w5 (W.heap.size + 1 + 1) (.bool false) (.int .i64 id) (.int .i64 113) (.int .i64 0) (.int .i64 0) (.int .i64 0)) := six_upd _ _ _ _ _ _ _ _ _ rfl
        have B6 := hide (B5.out.trans (U6.below B5.out.size (fun k hk e => by omega)))
        clear U6 hb5 G5
        go_wp2_with fail
        (try simp only [Exit.inBlock, Exit.then])
        obtain ⟨q0, q1, q2, q3, q4, q5⟩ := Six.of HG6.out
        show bodyPost _ _ _ _ _ (six6 w5 (W.heap.size + 1 + 1) (.bool false) (.int .i64 id) (.int .i64 113) (.int .i64 0) (.int .i64 0) (.int .i64 0))
        exact bodyPost_ret (v := rpt false id 113 0 0 0) (by simp [results, Tryz.results118, go_sem, q0, q1, q2, q3, q4, q5, rpt]) rfl ⟨rfl, B6.out⟩
    ·have j2 : ¬ (k : Int) < (lcc : Int) := by omega
     obtain rfl : k = lcc := by omega
     have HOKN : Hid (∀ j (hj : j < up.length), j < i + 1 → s.kidsOk down up[j]) := fun j hj h => by
      rcases Nat.lt_or_ge j i with h4 | h4
      ·exact HOK.out j hj h4
      ·obtain rfl : j = i := by omega
       exact HKOK.out HKS.out
     clear HKS HOK
     go_wp2_with fail
     go_roundw
     case rel => exact ⟨i + 1, by omega, by go_num, HOKN, below_drewN B3N.out m⟩
     case measure => simp [intOf]; omega
  ·have j1 : ¬ (i : Int) < (lu : Int) := by omega
   obtain rfl : i = lu := by omega
   have hRn : R = none := by rw [HR.out]; exact stray_none (fun j hj => HOK.out j hj (by rw [← HLU.out]; exact hj))
   subst hRn
   clear u0
   obtain ⟨y0, y1, y2, y3, y4, y5⟩ := Six.of HGR.out
   have F5 := fun j => frozen_of HGR.out j
   have HG6 := hide (six_block HGR.out (.bool true) (.int .i64 0) (.int .i64 0) (.int .i64 0) (.int .i64 0) (.int .i64 0))
   have U6 : Upd (fun b => b = W.heap.size + 1 + 1) wr (six6 wr (W.heap.size + 1 + 1) (.bool true) (.int .i64 0) (.int .i64 0) (.int .i64 0) (.int .i64 0) (.int .i64 0)) := six_upd _ _ _ _ _ _ _ _ _ rfl
   have B6 := hide (BW.out.trans (U6.below hz (fun k hk e => by omega)))
   have u0 : wr.cell? ⟨W.heap.size, 0, none⟩ = some (.slice ia i ic) := by rw [cell_of_row _ _ _ _ _ _ HGU.out]; rfl
   clear U6
   go_wp2_with fail
   (try simp only [Exit.inBlock, Exit.then])
   obtain ⟨q0, q1, q2, q3, q4, q5⟩ := Six.of HG6.out
   show bodyPost _ _ _ _ _ (six6 wr (W.heap.size + 1 + 1) (.bool true) (.int .i64 0) (.int .i64 0) (.int .i64 0) (.int .i64 0) (.int .i64 0))
   exact bodyPost_ret (v := rpt true 0 0 0 0 0) (by simp [results, Tryz.results118, go_sem, q0, q1, q2, q3, q4, q5, rpt]) rfl ⟨rfl, B6.out⟩
end Go.Proofs.YtealejbfloacpaaGreat
