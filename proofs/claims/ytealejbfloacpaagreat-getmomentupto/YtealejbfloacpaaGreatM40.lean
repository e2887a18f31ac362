/- Texts of one's own. -/
import Derived.Test.YtealejbfloacpaaGreatM38
import Derived.Test.YtealejbfloacpaaGreatM18
import Derived.Deep.LoopGhost
import Derived.Deep.DeepCutAuto
namespace Go.Proofs.YtealejbfloacpaaGreat
open Go.RowKit
set_option maxRecDepth 100000
set_option maxRecDepth 100000 in
set_option maxHeartbeats 12800000 in
theorem rchain_any {W : World} {A : Nat} {F : Nat → Prop} {s : AS} (hp : RX W A F s) (N : Nat) (hF : ∀ k, F k → k < N) (hNW : N ≤ W.heap.size) (nd lf inn fl bk first lev : Int) (M : List Int) (ma : Option Addr) (mc : Nat) (hM : W.ownsRow N 3 1 (.slice ma M.length mc) M.length (M.map (Value.int .i64))) (hmet : Met s M) :
  Calls Tryz.prog 117 #[.pointer (some ⟨A, 0, none⟩), .agg #[.int .i64 nd, .int .i64 lf, .int .i64 inn, .int .i64 fl, .int .i64 bk], .int .i64 first, .int .i64 lev, .slice ma M.length mc] W
   (RcP W N F M ma mc (s.chn (fun p => nchkE p nd lf inn fl bk) lev M (s.sl.length + 1 - M.length) first [] [])) := by
 obtain ⟨iI, hiI, hzI0, hzI1, hzI2⟩ := info_parts infoI
 obtain ⟨iS, hiS, hzS0, hzS1, hzS2⟩ := info_parts infoU8s
 obtain ⟨g, c, Mf, D, L, hra, hnd, hfo, hflt⟩ := hp
 obtain ⟨w1, hw1⟩ : ∃ x, x = W.alloc (.cells #[.int .i64 nd, .int .i64 lf, .int .i64 inn, .int .i64 fl, .int .i64 bk] 49) := ⟨_, rfl⟩
 obtain ⟨w2, hw2⟩ : ∃ x, x = w1.alloc (.cells #[.slice none 0 0, .slice none 0 0] 141) := ⟨_, rfl⟩
 obtain ⟨w3, hw3⟩ : ∃ x, x = w2.alloc (.cells #[.bool false, .int .i64 0, .int .i64 0, .int .i64 0, .int .i64 0, .int .i64 0] 42) := ⟨_, rfl⟩
 obtain ⟨w4, hw4⟩ : ∃ x, x = w3.alloc (.cells #[.slice none 0 0, .slice none 0 0] 141) := ⟨_, rfl⟩
 have z1 : w1.heap.size = W.heap.size + 1 := by rw [hw1]; simp
 have z2 : w2.heap.size = W.heap.size + 1 + 1 := by rw [hw2]; simp; omega
 have z3 : w3.heap.size = W.heap.size + 1 + 1 + 1 := by rw [hw3]; simp; omega
 have z4 : w4.heap.size = W.heap.size + 4 := by rw [hw4]; simp; omega
 have b1 : Below W.heap.size W w1 := by rw [hw1]; exact (Below.refl _ _).alloc (Nat.le_refl _) _
 have b12 : Below w1.heap.size w1 w2 := by rw [hw2]; exact (Below.refl _ _).alloc (Nat.le_refl _) _
 have b23 : Below w2.heap.size w2 w3 := by rw [hw3]; exact (Below.refl _ _).alloc (Nat.le_refl _) _
 have b34 : Below w3.heap.size w3 w4 := by rw [hw4]; exact (Below.refl _ _).alloc (Nat.le_refl _) _
 have b24 := b23.trans (b34.mono b23.size)
 have b14 := b12.trans (b24.mono b12.size)
 have b04 := b1.trans (b14.mono b1.size)
 have GC : w4.heap[W.heap.size]? = some (.cells #[.int .i64 nd, .int .i64 lf, .int .i64 inn, .int .i64 fl, .int .i64 bk] 49 (0, 0)) := (b14.block _ (by omega)).trans (by rw [hw1]; exact heap_alloc_new W _)
 have G10 : w4.heap[W.heap.size + 1]? = some (.cells #[.slice none 0 0, .slice none 0 0] 141 (0, 0)) := (b24.block _ (by omega)).trans (by rw [← z1, hw2]; exact heap_alloc_new w1 _)
 have G12 : w4.heap[W.heap.size + 1 + 1]? = some (.cells #[.bool false, .int .i64 0, .int .i64 0, .int .i64 0, .int .i64 0, .int .i64 0] 42 (0, 0)) := (b34.block _ (by omega)).trans (by rw [← z2, hw3]; exact heap_alloc_new w2 _)
 have G13 : w4.heap[W.heap.size + 1 + 1 + 1]? = some (.cells #[.slice none 0 0, .slice none 0 0] 141 (0, 0)) := by rw [← z3, hw4]; exact heap_alloc_new w3 _
 have HW4 : Hid ((((W.alloc (.cells #[.int .i64 nd, .int .i64 lf, .int .i64 inn, .int .i64 fl, .int .i64 bk] 49)).alloc (.cells #[.slice none 0 0, .slice none 0 0] 141)).alloc (.cells #[.bool false, .int .i64 0, .int .i64 0, .int .i64 0, .int .i64 0, .int .i64 0] 42)).alloc (.cells #[.slice none 0 0, .slice none 0 0] 141) = w4) := by show _ = _; rw [hw4, hw3, hw2, hw1]
 have RC4 : Hid (RCh w4 N (W.heap.size + 1 + 1 + 1) F M ma mc ⟨none, 0, []⟩ ⟨none, 0, []⟩) := ⟨G13, World.ownsRow_nil _ _ _ _, World.ownsRow_nil _ _ _ _, owns_below hM b04, fun k hk => (by cases hk), fun t ht => (by cases ht), fun t ht => (by cases ht), hF, by omega, by omega⟩
 have BX4 : Hid ((w4.heap[W.heap.size + 1]? = some (.cells #[.slice none 0 0, .slice none 0 0] 141 (0, 0)) ∧ w4.heap[W.heap.size + 1 + 1]? = some (.cells #[.bool false, .int .i64 0, .int .i64 0, .int .i64 0, .int .i64 0, .int .i64 0] 42 (0, 0))) ∧ w4.heap[W.heap.size]? = some (.cells #[.int .i64 nd, .int .i64 lf, .int .i64 inn, .int .i64 fl, .int .i64 bk] 49 (0, 0))) := ⟨⟨G10, G12⟩, GC⟩
 have HRA : Hid (∀ Y, Below N W Y → RA Y A g c Mf D s.nodes s.root L) := fun Y hb => hra.upd (S := fun k => N ≤ k) ⟨hb.os, hb.tape, hb.output, hb.size, fun k _ hk => hb.block k (by omega)⟩ (fun k hk e => by have := hF k (hfo k hk); omega)
 have HDF : Hid (∀ k, D k → F k) := fun k hk => hfo k (.inr hk)
 have HLS : Hid (L.length = s.sl.length) := ndsR_lenS hnd
 have HNA : Hid (∀ i (hi : i < L.length) (id : Int), id = (i : Int) + 1 → s.n id = L[i].n.p) := fun i hi id hid => (ndsR_at hnd hi hid).2
 have hsl : L.length ≤ 65536 := hra.n_le
 have BW4 : Hid (Below N W w4) := b04.mono hNW
 have HNW := hide hNW
 have HZ4 := hide z4
 have HMET := hide hmet
 obtain ⟨R, hR⟩ : ∃ R, R = s.chn (fun p => nchkE p nd lf inn fl bk) lev M (s.sl.length + 1 - M.length) first [] [] := ⟨_, rfl⟩
 rw [← hR]
 have HR := hide hR
 obtain ⟨ml, hml⟩ : ∃ ml, M.length = ml := ⟨_, rfl⟩
 rw [hml]
 have HML := hide hml
 obtain ⟨S, hS⟩ : ∃ S : Nat → Prop, S = fun k => (Value.slice ma ml mc).ownBlock = some k := ⟨_, rfl⟩
 have Q04 : Hid (RQ S W w4 (.slice ma (ml + 0) mc) (.slice none 0 0) (.slice none 0 0)) := ⟨Upd.of_below b04 S, fun k hk => .inl (by rw [hS]; exact hk), fun k hk => (by cases hk), fun k hk => (by cases hk)⟩
 have HSE : Hid (S = fun k => (Value.slice ma M.length mc).ownBlock = some k) := by rw [hml]; exact hS
 clear hra hnd hfo hflt hw1 hw2 hw3 hw4 z1 z2 z3 z4 b1 b12 b23 b34 b24 b14 b04 GC G10 G12 G13 hM hmet hF hNW hR hml hS
 go_enter Tryz.func117, Tryz.ntmps117
 go_upto_region 2 with fail
 rw [HW4.out]
 go_wp2_with fail
 go_loopg [4, 14, 15] (s.sl.length + 1 - M.length) (fun gi q4 q14 q15 wr => ∃ id low cur ma mc lI lO, q4 = .slice ma (ml + cur.length) mc ∧ q14 = Tx.v low ∧ q15 = .int .i64 id ∧ Hid (RQ S W wr (.slice ma (ml + cur.length) mc) lI.v lO.v) ∧ Hid (RCh wr N (W.heap.size + 1 + 1 + 1) F (M ++ cur.map (·.1)) ma mc lI lO ∧ lI.s = cur.map (·.1) ∧ lO.p = cur.map (·.2) ∧ low.Ok wr ∧ (∀ y, low.a = some y → 0 < low.s.length → F y.block) ∧ Met s (M ++ cur.map (·.1)) ∧ R = s.chn (fun p => nchkE p nd lf inn fl bk) lev M gi id low.s cur ∧ gi + (M.length + cur.length) = s.sl.length + 1 ∧ Below N W wr) ∧ Hid ((wr.heap[W.heap.size + 1]? = some (.cells #[.slice none 0 0, .slice none 0 0] 141 (0, 0)) ∧ wr.heap[W.heap.size + 1 + 1]? = some (.cells #[.bool false, .int .i64 0, .int .i64 0, .int .i64 0, .int .i64 0, .int .i64 0] 42 (0, 0))) ∧ wr.heap[W.heap.size]? = some (.cells #[.int .i64 nd, .int .i64 lf, .int .i64 inn, .int .i64 fl, .int .i64 bk] 49 (0, 0))))
 case atStart => exact ⟨first, ⟨none, 0, []⟩, [], ma, mc, ⟨none, 0, []⟩, ⟨none, 0, []⟩, rfl, rfl, rfl, Q04, ⟨by rw [List.map_nil, List.append_nil]; exact RC4.out, rfl, rfl, Tx.nil_ok _, fun y e => (by cases e), by rw [List.map_nil, List.append_nil]; exact HMET.out, HR.out, by have := HMET.out.len; simp only [List.length_nil, Nat.add_zero]; omega, BW4.out⟩, BX4⟩
 case round =>
  obtain ⟨id, low, cur, ma, mc, lI, lO, rfl, rfl, rfl, HQ, HS, HBB⟩ := hrel
  rename World => wr
  clear HR HMET RC4 BX4 BW4 Q04
  obtain ⟨hrc, hls, hlp, hlo, hli, hmet, hR, hgi, hbw⟩ := HS.out
  have hmlen := hmet.len
  rw [List.length_append, List.length_map] at hmlen
  obtain ⟨g0, rfl⟩ : ∃ g0, gk = g0 + 1 := ⟨gk - 1, by omega⟩
  rw [chn_succ] at hR
  obtain ⟨er, her⟩ : ∃ er, er = s.metE (fun p => nchkE p nd lf inn fl bk) lev low.s (M ++ cur.map (·.1)) id := ⟨_, rfl⟩
  rw [← her] at hR
  have HRR := hide hR
  have HER := hide her
  have HRC := hide hrc
  have HLS2 := hide (And.intro hls hlp)
  have HLO := hide hlo
  have HLI := hide hli
  have HMT := hide hmet
  have HGI := hide hgi
  have BWX := hide hbw
  have HNR : Hid (N ≤ wr.heap.size) := hrc.nw
  have HLB : Hid (wr.heap[W.heap.size + 1 + 1 + 1]? = _) := hrc.bl
  have HBX := hide HBB.out.1
  clear HS hrc hls hlp hlo hli hmet hR hgi hbw her
  obtain ⟨ia, ic, is⟩ := lI
  obtain ⟨oa, oc, ol'⟩ := lO
  simp only [IL.v, TL.v] at HLB HQ
  obtain ⟨il, hil⟩ : ∃ il, is.length = il := ⟨_, rfl⟩
  obtain ⟨ol, hol⟩ : ∃ ol, ol'.length = ol := ⟨_, rfl⟩
  rw [hil, hol] at HLB HQ
  have HIL := hide (And.intro hil hol)
  clear hil hol
  have HTH : Hid (Calls Tryz.prog 69 #[.pointer (some ⟨A, 0, none⟩), .int .i64 id] wr fun e w' => e = .returned (.bool (decide (s.inn id))) ∧ w' = wr) := by
   show Calls _ _ _ _ _
   have := there_any (HRA.out wr BWX.out) id
   rw [HLS.out] at this
   exact this
  obtain ⟨mm, hmm⟩ : ∃ mm, ml + cur.length = mm := ⟨_, rfl⟩
  rw [hmm] at HQ ⊢
  have HMM := hide hmm
  have hmz : mm ≤ 65536 := by have := HML.out; have := HLS.out; omega
  obtain ⟨pa, pc, ps⟩ := low
  simp only [Tx.v]
  obtain ⟨pl, hpl⟩ : ∃ pl, ps.length = pl := ⟨_, rfl⟩
  rw [hpl]
  have HPL := hide hpl
  clear hmm hmlen hpl
  by_cases hin : s.inn id
  ·have hex := HER.out
   unfold AS.metE at hex
   rw [if_pos hin] at hex
   have HEX := hide hex
   obtain ⟨i, hi, hid, _⟩ := AS.idx hin
   rw [decide_eq_true hin] at HTH
   have hiL : i < L.length := by rw [HLS.out]; exact hi
   have HHA : Hid (Calls Tryz.prog 70 #[.slice ma mm mc, .int .i64 id] wr fun e w' => e = .returned (.bool (decide (id ∈ M ++ cur.map (·.1)))) ∧ w' = wr) := by
    show Calls _ _ _ _ _
    have hok : (⟨ma, mc, M ++ cur.map (·.1)⟩ : IL).Ok wr := il_of_owns (N := N) HRC.out.oM
    have hml2 : (M ++ cur.map (·.1)).length = mm := by rw [List.length_append, List.length_map, HML.out]; exact HMM.out
    have := has_any ⟨ma, mc, M ++ cur.map (·.1)⟩ id wr hok (by simp only; rw [hml2]; exact hmz)
    simp only [IL.v] at this
    rw [hml2] at this
    exact this
   have HNN := hide (HNA.out i hiL id hid)
   have ra := HRA.out wr BWX.out
   obtain ⟨_, r1, _⟩ := ra.cells
   have HSL := hide (ra.sl L[i] (List.getElem_mem hiL))
   have e1 := ra.at_ i hiL 1 (by omega)
   have e2 := ra.at_ i hiL 2 (by omega)
   have e3 := ra.at_ i hiL 3 (by omega)
   have e4 := ra.at_ i hiL 4 (by omega)
   have e5 := ra.at_ i hiL 5 (by omega)
   have e6 := ra.at_ i hiL 6 (by omega)
   simp only [RS.cells] at e1 e2 e3 e4 e5 e6
   replace e1 : wr.cell? ⟨g, i * 7 + 1, none⟩ = some (.int .i64 L[i].n.lv) := e1
   replace e2 : wr.cell? ⟨g, i * 7 + 2, none⟩ = some L[i].n.hi.v := e2
   replace e3 : wr.cell? ⟨g, i * 7 + 3, none⟩ = some (.int .i64 L[i].n.ri) := e3
   replace e4 : wr.cell? ⟨g, i * 7 + 4, none⟩ = some L[i].n.ks.v := e4
   replace e5 : wr.cell? ⟨g, i * 7 + 5, none⟩ = some L[i].n.vs.v := e5
   replace e6 : wr.cell? ⟨g, i * 7 + 6, none⟩ = some L[i].n.cs.v := e6
   obtain ⟨n0, hn0⟩ : ∃ n0, L[i].n = n0 := ⟨_, rfl⟩
   rw [hn0] at e1 e2 e3 e4 e5 e6 HNN
   have HNO : Hid (n0.Ok wr ∧ n0.In D) := by rw [← hn0]; exact ⟨HSL.out.n, HSL.out.d⟩
   have x1 : IntKind.i64.wrap (id - 1) = (i : Int) := by rw [hid]; unfold IntKind.wrap; simp [IntKind.bits, IntKind.signed]; omega
   have x2 : (i : Int) < (L.length : Int) := by omega
   have x3 : (0 : Int) ≤ (i : Int) := by omega
   obtain ⟨ll, hll⟩ : ∃ ll, L.length = ll := ⟨_, rfl⟩
   rw [hll] at r1 x2
   have HNV : Hid (n0.p = s.n id) := HNN.out.symm
   clear hex hin hid hi ra HSL hn0 hll hiL HNN
   obtain ⟨n1, hn1⟩ : ∃ n1 : Nd, n1 = n0 := ⟨_, rfl⟩
   rw [← hn1] at HNO HNV
   obtain ⟨nlv, ⟨ha, hc, hs⟩, ri, ⟨ka, kc, K⟩, ⟨va, vc, V⟩, ⟨ca, cc, C⟩⟩ := n0
   have hnv : n1.v = .agg #[.int .i64 nlv, .slice ha hs.length hc, .int .i64 ri, .slice ka K.length kc, .slice va V.length vc, .slice ca C.length cc] := by rw [hn1]; rfl
   have hnf : n1.hi = ⟨ha, hc, hs⟩ ∧ n1.ri = ri ∧ n1.lv = nlv ∧ n1.ks = ⟨ka, kc, K⟩ := by rw [hn1]; exact ⟨rfl, rfl, rfl, rfl⟩
   simp only [Tx.v, TL.v, IL.v] at e1 e2 e3 e4 e5 e6
   obtain ⟨lh, hlh⟩ : ∃ x, hs.length = x := ⟨_, rfl⟩
   obtain ⟨lk, hlk⟩ : ∃ x, K.length = x := ⟨_, rfl⟩
   rw [hlh] at e2 hnv
   rw [hlk] at e4 hnv
   generalize V.length = lw at *
   generalize C.length = lcc at *
   have HV1 := hide hnv
   have HNF := hide hnf
   have HLK := hide (And.intro hlh hlk)
   clear hnv hnf hn1 hlh hlk
   go_wp2_with fail
   refine keep HTH.out ?_
   by_cases hag : id ∈ M ++ cur.map (·.1)
   ·rw [decide_eq_true hag] at HHA
    have he : er = 112 := by rw [HEX.out, if_pos hag]
    have HRE : Hid (R = .inl (id, 112)) := by
     show _ = _
     have := HRR.out
     rw [he] at this
     simpa using this
    clear he hag e1 e2 e3 e4 e5 e6 r1 x1 x2 x3
    go_wp2_with fail
    refine keep HHA.out ?_
    obtain ⟨l0, l1⟩ : wr.cell? ⟨W.heap.size + 1 + 1 + 1, 0, none⟩ = some (.slice ia il ic) ∧ wr.cell? ⟨W.heap.size + 1 + 1 + 1, 1, none⟩ = some (.slice oa ol oc) := ⟨by rw [cell_of_row _ _ _ _ _ _ HLB.out]; rfl, by rw [cell_of_row _ _ _ _ _ _ HLB.out]; rfl⟩
    obtain ⟨a0, a1⟩ : wr.cell? ⟨W.heap.size + 1, 0, none⟩ = some (.slice none 0 0) ∧ wr.cell? ⟨W.heap.size + 1, 1, none⟩ = some (.slice none 0 0) := ⟨by rw [cell_of_row _ _ _ _ _ _ HBX.out.1]; rfl, by rw [cell_of_row _ _ _ _ _ _ HBX.out.1]; rfl⟩
    have fa := fun j => frozen_of HBX.out.1 j
    have HWR : Hid (∀ Y, Calls Tryz.prog 116 #[.int .i64 id, .int .i64 112] Y fun e w' => e = .returned (.agg #[.bool false, .int .i64 id, .int .i64 112, .int .i64 0, .int .i64 0, .int .i64 0]) ∧ Below Y.heap.size Y w') := fun Y => rwrong_any id 112 Y
    obtain ⟨wa, hwa⟩ : ∃ x, x = (wr.drew.setCell ⟨W.heap.size + 1, 0, none⟩ (.slice ia il ic)).setCell ⟨W.heap.size + 1, 1, none⟩ (.slice oa ol oc) := ⟨_, rfl⟩
    have HWA := hide hwa
    have GA1 : Hid (wa.heap[W.heap.size + 1]? = some (.cells #[.slice ia il ic, .slice oa ol oc] 141 (0, 0))) := by show _ = _; rw [hwa]; exact block_setCell (block_setCell (w := wr.drew) HBX.out.1 0 _) 1 _
    have GA2 : Hid (wa.heap[W.heap.size + 1 + 1]? = some (.cells #[.bool false, .int .i64 0, .int .i64 0, .int .i64 0, .int .i64 0, .int .i64 0] 42 (0, 0))) := by show _ = _; rw [hwa, Below.heap_setCell _ _ _ _ (by simp only; omega), Below.heap_setCell _ _ _ _ (by simp only; omega)]; exact HBX.out.2
    have GA3 : Hid (wa.heap[W.heap.size + 1 + 1 + 1]? = some (.cells #[.slice ia il ic, .slice oa ol oc] 141 (0, 0))) := by show _ = _; rw [hwa, Below.heap_setCell _ _ _ _ (by simp only; omega), Below.heap_setCell _ _ _ _ (by simp only; omega)]; exact HLB.out
    have QWA : Hid (Upd S W wa) := by show Upd _ _ _; rw [hwa]; exact ((HQ.out.up.drew).setCell ⟨W.heap.size + 1, 0, none⟩ _ (fun e => absurd e (by simp only; omega))).setCell ⟨W.heap.size + 1, 1, none⟩ _ (fun e => absurd e (by simp only; omega))
    have BWA : Hid (Below N W wa) := by show Below _ _ _; rw [hwa]; exact ((below_drew BWX.out).setCell (by have := HNW.out; simp only; omega) _).setCell (by have := HNW.out; simp only; omega) _
    have n1 : ¬ W.heap.size + 1 + 1 + 1 = W.heap.size + 1 := by omega
    have n2 : ¬ W.heap.size + 1 + 1 + 1 = W.heap.size + 1 + 1 := by omega
    have n3 : ¬ W.heap.size + 1 = W.heap.size + 1 + 1 := by omega
    have n4 : ¬ W.heap.size + 1 + 1 = W.heap.size + 1 := by omega
    have n5 : ¬ W.heap.size + 1 = W.heap.size + 1 + 1 + 1 := by omega
    have n6 : ¬ W.heap.size + 1 + 1 = W.heap.size + 1 + 1 + 1 := by omega
    clear hwa
    go_wp2_with fail
    go_region_held3 (fun Y => Y.cell? ⟨W.heap.size + 1 + 1 + 1, 0, none⟩ = some (.slice ia il ic) ∧ Y.cell? ⟨W.heap.size + 1 + 1 + 1, 1, none⟩ = some (.slice oa ol oc)) (go_keep) (first
     | (go_at_call 116; rw [← HWA.out]; refine (HWR.out wa).mono ?_; rintro e w5 ⟨rfl, hb5⟩; have P1 : Hid (w5.heap[W.heap.size + 1]? = _) := (hb5.block _ (lt_of_block GA1.out)).trans GA1.out; have P2 : Hid (w5.heap[W.heap.size + 1 + 1]? = _) := (hb5.block _ (lt_of_block GA2.out)).trans GA2.out; have P3 : Hid (w5.heap[W.heap.size + 1 + 1 + 1]? = _) := (hb5.block _ (lt_of_block GA3.out)).trans GA3.out; have Q5' : Hid (Upd S W w5) := QWA.out.trans (Upd.of_below hb5 S); have B5 : Hid (Below N W w5) := BWA.out.trans (hb5.mono (by have := BWA.out.size; have := HNW.out; omega)); have k0 : w5.cell? ⟨W.heap.size + 1 + 1 + 1, 0, none⟩ = some (.slice ia il ic) := (by rw [cell_of_row _ _ _ _ _ _ P3.out]; rfl); have k1 : w5.cell? ⟨W.heap.size + 1 + 1 + 1, 1, none⟩ = some (.slice oa ol oc) := (by rw [cell_of_row _ _ _ _ _ _ P3.out]; rfl); obtain ⟨y0, y1, y2, y3, y4, y5⟩ := Six.of P2.out; have fb := fun j => frozen_of P2.out j; clear hb5)
     | (go_at_call 116; refine (HWR.out wr.drew).mono ?_; rintro e w5 ⟨rfl, hb5⟩; have P1 : Hid (w5.heap[W.heap.size + 1]? = _) := (hb5.block _ (lt_of_block HBX.out.1)).trans HBX.out.1; have P2 : Hid (w5.heap[W.heap.size + 1 + 1]? = _) := (hb5.block _ (lt_of_block HBX.out.2)).trans HBX.out.2; have P3 : Hid (w5.heap[W.heap.size + 1 + 1 + 1]? = _) := (hb5.block _ (lt_of_block HLB.out)).trans HLB.out; have Q5' : Hid (Upd S W w5) := (HQ.out.up.drew).trans (Upd.of_below hb5 S); have B5 : Hid (Below N W w5) := (below_drew BWX.out).trans (hb5.mono (by have := BWX.out.size; have := HNW.out; show N ≤ wr.heap.size; omega)); have k0 : w5.cell? ⟨W.heap.size + 1 + 1 + 1, 0, none⟩ = some (.slice ia il ic) := (by rw [cell_of_row _ _ _ _ _ _ P3.out]; rfl); have k1 : w5.cell? ⟨W.heap.size + 1 + 1 + 1, 1, none⟩ = some (.slice oa ol oc) := (by rw [cell_of_row _ _ _ _ _ _ P3.out]; rfl); have ka0 : w5.cell? ⟨W.heap.size + 1, 0, none⟩ = some (.slice none 0 0) := (by rw [cell_of_row _ _ _ _ _ _ P1.out]; rfl); have ka1 : w5.cell? ⟨W.heap.size + 1, 1, none⟩ = some (.slice none 0 0) := (by rw [cell_of_row _ _ _ _ _ _ P1.out]; rfl); have fka := fun j => frozen_of P1.out j; obtain ⟨y0, y1, y2, y3, y4, y5⟩ := Six.of P2.out; have fb := fun j => frozen_of P2.out j; clear hb5)
     | fail)
    all_goals
     go_wp2_with fail
     (try simp only [Exit.inBlock, Exit.then])
     first
     | (obtain ⟨⟨p0, p1⟩, ⟨q0, q1, q2, q3, q4, q5⟩, BF, UFX⟩ := fin_a1 P1.out P2.out (by omega) (.slice ia il ic) (.slice oa ol oc) (.bool false) (.int .i64 id) (.int .i64 112) (.int .i64 0) (.int .i64 0) (.int .i64 0)
        show bodyPost _ _ _ _ _ (six6 (set2 w5 (W.heap.size + 1) (.slice ia il ic) (.slice oa ol oc)) (W.heap.size + 1 + 1) (.bool false) (.int .i64 id) (.int .i64 112) (.int .i64 0) (.int .i64 0) (.int .i64 0))
        refine bodyPost_ret (v := .tuple #[.agg #[.slice ia il ic, .slice oa ol oc], .slice ma mm mc, .agg #[.bool false, .int .i64 id, .int .i64 112, .int .i64 0, .int .i64 0, .int .i64 0]]) (by simp [results, Tryz.results117, go_sem, p0, p1, q0, q1, q2, q3, q4, q5]) rfl ⟨B5.out.trans (BF N (by have := HNW.out; omega) (by have := HNW.out; omega)), by rw [← HSE.out]; exact Q5'.out.then UFX (fun k hk e => absurd hk (by omega)), .inl ⟨id, 112, _, _, _, _, _, _, _, _, _, HRE.out, rfl⟩⟩)
     | (obtain ⟨⟨p0, p1⟩, ⟨q0, q1, q2, q3, q4, q5⟩, BF, UFX⟩ := fin_a2 P1.out P2.out (by omega) (.slice ia il ic) (.slice oa ol oc) (.bool false) (.int .i64 id) (.int .i64 112) (.int .i64 0) (.int .i64 0) (.int .i64 0)
        show bodyPost _ _ _ _ _ (set2 (six6 w5 (W.heap.size + 1 + 1) (.bool false) (.int .i64 id) (.int .i64 112) (.int .i64 0) (.int .i64 0) (.int .i64 0)) (W.heap.size + 1) (.slice ia il ic) (.slice oa ol oc))
        refine bodyPost_ret (v := .tuple #[.agg #[.slice ia il ic, .slice oa ol oc], .slice ma mm mc, .agg #[.bool false, .int .i64 id, .int .i64 112, .int .i64 0, .int .i64 0, .int .i64 0]]) (by simp [results, Tryz.results117, go_sem, p0, p1, q0, q1, q2, q3, q4, q5]) rfl ⟨B5.out.trans (BF N (by have := HNW.out; omega) (by have := HNW.out; omega)), by rw [← HSE.out]; exact Q5'.out.then UFX (fun k hk e => absurd hk (by omega)), .inl ⟨id, 112, _, _, _, _, _, _, _, _, _, HRE.out, rfl⟩⟩)
     | (obtain ⟨⟨p0, p1⟩, ⟨q0, q1, q2, q3, q4, q5⟩, BF, UFX⟩ := fin_b P1.out P2.out (by omega) (.bool false) (.int .i64 id) (.int .i64 112) (.int .i64 0) (.int .i64 0) (.int .i64 0)
        show bodyPost _ _ _ _ _ (six6 w5 (W.heap.size + 1 + 1) (.bool false) (.int .i64 id) (.int .i64 112) (.int .i64 0) (.int .i64 0) (.int .i64 0))
        refine bodyPost_ret (v := .tuple #[.agg #[.slice ia il ic, .slice oa ol oc], .slice ma mm mc, .agg #[.bool false, .int .i64 id, .int .i64 112, .int .i64 0, .int .i64 0, .int .i64 0]]) (by simp [results, Tryz.results117, go_sem, p0, p1, q0, q1, q2, q3, q4, q5]) rfl ⟨B5.out.trans (BF N (by have := HNW.out; omega) (by have := HNW.out; omega)), by rw [← HSE.out]; exact Q5'.out.then UFX (fun k hk e => absurd hk (by omega)), .inl ⟨id, 112, _, _, _, _, _, _, _, _, _, HRE.out, rfl⟩⟩)
   ·rw [decide_eq_false hag] at HHA
    have HEX2 := hide (HEX.out.trans (if_neg hag))
    obtain ⟨w3, hw3⟩ : ∃ w3, w3 = wr.alloc (.cells #[.int .i64 nlv, .slice ha lh hc, .int .i64 ri, .slice ka lk kc, .slice va lw vc, .slice ca lcc cc] 35) := ⟨_, rfl⟩
    have b3 : Below wr.heap.size wr w3 := by rw [hw3]; exact (Below.refl _ _).alloc (Nat.le_refl _) _
    have G3 : Hid (w3.heap[wr.heap.size]? = some (.cells #[.int .i64 nlv, .slice ha lh hc, .int .i64 ri, .slice ka lk kc, .slice va lw vc, .slice ca lcc cc] 35 (0, 0))) := by show _ = _; rw [hw3]; exact heap_alloc_new wr _
    have HW3 := hide hw3
    have B3 := hide b3
    have hn4 : W.heap.size + 4 ≤ wr.heap.size := by have := lt_of_block HLB.out; omega
    have BW3 : Hid (Below N W w3) := BWX.out.trans (b3.mono HNR.out)
    have RC3 := hide (HRC.out.below b3)
    have Q3 := hide (HQ.out.below b3)
    have HLB3 : Hid (w3.heap[W.heap.size + 1 + 1 + 1]? = _) := (b3.block _ (lt_of_block HLB.out)).trans HLB.out
    have HBX3 : Hid (w3.heap[W.heap.size + 1]? = some (.cells #[.slice none 0 0, .slice none 0 0] 141 (0, 0)) ∧ w3.heap[W.heap.size + 1 + 1]? = some (.cells #[.bool false, .int .i64 0, .int .i64 0, .int .i64 0, .int .i64 0, .int .i64 0] 42 (0, 0))) := ⟨(b3.block _ (lt_of_block HBX.out.1)).trans HBX.out.1, (b3.block _ (lt_of_block HBX.out.2)).trans HBX.out.2⟩
    have HCF3 : Hid (w3.heap[W.heap.size]? = _) := (b3.block _ (lt_of_block HBB.out.2)).trans HBB.out.2
    have HNO3 : Hid (n1.Ok w3) := HNO.out.1.below b3
    clear hw3 b3
    go_wp2_with fail
    refine keep HHA.out ?_
    go_upto_region 11 with fail
    rw [← HW3.out]
    clear e1 e2 e3 e4 e5 e6 r1 x1 x2 x3
    obtain ⟨t0, t1, t2, t3, t4, t5⟩ := Six.of G3.out
    generalize hb18 : wr.heap.size = b18 at *
    have HB18 := hide hb18
    clear hb18
    have hnlv : (s.n id).lv = nlv := by rw [← HNV.out]; exact HNF.out.2.2.1
    by_cases hlv : nlv ≠ lev
    ·have he : er = 111 := by rw [HEX2.out, hnlv, if_pos hlv]
     have HRE : Hid (R = .inl (id, 111)) := by
      show _ = _
      have := HRR.out
      rw [he] at this
      simpa using this
     have hlv1 : (nlv == lev) = false := by rw [beq_eq_false_iff_ne]; exact hlv
     clear he hnlv hlv
     clear HLB HBX BWX
     have HLB := HLB3
     have HBX := HBX3
     have BWX := BW3
     obtain ⟨l0, l1⟩ : w3.cell? ⟨W.heap.size + 1 + 1 + 1, 0, none⟩ = some (.slice ia il ic) ∧ w3.cell? ⟨W.heap.size + 1 + 1 + 1, 1, none⟩ = some (.slice oa ol oc) := ⟨by rw [cell_of_row _ _ _ _ _ _ HLB.out]; rfl, by rw [cell_of_row _ _ _ _ _ _ HLB.out]; rfl⟩
     obtain ⟨a0, a1⟩ : w3.cell? ⟨W.heap.size + 1, 0, none⟩ = some (.slice none 0 0) ∧ w3.cell? ⟨W.heap.size + 1, 1, none⟩ = some (.slice none 0 0) := ⟨by rw [cell_of_row _ _ _ _ _ _ HBX.out.1]; rfl, by rw [cell_of_row _ _ _ _ _ _ HBX.out.1]; rfl⟩
     have fa := fun j => frozen_of HBX.out.1 j
     have HWR : Hid (∀ Y, Calls Tryz.prog 116 #[.int .i64 id, .int .i64 111] Y fun e w' => e = .returned (.agg #[.bool false, .int .i64 id, .int .i64 111, .int .i64 0, .int .i64 0, .int .i64 0]) ∧ Below Y.heap.size Y w') := fun Y => rwrong_any id 111 Y
     obtain ⟨wa, hwa⟩ : ∃ x, x = (w3.drew.setCell ⟨W.heap.size + 1, 0, none⟩ (.slice ia il ic)).setCell ⟨W.heap.size + 1, 1, none⟩ (.slice oa ol oc) := ⟨_, rfl⟩
     have HWA := hide hwa
     have GA1 : Hid (wa.heap[W.heap.size + 1]? = some (.cells #[.slice ia il ic, .slice oa ol oc] 141 (0, 0))) := by show _ = _; rw [hwa]; exact block_setCell (block_setCell (w := w3.drew) HBX.out.1 0 _) 1 _
     have GA2 : Hid (wa.heap[W.heap.size + 1 + 1]? = some (.cells #[.bool false, .int .i64 0, .int .i64 0, .int .i64 0, .int .i64 0, .int .i64 0] 42 (0, 0))) := by show _ = _; rw [hwa, Below.heap_setCell _ _ _ _ (by simp only; omega), Below.heap_setCell _ _ _ _ (by simp only; omega)]; exact HBX.out.2
     have GA3 : Hid (wa.heap[W.heap.size + 1 + 1 + 1]? = some (.cells #[.slice ia il ic, .slice oa ol oc] 141 (0, 0))) := by show _ = _; rw [hwa, Below.heap_setCell _ _ _ _ (by simp only; omega), Below.heap_setCell _ _ _ _ (by simp only; omega)]; exact HLB.out
     have QWA : Hid (Upd S W wa) := by show Upd _ _ _; rw [hwa]; exact ((Q3.out.up.drew).setCell ⟨W.heap.size + 1, 0, none⟩ _ (fun e => absurd e (by simp only; omega))).setCell ⟨W.heap.size + 1, 1, none⟩ _ (fun e => absurd e (by simp only; omega))
     have BWA : Hid (Below N W wa) := by show Below _ _ _; rw [hwa]; exact ((below_drew BWX.out).setCell (by have := HNW.out; simp only; omega) _).setCell (by have := HNW.out; simp only; omega) _
     have n1 : ¬ W.heap.size + 1 + 1 + 1 = W.heap.size + 1 := by omega
     have n2 : ¬ W.heap.size + 1 + 1 + 1 = W.heap.size + 1 + 1 := by omega
     have n3 : ¬ W.heap.size + 1 = W.heap.size + 1 + 1 := by omega
     have n4 : ¬ W.heap.size + 1 + 1 = W.heap.size + 1 := by omega
     have n5 : ¬ W.heap.size + 1 = W.heap.size + 1 + 1 + 1 := by omega
     have n6 : ¬ W.heap.size + 1 + 1 = W.heap.size + 1 + 1 + 1 := by omega
     clear hwa
     go_wp2_with fail
     go_region_held3 (fun Y => Y.cell? ⟨W.heap.size + 1 + 1 + 1, 0, none⟩ = some (.slice ia il ic) ∧ Y.cell? ⟨W.heap.size + 1 + 1 + 1, 1, none⟩ = some (.slice oa ol oc)) (go_keep) (first
      | (go_at_call 116; rw [← HWA.out]; refine (HWR.out wa).mono ?_; rintro e w5 ⟨rfl, hb5⟩; have P1 : Hid (w5.heap[W.heap.size + 1]? = _) := (hb5.block _ (lt_of_block GA1.out)).trans GA1.out; have P2 : Hid (w5.heap[W.heap.size + 1 + 1]? = _) := (hb5.block _ (lt_of_block GA2.out)).trans GA2.out; have P3 : Hid (w5.heap[W.heap.size + 1 + 1 + 1]? = _) := (hb5.block _ (lt_of_block GA3.out)).trans GA3.out; have Q5' : Hid (Upd S W w5) := QWA.out.trans (Upd.of_below hb5 S); have B5 : Hid (Below N W w5) := BWA.out.trans (hb5.mono (by have := BWA.out.size; have := HNW.out; omega)); have k0 : w5.cell? ⟨W.heap.size + 1 + 1 + 1, 0, none⟩ = some (.slice ia il ic) := (by rw [cell_of_row _ _ _ _ _ _ P3.out]; rfl); have k1 : w5.cell? ⟨W.heap.size + 1 + 1 + 1, 1, none⟩ = some (.slice oa ol oc) := (by rw [cell_of_row _ _ _ _ _ _ P3.out]; rfl); obtain ⟨y0, y1, y2, y3, y4, y5⟩ := Six.of P2.out; have fb := fun j => frozen_of P2.out j; clear hb5)
      | (go_at_call 116; refine (HWR.out w3.drew).mono ?_; rintro e w5 ⟨rfl, hb5⟩; have P1 : Hid (w5.heap[W.heap.size + 1]? = _) := (hb5.block _ (lt_of_block HBX.out.1)).trans HBX.out.1; have P2 : Hid (w5.heap[W.heap.size + 1 + 1]? = _) := (hb5.block _ (lt_of_block HBX.out.2)).trans HBX.out.2; have P3 : Hid (w5.heap[W.heap.size + 1 + 1 + 1]? = _) := (hb5.block _ (lt_of_block HLB.out)).trans HLB.out; have Q5' : Hid (Upd S W w5) := (Q3.out.up.drew).trans (Upd.of_below hb5 S); have B5 : Hid (Below N W w5) := (below_drew BWX.out).trans (hb5.mono (by have := BWX.out.size; have := HNW.out; show N ≤ w3.heap.size; omega)); have k0 : w5.cell? ⟨W.heap.size + 1 + 1 + 1, 0, none⟩ = some (.slice ia il ic) := (by rw [cell_of_row _ _ _ _ _ _ P3.out]; rfl); have k1 : w5.cell? ⟨W.heap.size + 1 + 1 + 1, 1, none⟩ = some (.slice oa ol oc) := (by rw [cell_of_row _ _ _ _ _ _ P3.out]; rfl); have ka0 : w5.cell? ⟨W.heap.size + 1, 0, none⟩ = some (.slice none 0 0) := (by rw [cell_of_row _ _ _ _ _ _ P1.out]; rfl); have ka1 : w5.cell? ⟨W.heap.size + 1, 1, none⟩ = some (.slice none 0 0) := (by rw [cell_of_row _ _ _ _ _ _ P1.out]; rfl); have fka := fun j => frozen_of P1.out j; obtain ⟨y0, y1, y2, y3, y4, y5⟩ := Six.of P2.out; have fb := fun j => frozen_of P2.out j; clear hb5)
      | fail)
     all_goals
      go_wp2_with fail
      (try simp only [Exit.inBlock, Exit.then])
      first
      | (obtain ⟨⟨p0, p1⟩, ⟨q0, q1, q2, q3, q4, q5⟩, BF, UFX⟩ := fin_a1 P1.out P2.out (by omega) (.slice ia il ic) (.slice oa ol oc) (.bool false) (.int .i64 id) (.int .i64 111) (.int .i64 0) (.int .i64 0) (.int .i64 0)
         show bodyPost _ _ _ _ _ (six6 (set2 w5 (W.heap.size + 1) (.slice ia il ic) (.slice oa ol oc)) (W.heap.size + 1 + 1) (.bool false) (.int .i64 id) (.int .i64 111) (.int .i64 0) (.int .i64 0) (.int .i64 0))
         refine bodyPost_ret (v := .tuple #[.agg #[.slice ia il ic, .slice oa ol oc], .slice ma mm mc, .agg #[.bool false, .int .i64 id, .int .i64 111, .int .i64 0, .int .i64 0, .int .i64 0]]) (by simp [results, Tryz.results117, go_sem, p0, p1, q0, q1, q2, q3, q4, q5]) rfl ⟨B5.out.trans (BF N (by have := HNW.out; omega) (by have := HNW.out; omega)), by rw [← HSE.out]; exact Q5'.out.then UFX (fun k hk e => absurd hk (by omega)), .inl ⟨id, 111, _, _, _, _, _, _, _, _, _, HRE.out, rfl⟩⟩)
      | (obtain ⟨⟨p0, p1⟩, ⟨q0, q1, q2, q3, q4, q5⟩, BF, UFX⟩ := fin_a2 P1.out P2.out (by omega) (.slice ia il ic) (.slice oa ol oc) (.bool false) (.int .i64 id) (.int .i64 111) (.int .i64 0) (.int .i64 0) (.int .i64 0)
         show bodyPost _ _ _ _ _ (set2 (six6 w5 (W.heap.size + 1 + 1) (.bool false) (.int .i64 id) (.int .i64 111) (.int .i64 0) (.int .i64 0) (.int .i64 0)) (W.heap.size + 1) (.slice ia il ic) (.slice oa ol oc))
         refine bodyPost_ret (v := .tuple #[.agg #[.slice ia il ic, .slice oa ol oc], .slice ma mm mc, .agg #[.bool false, .int .i64 id, .int .i64 111, .int .i64 0, .int .i64 0, .int .i64 0]]) (by simp [results, Tryz.results117, go_sem, p0, p1, q0, q1, q2, q3, q4, q5]) rfl ⟨B5.out.trans (BF N (by have := HNW.out; omega) (by have := HNW.out; omega)), by rw [← HSE.out]; exact Q5'.out.then UFX (fun k hk e => absurd hk (by omega)), .inl ⟨id, 111, _, _, _, _, _, _, _, _, _, HRE.out, rfl⟩⟩)
      | (obtain ⟨⟨p0, p1⟩, ⟨q0, q1, q2, q3, q4, q5⟩, BF, UFX⟩ := fin_b P1.out P2.out (by omega) (.bool false) (.int .i64 id) (.int .i64 111) (.int .i64 0) (.int .i64 0) (.int .i64 0)
         show bodyPost _ _ _ _ _ (six6 w5 (W.heap.size + 1 + 1) (.bool false) (.int .i64 id) (.int .i64 111) (.int .i64 0) (.int .i64 0) (.int .i64 0))
         refine bodyPost_ret (v := .tuple #[.agg #[.slice ia il ic, .slice oa ol oc], .slice ma mm mc, .agg #[.bool false, .int .i64 id, .int .i64 111, .int .i64 0, .int .i64 0, .int .i64 0]]) (by simp [results, Tryz.results117, go_sem, p0, p1, q0, q1, q2, q3, q4, q5]) rfl ⟨B5.out.trans (BF N (by have := HNW.out; omega) (by have := HNW.out; omega)), by rw [← HSE.out]; exact Q5'.out.then UFX (fun k hk e => absurd hk (by omega)), .inl ⟨id, 111, _, _, _, _, _, _, _, _, _, HRE.out, rfl⟩⟩)
    ·obtain rfl : nlv = lev := Decidable.not_not.1 hlv
     have HEX3 := hide (HEX2.out.trans (if_neg (by rw [hnlv]; exact hlv)))
     clear hlv hnlv
     obtain ⟨c0, c1, c2, c3, c4⟩ := five_of HCF3.out
     have HCK : Hid (Calls Tryz.prog 147 #[.agg #[.int .i64 nlv, .slice ha lh hc, .int .i64 ri, .slice ka lk kc, .slice va lw vc, .slice ca lcc cc], .agg #[.int .i64 nd, .int .i64 lf, .int .i64 inn, .int .i64 fl, .int .i64 bk]] w3 fun e w' => e = .returned (.int .i64 (nchkE (s.n id) nd lf inn fl bk)) ∧ Below w3.heap.size w3 w') := by
      show Calls _ _ _ _ _
      have := rcheck_any n1 nd lf inn fl bk w3 HNO3.out
      rw [HV1.out, HNV.out] at this
      exact this
     obtain ⟨ce, hce⟩ : ∃ ce, nchkE (s.n id) nd lf inn fl bk = ce := ⟨_, rfl⟩
     rw [hce] at HCK HEX3
     have HCE := hide hce
     clear hce
     go_wp2_with fail
     refine HCK.out.mono ?_
     rintro e w4 ⟨rfl, hb4⟩
     have BW4 : Hid (Below N W w4) := BW3.out.trans (hb4.mono RC3.out.nw)
     have RC4 := hide (RC3.out.below hb4)
     have Q4 := hide (Q3.out.below hb4)
     have G4 : Hid (w4.heap[b18]? = _) := (hb4.block _ (lt_of_block G3.out)).trans G3.out
     have HLB4 : Hid (w4.heap[W.heap.size + 1 + 1 + 1]? = _) := (hb4.block _ (lt_of_block HLB3.out)).trans HLB3.out
     have HBX4 : Hid (w4.heap[W.heap.size + 1]? = some (.cells #[.slice none 0 0, .slice none 0 0] 141 (0, 0)) ∧ w4.heap[W.heap.size + 1 + 1]? = some (.cells #[.bool false, .int .i64 0, .int .i64 0, .int .i64 0, .int .i64 0, .int .i64 0] 42 (0, 0))) := ⟨(hb4.block _ (lt_of_block HBX3.out.1)).trans HBX3.out.1, (hb4.block _ (lt_of_block HBX3.out.2)).trans HBX3.out.2⟩
     have HCF4 : Hid (w4.heap[W.heap.size]? = _) := (hb4.block _ (lt_of_block HCF3.out)).trans HCF3.out
     have HNO4 : Hid (n1.Ok w4) := HNO3.out.below hb4
     have HLO4 : Hid ((⟨pa, pc, ps⟩ : Tx).Ok w4) := HLO.out.below (by rw [HB18.out]; exact B3.out.trans (hb4.mono (by have := B3.out.size; have := HB18.out; omega)))
     clear hb4 c0 c1 c2 c3 c4 t0 t1 t2 t3 t4 t5
     by_cases hc0 : ce ≠ 0
     ·have he : er = ce := by rw [HEX3.out, if_pos hc0]
      have HRE : Hid (R = .inl (id, ce)) := by
       show _ = _
       have := HRR.out
       rw [he, if_pos hc0] at this
       exact this
      have hc1 : (ce == 0) = false := by rw [beq_eq_false_iff_ne]; exact hc0
      clear he
      clear HLB HBX BWX HLB3 HBX3 BW3
      have HLB := HLB4
      have HBX := HBX4
      have BWX := BW4
      obtain ⟨l0, l1⟩ : w4.cell? ⟨W.heap.size + 1 + 1 + 1, 0, none⟩ = some (.slice ia il ic) ∧ w4.cell? ⟨W.heap.size + 1 + 1 + 1, 1, none⟩ = some (.slice oa ol oc) := ⟨by rw [cell_of_row _ _ _ _ _ _ HLB.out]; rfl, by rw [cell_of_row _ _ _ _ _ _ HLB.out]; rfl⟩
      obtain ⟨a0, a1⟩ : w4.cell? ⟨W.heap.size + 1, 0, none⟩ = some (.slice none 0 0) ∧ w4.cell? ⟨W.heap.size + 1, 1, none⟩ = some (.slice none 0 0) := ⟨by rw [cell_of_row _ _ _ _ _ _ HBX.out.1]; rfl, by rw [cell_of_row _ _ _ _ _ _ HBX.out.1]; rfl⟩
      have fa := fun j => frozen_of HBX.out.1 j
      have HWR : Hid (∀ Y, Calls Tryz.prog 116 #[.int .i64 id, .int .i64 ce] Y fun e w' => e = .returned (.agg #[.bool false, .int .i64 id, .int .i64 ce, .int .i64 0, .int .i64 0, .int .i64 0]) ∧ Below Y.heap.size Y w') := fun Y => rwrong_any id ce Y
      obtain ⟨wa, hwa⟩ : ∃ x, x = (w4.drew.setCell ⟨W.heap.size + 1, 0, none⟩ (.slice ia il ic)).setCell ⟨W.heap.size + 1, 1, none⟩ (.slice oa ol oc) := ⟨_, rfl⟩
      have HWA := hide hwa
      have GA1 : Hid (wa.heap[W.heap.size + 1]? = some (.cells #[.slice ia il ic, .slice oa ol oc] 141 (0, 0))) := by show _ = _; rw [hwa]; exact block_setCell (block_setCell (w := w4.drew) HBX.out.1 0 _) 1 _
      have GA2 : Hid (wa.heap[W.heap.size + 1 + 1]? = some (.cells #[.bool false, .int .i64 0, .int .i64 0, .int .i64 0, .int .i64 0, .int .i64 0] 42 (0, 0))) := by show _ = _; rw [hwa, Below.heap_setCell _ _ _ _ (by simp only; omega), Below.heap_setCell _ _ _ _ (by simp only; omega)]; exact HBX.out.2
      have GA3 : Hid (wa.heap[W.heap.size + 1 + 1 + 1]? = some (.cells #[.slice ia il ic, .slice oa ol oc] 141 (0, 0))) := by show _ = _; rw [hwa, Below.heap_setCell _ _ _ _ (by simp only; omega), Below.heap_setCell _ _ _ _ (by simp only; omega)]; exact HLB.out
      have QWA : Hid (Upd S W wa) := by show Upd _ _ _; rw [hwa]; exact ((Q4.out.up.drew).setCell ⟨W.heap.size + 1, 0, none⟩ _ (fun e => absurd e (by simp only; omega))).setCell ⟨W.heap.size + 1, 1, none⟩ _ (fun e => absurd e (by simp only; omega))
      have BWA : Hid (Below N W wa) := by show Below _ _ _; rw [hwa]; exact ((below_drew BWX.out).setCell (by have := HNW.out; simp only; omega) _).setCell (by have := HNW.out; simp only; omega) _
      have n1 : ¬ W.heap.size + 1 + 1 + 1 = W.heap.size + 1 := by omega
      have n2 : ¬ W.heap.size + 1 + 1 + 1 = W.heap.size + 1 + 1 := by omega
      have n3 : ¬ W.heap.size + 1 = W.heap.size + 1 + 1 := by omega
      have n4 : ¬ W.heap.size + 1 + 1 = W.heap.size + 1 := by omega
      have n5 : ¬ W.heap.size + 1 = W.heap.size + 1 + 1 + 1 := by omega
      have n6 : ¬ W.heap.size + 1 + 1 = W.heap.size + 1 + 1 + 1 := by omega
      clear hwa
      go_wp2_with fail
      go_region_held3 (fun Y => Y.cell? ⟨W.heap.size + 1 + 1 + 1, 0, none⟩ = some (.slice ia il ic) ∧ Y.cell? ⟨W.heap.size + 1 + 1 + 1, 1, none⟩ = some (.slice oa ol oc)) (go_keep) (first
       | (go_at_call 116; rw [← HWA.out]; refine (HWR.out wa).mono ?_; rintro e w5 ⟨rfl, hb5⟩; have P1 : Hid (w5.heap[W.heap.size + 1]? = _) := (hb5.block _ (lt_of_block GA1.out)).trans GA1.out; have P2 : Hid (w5.heap[W.heap.size + 1 + 1]? = _) := (hb5.block _ (lt_of_block GA2.out)).trans GA2.out; have P3 : Hid (w5.heap[W.heap.size + 1 + 1 + 1]? = _) := (hb5.block _ (lt_of_block GA3.out)).trans GA3.out; have Q5' : Hid (Upd S W w5) := QWA.out.trans (Upd.of_below hb5 S); have B5 : Hid (Below N W w5) := BWA.out.trans (hb5.mono (by have := BWA.out.size; have := HNW.out; omega)); have k0 : w5.cell? ⟨W.heap.size + 1 + 1 + 1, 0, none⟩ = some (.slice ia il ic) := (by rw [cell_of_row _ _ _ _ _ _ P3.out]; rfl); have k1 : w5.cell? ⟨W.heap.size + 1 + 1 + 1, 1, none⟩ = some (.slice oa ol oc) := (by rw [cell_of_row _ _ _ _ _ _ P3.out]; rfl); obtain ⟨y0, y1, y2, y3, y4, y5⟩ := Six.of P2.out; have fb := fun j => frozen_of P2.out j; clear hb5)
       | (go_at_call 116; refine (HWR.out w4.drew).mono ?_; rintro e w5 ⟨rfl, hb5⟩; have P1 : Hid (w5.heap[W.heap.size + 1]? = _) := (hb5.block _ (lt_of_block HBX.out.1)).trans HBX.out.1; have P2 : Hid (w5.heap[W.heap.size + 1 + 1]? = _) := (hb5.block _ (lt_of_block HBX.out.2)).trans HBX.out.2; have P3 : Hid (w5.heap[W.heap.size + 1 + 1 + 1]? = _) := (hb5.block _ (lt_of_block HLB.out)).trans HLB.out; have Q5' : Hid (Upd S W w5) := (Q4.out.up.drew).trans (Upd.of_below hb5 S); have B5 : Hid (Below N W w5) := (below_drew BWX.out).trans (hb5.mono (by have := BWX.out.size; have := HNW.out; show N ≤ w4.heap.size; omega)); have k0 : w5.cell? ⟨W.heap.size + 1 + 1 + 1, 0, none⟩ = some (.slice ia il ic) := (by rw [cell_of_row _ _ _ _ _ _ P3.out]; rfl); have k1 : w5.cell? ⟨W.heap.size + 1 + 1 + 1, 1, none⟩ = some (.slice oa ol oc) := (by rw [cell_of_row _ _ _ _ _ _ P3.out]; rfl); have ka0 : w5.cell? ⟨W.heap.size + 1, 0, none⟩ = some (.slice none 0 0) := (by rw [cell_of_row _ _ _ _ _ _ P1.out]; rfl); have ka1 : w5.cell? ⟨W.heap.size + 1, 1, none⟩ = some (.slice none 0 0) := (by rw [cell_of_row _ _ _ _ _ _ P1.out]; rfl); have fka := fun j => frozen_of P1.out j; obtain ⟨y0, y1, y2, y3, y4, y5⟩ := Six.of P2.out; have fb := fun j => frozen_of P2.out j; clear hb5)
       | fail)
      all_goals
       go_wp2_with fail
       (try simp only [Exit.inBlock, Exit.then])
       first
       | (obtain ⟨⟨p0, p1⟩, ⟨q0, q1, q2, q3, q4, q5⟩, BF, UFX⟩ := fin_a1 P1.out P2.out (by omega) (.slice ia il ic) (.slice oa ol oc) (.bool false) (.int .i64 id) (.int .i64 ce) (.int .i64 0) (.int .i64 0) (.int .i64 0)
          show bodyPost _ _ _ _ _ (six6 (set2 w5 (W.heap.size + 1) (.slice ia il ic) (.slice oa ol oc)) (W.heap.size + 1 + 1) (.bool false) (.int .i64 id) (.int .i64 ce) (.int .i64 0) (.int .i64 0) (.int .i64 0))
          refine bodyPost_ret (v := .tuple #[.agg #[.slice ia il ic, .slice oa ol oc], .slice ma mm mc, .agg #[.bool false, .int .i64 id, .int .i64 ce, .int .i64 0, .int .i64 0, .int .i64 0]]) (by simp [results, Tryz.results117, go_sem, p0, p1, q0, q1, q2, q3, q4, q5]) rfl ⟨B5.out.trans (BF N (by have := HNW.out; omega) (by have := HNW.out; omega)), by rw [← HSE.out]; exact Q5'.out.then UFX (fun k hk e => absurd hk (by omega)), .inl ⟨id, ce, _, _, _, _, _, _, _, _, _, HRE.out, rfl⟩⟩)
       | (obtain ⟨⟨p0, p1⟩, ⟨q0, q1, q2, q3, q4, q5⟩, BF, UFX⟩ := fin_a2 P1.out P2.out (by omega) (.slice ia il ic) (.slice oa ol oc) (.bool false) (.int .i64 id) (.int .i64 ce) (.int .i64 0) (.int .i64 0) (.int .i64 0)
          show bodyPost _ _ _ _ _ (set2 (six6 w5 (W.heap.size + 1 + 1) (.bool false) (.int .i64 id) (.int .i64 ce) (.int .i64 0) (.int .i64 0) (.int .i64 0)) (W.heap.size + 1) (.slice ia il ic) (.slice oa ol oc))
          refine bodyPost_ret (v := .tuple #[.agg #[.slice ia il ic, .slice oa ol oc], .slice ma mm mc, .agg #[.bool false, .int .i64 id, .int .i64 ce, .int .i64 0, .int .i64 0, .int .i64 0]]) (by simp [results, Tryz.results117, go_sem, p0, p1, q0, q1, q2, q3, q4, q5]) rfl ⟨B5.out.trans (BF N (by have := HNW.out; omega) (by have := HNW.out; omega)), by rw [← HSE.out]; exact Q5'.out.then UFX (fun k hk e => absurd hk (by omega)), .inl ⟨id, ce, _, _, _, _, _, _, _, _, _, HRE.out, rfl⟩⟩)
       | (obtain ⟨⟨p0, p1⟩, ⟨q0, q1, q2, q3, q4, q5⟩, BF, UFX⟩ := fin_b P1.out P2.out (by omega) (.bool false) (.int .i64 id) (.int .i64 ce) (.int .i64 0) (.int .i64 0) (.int .i64 0)
          show bodyPost _ _ _ _ _ (six6 w5 (W.heap.size + 1 + 1) (.bool false) (.int .i64 id) (.int .i64 ce) (.int .i64 0) (.int .i64 0) (.int .i64 0))
          refine bodyPost_ret (v := .tuple #[.agg #[.slice ia il ic, .slice oa ol oc], .slice ma mm mc, .agg #[.bool false, .int .i64 id, .int .i64 ce, .int .i64 0, .int .i64 0, .int .i64 0]]) (by simp [results, Tryz.results117, go_sem, p0, p1, q0, q1, q2, q3, q4, q5]) rfl ⟨B5.out.trans (BF N (by have := HNW.out; omega) (by have := HNW.out; omega)), by rw [← HSE.out]; exact Q5'.out.then UFX (fun k hk e => absurd hk (by omega)), .inl ⟨id, ce, _, _, _, _, _, _, _, _, _, HRE.out, rfl⟩⟩)
     ·obtain rfl : ce = 0 := Decidable.not_not.1 hc0
      have HEX4 := hide (HEX3.out.trans (if_neg hc0))
      clear hc0
      have hnhi : (s.n id).hi = hs := by rw [← HNV.out]; show n1.hi.s = hs; rw [HNF.out.1]
      have hnri : (s.n id).ri = ri := by rw [← HNV.out]; exact HNF.out.2.1
      have hnks : (s.n id).ks = K.map (·.s) := by rw [← HNV.out]; show n1.ks.p = _; rw [HNF.out.2.2.2]; rfl
      have HNA4 : Hid (notAb ps (s.n id) ↔ 0 < pl ∧ ((0 < lk ∧ cmpI ((K.map (·.s)).getD 0 []) ps < 0) ∨ (0 < lh ∧ cmpI hs ps ≤ 0))) := by
       show _ ↔ _
       unfold notAb
       rw [hnks, hnhi, HPL.out, List.length_map, HLK.out.2, HLK.out.1]
      have HHI4 : Hid ((⟨ha, hc, hs⟩ : Tx).Ok w4) := by show Tx.Ok _ _; rw [← HNF.out.1]; exact HNO4.out.h
      have HKS4 : Hid ((⟨ka, kc, K⟩ : TL).Ok w4) := by show TL.Ok _ _; rw [← HNF.out.2.2.2]; exact HNO4.out.k
      have HHF : Hid (∀ y, ha = some y → 0 < hs.length → F y.block) := fun y e l => HDF.out _ (HNO.out.2.h y (by rw [HNF.out.1]; exact e) (by rw [HNF.out.1]; exact l))
      obtain ⟨NA, hNA⟩ : ∃ NA, decide (notAb ps (s.n id)) = NA := ⟨_, rfl⟩
      have HNB : Hid (NA = true ↔ 0 < pl ∧ ((0 < lk ∧ cmpI ((K.map (·.s)).getD 0 []) ps < 0) ∨ (0 < lh ∧ cmpI hs ps ≤ 0))) := by show _ ↔ _; rw [← hNA, decide_eq_true_iff]; exact HNA4.out
      have HND := hide hNA
      have HRI := hide (And.intro hnhi hnri)
      clear hNA hnhi hnri hnks
      obtain ⟨t0, t1, t2, t3, t4, t5⟩ := Six.of G4.out
      go_upto_region 16 with fail
      go_cut [100] (fun s100 wx => s100 = .bool NA ∧ Hid (∃ j, wx = w4.drewN j))
      case first =>
       have HCH : Hid (∀ Y, (∃ j, Y = w4.drewN j) → Calls Tryz.prog 78 #[.slice ha lh hc, .slice pa pl pc] Y fun e w' => e = .returned (.int .i64 (cmpI hs ps)) ∧ ∃ m, w' = w4.drewN m) := fun Y hY => by
        obtain ⟨q, rfl⟩ := hY
        refine (rcmp_any ha pa lh hc pl pc hs ps (w4.drewN q) HLK.out.1 HPL.out (by have := HHI4.out.z; simp only at this; have := HLK.out.1; omega) (by have := HLO4.out.z; simp only at this; have := HPL.out; omega) (HHI4.out.drewN q).r (HLO4.out.drewN q).r).mono ?_
        rintro e w' ⟨rfl, m, rfl⟩
        exact ⟨rfl, q + m, by rw [World.drewN_drewN]⟩
       by_cases hp0 : pl = 0
       ·have hF : NA = false := by
         cases NA with
         | false => rfl
         | true => have := (HNB.out.1 rfl).1; omega
        subst hF
        subst hp0
        go_wp2_with fail
        go_meet
        exact ⟨rfl, 0, rfl⟩
       ·have i0 : (0 : Int) < (pl : Int) := by omega
        by_cases hk0 : lk = 0
        ·subst hk0
         by_cases hh0 : lh = 0
         ·have hF : NA = false := by
           cases NA with
           | false => rfl
           | true =>
            rcases (HNB.out.1 rfl).2 with h | h
            ·omega
            ·omega
          subst hF
          subst hh0
          go_wp2_with fail
          go_meet
          exact ⟨rfl, 0, rfl⟩
         ·have i1 : (0 : Int) < (lh : Int) := by omega
          have HC2 := hide (HCH.out w4 ⟨0, rfl⟩)
          obtain ⟨cm, hcm⟩ : ∃ cm, cmpI hs ps = cm := ⟨_, rfl⟩
          rw [hcm] at HC2
          have hN : NA = decide (cm ≤ 0) := by
           rw [Bool.eq_iff_iff, decide_eq_true_iff, HNB.out, ← hcm]
           exact ⟨fun h => h.2.elim (fun e => absurd e.1 (by omega)) (fun e => e.2), fun h => ⟨by omega, .inr ⟨by omega, h⟩⟩⟩
          clear HNB hcm
          subst hN
          go_wp2_with fail
          refine HC2.out.mono ?_
          rintro e w9 ⟨rfl, hj9⟩
          have HJ9 := hide hj9
          clear hj9
          go_wp2_with fail
          go_meet
          exact ⟨rfl, HJ9.out⟩
        ·have i2 : (0 : Int) < (lk : Int) := by omega
         have hkl : 0 < K.length := by rw [HLK.out.2]; omega
         obtain ⟨kb, ko, hkka, hkc⟩ := HKS4.out.r 0 hkl
         simp only at hkka hkc
         subst hkka
         rw [Nat.add_zero] at hkc
         have HK0 := hide (HKS4.out.ok K[0] (List.getElem_mem hkl))
         have HG0 : Hid ((K.map (·.s)).getD 0 [] = K[0].s) := by show _ = _; simp [hkl]
         obtain ⟨⟨xa, xc, xs⟩, hx⟩ : ∃ x, K[0] = x := ⟨_, rfl⟩
         rw [hx] at hkc HK0 HG0
         simp only [Tx.v] at hkc
         obtain ⟨xl, hxl⟩ : ∃ xl, xs.length = xl := ⟨_, rfl⟩
         rw [hxl] at hkc
         have HC1 : Hid (Calls Tryz.prog 78 #[.slice xa xl xc, .slice pa pl pc] w4 fun e w' => e = .returned (.int .i64 (cmpI xs ps)) ∧ ∃ m, w' = w4.drewN m) := rcmp_any xa pa xl xc pl pc xs ps w4 hxl HPL.out (by have := HK0.out.z; simp only at this; omega) (by have := HLO4.out.z; simp only at this; have := HPL.out; omega) HK0.out.r HLO4.out.r
         obtain ⟨c1, hc1⟩ : ∃ c1, cmpI xs ps = c1 := ⟨_, rfl⟩
         rw [hc1] at HC1
         have HCC : Hid (cmpI ((K.map (·.s)).getD 0 []) ps = c1) := by show _ = _; rw [HG0.out]; exact hc1
         clear hx hxl hc1
         by_cases hc1 : c1 < 0
         ·have hT : NA = true := HNB.out.2 ⟨by omega, .inl ⟨by omega, by rw [HCC.out]; exact hc1⟩⟩
          subst hT
          go_wp2_with fail
          refine HC1.out.mono ?_
          rintro e w8 ⟨rfl, hj8⟩
          have HJ8 := hide hj8
          clear hj8
          go_wp2_with fail
          go_meet
          exact ⟨rfl, HJ8.out⟩
         ·have HD1 : Hid (decide (c1 < 0) = false) := decide_eq_false hc1
          by_cases hh0 : lh = 0
          ·have hF : NA = false := by
            cases NA with
            | false => rfl
            | true =>
             rcases (HNB.out.1 rfl).2 with h | h
             ·rw [HCC.out] at h; omega
             ·omega
           subst hF
           subst hh0
           go_wp2_with fail
           refine HC1.out.mono ?_
           rintro e w8 ⟨rfl, hj8⟩
           have HJ8 := hide hj8
           obtain ⟨j8, hj8'⟩ := hj8
           have G8 : w8.heap[b18]? = _ := (show w8.heap[b18]? = w4.heap[b18]? by rw [hj8']; rfl).trans G4.out
           obtain ⟨u0, u1, u2, u3, u4, u5⟩ := Six.of G8
           clear hj8' G8
           go_wp2_with fail
           go_meet
           exact ⟨by rw [HD1.out], HJ8.out⟩
          ·have i1 : (0 : Int) < (lh : Int) := by omega
           obtain ⟨cm, hcm⟩ : ∃ cm, cmpI hs ps = cm := ⟨_, rfl⟩
           rw [hcm] at HCH
           have hN : NA = decide (cm ≤ 0) := by
            rw [Bool.eq_iff_iff, decide_eq_true_iff, HNB.out, ← hcm]
            exact ⟨fun h => h.2.elim (fun e => absurd e.2 (by rw [HCC.out]; exact hc1)) (fun e => e.2), fun h => ⟨by omega, .inr ⟨by omega, h⟩⟩⟩
           clear HNB hcm
           subst hN
           go_wp2_with fail
           refine HC1.out.mono ?_
           rintro e w8 ⟨rfl, hj8⟩
           have HC2 := hide (HCH.out w8 hj8)
           obtain ⟨j8, hj8'⟩ := hj8
           have G8 : w8.heap[b18]? = _ := (show w8.heap[b18]? = w4.heap[b18]? by rw [hj8']; rfl).trans G4.out
           obtain ⟨u0, u1, u2, u3, u4, u5⟩ := Six.of G8
           clear hj8' G8
           go_wp2_with fail
           refine HC2.out.mono ?_
           rintro e w9 ⟨rfl, hj9⟩
           have HJ9 := hide hj9
           clear hj9
           go_wp2_with fail
           go_meet
           exact ⟨by rw [HD1.out, Bool.false_or], HJ9.out⟩
      case rest =>
       obtain ⟨rfl, HJ⟩ := hcut
       rename World => wx
       have B4X : Hid (Below w4.heap.size w4 wx) := by obtain ⟨j, hj⟩ := HJ.out; show Below _ _ _; rw [hj]; exact below_drewN (Below.refl _ _) j
       have BW5 : Hid (Below N W wx) := BW4.out.trans (B4X.out.mono RC4.out.nw)
       have RC5 := hide (RC4.out.below B4X.out)
       have Q5 := hide (Q4.out.below B4X.out)
       have G5 : Hid (wx.heap[b18]? = _) := (B4X.out.block _ (lt_of_block G4.out)).trans G4.out
       have HLB5 : Hid (wx.heap[W.heap.size + 1 + 1 + 1]? = _) := (B4X.out.block _ (lt_of_block HLB4.out)).trans HLB4.out
       have HBX5 : Hid (wx.heap[W.heap.size + 1]? = some (.cells #[.slice none 0 0, .slice none 0 0] 141 (0, 0)) ∧ wx.heap[W.heap.size + 1 + 1]? = some (.cells #[.bool false, .int .i64 0, .int .i64 0, .int .i64 0, .int .i64 0, .int .i64 0] 42 (0, 0))) := ⟨(B4X.out.block _ (lt_of_block HBX4.out.1)).trans HBX4.out.1, (B4X.out.block _ (lt_of_block HBX4.out.2)).trans HBX4.out.2⟩
       have HCF5 : Hid (wx.heap[W.heap.size]? = _) := (B4X.out.block _ (lt_of_block HCF4.out)).trans HCF4.out
       have HHI5 := hide (HHI4.out.below B4X.out)
       have HLO5 := hide (HLO4.out.below B4X.out)
       clear t0 t1 t2 t3 t4 t5 HJ
       by_cases hna : notAb ps (s.n id)
       ·have hT : NA = true := by rw [← HND.out]; exact decide_eq_true hna
        subst hT
        have he : er = 112 := by rw [HEX4.out, if_pos hna]
        have HRE : Hid (R = .inl (id, 112)) := by
         show _ = _
         have := HRR.out
         rw [he] at this
         simpa using this
        clear he hna
        clear HLB HBX BWX HLB3 HBX3 BW3 HLB4 HBX4 BW4
        have HLB := HLB5
        have HBX := HBX5
        have BWX := BW5
        obtain ⟨l0, l1⟩ : wx.cell? ⟨W.heap.size + 1 + 1 + 1, 0, none⟩ = some (.slice ia il ic) ∧ wx.cell? ⟨W.heap.size + 1 + 1 + 1, 1, none⟩ = some (.slice oa ol oc) := ⟨by rw [cell_of_row _ _ _ _ _ _ HLB.out]; rfl, by rw [cell_of_row _ _ _ _ _ _ HLB.out]; rfl⟩
        obtain ⟨a0, a1⟩ : wx.cell? ⟨W.heap.size + 1, 0, none⟩ = some (.slice none 0 0) ∧ wx.cell? ⟨W.heap.size + 1, 1, none⟩ = some (.slice none 0 0) := ⟨by rw [cell_of_row _ _ _ _ _ _ HBX.out.1]; rfl, by rw [cell_of_row _ _ _ _ _ _ HBX.out.1]; rfl⟩
        have fa := fun j => frozen_of HBX.out.1 j
        have HWR : Hid (∀ Y, Calls Tryz.prog 116 #[.int .i64 id, .int .i64 112] Y fun e w' => e = .returned (.agg #[.bool false, .int .i64 id, .int .i64 112, .int .i64 0, .int .i64 0, .int .i64 0]) ∧ Below Y.heap.size Y w') := fun Y => rwrong_any id 112 Y
        obtain ⟨wa, hwa⟩ : ∃ x, x = (wx.drew.setCell ⟨W.heap.size + 1, 0, none⟩ (.slice ia il ic)).setCell ⟨W.heap.size + 1, 1, none⟩ (.slice oa ol oc) := ⟨_, rfl⟩
        have HWA := hide hwa
        have GA1 : Hid (wa.heap[W.heap.size + 1]? = some (.cells #[.slice ia il ic, .slice oa ol oc] 141 (0, 0))) := by show _ = _; rw [hwa]; exact block_setCell (block_setCell (w := wx.drew) HBX.out.1 0 _) 1 _
        have GA2 : Hid (wa.heap[W.heap.size + 1 + 1]? = some (.cells #[.bool false, .int .i64 0, .int .i64 0, .int .i64 0, .int .i64 0, .int .i64 0] 42 (0, 0))) := by show _ = _; rw [hwa, Below.heap_setCell _ _ _ _ (by simp only; omega), Below.heap_setCell _ _ _ _ (by simp only; omega)]; exact HBX.out.2
        have GA3 : Hid (wa.heap[W.heap.size + 1 + 1 + 1]? = some (.cells #[.slice ia il ic, .slice oa ol oc] 141 (0, 0))) := by show _ = _; rw [hwa, Below.heap_setCell _ _ _ _ (by simp only; omega), Below.heap_setCell _ _ _ _ (by simp only; omega)]; exact HLB.out
        have QWA : Hid (Upd S W wa) := by show Upd _ _ _; rw [hwa]; exact ((Q5.out.up.drew).setCell ⟨W.heap.size + 1, 0, none⟩ _ (fun e => absurd e (by simp only; omega))).setCell ⟨W.heap.size + 1, 1, none⟩ _ (fun e => absurd e (by simp only; omega))
        have BWA : Hid (Below N W wa) := by show Below _ _ _; rw [hwa]; exact ((below_drew BWX.out).setCell (by have := HNW.out; simp only; omega) _).setCell (by have := HNW.out; simp only; omega) _
        have n1 : ¬ W.heap.size + 1 + 1 + 1 = W.heap.size + 1 := by omega
        have n2 : ¬ W.heap.size + 1 + 1 + 1 = W.heap.size + 1 + 1 := by omega
        have n3 : ¬ W.heap.size + 1 = W.heap.size + 1 + 1 := by omega
        have n4 : ¬ W.heap.size + 1 + 1 = W.heap.size + 1 := by omega
        have n5 : ¬ W.heap.size + 1 = W.heap.size + 1 + 1 + 1 := by omega
        have n6 : ¬ W.heap.size + 1 + 1 = W.heap.size + 1 + 1 + 1 := by omega
        clear hwa
        go_wp2_with fail
        go_region_held3 (fun Y => Y.cell? ⟨W.heap.size + 1 + 1 + 1, 0, none⟩ = some (.slice ia il ic) ∧ Y.cell? ⟨W.heap.size + 1 + 1 + 1, 1, none⟩ = some (.slice oa ol oc)) (go_keep) (first
         | (go_at_call 116; rw [← HWA.out]; refine (HWR.out wa).mono ?_; rintro e w5 ⟨rfl, hb5⟩; have P1 : Hid (w5.heap[W.heap.size + 1]? = _) := (hb5.block _ (lt_of_block GA1.out)).trans GA1.out; have P2 : Hid (w5.heap[W.heap.size + 1 + 1]? = _) := (hb5.block _ (lt_of_block GA2.out)).trans GA2.out; have P3 : Hid (w5.heap[W.heap.size + 1 + 1 + 1]? = _) := (hb5.block _ (lt_of_block GA3.out)).trans GA3.out; have Q5' : Hid (Upd S W w5) := QWA.out.trans (Upd.of_below hb5 S); have B5 : Hid (Below N W w5) := BWA.out.trans (hb5.mono (by have := BWA.out.size; have := HNW.out; omega)); have k0 : w5.cell? ⟨W.heap.size + 1 + 1 + 1, 0, none⟩ = some (.slice ia il ic) := (by rw [cell_of_row _ _ _ _ _ _ P3.out]; rfl); have k1 : w5.cell? ⟨W.heap.size + 1 + 1 + 1, 1, none⟩ = some (.slice oa ol oc) := (by rw [cell_of_row _ _ _ _ _ _ P3.out]; rfl); obtain ⟨y0, y1, y2, y3, y4, y5⟩ := Six.of P2.out; have fb := fun j => frozen_of P2.out j; clear hb5)
         | (go_at_call 116; refine (HWR.out wx.drew).mono ?_; rintro e w5 ⟨rfl, hb5⟩; have P1 : Hid (w5.heap[W.heap.size + 1]? = _) := (hb5.block _ (lt_of_block HBX.out.1)).trans HBX.out.1; have P2 : Hid (w5.heap[W.heap.size + 1 + 1]? = _) := (hb5.block _ (lt_of_block HBX.out.2)).trans HBX.out.2; have P3 : Hid (w5.heap[W.heap.size + 1 + 1 + 1]? = _) := (hb5.block _ (lt_of_block HLB.out)).trans HLB.out; have Q5' : Hid (Upd S W w5) := (Q5.out.up.drew).trans (Upd.of_below hb5 S); have B5 : Hid (Below N W w5) := (below_drew BWX.out).trans (hb5.mono (by have := BWX.out.size; have := HNW.out; show N ≤ wx.heap.size; omega)); have k0 : w5.cell? ⟨W.heap.size + 1 + 1 + 1, 0, none⟩ = some (.slice ia il ic) := (by rw [cell_of_row _ _ _ _ _ _ P3.out]; rfl); have k1 : w5.cell? ⟨W.heap.size + 1 + 1 + 1, 1, none⟩ = some (.slice oa ol oc) := (by rw [cell_of_row _ _ _ _ _ _ P3.out]; rfl); have ka0 : w5.cell? ⟨W.heap.size + 1, 0, none⟩ = some (.slice none 0 0) := (by rw [cell_of_row _ _ _ _ _ _ P1.out]; rfl); have ka1 : w5.cell? ⟨W.heap.size + 1, 1, none⟩ = some (.slice none 0 0) := (by rw [cell_of_row _ _ _ _ _ _ P1.out]; rfl); have fka := fun j => frozen_of P1.out j; obtain ⟨y0, y1, y2, y3, y4, y5⟩ := Six.of P2.out; have fb := fun j => frozen_of P2.out j; clear hb5)
         | fail)
        all_goals
         go_wp2_with fail
         (try simp only [Exit.inBlock, Exit.then])
         first
         | (obtain ⟨⟨p0, p1⟩, ⟨q0, q1, q2, q3, q4, q5⟩, BF, UFX⟩ := fin_a1 P1.out P2.out (by omega) (.slice ia il ic) (.slice oa ol oc) (.bool false) (.int .i64 id) (.int .i64 112) (.int .i64 0) (.int .i64 0) (.int .i64 0)
            show bodyPost _ _ _ _ _ (six6 (set2 w5 (W.heap.size + 1) (.slice ia il ic) (.slice oa ol oc)) (W.heap.size + 1 + 1) (.bool false) (.int .i64 id) (.int .i64 112) (.int .i64 0) (.int .i64 0) (.int .i64 0))
            refine bodyPost_ret (v := .tuple #[.agg #[.slice ia il ic, .slice oa ol oc], .slice ma mm mc, .agg #[.bool false, .int .i64 id, .int .i64 112, .int .i64 0, .int .i64 0, .int .i64 0]]) (by simp [results, Tryz.results117, go_sem, p0, p1, q0, q1, q2, q3, q4, q5]) rfl ⟨B5.out.trans (BF N (by have := HNW.out; omega) (by have := HNW.out; omega)), by rw [← HSE.out]; exact Q5'.out.then UFX (fun k hk e => absurd hk (by omega)), .inl ⟨id, 112, _, _, _, _, _, _, _, _, _, HRE.out, rfl⟩⟩)
         | (obtain ⟨⟨p0, p1⟩, ⟨q0, q1, q2, q3, q4, q5⟩, BF, UFX⟩ := fin_a2 P1.out P2.out (by omega) (.slice ia il ic) (.slice oa ol oc) (.bool false) (.int .i64 id) (.int .i64 112) (.int .i64 0) (.int .i64 0) (.int .i64 0)
            show bodyPost _ _ _ _ _ (set2 (six6 w5 (W.heap.size + 1 + 1) (.bool false) (.int .i64 id) (.int .i64 112) (.int .i64 0) (.int .i64 0) (.int .i64 0)) (W.heap.size + 1) (.slice ia il ic) (.slice oa ol oc))
            refine bodyPost_ret (v := .tuple #[.agg #[.slice ia il ic, .slice oa ol oc], .slice ma mm mc, .agg #[.bool false, .int .i64 id, .int .i64 112, .int .i64 0, .int .i64 0, .int .i64 0]]) (by simp [results, Tryz.results117, go_sem, p0, p1, q0, q1, q2, q3, q4, q5]) rfl ⟨B5.out.trans (BF N (by have := HNW.out; omega) (by have := HNW.out; omega)), by rw [← HSE.out]; exact Q5'.out.then UFX (fun k hk e => absurd hk (by omega)), .inl ⟨id, 112, _, _, _, _, _, _, _, _, _, HRE.out, rfl⟩⟩)
         | (obtain ⟨⟨p0, p1⟩, ⟨q0, q1, q2, q3, q4, q5⟩, BF, UFX⟩ := fin_b P1.out P2.out (by omega) (.bool false) (.int .i64 id) (.int .i64 112) (.int .i64 0) (.int .i64 0) (.int .i64 0)
            show bodyPost _ _ _ _ _ (six6 w5 (W.heap.size + 1 + 1) (.bool false) (.int .i64 id) (.int .i64 112) (.int .i64 0) (.int .i64 0) (.int .i64 0))
            refine bodyPost_ret (v := .tuple #[.agg #[.slice ia il ic, .slice oa ol oc], .slice ma mm mc, .agg #[.bool false, .int .i64 id, .int .i64 112, .int .i64 0, .int .i64 0, .int .i64 0]]) (by simp [results, Tryz.results117, go_sem, p0, p1, q0, q1, q2, q3, q4, q5]) rfl ⟨B5.out.trans (BF N (by have := HNW.out; omega) (by have := HNW.out; omega)), by rw [← HSE.out]; exact Q5'.out.then UFX (fun k hk e => absurd hk (by omega)), .inl ⟨id, 112, _, _, _, _, _, _, _, _, _, HRE.out, rfl⟩⟩)
       ·have hF : NA = false := by rw [← HND.out]; exact decide_eq_false hna
        subst hF
        have he : er = 0 := by rw [HEX4.out, if_neg hna]
        have HRN : Hid (R = if ri = 0 then .inr (cur ++ [(id, ps)]) else s.chn (fun p => nchkE p nd lf inn fl bk) nlv M g0 ri hs (cur ++ [(id, ps)])) := by
         show _ = _
         have := HRR.out
         rw [he, HRI.out.1, HRI.out.2] at this
         simpa using this
        have HMT2 : Hid (Met s (M ++ (cur ++ [(id, ps)]).map (·.1))) := by
         have := HMT.out.add (by rw [← HER.out]; exact he)
         show Met _ _
         rw [List.map_append, ← List.append_assoc]
         exact this
        clear he hna
        have HMQ : Hid ((M ++ cur.map (·.1)).length = mm) := by show _ = _; rw [List.length_append, List.length_map, HML.out]; exact HMM.out
        have OM : Hid (wx.ownsRow N 3 1 (.slice ma mm mc) mm ((M ++ cur.map (·.1)).map (Value.int .i64))) := by show World.ownsRow _ _ _ _ _ _ _; rw [← HMQ.out]; exact RC5.out.oM
        have Q5a := hide (Q5.out.below ((Below.refl _ _).alloc (Nat.le_refl _) (.cells #[.int .i64 id] 3)))
        have RC5a := hide (RC5.out.below ((Below.refl _ _).alloc (Nat.le_refl _) (.cells #[.int .i64 id] 3)))
        have hil : il ≤ 65536 := by have h1 := HIL.out.1; have h2 := congrArg List.length HLS2.out.1; simp only [List.length_map] at h2; have := HML.out; have := HMM.out; omega
        have hol : ol ≤ 65536 := by have h1 := HIL.out.2; have h2 := congrArg List.length HLS2.out.2; rw [TL.p_len, List.length_map] at h2; simp only at h2; have := HML.out; have := HMM.out; omega
        have hnw5 : Hid (N ≤ wx.heap.size) := RC5.out.nw
        have hb18 : W.heap.size + 4 ≤ b18 := by have := HB18.out; omega
        have HBN : Hid (b18 ≠ W.heap.size + 1 + 1 + 1 ∧ W.heap.size + 1 ≠ W.heap.size + 1 + 1 + 1 ∧ W.heap.size + 1 + 1 ≠ W.heap.size + 1 + 1 + 1 ∧ W.heap.size ≠ W.heap.size + 1 + 1 + 1) := ⟨by omega, by omega, by omega, by omega⟩
        have HLO7 : Hid (∀ (Y Z : World), Below Y.heap.size Y Z → Below N wx Y → N ≤ Y.heap.size → (⟨pa, pc, ps⟩ : Tx).Ok Z) := fun Y Z h1 h2 h3 => HLO5.out.updL (S := fun k => N ≤ k) (by have hb := h2.trans (h1.mono h3); exact ⟨hb.os, hb.tape, hb.output, hb.size, fun k _ hk => hb.block k (by omega)⟩) (fun y e l e2 => by have := RC5.out.fN _ (HLI.out y e l); omega)
        have n1 : ¬ b18 = W.heap.size + 1 + 1 + 1 := by omega
        have n2 : ¬ W.heap.size + 1 + 1 + 1 = b18 := by omega
        have n3 : ¬ W.heap.size + 1 = W.heap.size + 1 + 1 + 1 := by omega
        have n4 : ¬ W.heap.size + 1 + 1 + 1 = W.heap.size + 1 := by omega
        have n5 : ¬ W.heap.size + 1 + 1 = W.heap.size + 1 + 1 + 1 := by omega
        have n6 : ¬ W.heap.size + 1 + 1 + 1 = W.heap.size + 1 + 1 := by omega
        have n7 : ¬ W.heap.size + 1 = W.heap.size + 1 + 1 := by omega
        have n8 : ¬ W.heap.size + 1 + 1 = W.heap.size + 1 := by omega
        have HIDS : Hid ((M ++ cur.map (·.1)) ++ [id] = M ++ (cur ++ [(id, ps)]).map (·.1)) := by show _ = _; simp
        clear hb18
        by_cases hri : ri = 0
        ·rw [if_pos hri] at HRN
         have hri1 : (ri == 0) = true := by rw [hri]; rfl
         have hri2 : decide (ri = 0) = true := decide_eq_true hri
         have HRI0 := hide hri
         clear hri
         go_upto_region 21 with (first
          | (at_builtin; refine append_mineN rfl (.tmp 105) (.tmp 107) 31 rfl N 3 iI (.int .i64 0) 1 8 Tryz.underlying31 hiI hzI0 hzI1 hzI2 rfl (by decide) (.slice ma mm mc) mm ((M ++ cur.map (·.1)).map (Value.int .i64)) rfl (OM.out.alloc _) ⟨wx.heap.size, 0, none⟩ 1 1 [.int .i64 id] rfl rfl (cell_one_new _ _ _) (by intro u hu; simp at hu; subst hu; rfl) (by omega) (by unfold maxLen; omega) (by omega) (by have := hnw5.out; simp; omega) ?_; intro g6 c6 w6 o6 gr6 k6; have S6 := hide (RC5a.out.addM id (g' := g6) (c' := c6) (w6 := w6) (by rw [HMQ.out]; exact o6) (by rw [HMQ.out]; exact gr6) (by rw [HMQ.out]; exact k6)); have K6 : Hid (Kp wx w6 (W.heap.size + 1 + 1 + 1)) := (Kp.of_below ((Below.refl _ _).alloc (Nat.le_refl _) _)).trans S6.out.2.1; have BN6 : Hid (Below N wx w6) := (((Below.refl _ _).alloc (Nat.le_refl _) _).mono hnw5.out).trans S6.out.2.2; have RC6 := hide S6.out.1; have m60 : w6.cell? ⟨W.heap.size + 1 + 1 + 1, 0, none⟩ = some (.slice ia il ic) := (by rw [cell_of_row _ _ _ _ _ _ RC6.out.bl]; simp only [IL.v, HIL.out.1]; rfl); have OL6 : Hid (w6.ownsRow N 3 1 (.slice ia il ic) il (is.map (Value.int .i64))) := (by have := RC6.out.oL; simp only [IL.v, HIL.out.1] at this; exact this); have hnw6 : Hid (N ≤ w6.heap.size) := RC6.out.nw; have RC6a := hide (RC6.out.below ((Below.refl _ _).alloc (Nat.le_refl _) (.cells #[.int .i64 id] 3))); have Q6 := hide (Q5a.out.addM gr6 k6 (mm + 1) c6); have Q6a := hide (Q6.out.below ((Below.refl _ _).alloc (Nat.le_refl _) (.cells #[.int .i64 id] 3))); clear o6 gr6 k6)
          | (at_builtin; refine append_mineN rfl (.tmp 110) (.tmp 112) 31 rfl N 3 iI (.int .i64 0) 1 8 Tryz.underlying31 hiI hzI0 hzI1 hzI2 rfl (by decide) (.slice ia il ic) il (is.map (Value.int .i64)) rfl (OL6.out.alloc _) ⟨w6.heap.size, 0, none⟩ 1 1 [.int .i64 id] rfl rfl (cell_one_new _ _ _) (by intro u hu; simp at hu; subst hu; rfl) (by omega) (by unfold maxLen; omega) (by omega) (by have := hnw6.out; simp; omega) ?_; intro g7 c7 w7 o7 gr7 k7; have S7 := hide (RC6a.out.addL id (g' := g7) (c' := c7) (w6 := w7) (by simp only [HIL.out.1]; exact o7) (by simp only [IL.v, HIL.out.1]; exact gr7) (by simp only [IL.v, HIL.out.1]; exact k7)); have BL7 : Hid (w7.heap[W.heap.size + 1 + 1 + 1]? = some (.cells #[.slice ia il ic, .slice oa ol oc] 141 (0, 0))) := (by have h1 := RC6a.out.bl_at RC6a.out.oL (by decide) (by simp only [IL.v, HIL.out.1]; exact gr7); simp only [IL.v, TL.v, HIL.out.1, HIL.out.2] at h1; exact h1); have m70 : w7.cell? ⟨W.heap.size + 1 + 1 + 1, 0, none⟩ = some (.slice ia il ic) := (by rw [cell_of_row _ _ _ _ _ _ BL7.out]; rfl); have m71 : w7.cell? ⟨W.heap.size + 1 + 1 + 1, 1, none⟩ = some (.slice oa ol oc) := (by rw [cell_of_row _ _ _ _ _ _ BL7.out]; rfl); have f7 := fun j => frozen_of BL7.out j; simp only [HIL.out.1] at S7; have K7 : Hid (Kp wx (w7.setCell ⟨W.heap.size + 1 + 1 + 1, 0, none⟩ (.slice (some ⟨g7, 0, none⟩) (il + 1) c7)) (W.heap.size + 1 + 1 + 1)) := K6.out.trans ((Kp.of_below ((Below.refl _ _).alloc (Nat.le_refl _) _)).trans S7.out.2.1); have BN7 : Hid (Below N wx (w7.setCell ⟨W.heap.size + 1 + 1 + 1, 0, none⟩ (.slice (some ⟨g7, 0, none⟩) (il + 1) c7))) := BN6.out.trans ((((Below.refl _ _).alloc (Nat.le_refl _) _).mono hnw6.out).trans S7.out.2.2); have RC7 := hide S7.out.1; have OO7 : Hid ((w7.setCell ⟨W.heap.size + 1 + 1 + 1, 0, none⟩ (.slice (some ⟨g7, 0, none⟩) (il + 1) c7)).ownsRow N 23 1 (.slice oa ol oc) ol (ol'.map Tx.v)) := (by have := RC7.out.oO; simp only [TL.v, HIL.out.2] at this; exact this); have hnw7 : Hid (N ≤ (w7.setCell ⟨W.heap.size + 1 + 1 + 1, 0, none⟩ (.slice (some ⟨g7, 0, none⟩) (il + 1) c7)).heap.size) := RC7.out.nw; have RC7a := hide (RC7.out.below ((Below.refl _ _).alloc (Nat.le_refl _) (.cells #[.slice pa pl pc] 23))); have Q7 := hide (Q6a.out.addL gr7 k7 (il + 1) c7 (W.heap.size + 1 + 1 + 1) 0 (by omega) (.slice (some ⟨g7, 0, none⟩) (il + 1) c7)); have Q7a := hide (Q7.out.below ((Below.refl _ _).alloc (Nat.le_refl _) (.cells #[.slice pa pl pc] 23))); clear o7 gr7 k7)
          | (at_builtin; refine append_mineN rfl (.tmp 116) (.tmp 118) 30 rfl N 23 iS (.slice none 0 0) 1 24 Tryz.underlying30 hiS hzS0 hzS1 hzS2 rfl (by decide) (.slice oa ol oc) ol (ol'.map Tx.v) rfl (OO7.out.alloc _) ⟨(w7.setCell ⟨W.heap.size + 1 + 1 + 1, 0, none⟩ (.slice (some ⟨g7, 0, none⟩) (il + 1) c7)).heap.size, 0, none⟩ 1 1 [.slice pa pl pc] (by simp [Act.eval]) rfl (cell_one_new _ _ _) (by intro u hu; simp at hu; subst hu; rfl) (by omega) (by unfold maxLen; omega) (by omega) (by have := hnw7.out; simp at this ⊢; omega) ?_; intro g8 c8 w8 o8 gr8 k8; have O8 := hide o8; have GR8 := hide gr8; have BL8 : Hid (w8.heap[W.heap.size + 1 + 1 + 1]? = some (.cells #[.slice (some ⟨g7, 0, none⟩) (il + 1) c7, .slice oa ol oc] 141 (0, 0))) := (by have h1 := RC7a.out.bl_at RC7a.out.oO (by decide) (by simp only [TL.v, HIL.out.2]; exact gr8); simp only [IL.v, TL.v, List.length_append, List.length_cons, List.length_nil, HIL.out.1, HIL.out.2] at h1; exact h1); have m80 : w8.cell? ⟨W.heap.size + 1 + 1 + 1, 0, none⟩ = some (.slice (some ⟨g7, 0, none⟩) (il + 1) c7) := (by rw [cell_of_row _ _ _ _ _ _ BL8.out]; rfl); have m81 : w8.cell? ⟨W.heap.size + 1 + 1 + 1, 1, none⟩ = some (.slice oa ol oc) := (by rw [cell_of_row _ _ _ _ _ _ BL8.out]; rfl); have f8 := fun j => frozen_of BL8.out j; have K8 : Hid (Kp wx w8 (W.heap.size + 1 + 1 + 1)) := K7.out.trans ((Kp.of_below ((Below.refl _ _).alloc (Nat.le_refl _) _)).trans (Kp.grown RC7a.out.oO (.inr rfl) (by simp only [TL.v, HIL.out.2]; exact gr8))); have G8n : Hid (w8.heap[b18]? = _) := K8.out b18 _ _ HBN.out.1 (by decide) (by decide) G5.out; have G8a : Hid (w8.heap[W.heap.size + 1]? = _) := K8.out (W.heap.size + 1) _ _ HBN.out.2.1 (by decide) (by decide) HBX5.out.1; have G8b : Hid (w8.heap[W.heap.size + 1 + 1]? = _) := K8.out (W.heap.size + 1 + 1) _ _ HBN.out.2.2.1 (by decide) (by decide) HBX5.out.2; have G8c : Hid (w8.heap[W.heap.size]? = _) := K8.out W.heap.size _ _ HBN.out.2.2.2 (by decide) (by decide) HCF5.out; obtain ⟨u0, u1, u2, u3, u4, u5⟩ := Six.of G8n.out; obtain ⟨v0, v1⟩ := two_at G8a.out; have fv := fun j => frozen_of G8a.out j; obtain ⟨y0, y1, y2, y3, y4, y5⟩ := Six.of G8b.out; have fy := fun j => frozen_of G8b.out j; have S8 := hide (RC7a.out.addO ⟨pa, pc, ps⟩ (HLO7.out _ _ ((Below.refl _ _).alloc (Nat.le_refl _) _) BN7.out hnw7.out) HLI.out (g' := g8) (c' := c8) (w6 := w8) (by simp only [HIL.out.2, Tx.v, HPL.out]; exact o8) (by simp only [TL.v, HIL.out.2]; exact gr8)); simp only [HIL.out.2] at S8; have BN8 : Hid (Below N wx (w8.setCell ⟨W.heap.size + 1 + 1 + 1, 1, none⟩ (.slice (some ⟨g8, 0, none⟩) (ol + 1) c8))) := BN7.out.trans ((((Below.refl _ _).alloc (Nat.le_refl _) _).mono hnw7.out).trans S8.out.2.2); have Q8 := hide (Q7a.out.addO gr8 k8 (ol + 1) c8 (W.heap.size + 1 + 1 + 1) 1 (by omega) (.slice (some ⟨g8, 0, none⟩) (ol + 1) c8)); clear o8 gr8 k8)
          | fail)
         obtain ⟨w9, hw9⟩ : ∃ x, x = w8.setCell ⟨W.heap.size + 1 + 1 + 1, 1, none⟩ (.slice (some ⟨g8, 0, none⟩) (ol + 1) c8) := ⟨_, rfl⟩
         have G9a : Hid (w9.heap[W.heap.size + 1]? = some (.cells #[.slice none 0 0, .slice none 0 0] 141 (0, 0))) := by show _ = _; rw [hw9, Below.heap_setCell _ _ _ _ (by simp only; omega)]; exact G8a.out
         have G9b : Hid (w9.heap[W.heap.size + 1 + 1]? = some (.cells #[.bool false, .int .i64 0, .int .i64 0, .int .i64 0, .int .i64 0, .int .i64 0] 42 (0, 0))) := by show _ = _; rw [hw9, Below.heap_setCell _ _ _ _ (by simp only; omega)]; exact G8b.out
         have G9n : Hid (w9.heap[b18]? = some (.cells #[.int .i64 nlv, .slice ha lh hc, .int .i64 ri, .slice ka lk kc, .slice va lw vc, .slice ca lcc cc] 35 (0, 0))) := by show _ = _; rw [hw9, Below.heap_setCell _ _ _ _ (by simp only; omega)]; exact G8n.out
         have G9l : Hid (w9.heap[W.heap.size + 1 + 1 + 1]? = some (.cells #[.slice (some ⟨g7, 0, none⟩) (il + 1) c7, .slice (some ⟨g8, 0, none⟩) (ol + 1) c8] 141 (0, 0))) := by show _ = _; rw [hw9]; exact block_setCell BL8.out 1 _
         have HW9 := hide hw9
         have RC9 := hide S8.out.1
         rw [← hw9] at RC9
         have B9 : Hid (Below N W w9) := by show Below _ _ _; rw [hw9]; exact BW5.out.trans BN8.out
         clear u0 u1 u2 u3 u4 u5 v0 v1 fv y0 y1 y2 y3 y4 y5 fy m80 m81 f8 m70 m71 f7 m60 hw9
         rw [← HW9.out]
         obtain ⟨u0, u1, u2, u3, u4, u5⟩ := Six.of G9n.out
         obtain ⟨v0, v1⟩ := two_at G9a.out
         have fv := fun j => frozen_of G9a.out j
         obtain ⟨y0, y1, y2, y3, y4, y5⟩ := Six.of G9b.out
         have fy := fun j => frozen_of G9b.out j
         obtain ⟨x0, x1⟩ := two_at G9l.out
         go_wp2_with fail
         (try simp only [Exit.inBlock, Exit.then])
         obtain ⟨⟨p0, p1⟩, ⟨q0, q1, q2, q3, q4, q5⟩, BF, UFX⟩ := fin_a1 G9a.out G9b.out (by omega) (.slice (some ⟨g7, 0, none⟩) (il + 1) c7) (.slice (some ⟨g8, 0, none⟩) (ol + 1) c8) (.bool true) (.int .i64 0) (.int .i64 0) (.int .i64 0) (.int .i64 0) (.int .i64 0)
         have UF : Upd (fun k => k = W.heap.size + 1 ∨ k = W.heap.size + 1 + 1) w9 (six6 (set2 w9 (W.heap.size + 1) (.slice (some ⟨g7, 0, none⟩) (il + 1) c7) (.slice (some ⟨g8, 0, none⟩) (ol + 1) c8)) (W.heap.size + 1 + 1) (.bool true) (.int .i64 0) (.int .i64 0) (.int .i64 0) (.int .i64 0) (.int .i64 0)) := ((set2_upd _ _ _ _).mono (fun k _ e => Or.inl e)).then (six_upd (fun k => k = W.heap.size + 1 + 1) _ _ _ _ _ _ _ _ rfl) (fun k _ e => .inr e)
         have RCF := RC9.out.box UF G9a.out G9b.out (by decide) (by decide) (by omega) (by omega) (by have := HNW.out; omega) (by have := HNW.out; omega)
         show bodyPost _ _ _ _ _ (six6 (set2 w9 (W.heap.size + 1) (.slice (some ⟨g7, 0, none⟩) (il + 1) c7) (.slice (some ⟨g8, 0, none⟩) (ol + 1) c8)) (W.heap.size + 1 + 1) (.bool true) (.int .i64 0) (.int .i64 0) (.int .i64 0) (.int .i64 0) (.int .i64 0))
         refine bodyPost_ret (v := .tuple #[.agg #[.slice (some ⟨g7, 0, none⟩) (il + 1) c7, .slice (some ⟨g8, 0, none⟩) (ol + 1) c8], .slice (some ⟨g6, 0, none⟩) (mm + 1) c6, .agg #[.bool true, .int .i64 0, .int .i64 0, .int .i64 0, .int .i64 0, .int .i64 0]]) (by simp [results, Tryz.results117, go_sem, p0, p1, q0, q1, q2, q3, q4, q5]) rfl ⟨B9.out.trans (BF N (by have := HNW.out; omega) (by have := HNW.out; omega)), by rw [← HSE.out]; exact (show Upd S W w9 by rw [HW9.out]; exact Q8.out.up).then UF (fun k hk e => absurd hk (by omega)), .inr ⟨cur ++ [(id, ps)], W.heap.size + 1 + 1 + 1, ⟨some ⟨g7, 0, none⟩, c7, is ++ [id]⟩, ⟨some ⟨g8, 0, none⟩, c8, ol' ++ [⟨pa, pc, ps⟩]⟩, some ⟨g6, 0, none⟩, c6, HRN.out, ?_, ?_, ?_, ?_, (by have h9 := Q8.out.sM; rw [HSE.out] at h9; intro k hk; exact h9 k hk)⟩⟩
         ·simp only [IL.v, TL.v, List.length_append, List.length_cons, List.length_nil, HIL.out.1, HIL.out.2, rpt, List.length_map, HML.out]
          rw [show ml + (cur.length + (0 + 1)) = mm + 1 by have := HMM.out; omega]
         ·rw [← HIDS.out]; exact RCF
         ·rw [List.map_append, ← HLS2.out.1]; rfl
         ·rw [List.map_append, ← HLS2.out.2]; simp [TL.p]
        ·rw [if_neg hri] at HRN
         have hri1 : (ri == 0) = false := by rw [beq_eq_false_iff_ne]; exact hri
         go_wp2_with (first
          | (at_builtin; refine append_mineN rfl (.tmp 105) (.tmp 107) 31 rfl N 3 iI (.int .i64 0) 1 8 Tryz.underlying31 hiI hzI0 hzI1 hzI2 rfl (by decide) (.slice ma mm mc) mm ((M ++ cur.map (·.1)).map (Value.int .i64)) rfl (OM.out.alloc _) ⟨wx.heap.size, 0, none⟩ 1 1 [.int .i64 id] rfl rfl (cell_one_new _ _ _) (by intro u hu; simp at hu; subst hu; rfl) (by omega) (by unfold maxLen; omega) (by omega) (by have := hnw5.out; simp; omega) ?_; intro g6 c6 w6 o6 gr6 k6; have S6 := hide (RC5a.out.addM id (g' := g6) (c' := c6) (w6 := w6) (by rw [HMQ.out]; exact o6) (by rw [HMQ.out]; exact gr6) (by rw [HMQ.out]; exact k6)); have K6 : Hid (Kp wx w6 (W.heap.size + 1 + 1 + 1)) := (Kp.of_below ((Below.refl _ _).alloc (Nat.le_refl _) _)).trans S6.out.2.1; have BN6 : Hid (Below N wx w6) := (((Below.refl _ _).alloc (Nat.le_refl _) _).mono hnw5.out).trans S6.out.2.2; have RC6 := hide S6.out.1; have m60 : w6.cell? ⟨W.heap.size + 1 + 1 + 1, 0, none⟩ = some (.slice ia il ic) := (by rw [cell_of_row _ _ _ _ _ _ RC6.out.bl]; simp only [IL.v, HIL.out.1]; rfl); have OL6 : Hid (w6.ownsRow N 3 1 (.slice ia il ic) il (is.map (Value.int .i64))) := (by have := RC6.out.oL; simp only [IL.v, HIL.out.1] at this; exact this); have hnw6 : Hid (N ≤ w6.heap.size) := RC6.out.nw; have RC6a := hide (RC6.out.below ((Below.refl _ _).alloc (Nat.le_refl _) (.cells #[.int .i64 id] 3))); have Q6 := hide (Q5a.out.addM gr6 k6 (mm + 1) c6); have Q6a := hide (Q6.out.below ((Below.refl _ _).alloc (Nat.le_refl _) (.cells #[.int .i64 id] 3))); clear o6 gr6 k6)
          | (at_builtin; refine append_mineN rfl (.tmp 110) (.tmp 112) 31 rfl N 3 iI (.int .i64 0) 1 8 Tryz.underlying31 hiI hzI0 hzI1 hzI2 rfl (by decide) (.slice ia il ic) il (is.map (Value.int .i64)) rfl (OL6.out.alloc _) ⟨w6.heap.size, 0, none⟩ 1 1 [.int .i64 id] rfl rfl (cell_one_new _ _ _) (by intro u hu; simp at hu; subst hu; rfl) (by omega) (by unfold maxLen; omega) (by omega) (by have := hnw6.out; simp; omega) ?_; intro g7 c7 w7 o7 gr7 k7; have S7 := hide (RC6a.out.addL id (g' := g7) (c' := c7) (w6 := w7) (by simp only [HIL.out.1]; exact o7) (by simp only [IL.v, HIL.out.1]; exact gr7) (by simp only [IL.v, HIL.out.1]; exact k7)); have BL7 : Hid (w7.heap[W.heap.size + 1 + 1 + 1]? = some (.cells #[.slice ia il ic, .slice oa ol oc] 141 (0, 0))) := (by have h1 := RC6a.out.bl_at RC6a.out.oL (by decide) (by simp only [IL.v, HIL.out.1]; exact gr7); simp only [IL.v, TL.v, HIL.out.1, HIL.out.2] at h1; exact h1); have m70 : w7.cell? ⟨W.heap.size + 1 + 1 + 1, 0, none⟩ = some (.slice ia il ic) := (by rw [cell_of_row _ _ _ _ _ _ BL7.out]; rfl); have m71 : w7.cell? ⟨W.heap.size + 1 + 1 + 1, 1, none⟩ = some (.slice oa ol oc) := (by rw [cell_of_row _ _ _ _ _ _ BL7.out]; rfl); have f7 := fun j => frozen_of BL7.out j; simp only [HIL.out.1] at S7; have K7 : Hid (Kp wx (w7.setCell ⟨W.heap.size + 1 + 1 + 1, 0, none⟩ (.slice (some ⟨g7, 0, none⟩) (il + 1) c7)) (W.heap.size + 1 + 1 + 1)) := K6.out.trans ((Kp.of_below ((Below.refl _ _).alloc (Nat.le_refl _) _)).trans S7.out.2.1); have BN7 : Hid (Below N wx (w7.setCell ⟨W.heap.size + 1 + 1 + 1, 0, none⟩ (.slice (some ⟨g7, 0, none⟩) (il + 1) c7))) := BN6.out.trans ((((Below.refl _ _).alloc (Nat.le_refl _) _).mono hnw6.out).trans S7.out.2.2); have RC7 := hide S7.out.1; have OO7 : Hid ((w7.setCell ⟨W.heap.size + 1 + 1 + 1, 0, none⟩ (.slice (some ⟨g7, 0, none⟩) (il + 1) c7)).ownsRow N 23 1 (.slice oa ol oc) ol (ol'.map Tx.v)) := (by have := RC7.out.oO; simp only [TL.v, HIL.out.2] at this; exact this); have hnw7 : Hid (N ≤ (w7.setCell ⟨W.heap.size + 1 + 1 + 1, 0, none⟩ (.slice (some ⟨g7, 0, none⟩) (il + 1) c7)).heap.size) := RC7.out.nw; have RC7a := hide (RC7.out.below ((Below.refl _ _).alloc (Nat.le_refl _) (.cells #[.slice pa pl pc] 23))); have Q7 := hide (Q6a.out.addL gr7 k7 (il + 1) c7 (W.heap.size + 1 + 1 + 1) 0 (by omega) (.slice (some ⟨g7, 0, none⟩) (il + 1) c7)); have Q7a := hide (Q7.out.below ((Below.refl _ _).alloc (Nat.le_refl _) (.cells #[.slice pa pl pc] 23))); clear o7 gr7 k7)
          | (at_builtin; refine append_mineN rfl (.tmp 116) (.tmp 118) 30 rfl N 23 iS (.slice none 0 0) 1 24 Tryz.underlying30 hiS hzS0 hzS1 hzS2 rfl (by decide) (.slice oa ol oc) ol (ol'.map Tx.v) rfl (OO7.out.alloc _) ⟨(w7.setCell ⟨W.heap.size + 1 + 1 + 1, 0, none⟩ (.slice (some ⟨g7, 0, none⟩) (il + 1) c7)).heap.size, 0, none⟩ 1 1 [.slice pa pl pc] (by simp [Act.eval]) rfl (cell_one_new _ _ _) (by intro u hu; simp at hu; subst hu; rfl) (by omega) (by unfold maxLen; omega) (by omega) (by have := hnw7.out; simp at this ⊢; omega) ?_; intro g8 c8 w8 o8 gr8 k8; have O8 := hide o8; have GR8 := hide gr8; have BL8 : Hid (w8.heap[W.heap.size + 1 + 1 + 1]? = some (.cells #[.slice (some ⟨g7, 0, none⟩) (il + 1) c7, .slice oa ol oc] 141 (0, 0))) := (by have h1 := RC7a.out.bl_at RC7a.out.oO (by decide) (by simp only [TL.v, HIL.out.2]; exact gr8); simp only [IL.v, TL.v, List.length_append, List.length_cons, List.length_nil, HIL.out.1, HIL.out.2] at h1; exact h1); have m80 : w8.cell? ⟨W.heap.size + 1 + 1 + 1, 0, none⟩ = some (.slice (some ⟨g7, 0, none⟩) (il + 1) c7) := (by rw [cell_of_row _ _ _ _ _ _ BL8.out]; rfl); have m81 : w8.cell? ⟨W.heap.size + 1 + 1 + 1, 1, none⟩ = some (.slice oa ol oc) := (by rw [cell_of_row _ _ _ _ _ _ BL8.out]; rfl); have f8 := fun j => frozen_of BL8.out j; have K8 : Hid (Kp wx w8 (W.heap.size + 1 + 1 + 1)) := K7.out.trans ((Kp.of_below ((Below.refl _ _).alloc (Nat.le_refl _) _)).trans (Kp.grown RC7a.out.oO (.inr rfl) (by simp only [TL.v, HIL.out.2]; exact gr8))); have G8n : Hid (w8.heap[b18]? = _) := K8.out b18 _ _ HBN.out.1 (by decide) (by decide) G5.out; have G8a : Hid (w8.heap[W.heap.size + 1]? = _) := K8.out (W.heap.size + 1) _ _ HBN.out.2.1 (by decide) (by decide) HBX5.out.1; have G8b : Hid (w8.heap[W.heap.size + 1 + 1]? = _) := K8.out (W.heap.size + 1 + 1) _ _ HBN.out.2.2.1 (by decide) (by decide) HBX5.out.2; have G8c : Hid (w8.heap[W.heap.size]? = _) := K8.out W.heap.size _ _ HBN.out.2.2.2 (by decide) (by decide) HCF5.out; obtain ⟨u0, u1, u2, u3, u4, u5⟩ := Six.of G8n.out; obtain ⟨v0, v1⟩ := two_at G8a.out; have fv := fun j => frozen_of G8a.out j; obtain ⟨y0, y1, y2, y3, y4, y5⟩ := Six.of G8b.out; have fy := fun j => frozen_of G8b.out j; have S8 := hide (RC7a.out.addO ⟨pa, pc, ps⟩ (HLO7.out _ _ ((Below.refl _ _).alloc (Nat.le_refl _) _) BN7.out hnw7.out) HLI.out (g' := g8) (c' := c8) (w6 := w8) (by simp only [HIL.out.2, Tx.v, HPL.out]; exact o8) (by simp only [TL.v, HIL.out.2]; exact gr8)); simp only [HIL.out.2] at S8; have BN8 : Hid (Below N wx (w8.setCell ⟨W.heap.size + 1 + 1 + 1, 1, none⟩ (.slice (some ⟨g8, 0, none⟩) (ol + 1) c8))) := BN7.out.trans ((((Below.refl _ _).alloc (Nat.le_refl _) _).mono hnw7.out).trans S8.out.2.2); have Q8 := hide (Q7a.out.addO gr8 k8 (ol + 1) c8 (W.heap.size + 1 + 1 + 1) 1 (by omega) (.slice (some ⟨g8, 0, none⟩) (ol + 1) c8)); clear o8 gr8 k8)
          | fail)
         go_roundg g0
         case measure => omega
         case rel =>
          have hlen : (cur ++ [(id, ps)]).length = cur.length + 1 := by simp
          refine ⟨ri, ⟨ha, hc, hs⟩, cur ++ [(id, ps)], some ⟨g6, 0, none⟩, c6, ⟨some ⟨g7, 0, none⟩, c7, is ++ [id]⟩, ⟨some ⟨g8, 0, none⟩, c8, ol' ++ [⟨pa, pc, ps⟩]⟩, by rw [hlen, show ml + (cur.length + 1) = mm + 1 by have := HMM.out; omega], by simp only [Tx.v, HLK.out.1], rfl, (by rw [hlen, show ml + (cur.length + 1) = mm + 1 by have := HMM.out; omega]; simp only [IL.v, TL.v, List.length_append, List.length_cons, List.length_nil, HIL.out.1, HIL.out.2]; exact Q8), ⟨by rw [← HIDS.out]; exact S8.out.1, by rw [List.map_append, ← HLS2.out.1]; rfl, by rw [List.map_append, ← HLS2.out.2]; simp [TL.p], ?_, HHF.out, HMT2.out, HRN.out, by rw [hlen]; have := HGI.out; omega, BW5.out.trans BN8.out⟩, ⟨⟨?_, ?_⟩, ?_⟩⟩
          ·exact HHI5.out.updL (S := fun k => N ≤ k) ⟨BN8.out.os, BN8.out.tape, BN8.out.output, BN8.out.size, fun k _ hk => BN8.out.block k (by omega)⟩ (fun y e l e2 => by have := RC5.out.fN _ (HHF.out y e l); omega)
          ·rw [Below.heap_setCell _ _ _ _ (by simp only; omega)]; exact G8a.out
          ·rw [Below.heap_setCell _ _ _ _ (by simp only; omega)]; exact G8b.out
          ·rw [Below.heap_setCell _ _ _ _ (by simp only; omega)]; exact G8c.out
  ·have he : er = 101 := by rw [HER.out]; exact if_neg hin
   rw [decide_eq_false hin] at HTH
   have HRE : Hid (R = .inl (id, 101)) := by
    show _ = _
    have := HRR.out
    rw [he] at this
    simpa using this
   clear he hin
   go_wp2_with fail
   refine keep HTH.out ?_
   obtain ⟨l0, l1⟩ : wr.cell? ⟨W.heap.size + 1 + 1 + 1, 0, none⟩ = some (.slice ia il ic) ∧ wr.cell? ⟨W.heap.size + 1 + 1 + 1, 1, none⟩ = some (.slice oa ol oc) := ⟨by rw [cell_of_row _ _ _ _ _ _ HLB.out]; rfl, by rw [cell_of_row _ _ _ _ _ _ HLB.out]; rfl⟩
   obtain ⟨a0, a1⟩ : wr.cell? ⟨W.heap.size + 1, 0, none⟩ = some (.slice none 0 0) ∧ wr.cell? ⟨W.heap.size + 1, 1, none⟩ = some (.slice none 0 0) := ⟨by rw [cell_of_row _ _ _ _ _ _ HBX.out.1]; rfl, by rw [cell_of_row _ _ _ _ _ _ HBX.out.1]; rfl⟩
   have fa := fun j => frozen_of HBX.out.1 j
   have HWR : Hid (∀ Y, Calls Tryz.prog 116 #[.int .i64 id, .int .i64 101] Y fun e w' => e = .returned (.agg #[.bool false, .int .i64 id, .int .i64 101, .int .i64 0, .int .i64 0, .int .i64 0]) ∧ Below Y.heap.size Y w') := fun Y => rwrong_any id 101 Y
   obtain ⟨wa, hwa⟩ : ∃ x, x = (wr.drew.setCell ⟨W.heap.size + 1, 0, none⟩ (.slice ia il ic)).setCell ⟨W.heap.size + 1, 1, none⟩ (.slice oa ol oc) := ⟨_, rfl⟩
   have HWA := hide hwa
   have GA1 : Hid (wa.heap[W.heap.size + 1]? = some (.cells #[.slice ia il ic, .slice oa ol oc] 141 (0, 0))) := by show _ = _; rw [hwa]; exact block_setCell (block_setCell (w := wr.drew) HBX.out.1 0 _) 1 _
   have GA2 : Hid (wa.heap[W.heap.size + 1 + 1]? = some (.cells #[.bool false, .int .i64 0, .int .i64 0, .int .i64 0, .int .i64 0, .int .i64 0] 42 (0, 0))) := by show _ = _; rw [hwa, Below.heap_setCell _ _ _ _ (by simp only; omega), Below.heap_setCell _ _ _ _ (by simp only; omega)]; exact HBX.out.2
   have GA3 : Hid (wa.heap[W.heap.size + 1 + 1 + 1]? = some (.cells #[.slice ia il ic, .slice oa ol oc] 141 (0, 0))) := by show _ = _; rw [hwa, Below.heap_setCell _ _ _ _ (by simp only; omega), Below.heap_setCell _ _ _ _ (by simp only; omega)]; exact HLB.out
   have QWA : Hid (Upd S W wa) := by show Upd _ _ _; rw [hwa]; exact ((HQ.out.up.drew).setCell ⟨W.heap.size + 1, 0, none⟩ _ (fun e => absurd e (by simp only; omega))).setCell ⟨W.heap.size + 1, 1, none⟩ _ (fun e => absurd e (by simp only; omega))
   have BWA : Hid (Below N W wa) := by show Below _ _ _; rw [hwa]; exact ((below_drew BWX.out).setCell (by have := HNW.out; simp only; omega) _).setCell (by have := HNW.out; simp only; omega) _
   have n1 : ¬ W.heap.size + 1 + 1 + 1 = W.heap.size + 1 := by omega
   have n2 : ¬ W.heap.size + 1 + 1 + 1 = W.heap.size + 1 + 1 := by omega
   have n3 : ¬ W.heap.size + 1 = W.heap.size + 1 + 1 := by omega
   have n4 : ¬ W.heap.size + 1 + 1 = W.heap.size + 1 := by omega
   have n5 : ¬ W.heap.size + 1 = W.heap.size + 1 + 1 + 1 := by omega
   have n6 : ¬ W.heap.size + 1 + 1 = W.heap.size + 1 + 1 + 1 := by omega
   clear hwa
   go_wp2_with fail
   go_region_held3 (fun Y => Y.cell? ⟨W.heap.size + 1 + 1 + 1, 0, none⟩ = some (.slice ia il ic) ∧ Y.cell? ⟨W.heap.size + 1 + 1 + 1, 1, none⟩ = some (.slice oa ol oc)) (go_keep) (first
    | (go_at_call 116; rw [← HWA.out]; refine (HWR.out wa).mono ?_; rintro e w5 ⟨rfl, hb5⟩; have P1 : Hid (w5.heap[W.heap.size + 1]? = _) := (hb5.block _ (lt_of_block GA1.out)).trans GA1.out; have P2 : Hid (w5.heap[W.heap.size + 1 + 1]? = _) := (hb5.block _ (lt_of_block GA2.out)).trans GA2.out; have P3 : Hid (w5.heap[W.heap.size + 1 + 1 + 1]? = _) := (hb5.block _ (lt_of_block GA3.out)).trans GA3.out; have Q5' : Hid (Upd S W w5) := QWA.out.trans (Upd.of_below hb5 S); have B5 : Hid (Below N W w5) := BWA.out.trans (hb5.mono (by have := BWA.out.size; have := HNW.out; omega)); have k0 : w5.cell? ⟨W.heap.size + 1 + 1 + 1, 0, none⟩ = some (.slice ia il ic) := (by rw [cell_of_row _ _ _ _ _ _ P3.out]; rfl); have k1 : w5.cell? ⟨W.heap.size + 1 + 1 + 1, 1, none⟩ = some (.slice oa ol oc) := (by rw [cell_of_row _ _ _ _ _ _ P3.out]; rfl); obtain ⟨y0, y1, y2, y3, y4, y5⟩ := Six.of P2.out; have fb := fun j => frozen_of P2.out j; clear hb5)
    | (go_at_call 116; refine (HWR.out wr.drew).mono ?_; rintro e w5 ⟨rfl, hb5⟩; have P1 : Hid (w5.heap[W.heap.size + 1]? = _) := (hb5.block _ (lt_of_block HBX.out.1)).trans HBX.out.1; have P2 : Hid (w5.heap[W.heap.size + 1 + 1]? = _) := (hb5.block _ (lt_of_block HBX.out.2)).trans HBX.out.2; have P3 : Hid (w5.heap[W.heap.size + 1 + 1 + 1]? = _) := (hb5.block _ (lt_of_block HLB.out)).trans HLB.out; have Q5' : Hid (Upd S W w5) := (HQ.out.up.drew).trans (Upd.of_below hb5 S); have B5 : Hid (Below N W w5) := (below_drew BWX.out).trans (hb5.mono (by have := BWX.out.size; have := HNW.out; show N ≤ wr.heap.size; omega)); have k0 : w5.cell? ⟨W.heap.size + 1 + 1 + 1, 0, none⟩ = some (.slice ia il ic) := (by rw [cell_of_row _ _ _ _ _ _ P3.out]; rfl); have k1 : w5.cell? ⟨W.heap.size + 1 + 1 + 1, 1, none⟩ = some (.slice oa ol oc) := (by rw [cell_of_row _ _ _ _ _ _ P3.out]; rfl); have ka0 : w5.cell? ⟨W.heap.size + 1, 0, none⟩ = some (.slice none 0 0) := (by rw [cell_of_row _ _ _ _ _ _ P1.out]; rfl); have ka1 : w5.cell? ⟨W.heap.size + 1, 1, none⟩ = some (.slice none 0 0) := (by rw [cell_of_row _ _ _ _ _ _ P1.out]; rfl); have fka := fun j => frozen_of P1.out j; obtain ⟨y0, y1, y2, y3, y4, y5⟩ := Six.of P2.out; have fb := fun j => frozen_of P2.out j; clear hb5)
    | fail)
   all_goals
    go_wp2_with fail
    (try simp only [Exit.inBlock, Exit.then])
    first
    | (obtain ⟨⟨p0, p1⟩, ⟨q0, q1, q2, q3, q4, q5⟩, BF, UFX⟩ := fin_a1 P1.out P2.out (by omega) (.slice ia il ic) (.slice oa ol oc) (.bool false) (.int .i64 id) (.int .i64 101) (.int .i64 0) (.int .i64 0) (.int .i64 0)
       show bodyPost _ _ _ _ _ (six6 (set2 w5 (W.heap.size + 1) (.slice ia il ic) (.slice oa ol oc)) (W.heap.size + 1 + 1) (.bool false) (.int .i64 id) (.int .i64 101) (.int .i64 0) (.int .i64 0) (.int .i64 0))
       refine bodyPost_ret (v := .tuple #[.agg #[.slice ia il ic, .slice oa ol oc], .slice ma mm mc, .agg #[.bool false, .int .i64 id, .int .i64 101, .int .i64 0, .int .i64 0, .int .i64 0]]) (by simp [results, Tryz.results117, go_sem, p0, p1, q0, q1, q2, q3, q4, q5]) rfl ⟨B5.out.trans (BF N (by have := HNW.out; omega) (by have := HNW.out; omega)), by rw [← HSE.out]; exact Q5'.out.then UFX (fun k hk e => absurd hk (by omega)), .inl ⟨id, 101, _, _, _, _, _, _, _, _, _, HRE.out, rfl⟩⟩)
    | (obtain ⟨⟨p0, p1⟩, ⟨q0, q1, q2, q3, q4, q5⟩, BF, UFX⟩ := fin_a2 P1.out P2.out (by omega) (.slice ia il ic) (.slice oa ol oc) (.bool false) (.int .i64 id) (.int .i64 101) (.int .i64 0) (.int .i64 0) (.int .i64 0)
       show bodyPost _ _ _ _ _ (set2 (six6 w5 (W.heap.size + 1 + 1) (.bool false) (.int .i64 id) (.int .i64 101) (.int .i64 0) (.int .i64 0) (.int .i64 0)) (W.heap.size + 1) (.slice ia il ic) (.slice oa ol oc))
       refine bodyPost_ret (v := .tuple #[.agg #[.slice ia il ic, .slice oa ol oc], .slice ma mm mc, .agg #[.bool false, .int .i64 id, .int .i64 101, .int .i64 0, .int .i64 0, .int .i64 0]]) (by simp [results, Tryz.results117, go_sem, p0, p1, q0, q1, q2, q3, q4, q5]) rfl ⟨B5.out.trans (BF N (by have := HNW.out; omega) (by have := HNW.out; omega)), by rw [← HSE.out]; exact Q5'.out.then UFX (fun k hk e => absurd hk (by omega)), .inl ⟨id, 101, _, _, _, _, _, _, _, _, _, HRE.out, rfl⟩⟩)
    | (obtain ⟨⟨p0, p1⟩, ⟨q0, q1, q2, q3, q4, q5⟩, BF, UFX⟩ := fin_b P1.out P2.out (by omega) (.bool false) (.int .i64 id) (.int .i64 101) (.int .i64 0) (.int .i64 0) (.int .i64 0)
       show bodyPost _ _ _ _ _ (six6 w5 (W.heap.size + 1 + 1) (.bool false) (.int .i64 id) (.int .i64 101) (.int .i64 0) (.int .i64 0) (.int .i64 0))
       refine bodyPost_ret (v := .tuple #[.agg #[.slice ia il ic, .slice oa ol oc], .slice ma mm mc, .agg #[.bool false, .int .i64 id, .int .i64 101, .int .i64 0, .int .i64 0, .int .i64 0]]) (by simp [results, Tryz.results117, go_sem, p0, p1, q0, q1, q2, q3, q4, q5]) rfl ⟨B5.out.trans (BF N (by have := HNW.out; omega) (by have := HNW.out; omega)), by rw [← HSE.out]; exact Q5'.out.then UFX (fun k hk e => absurd hk (by omega)), .inl ⟨id, 101, _, _, _, _, _, _, _, _, _, HRE.out, rfl⟩⟩)
end Go.Proofs.YtealejbfloacpaaGreat
