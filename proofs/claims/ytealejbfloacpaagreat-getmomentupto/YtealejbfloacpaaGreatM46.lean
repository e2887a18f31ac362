/- Texts of one's own. -/
import Derived.Test.YtealejbfloacpaaGreatM44
import Derived.Deep.LoopGhost
import Derived.Deep.DeepCutAuto
namespace Go.Proofs.YtealejbfloacpaaGreat
open Go.RowKit
set_option maxRecDepth 100000
set_option maxRecDepth 100000 in
set_option maxHeartbeats 25600000 in
theorem rmapC_any {W : World} {A : Nat} {F : Nat → Prop} {s : AS} (hp : RX W A F s) (C0 : Int → Prop) (hC0 : C0 s.root) (hC1 : ∀ id, C0 id → s.inn id → (s.n id).lv ≤ 0 → C0 (s.n id).ri) (hC2 : ∀ id, C0 id → s.inn id → ¬ (s.n id).lv ≤ 0 → C0 ((s.n id).cs.getD 0 0)) (hB : ∀ id, C0 id → s.inn id → (s.n id).ks.length ≤ 1048576) :
  Calls Tryz.prog 20 #[.pointer (some ⟨A, 0, none⟩)] W (MpP W s.map) := by
 obtain ⟨iE, hiE, hzE0, hzE1, hzE2⟩ := info_parts infoEn
 obtain ⟨iI, hiI, hzI0, hzI1, hzI2⟩ := info_parts infoI
 obtain ⟨iB, hiB, hzB0, hzB1, hzB2⟩ := info_parts infoB8
 have hrt : W.cell? ⟨A, 2, none⟩ = some (.int .i64 s.root) := by
  obtain ⟨g, c, M, D, L, h1, h2, _⟩ := hp
  rw [cell_of_row _ _ _ _ _ _ h1.a]; rfl
 have H1 : Hid (RmW W W W.heap.size A F s [] (.slice none 0 0) (.slice none 0 0) []) := ⟨World.ownsRow_nil _ _ _ _, Met.nil s, World.ownsRow_nil _ _ _ _, fun x hx => (by cases hx), Below.refl _ _, hp, hp.lt, Nat.le_refl _⟩
 have HBB := hide hB
 have HC1 := hide hC1
 have HC2 := hide hC2
 have hsl : s.sl.length ≤ 65536 := by
  obtain ⟨g, c, M, D, L, h1, h2, _⟩ := hp
  rw [← ndsR_lenS h2]
  have := h1.le
  have := h1.nz
  omega
 obtain ⟨R, hR⟩ : ∃ R, R = s.map := ⟨_, rfl⟩
 rw [← hR]
 have HR : Hid (R = s.mapF (s.sl.length + 1) [] false s.root (([] : List En).map enP)) := hR
 obtain ⟨root, hroot⟩ : ∃ root, root = s.root := ⟨_, rfl⟩
 rw [← hroot] at hrt HR hC0
 have HC0 := hide hC0
 clear hp hB hR hroot hC0 hC1 hC2
 go_enter Tryz.func20, Tryz.ntmps20
 go_wp2_with fail
 clear hrt
 go_loopg [3, 4, 5, 6] (s.sl.length + 1) (fun gn q3 q4 q5 q6 wr => ∃ id leaf oa on oc ma mn mc, q3 = .slice oa on oc ∧ q4 = .slice ma mn mc ∧ q5 = .bool leaf ∧ q6 = .int .i64 id ∧ Hid (∃ met E, RmW W wr W.heap.size A F s met (.slice ma mn mc) (.slice oa on oc) E ∧ E.length = on ∧ met.length = mn ∧ R = s.mapF gn met leaf id (E.map enP) ∧ gn + met.length = s.sl.length + 1 ∧ E.length ≤ met.length * 1048576 ∧ C0 id))
 case atStart => exact ⟨root, false, none, 0, 0, none, 0, 0, rfl, rfl, rfl, rfl, [], [], H1.out, rfl, rfl, HR.out, rfl, Nat.zero_le _, HC0.out⟩
 case round =>
  clear H1 HR HC0
  obtain ⟨id, leaf, oa, on, oc, ma, mn, mc, rfl, rfl, rfl, rfl, HD⟩ := hrel
  rename World => wr
  obtain ⟨met, E, hmw, hon, hmn, hr, hgn, hEz, hci⟩ := HD.out
  have hml := hmw.mt.len
  obtain ⟨g', hg'⟩ : ∃ g', gk = g' + 1 := ⟨gk - 1, by omega⟩
  subst hg'
  have HTH := hide (rx_there hmw.rx id)
  have hmz : mn ≤ 65536 := by omega
  have HHS : Hid (Calls Tryz.prog 70 #[.slice ma mn mc, .int .i64 id] wr fun e w' => e = .returned (.bool (decide (id ∈ met))) ∧ w' = wr) := by
   have ho := hmw.oM
   rw [← hmn] at ho
   have := has_any ⟨ma, mc, met⟩ id wr (il_of_owns (t := ⟨ma, mc, met⟩) ho) (by show met.length ≤ _; omega)
   simp only [IL.v, hmn] at this
   exact this
  have HMW := hide hmw
  have HRR := hide hr
  have HCI := hide hci
  have HN : Hid (E.length = on ∧ g' + 1 + met.length = s.sl.length + 1 ∧ E.length ≤ met.length * 1048576 ∧ met.length ≤ s.sl.length ∧ met.length = mn) := ⟨hon, hgn, hEz, hml, hmn⟩
  clear hmw hon hmn hr hgn hEz hml HD hci
  by_cases hgo : s.inn id ∧ id ∉ met
  ·rw [decide_eq_true hgo.1] at HTH
   rw [decide_eq_false hgo.2] at HHS
   have HGO := hide hgo
   obtain ⟨w3, hw3⟩ : ∃ x, x = wr.alloc (.cells #[.int .i64 id] 3) := ⟨_, rfl⟩
   have b3 : Below wr.heap.size wr w3 := by rw [hw3]; exact (Below.refl _ _).alloc (Nat.le_refl _) _
   have MW3 := hide (HMW.out.below b3)
   have HOM : Hid (w3.ownsRow W.heap.size 3 1 (.slice ma mn mc) mn (met.map (Value.int .i64))) := by
    have := MW3.out.oM
    rw [HN.out.2.2.2.2] at this
    exact this
   have HC3 : Hid (∀ j u, ([.int .i64 id] : List Value)[j]? = some u → w3.cell? ((⟨wr.heap.size, 0, none⟩ : Addr).add j) = some u) := by
    show ∀ j u, _ → _
    rw [hw3]
    exact cell_one_new _ _ _
   have HW3 : Hid (wr.alloc (.cells #[.int .i64 id] 3) = w3) := hw3.symm
   have HNW : Hid (W.heap.size ≤ w3.heap.size) := MW3.out.nw
   have hmt : Met s (met ++ [id]) := Met.snoc HMW.out.mt hgo.1 hgo.2
   have HMT := hide hmt
   clear hgo hw3 b3 hmt
   go_wp2_with fail
   refine keep HTH.out ?_
   go_wp2_with fail
   refine keep HHS.out ?_
   clear HTH HHS
   go_upto_region 9 with fail
   go_upto_region 10 with (first
    | (at_builtin; rw [HW3.out]; refine append_own_any rfl (.tmp 28) (.tmp 30) 31 rfl W.heap.size 3 iI (.int .i64 0) 1 8 Tryz.underlying31 hiI hzI0 hzI1 hzI2 rfl (by decide) (.slice ma mn mc) mn (met.map (Value.int .i64)) rfl HOM.out (some ⟨wr.heap.size, 0, none⟩) 1 1 [.int .i64 id] rfl rfl (fun e => by cases e) (fun ad e => by cases e; exact HC3.out) (by intro u hu; simp at hu; subst hu; rfl) (by unfold maxLen; omega) (by omega) HNW.out ?_; intro v6 w6 h6 g6; have HR6 := hide h6; have HG6 := hide g6; clear h6 g6)
    | fail)
   -- MET
   obtain ⟨ma6, mc6, hv6⟩ : ∃ a c, v6 = .slice a (mn + 1) c := by
    rcases HR6.out.2 with ⟨_, h2⟩ | ⟨g, cap, cur, h1, _⟩
    ·omega
    ·exact ⟨_, _, h1⟩
   subst hv6
   have MW6 : Hid (RmW W w6 W.heap.size A F s (met ++ [id]) (.slice ma6 (mn + 1) mc6) (.slice oa on oc) E) := by
    refine MW3.out.meet ?_ HG6.out HMT.out
    rw [List.map_append, List.length_append, List.length_singleton, HN.out.2.2.2.2]
    exact HR6.out
   obtain ⟨g2, c2, M2, D2, Lr, hra, hnds, hF1, _⟩ := MW6.out.rx
   obtain ⟨jd, hjd0, hjd1, _⟩ := AS.idx HGO.out.1
   have hjd : jd < Lr.length := by rw [ndsR_lenS hnds]; exact hjd0
   obtain ⟨_, hsn⟩ := ndsR_at hnds hjd hjd1
   have hra1 : w6.cell? ⟨A, 1, none⟩ = some (.slice (some ⟨g2, 0, none⟩) Lr.length c2) := by rw [cell_of_row _ _ _ _ _ _ hra.a]; rfl
   have r1 : w6.cell? ⟨g2, jd * 7 + 1, none⟩ = some (.int .i64 Lr[jd].n.lv) := hra.at_ jd hjd 1 (by omega)
   have r2 : w6.cell? ⟨g2, jd * 7 + 2, none⟩ = some (Lr[jd].n.hi.v) := hra.at_ jd hjd 2 (by omega)
   have r3 : w6.cell? ⟨g2, jd * 7 + 3, none⟩ = some (.int .i64 Lr[jd].n.ri) := hra.at_ jd hjd 3 (by omega)
   have r4 : w6.cell? ⟨g2, jd * 7 + 4, none⟩ = some (Lr[jd].n.ks.v) := hra.at_ jd hjd 4 (by omega)
   have r5 : w6.cell? ⟨g2, jd * 7 + 5, none⟩ = some (Lr[jd].n.vs.v) := hra.at_ jd hjd 5 (by omega)
   have r6 : w6.cell? ⟨g2, jd * 7 + 6, none⟩ = some (Lr[jd].n.cs.v) := hra.at_ jd hjd 6 (by omega)
   have hno := (hra.sl Lr[jd] (List.getElem_mem hjd)).n
   have hni := (hra.sl Lr[jd] (List.getElem_mem hjd)).d
   have hDN : ∀ k, D2 k → k < W.heap.size := fun k hk => MW6.out.lt k (hF1 k (.inr hk))
   generalize Lr[jd] = rs at *
   obtain ⟨rw9, ⟨lv, ⟨ha, hc, hs⟩, ri, ⟨ka, kc, K⟩, ⟨va, vc, V⟩, ⟨ca, cc, C⟩⟩⟩ := rs
   simp only [Tx.v, TL.v, IL.v] at r1 r2 r3 r4 r5 r6 hsn hno hni
   have HNOK : Hid (∀ Y, Below W.heap.size w6 Y → (⟨lv, ⟨ha, hc, hs⟩, ri, ⟨ka, kc, K⟩, ⟨va, vc, V⟩, ⟨ca, cc, C⟩⟩ : Nd).Ok Y) := fun Y hb => hno.upd hni (⟨hb.os, hb.tape, hb.output, hb.size, fun k _ hk => hb.block k (by omega)⟩ : Upd (fun k => W.heap.size ≤ k) w6 Y) (fun k hk e => by have := hDN k hk; omega)
   obtain ⟨lh, hq1⟩ : ∃ z, hs.length = z := ⟨_, rfl⟩
   obtain ⟨lk, hq2⟩ : ∃ z, K.length = z := ⟨_, rfl⟩
   obtain ⟨lw, hq3⟩ : ∃ z, V.length = z := ⟨_, rfl⟩
   obtain ⟨lc, hq4⟩ : ∃ z, C.length = z := ⟨_, rfl⟩
   obtain ⟨lr, hlr⟩ : ∃ z, Lr.length = z := ⟨_, rfl⟩
   rw [hlr] at hra1 hjd
   rw [hq1] at r2
   rw [hq2] at r4
   rw [hq3] at r5
   rw [hq4] at r6
   have HNP : Hid (s.n id = (⟨lv, ⟨ha, hc, hs⟩, ri, ⟨ka, kc, K⟩, ⟨va, vc, V⟩, ⟨ca, cc, C⟩⟩ : Nd).p) := hsn
   have HQ : Hid (hs.length = lh ∧ K.length = lk ∧ V.length = lw ∧ C.length = lc) := ⟨hq1, hq2, hq3, hq4⟩
   have hjr : (jd : Int) < (lr : Int) := by omega
   have hwj : IntKind.i64.wrap (id - 1) = (jd : Int) := by
    have h1 := hra.le
    have h2 := hra.nz
    rw [hlr] at h1
    rw [IntKind.wrap_i64]; omega
   have hk6 : lk ≤ 1048576 := by
    have h1 := HBB.out id HCI.out HGO.out.1
    rw [HNP.out] at h1
    have h2 : (⟨ka, kc, K⟩ : TL).p.length ≤ 1048576 := h1
    rw [TL.p_len] at h2
    rw [← HQ.out.2.1]; exact h2
   obtain ⟨w7, hw7⟩ : ∃ z, z = w6.alloc (.cells #[.int .i64 lv, .slice ha lh hc, .int .i64 ri, .slice ka lk kc, .slice va lw vc, .slice ca lc cc] 35) := ⟨_, rfl⟩
   have b7 : Below w6.heap.size w6 w7 := by rw [hw7]; exact (Below.refl _ _).alloc (Nat.le_refl _) _
   have G7 : Hid (w7.heap[w6.heap.size]? = some (.cells #[.int .i64 lv, .slice ha lh hc, .int .i64 ri, .slice ka lk kc, .slice va lw vc, .slice ca lc cc] 35 (0, 0))) := by show _ = _; rw [hw7]; exact heap_alloc_new w6 _
   have HW7 := hide hw7
   have MW7 := hide (MW6.out.below b7)
   have B67 := hide b7
   have HX6 : Hid (W.heap.size ≤ w6.heap.size) := MW6.out.nw
   clear hra hnds hF1 hjd0 hjd1 hsn hno hni hDN hq1 hq2 hq3 hq4 hlr hjd hw7 b7 HR6 HG6 MW3 HOM HC3 HW3 HNW HMW
   go_upto_region 11 with fail
   rw [← HW7.out]
   clear HW7 r1 r2 r3 r4 r5 r6 hra1 hjr hwj
   obtain ⟨z0, z1, z2, z3, z4, z5⟩ := Six.of G7.out
   by_cases hlv : lv ≤ 0
   ·-- LEAF
    have jlv : ¬ lv > 0 := by omega
    go_cut [5] (fun s5 wx => s5 = .bool true ∧ Hid (wx = w7))
    case first =>
     cases leaf with
     | true => go_wp2_with fail; go_meet; exact ⟨rfl, rfl⟩
     | false => go_wp2_with fail; go_meet; exact ⟨by simp, rfl⟩
    case rest =>
    rename World => wx
    obtain ⟨rfl, hwx⟩ := hcut
    replace hwx := hwx.out.symm
    subst hwx
    have HS0 : Hid (∃ E', RmW W w7 W.heap.size A F s (met ++ [id]) (.slice ma6 (mn + 1) mc6) (.slice oa on oc) (E ++ E') ∧ (E ++ E').length = on ∧ E'.map enP = ((s.n id).ents).take 0 ∧ w7.heap[w6.heap.size]? = some (.cells #[.int .i64 lv, .slice ha lh hc, .int .i64 ri, .slice ka lk kc, .slice va lw vc, .slice ca lc cc] 35 (0, 0)) ∧ Below W.heap.size w6 w7) := ⟨[], by rw [List.append_nil]; exact MW7.out, by rw [List.append_nil]; exact HN.out.1, rfl, G7.out, B67.out.mono HX6.out⟩
    go_wp2_with fail
    clear MW7 G7 z0 z1 z2 z3 z4 z5 B67
    go_loopw [3, 10] (fun q3 q10 wt => ∃ (i : Nat) (ob : Option Addr) (om oe : Nat), i ≤ lk ∧ q10 = .int .i64 (i : Int) ∧ q3 = .slice ob om oe ∧ Hid (∃ E', RmW W wt W.heap.size A F s (met ++ [id]) (.slice ma6 (mn + 1) mc6) (.slice ob om oe) (E ++ E') ∧ (E ++ E').length = om ∧ E'.map enP = ((s.n id).ents).take i ∧ wt.heap[w6.heap.size]? = some (.cells #[.int .i64 lv, .slice ha lh hc, .int .i64 ri, .slice ka lk kc, .slice va lw vc, .slice ca lc cc] 35 (0, 0)) ∧ Below W.heap.size w6 wt)) (fun _ q10 _ => lk - (intOf q10).toNat)
    case atStart => exact ⟨0, oa, on, oc, Nat.zero_le _, rfl, rfl, HS0⟩
    case round =>
     clear HS0
     obtain ⟨i, ob, om, oe, hi, rfl, rfl, HI⟩ := hrel
     rename World => wt
     obtain ⟨E', hmw, hlen, hE', hg, hb⟩ := HI.out
     obtain ⟨z0, z1, z2, z3, z4, z5⟩ := Six.of hg
     have hz6 : (lk : Int) ≤ 1048576 := by omega
     have hEl : E'.length ≤ 1048576 := by
      have h1 := congrArg List.length hE'
      rw [List.length_map, List.length_take] at h1
      omega
     have hom : om ≤ 68719476736 + 1048576 := by
      have h1 := HN.out
      rw [List.length_append] at hlen
      omega
     by_cases hlt : i < lk
     ·have j1 : (i : Int) < (lk : Int) := by omega
      have hnok := HNOK.out wt hb
      have hiK : i < K.length := by rw [HQ.out.2.1]; exact hlt
      obtain ⟨bK, oK, hka, cK⟩ := hnok.k.r i hiK
      simp only at hka
      subst hka
      have htok := hnok.k.ok K[i] (List.getElem_mem hiK)
      obtain ⟨kx, hkx⟩ : ∃ kx, K[i] = kx := ⟨_, rfl⟩
      rw [hkx] at cK htok
      obtain ⟨xa, xc, xz⟩ := kx
      simp only [Tx.v] at cK
      obtain ⟨xl, hxl⟩ : ∃ x, xz.length = x := ⟨_, rfl⟩
      rw [hxl] at cK
      have hxz : xl ≤ 140737488351232 := by have := htok.z; simp only [hxl] at this; exact this
      have hbx : w6.heap.size < wt.heap.size := lt_of_block hg
      have hbk : bK < wt.heap.size := World.block_lt_of_cell? wt ⟨bK, oK + i, none⟩ cK
      have HXR : Hid (Row (wt.alloc (.cells #[] 5)) .u8 xa xz) := (htok.below ((Below.refl _ _).alloc (Nat.le_refl _) _)).r
      have HXN : Hid (xa = none → xl = 0 ∧ xc = 0) := fun e => by have := htok.n e; simp only [hxl] at this; exact this
      have HXL := hide hxl
      have HX8 := hide htok.b8
      have HKX : Hid ((K.getD i nilT).s = xz) := by show _ = _; rw [getD_tx hiK, hkx]
      have HNT : Hid (W.heap.size ≤ wt.heap.size) := hmw.nw
      have HMWt := hide hmw
      have HLEN := hide hlen
      have HEE := hide hE'
      have HGT := hide hg
      have HBT := hide hb
      clear hkx htok hnok hxl hmw hlen hE' hg hb HI
      go_upto_region 19 with fail
      go_upto_region 20 with (first
       | (at_builtin; refine append_b rfl (.tmp 74) (.tmp 80) 23 rfl W.heap.size 5 iB Tryz.underlying23 hiB hzB0 hzB1 hzB2 (.slice (some ⟨wt.heap.size, 0, none⟩) 0 0) [] rfl (OwnB.made (w := wt) #[] 0 HNT.out (by unfold maxLen; omega) rfl (by intro u hu; cases hu)) xa xl xc xz rfl HXL.out HXN.out HXR.out (by simp only [List.length_nil]; omega) (by have := HNT.out; simp; omega) ?_; intro v4 w4 h4 g4; obtain ⟨a4, c4, rfl, _⟩ := (OwnB.sliceN h4 (n := xl) (by rw [List.nil_append]; exact HXL.out)); have HO4 := hide h4; have HG4 := hide g4; clear h4 g4)
       | fail)
      have b4 : Below wt.heap.size wt w4 := ((Below.refl wt.heap.size wt).alloc (Nat.le_refl _) _).grown HG4.out (by simp) (fun k h => by cases h; exact Nat.le_refl _)
      obtain ⟨w5, hw5⟩ : ∃ x, x = w4.alloc (.cells #[.slice a4 xl c4, .slice none 0 0] 78) := ⟨_, rfl⟩
      have b5 : Below w4.heap.size w4 w5 := by rw [hw5]; exact (Below.refl _ _).alloc (Nat.le_refl _) _
      have G5 : Hid (w5.heap[w4.heap.size]? = some (.cells #[.slice a4 xl c4, .slice none 0 0] 78 (0, 0))) := by show _ = _; rw [hw5]; exact heap_alloc_new w4 _
      have HW5 := hide hw5
      have b45 := b4.trans (b5.mono b4.size)
      obtain ⟨tk, htk0⟩ : ∃ tk : Tx, tk = ⟨a4, c4, xz⟩ := ⟨_, rfl⟩
      have hvk : Hid (tk.v = .slice a4 xl c4) := by show _ = _; rw [htk0]; simp only [Tx.v, HXL.out]
      have hsk : Hid ((K.getD i nilT).s = tk.s) := by show _ = _; rw [htk0]; exact HKX.out
      have HTK5 : Hid (TOwn w5 W.heap.size tk) := by
       have ho := HO4.out
       rw [List.nil_append] at ho
       refine ⟨?_, by rw [htk0]; exact HX8.out, by rw [htk0]; show xz.length ≤ _; rw [HXL.out]; exact hxz⟩
       rw [hvk.out, show tk.s = xz by rw [htk0]]
       exact ho.below b5
      have MW5 := hide (HMWt.out.below b45)
      have GB5 : Hid (w5.heap[w6.heap.size]? = some (.cells #[.int .i64 lv, .slice ha lh hc, .int .i64 ri, .slice (some ⟨bK, oK, none⟩) lk kc, .slice va lw vc, .slice ca lc cc] 35 (0, 0))) := (b45.block _ (lt_of_block HGT.out)).trans HGT.out
      have HB5 : Hid (Below W.heap.size w6 w5) := HBT.out.trans (b45.mono HNT.out)
      have hB45 : w4.heap.size < w5.heap.size := lt_of_block G5.out
      have HBX : Hid (wt.heap.size ≤ w4.heap.size) := b4.size
      clear hw5 b4 b5 b45 htk0 HO4 HG4 hbx hbk z0 z1 z2 z3 z4 z5 cK
      rw [← HW5.out]
      clear HW5
      obtain ⟨z0, z1, z2, z3, z4, z5⟩ := Six.of GB5.out
      obtain ⟨y0, y1⟩ := two_at' G5.out
      -- VALUE
      have HLEN' := HLEN.out
      by_cases hlw : i < lw
      ·have j2 : (i : Int) < (lw : Int) := by omega
       have hnok := HNOK.out w5 HB5.out
       have hiV : i < V.length := by rw [HQ.out.2.2.1]; exact hlw
       obtain ⟨bV, oV, hva, cV⟩ := hnok.v.r i hiV
       simp only at hva
       subst hva
       have htok := hnok.v.ok V[i] (List.getElem_mem hiV)
       obtain ⟨vx, hvx⟩ : ∃ vx, V[i] = vx := ⟨_, rfl⟩
       rw [hvx] at cV htok
       obtain ⟨ya, yc, yz⟩ := vx
       simp only [Tx.v] at cV
       obtain ⟨yl, hyl⟩ : ∃ x, yz.length = x := ⟨_, rfl⟩
       rw [hyl] at cV
       have hyz : yl ≤ 140737488351232 := by have := htok.z; simp only [hyl] at this; exact this
       have HYR : Hid (Row w5.drew .u8 ya yz) := (htok.drewN 1).r
       have HYN : Hid (ya = none → yl = 0 ∧ yc = 0) := fun e => by have := htok.n e; simp only [hyl] at this; exact this
       have HYL := hide hyl
       have HY8 := hide htok.b8
       have HVX : Hid ((V.getD i nilT).s = yz) := by show _ = _; rw [getD_tx hiV, hvx]
       have HN5 : Hid (W.heap.size ≤ w5.drew.heap.size) := MW5.out.nw
       have F5 := fun j => frozen_of G5.out j
       have hgne : ¬ w6.heap.size = w4.heap.size := by have := HBX.out; have := lt_of_block HGT.out; omega
       have hgne2 : ¬ w4.heap.size = w6.heap.size := fun e => hgne e.symm
       have hbv : ¬ bV = w4.heap.size := fun e => by
        obtain ⟨b', o', h1, h2⟩ := (HNOK.out w6 (Below.refl _ _)).v.r i hiV
        simp only at h1
        cases h1
        have h3 : bV < w6.heap.size := World.block_lt_of_cell? w6 ⟨bV, oV + i, none⟩ h2
        have h4 := HBX.out
        have h5 := lt_of_block HGT.out
        omega
       clear hvx htok hnok hyl
       go_upto_region 21 with fail
       go_cut [] (fun wx => ∃ (a6 : Option Addr) (c6 : Nat) (wy : World), wx = wy.setCell ⟨w4.heap.size, 1, none⟩ (.slice a6 yl c6) ∧ Hid (OwnB wy W.heap.size 5 (.slice a6 yl c6) yz ∧ w5.drew.grownBy wy none))
       case first =>
        go_region_law (first
         | (refine step_appB rfl (.tmp 90) (.tmp 96) 23 rfl W.heap.size 5 iB Tryz.underlying23 hiB hzB0 hzB1 hzB2 (.slice none 0 0) [] (by simp [Act.eval]) (OwnB.nil _ _ _) ya yl yc yz (by simp [Act.eval]) HYL.out HYN.out HYR.out (by simp only [List.length_nil]; omega) HN5.out ?_; intro v7 w7' h7 g7; obtain ⟨a6, c6, rfl, _⟩ := (OwnB.sliceN h7 (n := yl) (by rw [List.nil_append]; exact HYL.out)); have hB7 : w7'.heap[w4.heap.size]? = some (.cells #[.slice a4 xl c4, .slice none 0 0] 78 (0, 0)) := (g7.block _ (lt_of_block G5.out) (fun e => by cases e)).trans G5.out; have y01 := two_at' hB7; have F7 := (fun j => frozen_of hB7 j); have HO7 : Hid (OwnB w7' W.heap.size 5 (.slice a6 yl c6) yz ∧ w5.drew.grownBy w7' none) := ⟨by rw [List.nil_append] at h7; exact h7, g7⟩; clear h7 g7 hB7; obtain ⟨u0, u1⟩ := y01)
         | fail)
        all_goals (try go_wp2_with fail)
        all_goals
         go_meet
         exact ⟨_, _, _, rfl, HO7⟩
       case rest =>
       rename World => wz
       obtain ⟨a6, c6, wy, hwz, HOY⟩ := hcut
       obtain ⟨hoy, hgy⟩ := HOY.out
       have by5 : Below w5.heap.size w5 wy := (below_drew (Below.refl w5.heap.size w5)).grown hgy (Nat.le_refl _) (fun k h => by cases h)
       have hBy : wy.heap[w4.heap.size]? = some (.cells #[.slice a4 xl c4, .slice none 0 0] 78 (0, 0)) := (by5.block _ hB45).trans G5.out
       have hu : Upd (fun k => k = w4.heap.size) wy wz := by rw [hwz]; exact (Upd.refl _ _).setCell _ _ (fun _ => rfl)
       have hBz : wz.heap[w4.heap.size]? = some (.cells #[.slice a4 xl c4, .slice a6 yl c6] 78 (0, 0)) := by rw [hwz]; exact block_setCell hBy 1 _
       have hNB : W.heap.size ≤ w4.heap.size := by have := HNT.out; have := HBX.out; omega
       have hTy : ∀ k cur T, wy.heap[k]? = some (.cells cur T (0, 0)) → T ≠ 78 → ¬ k = w4.heap.size := fun k cur T hh hT e => by
        rw [e, hBy] at hh
        cases hh
        exact hT rfl
       have hmy := MW5.out.below by5
       have hmz : RmW W wz W.heap.size A F s (met ++ [id]) (.slice ma6 (mn + 1) mc6) (.slice ob om oe) (E ++ E') := hmy.turn hu (fun k e => by rw [e]; exact hNB) (fun k hk => by
         obtain ⟨c, hh, _⟩ := own_tyE hmy.oM hk
         exact hTy k _ _ hh (by decide)) (fun k hk e => by
         obtain ⟨c, hh, _⟩ := own_tyE HMWt.out.row hk
         have h1 := lt_of_block hh
         have h2 := HBX.out
         omega) (fun k cur hh => hTy k cur _ hh (by decide))
       have htk : TOwn wz W.heap.size tk := (HTK5.out.below by5).upd hu (fun k cur hh => hTy k cur _ hh (by decide))
       obtain ⟨tv, htv0⟩ : ∃ tv : Tx, tv = ⟨a6, c6, yz⟩ := ⟨_, rfl⟩
       have hvv : Hid (tv.v = .slice a6 yl c6) := by show _ = _; rw [htv0]; simp only [Tx.v, HYL.out]
       have hsv : Hid ((V.getD i nilT).s = tv.s) := by show _ = _; rw [htv0]; exact HVX.out
       have htv : TOwn wz W.heap.size tv := by
        have ht : TOwn wy W.heap.size tv := by
         refine ⟨?_, by rw [htv0]; exact HY8.out, by rw [htv0]; show yz.length ≤ _; rw [HYL.out]; exact hyz⟩
         rw [hvv.out, show tv.s = yz by rw [htv0]]
         exact hoy
        exact ht.upd hu (fun k cur hh => hTy k cur _ hh (by decide))
       have hgz : wz.heap[w6.heap.size]? = some (.cells #[.int .i64 lv, .slice ha lh hc, .int .i64 ri, .slice (some ⟨bK, oK, none⟩) lk kc, .slice (some ⟨bV, oV, none⟩) lw vc, .slice ca lc cc] 35 (0, 0)) := hu.heap ((by5.block _ (lt_of_block GB5.out)).trans GB5.out) hgne
       have hbz : Below W.heap.size w6 wz := HB5.out.trans ((by5.mono MW5.out.nw).trans (hu.below (Nat.le_trans MW5.out.nw by5.size) (fun k hk e => by omega)))
       have hlen := HLEN.out
       have hE' := HEE.out
       clear hwz hoy hgy by5 hBy hu hNB hTy hmy htv0 HOY cV HLEN' z0 z1 z2 z3 z4 z5 y0 y1 F5 hgne hgne2 hbv hiV
       have hrow7 : wz.ownsRow W.heap.size 78 2 (.slice ob om oe) om ((E ++ E').flatMap EnC) := by
        have := hmz.row
        rw [hlen] at this
        exact this
       obtain ⟨wq, hwq⟩ : ∃ x, x = wz.alloc (.cells #[.slice a4 xl c4, .slice a6 yl c6] 78) := ⟨_, rfl⟩
       have bq : Below wz.heap.size wz wq := by rw [hwq]; exact (Below.refl _ _).alloc (Nat.le_refl _) _
       have HROQ := hide (owns_belowN hrow7 bq)
       have HCQ : Hid (∀ j u, ([.slice a4 xl c4, .slice a6 yl c6] : List Value)[j]? = some u → wq.cell? ((⟨wz.heap.size, 0, none⟩ : Addr).add j) = some u) := by
        show ∀ j u, _ → _
        rw [hwq]
        intro j u hu
        rw [Addr.add_lit, cell_of_row _ _ _ _ _ _ (heap_alloc_new wz _)]
        match j, hu with
        | 0, hu => exact hu
        | 1, hu => exact hu
       have HWQ : Hid (wz.alloc (.cells #[.slice a4 xl c4, .slice a6 yl c6] 78) = wq) := hwq.symm
       have MWQ := hide (hmz.below bq)
       have HNQ : Hid (W.heap.size ≤ wq.heap.size) := MWQ.out.nw
       have HTQ : Hid (TOwn wq W.heap.size tk ∧ TOwn wq W.heap.size tv) := ⟨htk.below bq, htv.below bq⟩
       have GBQ : Hid (wq.heap[w6.heap.size]? = some (.cells #[.int .i64 lv, .slice ha lh hc, .int .i64 ri, .slice (some ⟨bK, oK, none⟩) lk kc, .slice (some ⟨bV, oV, none⟩) lw vc, .slice ca lc cc] 35 (0, 0))) := (bq.block _ (lt_of_block hgz)).trans hgz
       have HBQ : Hid (Below W.heap.size w6 wq) := hbz.trans (bq.mono (by have := hbz.size; have := HX6.out; omega))
       obtain ⟨x0, x1⟩ := two_at' hBz
       clear hwq bq hrow7 hBz
       go_upto_region 18 with (first
        | (at_builtin; rw [HWQ.out]; refine append_own_any rfl (.tmp 99) (.tmp 101) 60 rfl W.heap.size 78 iE (.agg #[.slice none 0 0, .slice none 0 0]) 2 48 Tryz.underlying60 hiE hzE0 hzE1 hzE2 rfl (by decide) (.slice ob om oe) om ((E ++ E').flatMap EnC) rfl HROQ.out (some ⟨wz.heap.size, 0, none⟩) 1 1 [.slice a4 xl c4, .slice a6 yl c6] rfl rfl (fun e => by cases e) (fun ad e => by cases e; exact HCQ.out) (by intro u hu; simp at hu; rcases hu with rfl | rfl <;> rfl) (by unfold maxLen; omega) (by omega) HNQ.out ?_; intro v8 w8 h8 g8; have HR8 := hide h8; have HG8 := hide g8; clear h8 g8)
        | fail)
       clear x0 x1
       obtain ⟨oa8, oc8, hv8⟩ : ∃ a c, v8 = .slice a (om + 1) c := by
        rcases HR8.out.2 with ⟨_, h2⟩ | ⟨g, cap, cur, h1, _⟩
        ·omega
        ·exact ⟨_, _, h1⟩
       subst hv8
       have MW8 : Hid (RmW W w8 W.heap.size A F s (met ++ [id]) (.slice ma6 (mn + 1) mc6) (.slice oa8 (om + 1) oc8) (E ++ (E' ++ [(tk, tv)]))) := by
        rw [← List.append_assoc]
        refine MWQ.out.more HTQ.out ?_ HG8.out
        rw [List.flatMap_append, List.length_append, List.length_singleton, hlen]
        have h1 := HR8.out
        rw [show ([.slice a4 xl c4, .slice a6 yl c6] : List Value) = [(tk, tv)].flatMap EnC by rw [List.flatMap_cons, List.flatMap_nil, List.append_nil]; show _ = [tk.v, tv.v]; rw [hvk.out, hvv.out]] at h1
        exact h1
       have HNX : Hid (∃ E2, RmW W w8 W.heap.size A F s (met ++ [id]) (.slice ma6 (mn + 1) mc6) (.slice oa8 (om + 1) oc8) (E ++ E2) ∧ (E ++ E2).length = om + 1 ∧ E2.map enP = ((s.n id).ents).take (i + 1) ∧ w8.heap[w6.heap.size]? = some (.cells #[.int .i64 lv, .slice ha lh hc, .int .i64 ri, .slice (some ⟨bK, oK, none⟩) lk kc, .slice (some ⟨bV, oV, none⟩) lw vc, .slice ca lc cc] 35 (0, 0)) ∧ Below W.heap.size w6 w8) := by
        refine ⟨E' ++ [(tk, tv)], MW8.out, by rw [← List.append_assoc, List.length_append, hlen]; rfl, ?_, ?_, ?_⟩
        ·have hil : i < (s.n id).ents.length := by rw [NP.ents_len, HNP.out]; show i < (⟨some ⟨bK, oK, none⟩, kc, K⟩ : TL).p.length; rw [TL.p_len, HQ.out.2.1]; exact hlt
         rw [List.map_append, hE', List.take_succ_eq_append_getElem hil]
         congr 1
         have : (s.n id).ents[i] = ((s.n id).ks.getD i [], (s.n id).vs.getD i []) := by simp [NP.ents]
         rw [this, HNP.out]
         show [(tk.s, tv.s)] = [((⟨some ⟨bK, oK, none⟩, kc, K⟩ : TL).p.getD i [], (⟨some ⟨bV, oV, none⟩, vc, V⟩ : TL).p.getD i [])]
         rw [← tl_p_getD, ← tl_p_getD, hsk.out, hsv.out]
        ·exact (HG8.out.block _ (lt_of_block GBQ.out) (fun e => by
          obtain ⟨c, hh, _⟩ := own_tyE HROQ.out e.symm
          rw [GBQ.out] at hh
          cases hh)).trans GBQ.out
        ·exact HBQ.out.trans ((Upd.of_grown HG8.out (fun k hk _ => hk) : Upd (fun k => (Value.slice ob om oe).ownBlock = some k) wq w8).below HNQ.out (fun k hk e => by obtain ⟨c, _, h5⟩ := own_tyE HROQ.out e; omega))
       clear hmz htk htv hgz hbz hvk hvv hsk hsv hlen hE'
       go_wp2_with fail
       go_roundw
       case rel => exact ⟨i + 1, oa8, om + 1, oc8, by omega, by go_num, rfl, HNX⟩
       case measure => simp [intOf]; omega
      ·have j2 : ¬ (i : Int) < (lw : Int) := by omega
       obtain ⟨wz, hwz⟩ : ∃ wz, w5 = wz := ⟨_, rfl⟩
       subst hwz
       have hBz := G5.out
       have hmz := MW5.out
       have htk := HTK5.out
       obtain ⟨tv, htv0⟩ : ∃ tv : Tx, tv = nilT := ⟨_, rfl⟩
       have hvv : Hid (tv.v = .slice none 0 0) := by show _ = _; rw [htv0]; rfl
       have hsv : Hid ((V.getD i nilT).s = tv.s) := by show _ = _; rw [htv0, List.getD_eq_getElem?_getD, List.getElem?_eq_none (by rw [HQ.out.2.2.1]; omega)]; rfl
       have htv : TOwn w5 W.heap.size tv := by rw [htv0]; exact TOwn.nil _ _
       have hgz := GB5.out
       have hbz := HB5.out
       have hlen := HLEN.out
       have hE' := HEE.out
       go_upto_region 22 with fail
       clear htv0 HLEN' z0 z1 z2 z3 z4 z5 y0 y1 j2
       have hrow7 : w5.ownsRow W.heap.size 78 2 (.slice ob om oe) om ((E ++ E').flatMap EnC) := by
        have := hmz.row
        rw [hlen] at this
        exact this
       obtain ⟨wq, hwq⟩ : ∃ x, x = w5.alloc (.cells #[.slice a4 xl c4, .slice none 0 0] 78) := ⟨_, rfl⟩
       have bq : Below w5.heap.size w5 wq := by rw [hwq]; exact (Below.refl _ _).alloc (Nat.le_refl _) _
       have HROQ := hide (owns_belowN hrow7 bq)
       have HCQ : Hid (∀ j u, ([.slice a4 xl c4, .slice none 0 0] : List Value)[j]? = some u → wq.cell? ((⟨w5.heap.size, 0, none⟩ : Addr).add j) = some u) := by
        show ∀ j u, _ → _
        rw [hwq]
        intro j u hu
        rw [Addr.add_lit, cell_of_row _ _ _ _ _ _ (heap_alloc_new w5 _)]
        match j, hu with
        | 0, hu => exact hu
        | 1, hu => exact hu
       have HWQ : Hid (w5.alloc (.cells #[.slice a4 xl c4, .slice none 0 0] 78) = wq) := hwq.symm
       have MWQ := hide (hmz.below bq)
       have HNQ : Hid (W.heap.size ≤ wq.heap.size) := MWQ.out.nw
       have HTQ : Hid (TOwn wq W.heap.size tk ∧ TOwn wq W.heap.size tv) := ⟨htk.below bq, htv.below bq⟩
       have GBQ : Hid (wq.heap[w6.heap.size]? = some (.cells #[.int .i64 lv, .slice ha lh hc, .int .i64 ri, .slice (some ⟨bK, oK, none⟩) lk kc, .slice va lw vc, .slice ca lc cc] 35 (0, 0))) := (bq.block _ (lt_of_block hgz)).trans hgz
       have HBQ : Hid (Below W.heap.size w6 wq) := hbz.trans (bq.mono (by have := hbz.size; have := HX6.out; omega))
       obtain ⟨x0, x1⟩ := two_at' hBz
       clear hwq bq hrow7 hBz
       go_upto_region 18 with (first
        | (at_builtin; rw [HWQ.out]; refine append_own_any rfl (.tmp 99) (.tmp 101) 60 rfl W.heap.size 78 iE (.agg #[.slice none 0 0, .slice none 0 0]) 2 48 Tryz.underlying60 hiE hzE0 hzE1 hzE2 rfl (by decide) (.slice ob om oe) om ((E ++ E').flatMap EnC) rfl HROQ.out (some ⟨w5.heap.size, 0, none⟩) 1 1 [.slice a4 xl c4, .slice none 0 0] rfl rfl (fun e => by cases e) (fun ad e => by cases e; exact HCQ.out) (by intro u hu; simp at hu; rcases hu with rfl | rfl <;> rfl) (by unfold maxLen; omega) (by omega) HNQ.out ?_; intro v8 w8 h8 g8; have HR8 := hide h8; have HG8 := hide g8; clear h8 g8)
        | fail)
       clear x0 x1
       obtain ⟨oa8, oc8, hv8⟩ : ∃ a c, v8 = .slice a (om + 1) c := by
        rcases HR8.out.2 with ⟨_, h2⟩ | ⟨g, cap, cur, h1, _⟩
        ·omega
        ·exact ⟨_, _, h1⟩
       subst hv8
       have MW8 : Hid (RmW W w8 W.heap.size A F s (met ++ [id]) (.slice ma6 (mn + 1) mc6) (.slice oa8 (om + 1) oc8) (E ++ (E' ++ [(tk, tv)]))) := by
        rw [← List.append_assoc]
        refine MWQ.out.more HTQ.out ?_ HG8.out
        rw [List.flatMap_append, List.length_append, List.length_singleton, hlen]
        have h1 := HR8.out
        rw [show ([.slice a4 xl c4, .slice none 0 0] : List Value) = [(tk, tv)].flatMap EnC by rw [List.flatMap_cons, List.flatMap_nil, List.append_nil]; show _ = [tk.v, tv.v]; rw [hvk.out, hvv.out]] at h1
        exact h1
       have HNX : Hid (∃ E2, RmW W w8 W.heap.size A F s (met ++ [id]) (.slice ma6 (mn + 1) mc6) (.slice oa8 (om + 1) oc8) (E ++ E2) ∧ (E ++ E2).length = om + 1 ∧ E2.map enP = ((s.n id).ents).take (i + 1) ∧ w8.heap[w6.heap.size]? = some (.cells #[.int .i64 lv, .slice ha lh hc, .int .i64 ri, .slice (some ⟨bK, oK, none⟩) lk kc, .slice va lw vc, .slice ca lc cc] 35 (0, 0)) ∧ Below W.heap.size w6 w8) := by
        refine ⟨E' ++ [(tk, tv)], MW8.out, by rw [← List.append_assoc, List.length_append, hlen]; rfl, ?_, ?_, ?_⟩
        ·have hil : i < (s.n id).ents.length := by rw [NP.ents_len, HNP.out]; show i < (⟨some ⟨bK, oK, none⟩, kc, K⟩ : TL).p.length; rw [TL.p_len, HQ.out.2.1]; exact hlt
         rw [List.map_append, hE', List.take_succ_eq_append_getElem hil]
         congr 1
         have : (s.n id).ents[i] = ((s.n id).ks.getD i [], (s.n id).vs.getD i []) := by simp [NP.ents]
         rw [this, HNP.out]
         show [(tk.s, tv.s)] = [((⟨some ⟨bK, oK, none⟩, kc, K⟩ : TL).p.getD i [], (⟨va, vc, V⟩ : TL).p.getD i [])]
         rw [← tl_p_getD, ← tl_p_getD, hsk.out, hsv.out]
        ·exact (HG8.out.block _ (lt_of_block GBQ.out) (fun e => by
          obtain ⟨c, hh, _⟩ := own_tyE HROQ.out e.symm
          rw [GBQ.out] at hh
          cases hh)).trans GBQ.out
        ·exact HBQ.out.trans ((Upd.of_grown HG8.out (fun k hk _ => hk) : Upd (fun k => (Value.slice ob om oe).ownBlock = some k) wq w8).below HNQ.out (fun k hk e => by obtain ⟨c, _, h5⟩ := own_tyE HROQ.out e; omega))
       clear hmz htk htv hgz hbz hvk hvv hsk hsv hlen hE'
       go_wp2_with fail
       go_roundw
       case rel => exact ⟨i + 1, oa8, om + 1, oc8, by omega, by go_num, rfl, HNX⟩
       case measure => simp [intOf]; omega
     ·-- DONE
      have j1 : ¬ (i : Int) < (lk : Int) := by omega
      obtain rfl : i = lk := by omega
      have HNX : Hid (∃ met' E'', RmW W wt W.heap.size A F s met' (.slice ma6 (mn + 1) mc6) (.slice ob om oe) E'' ∧ E''.length = om ∧ met'.length = mn + 1 ∧ R = s.mapF g' met' true ri (E''.map enP) ∧ g' + met'.length = s.sl.length + 1 ∧ E''.length ≤ met'.length * 1048576 ∧ C0 ri) := by
       refine ⟨met ++ [id], E ++ E', hmw, hlen, by rw [List.length_append, List.length_singleton, HN.out.2.2.2.2], ?_, ?_, ?_, ?_⟩
       ·have h0 : (s.n id).lv ≤ 0 := by rw [HNP.out]; exact hlv
        have h1 : (s.n id).ri = ri := by rw [HNP.out]; rfl
        have h2 : (s.n id).ents.take i = (s.n id).ents := List.take_of_length_le (by rw [NP.ents_len, HNP.out]; show (⟨ka, kc, K⟩ : TL).p.length ≤ _; rw [TL.p_len, HQ.out.2.1]; exact Nat.le_refl _)
        rw [HRR.out, mapF_leaf HGO.out h0, List.map_append, hE', h1, h2]
       ·rw [List.length_append, List.length_singleton]; have := HN.out.2.1; omega
       ·rw [List.length_append, List.length_append, List.length_singleton]; have := HN.out; omega
       ·have h1 := HC1.out id HCI.out HGO.out.1 (by rw [HNP.out]; exact hlv)
        rw [HNP.out] at h1
        exact h1
      clear hmw hlen hE' hg hb HI
      go_wp2_with fail
      go_roundg g'
      case rel => exact ⟨ri, true, ob, om, oe, ma6, mn + 1, mc6, rfl, rfl, rfl, rfl, HNX.out⟩
      case measure => omega
   ·-- INNER
    have jlv : lv > 0 := by omega
    go_cut [5] (fun s5 wx => s5 = .bool leaf ∧ Hid (wx = w7))
    case first =>
     cases leaf with
     | true => go_wp2_with fail; go_meet; exact ⟨rfl, rfl⟩
     | false => go_wp2_with fail; go_meet; exact ⟨by simp, rfl⟩
    case rest =>
    rename World => wx
    obtain ⟨rfl, hwx⟩ := hcut
    replace hwx := hwx.out.symm
    subst hwx
    have h0 : ¬ (s.n id).lv ≤ 0 := by rw [HNP.out]; exact hlv
    have hcs : (s.n id).cs = C := by rw [HNP.out]; rfl
    by_cases hend : leaf = true ∨ C = []
    ·have hRE : R = E.map enP := by rw [HRR.out]; exact mapF_end HGO.out h0 (by rw [hcs]; exact hend)
     have HFIN : Hid (MpP W R (.returned (.slice oa on oc)) w7) := ⟨E, _, rfl, MW7.out.row, MW7.out.own, hRE.symm, MW7.out.bel⟩
     by_cases hc0 : C = []
     ·have hl0 : lc = 0 := by rw [← HQ.out.2.2.2, hc0]; rfl
      subst hl0
      clear h0 hcs hend hRE hc0
      go_wp2_with fail
      go_ret
      exact HFIN.out
     ·have hlf : leaf = true := hend.elim (fun h => h) (fun h => absurd h hc0)
      subst hlf
      have jl : ¬ (lc : Int) = 0 := by
       have : 0 < C.length := List.length_pos_iff.2 hc0
       have := HQ.out.2.2.2
       omega
      clear h0 hcs hend hRE hc0
      go_wp2_with fail
      go_ret
      exact HFIN.out
    ·obtain ⟨hlf, hC⟩ : leaf = false ∧ C ≠ [] := ⟨by cases leaf with | true => exact absurd (.inl rfl) hend | false => rfl, fun e => hend (.inr e)⟩
     have hl0 : 0 < C.length := List.length_pos_iff.2 hC
     have hrow := (HNOK.out w7 (B67.out.mono HX6.out)).c.r
     simp only at hrow
     obtain ⟨bC, oC, hca, cC⟩ := hrow 0 hl0
     subst hca
     rw [Nat.add_zero] at cC
     have hRN : R = s.mapF g' (met ++ [id]) leaf (C.getD 0 0) (E.map enP) := by
      rw [HRR.out, mapF_down HGO.out h0 (by rw [hcs]; exact hend), hcs]
     subst hlf
     obtain ⟨nid, hnid⟩ : ∃ x, C.getD 0 0 = x := ⟨_, rfl⟩
     rw [hnid] at cC hRN
     have hl : 0 < lc := by rw [← HQ.out.2.2.2]; exact hl0
     have jl : ¬ (lc : Int) = 0 := by omega
     have jl2 : (0 : Int) < (lc : Int) := by omega
     have HNX : Hid (∃ met' E'', RmW W w7 W.heap.size A F s met' (.slice ma6 (mn + 1) mc6) (.slice oa on oc) E'' ∧ E''.length = on ∧ met'.length = mn + 1 ∧ R = s.mapF g' met' false nid (E''.map enP) ∧ g' + met'.length = s.sl.length + 1 ∧ E''.length ≤ met'.length * 1048576 ∧ C0 nid) := by
      refine ⟨met ++ [id], E, MW7.out, HN.out.1, by rw [List.length_append, List.length_singleton, HN.out.2.2.2.2], hRN, ?_, ?_, ?_⟩
      ·rw [List.length_append, List.length_singleton]; have := HN.out.2.1; omega
      ·rw [List.length_append, List.length_singleton]; have := HN.out; omega
      ·have h1 := HC2.out id HCI.out HGO.out.1 (by omega)
       rw [hcs, hnid] at h1
       exact h1
     clear h0 hcs hend hC hl0 hrow hRN hnid
     go_wp2_with fail
     go_roundg g'
     case rel => exact ⟨nid, false, oa, on, oc, ma6, mn + 1, mc6, rfl, rfl, rfl, rfl, HNX.out⟩
     case measure => omega
  ·-- OUT
   have hRE : R = E.map enP := by rw [HRR.out]; exact mapF_stop hgo
   have HFIN : Hid (MpP W R (.returned (.slice oa on oc)) wr) := ⟨E, _, rfl, HMW.out.row, HMW.out.own, hRE.symm, HMW.out.bel⟩
   by_cases hin : s.inn id
   ·have hmem : id ∈ met := Decidable.byContradiction fun h => hgo ⟨hin, h⟩
    rw [decide_eq_true hin] at HTH
    rw [decide_eq_true hmem] at HHS
    clear hRE hgo
    go_wp2_with fail
    refine keep HTH.out ?_
    go_wp2_with fail
    refine keep HHS.out ?_
    go_wp2_with fail
    go_ret
    exact HFIN.out
   ·rw [decide_eq_false hin] at HTH
    obtain ⟨bm, hbm⟩ : ∃ b, decide (id ∈ met) = b := ⟨_, rfl⟩
    rw [hbm] at HHS
    clear hRE hgo hbm
    go_wp2_with fail
    refine keep HTH.out ?_
    go_wp2_with fail
    refine keep HHS.out ?_
    go_wp2_with fail
    go_ret
    exact HFIN.out
end Go.Proofs.YtealejbfloacpaaGreat
