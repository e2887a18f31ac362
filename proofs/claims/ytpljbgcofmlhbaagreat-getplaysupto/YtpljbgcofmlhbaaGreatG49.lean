/- GetPlays: the walk. -/
import Derived.Test.YtpljbgcofmlhbaaGreatG48
import Derived.Test.YtpljbgcofmlhbaaGreatG46
import Derived.Test.YtpljbgcofmlhbaaGreatG47
import Derived.Test.YtpljbgcofmlhbaaGreatG14
import Derived.Test.YtpljbgcofmlhbaaGreatG30
import Derived.Test.YtpljbgcofmlhbaaGreatG3
import Derived.Deep.CutBlock
import Derived.Deep.DeepCutAuto
namespace Go.Proofs.YtpljbgcofmlhbaaGreat
open Go.RowKit
set_option maxRecDepth 100000
theorem infoGQ : (Tryz.prog.info? 49).map (fun i => (i.zero, i.size, i.bytes)) = some (some (.agg #[.pointer none, .pointer none, .slice none 0 0]), 3, 40) := by kernel_rfl
set_option maxRecDepth 100000 in
set_option maxHeartbeats 25600000 in
theorem getPlays_any (aS : Option Addr) (lS cS : Nat) (L0 : List TOp) (w : World)
  (hL : L0.length = lS) (hO : TOps w.heap.size w aS L0) (hS : ∀ x ∈ L0, SzP 1048576 x.n.p) (hlS : lS ≤ 1048576) :
  Calls Tryz.prog 3 #[.slice aS lS cS] w fun e w' => e = .returned (.bool true) ∧ Below w.heap.size w w' := by
 obtain ⟨i0, hi0, hz0, hz1, hz2⟩ := info_parts infoByte'
 obtain ⟨i1, hi1, hy0, hy1, hy2⟩ := info_parts infoGQ
 have HHD := hide (ghead_any w)
 have HBG : Hid (∀ W, Calls Tryz.prog 9 #[.int .i64 60] W (BegP W 60)) := fun W => begun_good 60 W (by decide) (by decide)
 have HO := hide hO
 have HLL := hide hL
 have HSZ := hide hS
 have HLS := hide hlS
 have hlS2 : (lS : Int) ≤ 9223372036854775807 := by omega
 clear hO hL hlS hS
 go_enter Tryz.func3, Tryz.ntmps3
 go_wp2_with fail
 refine HHD.out.mono ?_
 rintro e wA ⟨rfl, bA⟩
 have BA := hide bA
 clear bA HHD
 go_wp2_with fail
 refine (HBG.out wA).mono ?_
 rintro e w1 ⟨P, AX, AY, rfl, hA, hb⟩
 have HD1 : Hid (GV w 0 0 w1 P AX AY (.slice none 0 0)) := by
  refine ⟨_, fun _ => 0, _, [], ⟨hA, BA.out.trans (hb.mono BA.out.size), fun k hk => .inl (Nat.lt_of_lt_of_le hk BA.out.size), fun _ _ => rfl, fun k hk => absurd rfl hk, fun k hk => absurd rfl hk, rfl, World.ownsRow_nil _ _ _ _, (fun k hk => by cases hk), fun i hi => absurd hi (Nat.not_lt_zero i), fun i hi => absurd hi (Nat.not_lt_zero i), (fun x hx => by cases hx)⟩, rfl, (fun x hx => by cases hx), Nat.le_refl _, SI.new _ _⟩
 clear hA hb HBG BA
 go_wp2_with fail
 go_loopw [5, 6, 7] (fun q5 q6 q7 wr => ∃ (i n : Nat) (a6 : Option Addr) (c6 : Nat), i ≤ lS ∧ q5 = .bool true ∧ q6 = .slice a6 n c6 ∧ q7 = .int .i64 (i : Int) ∧ Hid (GV w i n wr P AX AY (.slice a6 n c6))) (fun _ _ q7 _ => lS - (intOf q7).toNat)
 case atStart => exact ⟨0, 0, none, 0, Nat.zero_le _, rfl, rfl, rfl, HD1⟩
 case round =>
  clear HD1
  obtain ⟨i, n, a6, c6, hi, rfl, rfl, rfl, HI⟩ := hrel
  rename World => wr
  by_cases hlt : i < lS
  ·have j1 : (i : Int) < (lS : Int) := by omega
   have hiL : i < L0.length := by rw [HLL.out]; exact hlt
   have hi6 : i ≤ 1048576 := by have := HLS.out; omega
   obtain ⟨K, lab, s, L, hD, hLn, hSim, hni, hSI⟩ := HI.out
   have hops := HO.out.below hD.bw
   have hok0 := HO.out.ok L0[i] (List.getElem_mem hiL)
   obtain ⟨ob, oo, hoa, hok, hoc⟩ := hops.c i hiL
   subst hoa
   have oko := hops.ok L0[i] (List.getElem_mem hiL)
   have hsz := HSZ.out L0[i] (List.getElem_mem hiL)
   generalize L0[i] = op at *
   obtain ⟨kd, oa, obb, ⟨k1a, k1c, k1⟩, ⟨k2a, k2c, k2⟩, ⟨k3a, k3c, k3⟩, ch', ⟨lv, ⟨ha, hc, hs⟩, ri, ⟨ka, kc, KL⟩, ⟨va, vc, V⟩, ⟨ca, cc, C⟩⟩⟩ := op
   have HTN : Hid (∀ W, Below wr.heap.size wr W → Calls Tryz.prog 10 #[.pointer (some ⟨P, 0, none⟩), (⟨kd, oa, obb, ⟨k1a, k1c, k1⟩, ⟨k2a, k2c, k2⟩, ⟨k3a, k3c, k3⟩, ch', ⟨lv, ⟨ha, hc, hs⟩, ri, ⟨ka, kc, KL⟩, ⟨va, vc, V⟩, ⟨ca, cc, C⟩⟩⟩ : TOp).v] W fun e w' => e = .returned (.bool true) ∧ GV w (i + 1) n w' P AX AY (.slice a6 n c6)) := fun W hb => by
    refine (turn_any (hD.below hb).aw hSI ⟨kd, oa, obb, ⟨k1a, k1c, k1⟩, ⟨k2a, k2c, k2⟩, ⟨k3a, k3c, k3⟩, ch', ⟨lv, ⟨ha, hc, hs⟩, ri, ⟨ka, kc, KL⟩, ⟨va, vc, V⟩, ⟨ca, cc, C⟩⟩⟩ ⟨oko.k1, oko.a1, oko.b1, oko.key.below hb, oko.value.below hb, oko.n.below hb, oko.i.mono (fun k hk => hD.kb k hk)⟩ (hsz.mono (by omega)) (by omega)).mono ?_
    rintro e w' ⟨s', ⟨rfl, hA3, hU3⟩, hS3⟩
    exact ⟨rfl, K, lab, s', L, ((hD.below hb).raw hA3 hU3).less (by omega), hLn, hSim, Nat.le_succ_of_le hni, hS3⟩
   have HKY : Hid ((⟨k1a, k1c, k1⟩ : Tx).Ok w) := hok0.key
   have HKB := hide oko.k1
   have HOA := hide oko.a1
   have HOB := hide oko.b1
   simp only [TOp.v, TOp.cs, Tx.v, TL.v, IL.v] at HTN hoc
   obtain ⟨l1, hl1⟩ : ∃ x, k1.length = x := ⟨_, rfl⟩
   rw [hl1] at HTN hoc
   have HL1 := hide hl1
   generalize k2.length = l2 at *
   generalize k3.length = l3 at *
   generalize hs.length = lh at *
   generalize KL.length = lk at *
   generalize V.length = lw at *
   generalize C.length = lc at *
   have e0 : wr.cell? ⟨ob, oo + i * 13, none⟩ = some (.int .i64 kd) := hoc 0 _ rfl
   have e1 : wr.cell? ⟨ob, oo + i * 13 + 1, none⟩ = some (.int .i64 oa) := hoc 1 _ rfl
   have e2 : wr.cell? ⟨ob, oo + i * 13 + 2, none⟩ = some (.int .i64 obb) := hoc 2 _ rfl
   have e3 : wr.cell? ⟨ob, oo + i * 13 + 3, none⟩ = some (.slice k1a l1 k1c) := hoc 3 _ rfl
   have e4 : wr.cell? ⟨ob, oo + i * 13 + 4, none⟩ = some (.slice k2a l2 k2c) := hoc 4 _ rfl
   have e5 : wr.cell? ⟨ob, oo + i * 13 + 5, none⟩ = some (.slice k3a l3 k3c) := hoc 5 _ rfl
   have e6 : wr.cell? ⟨ob, oo + i * 13 + 6, none⟩ = some (.bool ch') := hoc 6 _ rfl
   have e7 : wr.cell? ⟨ob, oo + i * 13 + 7, none⟩ = some (.int .i64 lv) := hoc 7 _ rfl
   have e8 : wr.cell? ⟨ob, oo + i * 13 + 8, none⟩ = some (.slice ha lh hc) := hoc 8 _ rfl
   have e9 : wr.cell? ⟨ob, oo + i * 13 + 9, none⟩ = some (.int .i64 ri) := hoc 9 _ rfl
   have e10 : wr.cell? ⟨ob, oo + i * 13 + 10, none⟩ = some (.slice ka lk kc) := hoc 10 _ rfl
   have e11 : wr.cell? ⟨ob, oo + i * 13 + 11, none⟩ = some (.slice va lw vc) := hoc 11 _ rfl
   have e12 : wr.cell? ⟨ob, oo + i * 13 + 12, none⟩ = some (.slice ca lc cc) := hoc 12 _ rfl
   have HDW := hide hD
   have HSIM := hide hSim
   have HLN := hide hLn
   have HNI := hide hni
   have HSI := hide hSI
   have hn63 : n + 1 ≤ maxLen := by unfold maxLen; omega
   have hn40 : (n + 1) * 40 ≤ 140737488355328 := by omega
   obtain ⟨wb, hwb⟩ : ∃ wb, wb = wr.alloc (.cells #[.int .i64 kd, .int .i64 oa, .int .i64 obb, .slice k1a l1 k1c, .slice k2a l2 k2c, .slice k3a l3 k3c, .bool ch', .int .i64 lv, .slice ha lh hc, .int .i64 ri, .slice ka lk kc, .slice va lw vc, .slice ca lc cc] 38) := ⟨_, rfl⟩
   have bb : Below wr.heap.size wr wb := by rw [hwb]; exact (Below.refl _ _).alloc (Nat.le_refl _) _
   have GB : Hid (wb.heap[wr.heap.size]? = some (.cells #[.int .i64 kd, .int .i64 oa, .int .i64 obb, .slice k1a l1 k1c, .slice k2a l2 k2c, .slice k3a l3 k3c, .bool ch', .int .i64 lv, .slice ha lh hc, .int .i64 ri, .slice ka lk kc, .slice va lw vc, .slice ca lc cc] 38 (0, 0))) := by show _ = _; rw [hwb]; exact heap_alloc_new wr _
   have BB := hide bb
   have HWB := hide hwb
   have HSK : Hid (∀ W, Below wb.heap.size wb W → GV w (i + 1) n W P AX AY (.slice a6 n c6)) := fun W hb => ⟨K, lab, s, L, (hD.below (bb.trans (hb.mono bb.size))).less (by omega), hLn, hSim, Nat.le_succ_of_le hni, hSI.mono (by omega)⟩
   have HSB : Hid (wr.heap.size < wb.heap.size) := lt_of_block GB.out
   clear hops hok0 hoc hok oko hsz hl1 hD hLn hSim hni hSI HI bb hwb
   go_upto_region 10 with fail
   rw [← HWB.out]
   clear HWB e0 e1 e2 e3 e4 e5 e6 e7 e8 e9 e10 e11 e12
   have bx0 : wb.cell? ⟨wr.heap.size, 0, none⟩ = some (.int .i64 kd) := by rw [cell_of_row _ _ _ _ _ _ GB.out]; rfl
   have bx1 : wb.cell? ⟨wr.heap.size, 1, none⟩ = some (.int .i64 oa) := by rw [cell_of_row _ _ _ _ _ _ GB.out]; rfl
   have bx2 : wb.cell? ⟨wr.heap.size, 2, none⟩ = some (.int .i64 obb) := by rw [cell_of_row _ _ _ _ _ _ GB.out]; rfl
   have bx3 : wb.cell? ⟨wr.heap.size, 3, none⟩ = some (.slice k1a l1 k1c) := by rw [cell_of_row _ _ _ _ _ _ GB.out]; rfl
   have bx4 : wb.cell? ⟨wr.heap.size, 4, none⟩ = some (.slice k2a l2 k2c) := by rw [cell_of_row _ _ _ _ _ _ GB.out]; rfl
   have bx5 : wb.cell? ⟨wr.heap.size, 5, none⟩ = some (.slice k3a l3 k3c) := by rw [cell_of_row _ _ _ _ _ _ GB.out]; rfl
   have bx6 : wb.cell? ⟨wr.heap.size, 6, none⟩ = some (.bool ch') := by rw [cell_of_row _ _ _ _ _ _ GB.out]; rfl
   have bx7 : wb.cell? ⟨wr.heap.size, 7, none⟩ = some (.int .i64 lv) := by rw [cell_of_row _ _ _ _ _ _ GB.out]; rfl
   have bx8 : wb.cell? ⟨wr.heap.size, 8, none⟩ = some (.slice ha lh hc) := by rw [cell_of_row _ _ _ _ _ _ GB.out]; rfl
   have bx9 : wb.cell? ⟨wr.heap.size, 9, none⟩ = some (.int .i64 ri) := by rw [cell_of_row _ _ _ _ _ _ GB.out]; rfl
   have bx10 : wb.cell? ⟨wr.heap.size, 10, none⟩ = some (.slice ka lk kc) := by rw [cell_of_row _ _ _ _ _ _ GB.out]; rfl
   have bx11 : wb.cell? ⟨wr.heap.size, 11, none⟩ = some (.slice va lw vc) := by rw [cell_of_row _ _ _ _ _ _ GB.out]; rfl
   have bx12 : wb.cell? ⟨wr.heap.size, 12, none⟩ = some (.slice ca lc cc) := by rw [cell_of_row _ _ _ _ _ _ GB.out]; rfl
   by_cases hA : 0 ≤ kd ∧ kd ≤ 6
   ·obtain ⟨ja, jb⟩ := hA
    have HTT := hide (HTN.out wb BB.out)
    clear HTN HSK HDW HSIM HLN HNI HSI HKY
    go_wp2_with fail
    refine HTT.out.mono ?_
    rintro e w3 ⟨rfl, hg3⟩
    have HN := hide hg3
    clear hg3 HTT bx0 bx1 bx2 bx3 bx4 bx5 bx6 bx7 bx8 bx9 bx10 bx11 bx12
    go_wp2_with fail
    go_roundw
    case rel => exact ⟨i + 1, n, a6, c6, by omega, rfl, rfl, by go_num, HN⟩
    case measure => simp [intOf]; omega
   ·by_cases h7 : kd = 7
    ·subst h7
     have hkz : l1 ≤ 140737488351232 := by have := HKY.out.z; simp only [HL1.out] at this; exact this
     have KB : Hid ((⟨k1a, k1c, k1⟩ : Tx).Ok wb) := HKY.out.below (HDW.out.below BB.out).bw
     have HN3 : Hid (k1a = none → l1 = 0 ∧ k1c = 0) := fun e => by have := HKY.out.n e; simp only [HL1.out] at this; exact this
     have HRB : Hid (Row wb .u8 k1a k1) := KB.out.r
     have hsb := HSB.out
     have hne9 : ¬ wr.heap.size = wb.heap.size := by omega
     clear HTN HSK bx1 bx2 bx4 bx5 bx6 bx7 bx8 bx9 bx10 bx11 bx12
     go_wp2_with (first
      | (at_builtin; refine append_b rfl (.tmp 60) (.tmp 62) 28 rfl wb.heap.size 5 i0 Tryz.underlying28 hi0 hz0 hz1 hz2 (.slice (some ⟨wb.heap.size, 0, none⟩) 0 0) [] rfl (OwnB.made #[] 0 (Nat.le_refl _) (by unfold maxLen; omega) rfl (by intro u hu; cases hu)) k1a l1 k1c k1 rfl HL1.out HN3.out (HRB.out.alloc _) (by simp; omega) (by simp) ?_; intro v4 wk hown4 hg4; simp only [List.nil_append] at hown4; obtain ⟨na, nc, rfl, _, _⟩ := hown4.slice; have HOK := hide hown4; have HGK := hide hg4; clear hown4 hg4; rw [HL1.out] at HOK; try rw [HL1.out])
      | fail)
     go_upto_region 14 with fail
     have BK : Hid (Below wb.heap.size wb wk) := ((Below.refl _ _).alloc (Nat.le_refl _) _).grown HGK.out (by simp) (fun k h => by cases h; exact Nat.le_refl _)
     have BWK : Hid (Below wr.heap.size wr wk) := BB.out.trans (BK.out.mono BB.out.size)
     have HDK := hide ((HDW.out.below BB.out).more BK.out)
     have hOwn : OwnB wk wb.heap.size 5 (⟨na, nc, k1⟩ : Tx).v k1 := by simp only [Tx.v, HL1.out]; exact HOK.out
     have KTX : Hid ((⟨na, nc, k1⟩ : Tx).Ok wk) := ownB_ok (x := ⟨na, nc, k1⟩) hOwn HKY.out.b8 HKY.out.z
     have KEX : Hid ((⟨k1a, k1c, k1⟩ : Tx).Ok wk) := HKY.out.below HDK.out.bw
     have HBKK : Hid (Bk wk wb.heap.size wk.heap.size na l1) := by have := bk_own (x := ⟨na, nc, k1⟩) hOwn HKY.out.z; simp only [HL1.out] at this; exact this
     have HNX : Hid (∀ W', Below wk.heap.size wk W' → Calls Tryz.prog 11 #[.pointer (some ⟨AX, 0, none⟩), .slice na l1 nc] W' fun e w' => ∃ p pm kt vt D, e = .returned (.pointer (some ⟨p, 0, none⟩)) ∧ GP w' p AX pm kt vt D (GS.new k1) ∧ W'.heap.size ≤ p ∧ (∀ x, D x → W'.heap.size ≤ x) ∧ Below wk.heap.size wk w' ∧ Below W'.heap.size W' w') := fun W' hb => by
      have := gnew_any (A := AX) ⟨na, nc, k1⟩ (KTX.out.below hb)
      simp only [Tx.v, HL1.out] at this
      exact this.mono fun e w' h => by obtain ⟨p, pm, kt, vt, D, h1, h2, h3, h4, h5⟩ := h; exact ⟨p, pm, kt, vt, D, h1, h2, h3, h4, hb.trans (h5.mono hb.size), h5⟩
     have HNY : Hid (∀ W', Below wk.heap.size wk W' → Calls Tryz.prog 12 #[.pointer (some ⟨AY, 0, none⟩), .slice k1a l1 k1c] W' fun e w' => ∃ p pm kt vt D, e = .returned (.pointer (some ⟨p, 0, none⟩)) ∧ RGP w' p AY pm kt vt D (GS.new k1) ∧ W'.heap.size ≤ p ∧ (∀ x, D x → W'.heap.size ≤ x) ∧ Below wk.heap.size wk w' ∧ Below W'.heap.size W' w') := fun W' hb => by
      have := rgnew_any (A := AY) (⟨k1a, k1c, k1⟩ : Tx) (KEX.out.below hb)
      simp only [Tx.v, HL1.out] at this
      exact this.mono fun e w' h => by obtain ⟨p, pm, kt, vt, D, h1, h2, h3, h4, h5⟩ := h; exact ⟨p, pm, kt, vt, D, h1, h2, h3, h4, hb.trans (h5.mono hb.size), h5⟩
     obtain ⟨p0, p1⟩ := HDK.out.aw.cells
     have gk := (BK.out.block _ HSB.out).trans GB.out
     have p3 : wk.cell? ⟨wr.heap.size, 3, none⟩ = some (.slice k1a l1 k1c) := by rw [cell_of_row _ _ _ _ _ _ gk]; rfl
     have GK := hide gk
     have hPk := HDK.out.plt
     have hBk := lt_of_block gk
     clear bx0 bx3 gk hOwn KB HN3 HRB HOK
     go_cut [10] (fun s10 wx => ∃ (pp qq gb : Nat), s10 = .pointer (some ⟨gb, 0, none⟩) ∧ Hid (NewQ wk wx AX AY k1 pp qq gb (.slice k1a l1 k1c)))
     case first =>
      go_region_held3 (fun W' => W'.cell? ⟨P, 0, none⟩ = some (.pointer (some ⟨AX, 0, none⟩)) ∧ W'.cell? ⟨P, 1, none⟩ = some (.pointer (some ⟨AY, 0, none⟩)) ∧ W'.cell? ⟨wr.heap.size, 3, none⟩ = some (.slice k1a l1 k1c)) (go_keep) (first
       | (go_at_call 12; have hgA := gA.out; refine (HNY.out _ (BX2.out)).mono ?_; rintro e w3 ⟨qq, pm3, kt3, vt3, D3, rfl, hr, hq, hD3, hbk, hb3⟩; have BX3 := hide hbk; have HR3 := hide hr; have HQ3 := hide (And.intro hq hD3); have HB3 := hide hb3; have z0 := (BX3.out.cell (p := ⟨P, 0, none⟩) hPk).trans p0; have z1 := (BX3.out.cell (p := ⟨P, 1, none⟩) hPk).trans p1; have z3 := (BX3.out.cell (p := ⟨wr.heap.size, 3, none⟩) hBk).trans p3; have gb3 := (hb3.block wk.heap.size (lt_of_block hgA)).trans hgA; have G3 := hide gb3; have b0 := (show w3.cell? ⟨wk.heap.size, 0, none⟩ = some (.pointer none) by rw [cell_of_row _ _ _ _ _ _ gb3]; rfl); have b1 := (show w3.cell? ⟨wk.heap.size, 1, none⟩ = some (.pointer none) by rw [cell_of_row _ _ _ _ _ _ gb3]; rfl); have b2 := (show w3.cell? ⟨wk.heap.size, 2, none⟩ = some (.slice none 0 0) by rw [cell_of_row _ _ _ _ _ _ gb3]; rfl); have fz := (fun j => frozen_of gb3 j); have n1 : ¬ P = wk.heap.size := (by omega); have n2 : ¬ wk.heap.size = P := (by omega); have n3 : ¬ wr.heap.size = wk.heap.size := (by omega); have n4 : ¬ wk.heap.size = wr.heap.size := (by omega); clear gb3; clear hgA; clear hr hq hD3 hbk hb3)
       | (go_at_call 12; refine (HNY.out _ (BX2.out)).mono ?_; rintro e w3 ⟨qq, pm3, kt3, vt3, D3, rfl, hr, hq, hD3, hbk, hb3⟩; have BX3 := hide hbk; have HR3 := hide hr; have HQ3 := hide (And.intro hq hD3); have HB3 := hide hb3; have z0 := (BX3.out.cell (p := ⟨P, 0, none⟩) hPk).trans p0; have z1 := (BX3.out.cell (p := ⟨P, 1, none⟩) hPk).trans p1; have z3 := (BX3.out.cell (p := ⟨wr.heap.size, 3, none⟩) hBk).trans p3; clear hr hq hD3 hbk hb3)
       | (go_at_call 12; refine (HNY.out _ (BX2.out.alloc BX2.out.size _)).mono ?_; rintro e w3 ⟨qq, pm3, kt3, vt3, D3, rfl, hr, hq, hD3, hbk, hb3⟩; have BX3 := hide hbk; have HR3 := hide hr; have HQ3 := hide (And.intro hq hD3); have HB3 := hide hb3; have z0 := (BX3.out.cell (p := ⟨P, 0, none⟩) hPk).trans p0; have z1 := (BX3.out.cell (p := ⟨P, 1, none⟩) hPk).trans p1; have z3 := (BX3.out.cell (p := ⟨wr.heap.size, 3, none⟩) hBk).trans p3; have gb3 := (hb3.block w2.heap.size (by simp)).trans (heap_alloc_new w2 (.cells #[.pointer none, .pointer none, .slice none 0 0] 49)); have G3 := hide gb3; have b0 := (show w3.cell? ⟨w2.heap.size, 0, none⟩ = some (.pointer none) by rw [cell_of_row _ _ _ _ _ _ gb3]; rfl); have b1 := (show w3.cell? ⟨w2.heap.size, 1, none⟩ = some (.pointer none) by rw [cell_of_row _ _ _ _ _ _ gb3]; rfl); have b2 := (show w3.cell? ⟨w2.heap.size, 2, none⟩ = some (.slice none 0 0) by rw [cell_of_row _ _ _ _ _ _ gb3]; rfl); have fz := (fun j => frozen_of gb3 j); have n1 : ¬ P = w2.heap.size := (by omega); have n2 : ¬ w2.heap.size = P := (by omega); have n3 : ¬ wr.heap.size = w2.heap.size := (by omega); have n4 : ¬ w2.heap.size = wr.heap.size := (by omega); clear gb3; clear hr hq hD3 hbk hb3)
       | (go_at_call 11; refine (HNX.out _ (below_drew (Below.refl _ _))).mono ?_; rintro e w2 ⟨pp, pm2, kt2, vt2, D2, rfl, hm, hp, hD2, hbk, hb2⟩; have BX2 := hide hbk; have HM2 := hide hm; have HP2 := hide (And.intro hp hD2); have hs2 := hbk.size; have y0 := (BX2.out.cell (p := ⟨P, 0, none⟩) hPk).trans p0; have y1 := (BX2.out.cell (p := ⟨P, 1, none⟩) hPk).trans p1; have y3 := (BX2.out.cell (p := ⟨wr.heap.size, 3, none⟩) hBk).trans p3; clear hm hp hD2 hbk hb2)
       | (go_at_call 11; refine (HNX.out _ (below_drew ((Below.refl _ _).alloc (Nat.le_refl _) _))).mono ?_; rintro e w2 ⟨pp, pm2, kt2, vt2, D2, rfl, hm, hp, hD2, hbk, hb2⟩; have gA := hide ((hb2.block wk.heap.size (by simp)).trans (heap_alloc_new wk (.cells #[.pointer none, .pointer none, .slice none 0 0] 49))); have BX2 := hide hbk; have HM2 := hide hm; have HP2 := hide (And.intro hp hD2); have hs2 := hbk.size; have y0 := (BX2.out.cell (p := ⟨P, 0, none⟩) hPk).trans p0; have y1 := (BX2.out.cell (p := ⟨P, 1, none⟩) hPk).trans p1; have y3 := (BX2.out.cell (p := ⟨wr.heap.size, 3, none⟩) hBk).trans p3; clear hm hp hD2 hbk hb2)
       | fail)
      all_goals (try go_wp2_with fail)
      all_goals
       go_meet
       first
       | exact ⟨pp, qq, w3.heap.size, rfl, newqC BX2.out HM2.out HP2.out BX3.out HR3.out HQ3.out HB3.out⟩
       | exact ⟨pp, qq, wk.heap.size, rfl, newqA BX2.out HM2.out HP2.out BX3.out HR3.out HQ3.out HB3.out (lt_of_block gA.out) G3.out⟩
       | exact ⟨pp, qq, w2.heap.size, rfl, newqM BX2.out HM2.out HP2.out BX3.out HR3.out HQ3.out HB3.out G3.out⟩
     case rest =>
      rename World => wx
      obtain ⟨pp, qq, gb, rfl, HNB⟩ := hcut
      have HBX : Hid (Below wk.heap.size wk wx) := by obtain ⟨_, _, _, _, _, _, _, _, _, _, _, _, _, _, _, _, _, _, hb⟩ := HNB.out; exact hb
      obtain ⟨Kn, labn, hDn, hKn, hlabn, _⟩ := HDK.out.add (k := (⟨k1a, k1c, k1⟩ : Tx)) HNB.out
      have HDN := hide hDn
      have GBX : Hid (wx.heap[gb]? = some (.cells #[.pointer (some ⟨pp, 0, none⟩), .pointer (some ⟨qq, 0, none⟩), .slice k1a l1 k1c] 49 (0, 0)) ∧ wk.heap.size ≤ gb) := by obtain ⟨_, _, _, _, _, _, _, _, _, _, _, _, _, _, _, _, g, hg, _⟩ := HNB.out; exact ⟨g, hg⟩
      have GKX : Hid (wx.heap[wr.heap.size]? = some (.cells #[.int .i64 7, .int .i64 oa, .int .i64 obb, .slice k1a l1 k1c, .slice k2a l2 k2c, .slice k3a l3 k3c, .bool ch', .int .i64 lv, .slice ha lh hc, .int .i64 ri, .slice ka lk kc, .slice va lw vc, .slice ca lc cc] 38 (0, 0))) := (HBX.out.block _ hBk).trans GK.out
      -- the key's own block
      have HSP : Hid (∀ b, wb.heap.size ≤ b ∧ b < wk.heap.size → Kn b ∧ labn b = 0 ∧ w.heap.size ≤ b ∧ b ≠ P) := fun b hb => by
       refine ⟨hKn b (.inr hb), by rw [hlabn b hb.2]; exact HDW.out.lz b (Nat.le_trans BB.out.size hb.1), ?_, ?_⟩
       ·have := HDW.out.bw.size; have := BB.out.size; omega
       ·have := HDW.out.plt; have := BB.out.size; omega
      have k1' : (convert 28 9 (.slice na l1 nc)).run Tryz.prog wx = .ok (.string (strOfNums k1)) wx := nconv_row nc HL1.out (KTX.out.below HBX.out).r
      have k2' : (convert 28 9 (.slice k1a l1 k1c)).run Tryz.prog wx = .ok (.string (strOfNums k1)) wx := nconv_row k1c HL1.out (KEX.out.below HBX.out).r
      have b0 : wx.cell? ⟨gb, 0, none⟩ = some (.pointer (some ⟨pp, 0, none⟩)) := by rw [cell_of_row _ _ _ _ _ _ GBX.out.1]; rfl
      have b3 : wx.cell? ⟨wr.heap.size, 3, none⟩ = some (.slice k1a l1 k1c) := by rw [cell_of_row _ _ _ _ _ _ GKX.out]; rfl
      have HB0 : Hid (Bk wx wb.heap.size wk.heap.size na l1 ∧ Upd (fun b => wb.heap.size ≤ b ∧ b < wk.heap.size) wx wx) := ⟨HBKK.out.move (fun b _ h => HBX.out.block b h), Upd.refl _ _⟩
      have hgbP := GBX.out.2
      generalize strOfNums k1 = st at *
      clear hDn hKn hlabn p0 p1 p3 HNX HNY KTX KEX HBKK HDK
      go_wp2_with fail
      clear k1' k2' b0 b3
      go_loopw [11] (fun q wt => ∃ k : Nat, k ≤ l1 ∧ q = .int .i64 (k : Int) ∧ Hid (Bk wt wb.heap.size wk.heap.size na l1 ∧ Upd (fun b => wb.heap.size ≤ b ∧ b < wk.heap.size) wx wt)) (fun q _ => l1 - (intOf q).toNat)
      case atStart => exact ⟨0, Nat.zero_le _, rfl, HB0⟩
      case round =>
       clear HB0
       obtain ⟨k, hk, rfl, HJ⟩ := hrel
       rename World => wt
       by_cases hlk : k < l1
       ·have j4 : (k : Int) < (l1 : Int) := by omega
        have j5 : (0 : Int) ≤ (k : Int) := by omega
        obtain ⟨g2, cs, rfl, hN2, hg2, hsz2, hb2⟩ := HJ.out.1.2.resolve_left (by omega)
        obtain ⟨x, hx⟩ := hb2 cs[k] (by simp)
        have hcell : wt.cell? ⟨g2, k, none⟩ = some (.int .u8 x) := by rw [cell_of_row _ _ _ _ _ _ hg2, Array.getElem?_eq_getElem (by omega), hx]
        have hfr : wt.frozen? ⟨g2, k, none⟩ = false := by simp [World.frozen?, hg2]
        have HNX2 : Hid (∀ y : Int, Bk (wt.setCell ⟨g2, k, none⟩ (.int .u8 y)) wb.heap.size wk.heap.size (some ⟨g2, 0, none⟩) l1 ∧ Upd (fun b => wb.heap.size ≤ b ∧ b < wk.heap.size) wx (wt.setCell ⟨g2, k, none⟩ (.int .u8 y))) := fun y => ⟨HJ.out.1.byte (k := k) hg2 hb2 y, HJ.out.2.trans ((Upd.refl _ wt).setCell _ _ (fun _ => hN2))⟩
        clear hg2 hx hb2 HJ hsz2
        go_wp2_with fail
        go_roundw
        case rel => exact ⟨k + 1, by omega, by go_num, HNX2.out _⟩
        case measure => simp [intOf]; omega
       ·have j4 : ¬ (k : Int) < (l1 : Int) := by omega
        have hDt := HDN.out.spoil HJ.out.2 HSP.out
        have hgt : wt.heap[gb]? = some (.cells #[.pointer (some ⟨pp, 0, none⟩), .pointer (some ⟨qq, 0, none⟩), .slice k1a l1 k1c] 49 (0, 0)) := HJ.out.2.heap GBX.out.1 (fun e => by omega)
        have t0 : wt.cell? ⟨gb, 0, none⟩ = some (.pointer (some ⟨pp, 0, none⟩)) := by rw [cell_of_row _ _ _ _ _ _ hgt]; rfl
        have t1 : wt.cell? ⟨gb, 1, none⟩ = some (.pointer (some ⟨qq, 0, none⟩)) := by rw [cell_of_row _ _ _ _ _ _ hgt]; rfl
        have t2 : wt.cell? ⟨gb, 2, none⟩ = some (.slice k1a l1 k1c) := by rw [cell_of_row _ _ _ _ _ _ hgt]; rfl
        have HDT := hide hDt
        have hni := HNI.out
        have HROW : Hid ((wt.alloc (.cells #[.pointer (some ⟨pp, 0, none⟩), .pointer (some ⟨qq, 0, none⟩), .slice k1a l1 k1c] 49)).ownsRow w.heap.size 49 3 (.slice a6 n c6) n ((L.map GPr.t).flatMap pqT3)) := by
         have := ((HDT.out.below (W' := (wt.alloc (.cells #[.pointer (some ⟨pp, 0, none⟩), .pointer (some ⟨qq, 0, none⟩), .slice k1a l1 k1c] 49))) ((Below.refl _ _).alloc (Nat.le_refl _) _)).row)
         rw [List.length_map, HLN.out] at this
         exact this
        have HNEW : Hid (∀ j u, (pqT3 (pp, qq, (⟨k1a, k1c, k1⟩ : Tx)))[j]? = some u → (wt.alloc (.cells #[.pointer (some ⟨pp, 0, none⟩), .pointer (some ⟨qq, 0, none⟩), .slice k1a l1 k1c] 49)).cell? ((⟨wt.heap.size, 0, none⟩ : Addr).add j) = some u) := fun j u hu => by
         rw [Addr.add_lit, Nat.zero_add, cell_of_row _ _ _ _ _ _ (heap_alloc_new wt _), ← Array.getElem?_toList]
         have e : pqT3 (pp, qq, (⟨k1a, k1c, k1⟩ : Tx)) = [.pointer (some ⟨pp, 0, none⟩), .pointer (some ⟨qq, 0, none⟩), .slice k1a l1 k1c] := by simp only [pqT3, Tx.v, HL1.out]
         rw [e] at hu
         exact hu
        have HWLE : Hid (w.heap.size ≤ (wt.alloc (.cells #[.pointer (some ⟨pp, 0, none⟩), .pointer (some ⟨qq, 0, none⟩), .slice k1a l1 k1c] 49)).heap.size) := by have := HDT.out.bw.size; show _ ≤ _; simp; omega
        have HPUSH : Hid (∀ g' cap' w', w'.ownsRow w.heap.size 49 3 (.slice (some ⟨g', 0, none⟩) (n + 1) cap') (n + 1) ((L.map GPr.t).flatMap pqT3 ++ pqT3 (pp, qq, (⟨k1a, k1c, k1⟩ : Tx))) → (wt.alloc (.cells #[.pointer (some ⟨pp, 0, none⟩), .pointer (some ⟨qq, 0, none⟩), .slice k1a l1 k1c] 49)).grownBy w' (Value.slice a6 n c6).ownBlock → ((Value.slice a6 n c6).ownBlock = some g' ∨ (wt.alloc (.cells #[.pointer (some ⟨pp, 0, none⟩), .pointer (some ⟨qq, 0, none⟩), .slice k1a l1 k1c] 49)).heap.size ≤ g') → GV w (i + 1) (n + 1) w' P AX AY (.slice (some ⟨g', 0, none⟩) (n + 1) cap')) := fun g' cap' w' ho hg hor => by
         have hd0 := HDT.out.below (W' := (wt.alloc (.cells #[.pointer (some ⟨pp, 0, none⟩), .pointer (some ⟨qq, 0, none⟩), .slice k1a l1 k1c] 49))) ((Below.refl _ _).alloc (Nat.le_refl _) _)
         have hq : (L.map GPr.t).length = n := by rw [List.length_map]; exact HLN.out
         obtain ⟨K', lab', hd, _⟩ := hd0.push (pp, qq, (⟨k1a, k1c, k1⟩ : Tx)) (by rw [hq]; exact ho) hg hor
         rw [hq] at hd
         refine ⟨K', lab', s, _, by rw [List.map_append]; exact hd.less (by omega), by rw [List.length_append, HLN.out]; rfl, fun x hx => ?_, Nat.succ_le_succ HNI.out, HSI.out.mono (by omega)⟩
         rcases List.mem_append.1 hx with hx | hx
         ·exact HSIM.out x hx
         ·rw [List.mem_singleton] at hx
          subst hx
          exact gok_new _ _ _ _
        clear hDt hgt
        generalize (L.map GPr.t).flatMap pqT3 = xs at *
        go_wp2_with (first
         | (at_builtin; refine append_mineN rfl (.tmp 103) (.tmp 105) 27 rfl w.heap.size 49 i1 (.agg #[.pointer none, .pointer none, .slice none 0 0]) 3 40 Tryz.underlying27 hi1 hy0 hy1 hy2 rfl (by decide) (.slice a6 n c6) n _ rfl HROW.out ⟨wt.heap.size, 0, none⟩ 1 1 (pqT3 (pp, qq, (⟨k1a, k1c, k1⟩ : Tx))) rfl rfl HNEW.out (by intro u hu; simp only [pqT3, Tx.v, List.mem_cons, List.not_mem_nil, or_false] at hu; rcases hu with rfl | rfl | rfl <;> rfl) (by decide) hn63 hn40 HWLE.out ?_; intro g' cap' wz hoz hgz horz; have HNZ := hide (HPUSH.out g' cap' wz hoz hgz horz); clear hoz hgz horz)
         | fail)
        go_roundw
        case rel => exact ⟨i + 1, n + 1, some ⟨g', 0, none⟩, cap', by omega, rfl, rfl, by go_num, HNZ⟩
        case measure => simp [intOf]; omega
    ·have j7 : (kd == 7) = false := by rw [beq_eq_false_iff_ne]; exact h7
     by_cases hn0 : n = 0
     ·subst hn0
      have HN := hide (HSK.out wb (Below.refl _ _))
      clear HTN HSK
      by_cases hk0 : 0 ≤ kd
      ·have hk6 : ¬ kd ≤ 6 := fun e => hA ⟨hk0, e⟩
       go_wp2_with fail
       go_roundw
       case rel => exact ⟨i + 1, 0, a6, c6, by omega, rfl, rfl, by go_num, HN⟩
       case measure => simp [intOf]; omega
      ·have hk0' : ¬ kd ≥ 0 := hk0
       go_wp2_with fail
       go_roundw
       case rel => exact ⟨i + 1, 0, a6, c6, by omega, rfl, rfl, by go_num, HN⟩
       case measure => simp [intOf]; omega
     have jn : (0 : Int) < (n : Int) := by omega
     have hkk : ¬ (0 ≤ kd ∧ kd ≤ 6) := hA
     obtain ⟨kp, hkp⟩ : ∃ x, x = pickN oa n := ⟨_, rfl⟩
     have hkl : kp < n := by rw [hkp]; exact pickN_lt _ _ (by omega)
     have hni := HNI.out
     have HPI : Hid (∀ Wc, Calls Tryz.prog 13 #[.int .i64 oa, .int .i64 (n : Nat)] Wc fun e w' => e = .returned (.int .i64 (kp : Nat)) ∧ w' = Wc) := fun Wc => by rw [hkp]; exact gpick_any oa n Wc (by omega) (by omega) HOA.out.1 HOA.out.2
     have hkL : kp < L.length := by rw [HLN.out]; exact hkl
     obtain ⟨g6, hg6, y0, y1, y2, hgl⟩ := (HDW.out.below BB.out).at rfl (by rw [List.length_map]; exact HLN.out) kp (by rw [List.length_map]; exact hkL)
     subst hg6
     simp only [List.getElem_map, GPr.t] at y0 y1 y2
     obtain ⟨pp, hpp⟩ : ∃ pp, pp = L[kp].p := ⟨_, rfl⟩
     obtain ⟨qq, hqq⟩ : ∃ qq, qq = L[kp].q := ⟨_, rfl⟩
     rw [← hpp] at y0
     rw [← hqq] at y1
     obtain ⟨kt, hkt⟩ : ∃ x, L[kp].k = x := ⟨_, rfl⟩
     rw [hkt] at y2
     obtain ⟨ta, tc, tz⟩ := kt
     simp only [Tx.v] at y2
     generalize tz.length = tl at *
     obtain ⟨wp, hwp⟩ : ∃ wp, wp = wb.alloc (.cells #[.pointer (some ⟨pp, 0, none⟩), .pointer (some ⟨qq, 0, none⟩), .slice ta tl tc] 49) := ⟨_, rfl⟩
     have bp : Below wb.heap.size wb wp := by rw [hwp]; exact (Below.refl _ _).alloc (Nat.le_refl _) _
     have GP3 : Hid (wp.heap[wb.heap.size]? = some (.cells #[.pointer (some ⟨pp, 0, none⟩), .pointer (some ⟨qq, 0, none⟩), .slice ta tl tc] 49 (0, 0))) := by show _ = _; rw [hwp]; exact heap_alloc_new wb _
     have GBP : Hid (wp.heap[wr.heap.size]? = _) := (bp.block _ HSB.out).trans GB.out
     have BP := hide bp
     have HWP := hide hwp
     have hz := fun k (hk : wr.heap.size ≤ k) => HDW.out.lz k hk
     have HP0 : Hid (QlI w (24 * i + 2 * 0) wp P AX AY s n kp pp qq (.slice (some ⟨g6, 0, none⟩) n c6) wr.heap.size wb.heap.size (.cells #[.int .i64 kd, .int .i64 oa, .int .i64 obb, .slice k1a l1 k1c, .slice k2a l2 k2c, .slice k3a l3 k3c, .bool ch', .int .i64 lv, .slice ha lh hc, .int .i64 ri, .slice ka lk kc, .slice va lw vc, .slice ca lc cc] 38 (0, 0)) (.cells #[.pointer (some ⟨pp, 0, none⟩), .pointer (some ⟨qq, 0, none⟩), .slice ta tl tc] 49 (0, 0))) :=
      ⟨K, lab, L, (HDW.out.below BB.out).below BP.out, HLN.out, HSIM.out, ⟨hkL, hpp.symm, hqq.symm⟩, hz _ (Nat.le_refl _), hz _ BB.out.size, GBP.out, GP3.out⟩
     have hc24 : 24 * i + 24 < 4611686018427387904 := by omega
     have HC24 := hide hc24
     have HRS := hide HSI.out.rs
     have hp2 := pickN_lt obb 12 (by decide)
     have HP2 : Hid (∀ W, Calls Tryz.prog 13 #[.int .i64 obb, .int .i64 12] W fun e w' => e = .returned (.int .i64 (pickN obb 12 : Nat)) ∧ w' = W) := fun W => by have := gpick_any obb 12 W (by decide) (by decide) HOB.out.1 HOB.out.2; simpa using this
     obtain ⟨tb, htb⟩ : ∃ tb, tb = pickN obb 12 := ⟨_, rfl⟩
     rw [← htb] at HP2 hp2
     have jk1 : (kp : Int) < (n : Int) := by omega
     have jk0 : (0 : Int) ≤ (kp : Int) := by omega
     clear hwp bp hkt hpp hqq hkp HTN HSK HDW HSIM hz htb hc24 GBP GP3 BP HKY hni hkL hgl
     go_cut [44] (fun q wq => q = .bool false ∧ wq = wb)
     case first =>
      by_cases hk0 : 0 ≤ kd
      ·have hk6 : ¬ kd ≤ 6 := fun e => hkk ⟨hk0, e⟩
       go_wp2_with fail
       go_meet
       exact ⟨rfl, rfl⟩
      ·have hk0' : ¬ kd ≥ 0 := hk0
       go_wp2_with fail
       go_meet
       exact ⟨rfl, rfl⟩
     case rest =>
     rename World => wq
     obtain ⟨rfl, hwq⟩ := hcut
     rw [hwq]
     clear hwq
     go_upto_region 23 with fail
     go_wp2_with fail
     refine keep (HPI.out _) ?_
     go_upto_region 24 with fail
     rw [← HWP.out]
     clear HWP HPI y0 y1 y2 bx0 bx1 bx2 bx3 bx4 bx5 bx6 bx7 bx8 bx9 bx10 bx11 bx12
     by_cases h8 : kd = 8
     ·subst h8
      go_wp2_with fail
      go_loopw [5, 13] (fun q5 q13 wt => ∃ k : Nat, k ≤ 12 ∧ q5 = .bool true ∧ q13 = .int .i64 (k : Int) ∧ Hid (QlI w (24 * i + 2 * k) wt P AX AY s n kp pp qq (.slice (some ⟨g6, 0, none⟩) n c6) wr.heap.size wb.heap.size (.cells #[.int .i64 8, .int .i64 oa, .int .i64 obb, .slice k1a l1 k1c, .slice k2a l2 k2c, .slice k3a l3 k3c, .bool ch', .int .i64 lv, .slice ha lh hc, .int .i64 ri, .slice ka lk kc, .slice va lw vc, .slice ca lc cc] 38 (0, 0)) (.cells #[.pointer (some ⟨pp, 0, none⟩), .pointer (some ⟨qq, 0, none⟩), .slice ta tl tc] 49 (0, 0)))) (fun _ q13 _ => 12 - (intOf q13).toNat)
      case atStart => exact ⟨0, Nat.zero_le _, rfl, rfl, HP0⟩
      case round =>
       clear HP0
       obtain ⟨k, hk, rfl, rfl, HJ⟩ := hrel
       rename World => wt
       obtain ⟨g1, g2⟩ : wt.heap[wr.heap.size]? = _ ∧ wt.heap[wb.heap.size]? = _ := by obtain ⟨_, _, _, _, _, _, _, _, _, g1, g2⟩ := HJ.out; exact ⟨g1, g2⟩
       have d0 : wt.cell? ⟨wr.heap.size, 0, none⟩ = some (.int .i64 8) := by rw [cell_of_row _ _ _ _ _ _ g1]; rfl
       have d2 : wt.cell? ⟨wr.heap.size, 2, none⟩ = some (.int .i64 obb) := by rw [cell_of_row _ _ _ _ _ _ g1]; rfl
       have f0 : wt.cell? ⟨wb.heap.size, 0, none⟩ = some (.pointer (some ⟨pp, 0, none⟩)) := by rw [cell_of_row _ _ _ _ _ _ g2]; rfl
       have f1 : wt.cell? ⟨wb.heap.size, 1, none⟩ = some (.pointer (some ⟨qq, 0, none⟩)) := by rw [cell_of_row _ _ _ _ _ _ g2]; rfl
       have f2 : wt.cell? ⟨wb.heap.size, 2, none⟩ = some (.slice ta tl tc) := by rw [cell_of_row _ _ _ _ _ _ g2]; rfl
       clear g1 g2
       by_cases hgo : k ≤ tb
       ·have jk : (k : Int) ≤ (tb : Int) := by omega
        have hk12 : k < 12 := by omega
        have HS1 := hide (qli_step HJ.out (by have := HC24.out; omega) HRS.out)
        clear hgo
        go_wp2_with fail
        refine keep (HP2.out wt) ?_
        go_wp2_with fail
        refine HS1.out.mono ?_
        rintro e wu ⟨b, d, rfl, hJ⟩
        have HS2 := hide (qlj_step hJ (by have := HC24.out; omega))
        obtain ⟨_, _, _, _, _, _, _, _, _, _, g2⟩ := hJ
        have f1' : wu.cell? ⟨wb.heap.size, 1, none⟩ = some (.pointer (some ⟨qq, 0, none⟩)) := by rw [cell_of_row _ _ _ _ _ _ g2]; rfl
        clear HS1 g2 d0 d2 f0 f1 f2
        go_wp2_with fail
        refine HS2.out.mono ?_
        rintro e wv ⟨rfl, hI⟩
        have HI2 := hide hI
        clear hI HS2 f1'
        go_wp2_with fail
        go_roundw
        case rel => exact ⟨k + 1, by omega, by simp, by go_num, HI2⟩
        case measure => simp [intOf]; omega
       ·have jk : ¬ (k : Int) ≤ (tb : Int) := by omega
        have HT := hide (qli_told HJ.out ta tl tc)
        have HCC : Hid (24 * i + 2 * k ≤ 24 * (i + 1)) := by show _ ≤ _; omega
        have HFIN : Hid (∀ (wz : World), QlI w (24 * i + 2 * k) wz P AX AY s n kp pp qq (.slice (some ⟨g6, 0, none⟩) n c6) wr.heap.size wb.heap.size (.cells #[.int .i64 8, .int .i64 oa, .int .i64 obb, .slice k1a l1 k1c, .slice k2a l2 k2c, .slice k3a l3 k3c, .bool ch', .int .i64 lv, .slice ha lh hc, .int .i64 ri, .slice ka lk kc, .slice va lw vc, .slice ca lc cc] 38 (0, 0)) (.cells #[.pointer (some ⟨pp, 0, none⟩), .pointer (some ⟨qq, 0, none⟩), .slice ta tl tc] 49 (0, 0)) → Hid (GV w (i + 1) n wz P AX AY (.slice (some ⟨g6, 0, none⟩) n c6))) := fun wz hz => by
         obtain ⟨K, lab, L, h1, h2, h3, _⟩ := hz
         exact ⟨K, lab, s, L, h1.less HCC.out, h2, h3, Nat.le_succ_of_le HNI.out, HSI.out.mono (by omega)⟩
        go_wp2_with fail
        refine keep (HP2.out wt) ?_
        go_wp2_with fail
        refine HT.out.mono ?_
        rintro e wu ⟨rfl, hI⟩
        have HN := HFIN.out wu hI
        clear hI HT
        go_wp2_with fail
        go_roundw
        case rel => exact ⟨i + 1, n, some ⟨g6, 0, none⟩, c6, by omega, rfl, rfl, by go_num, HN⟩
        case measure => simp [intOf]; omega
     ·have jk8 : (kd == 8) = false := by rw [beq_eq_false_iff_ne]; exact h8
      go_wp2_with fail
      go_loopw [5, 13] (fun q5 q13 wt => ∃ k : Nat, k ≤ 12 ∧ q5 = .bool true ∧ q13 = .int .i64 (k : Int) ∧ Hid (QlI w (24 * i + 2 * k) wt P AX AY s n kp pp qq (.slice (some ⟨g6, 0, none⟩) n c6) wr.heap.size wb.heap.size (.cells #[.int .i64 kd, .int .i64 oa, .int .i64 obb, .slice k1a l1 k1c, .slice k2a l2 k2c, .slice k3a l3 k3c, .bool ch', .int .i64 lv, .slice ha lh hc, .int .i64 ri, .slice ka lk kc, .slice va lw vc, .slice ca lc cc] 38 (0, 0)) (.cells #[.pointer (some ⟨pp, 0, none⟩), .pointer (some ⟨qq, 0, none⟩), .slice ta tl tc] 49 (0, 0)))) (fun _ q13 _ => 12 - (intOf q13).toNat)
      case atStart => exact ⟨0, Nat.zero_le _, rfl, rfl, HP0⟩
      case round =>
       clear HP0
       obtain ⟨k, hk, rfl, rfl, HJ⟩ := hrel
       rename World => wt
       obtain ⟨g1, g2⟩ : wt.heap[wr.heap.size]? = _ ∧ wt.heap[wb.heap.size]? = _ := by obtain ⟨_, _, _, _, _, _, _, _, _, g1, g2⟩ := HJ.out; exact ⟨g1, g2⟩
       have d0 : wt.cell? ⟨wr.heap.size, 0, none⟩ = some (.int .i64 kd) := by rw [cell_of_row _ _ _ _ _ _ g1]; rfl
       have d2 : wt.cell? ⟨wr.heap.size, 2, none⟩ = some (.int .i64 obb) := by rw [cell_of_row _ _ _ _ _ _ g1]; rfl
       have f0 : wt.cell? ⟨wb.heap.size, 0, none⟩ = some (.pointer (some ⟨pp, 0, none⟩)) := by rw [cell_of_row _ _ _ _ _ _ g2]; rfl
       have f1 : wt.cell? ⟨wb.heap.size, 1, none⟩ = some (.pointer (some ⟨qq, 0, none⟩)) := by rw [cell_of_row _ _ _ _ _ _ g2]; rfl
       have f2 : wt.cell? ⟨wb.heap.size, 2, none⟩ = some (.slice ta tl tc) := by rw [cell_of_row _ _ _ _ _ _ g2]; rfl
       clear g1 g2
       have HT := hide (qli_told HJ.out ta tl tc)
       have HCC : Hid (24 * i + 2 * k ≤ 24 * (i + 1)) := by show _ ≤ _; omega
       have HFIN : Hid (∀ (wz : World), QlI w (24 * i + 2 * k) wz P AX AY s n kp pp qq (.slice (some ⟨g6, 0, none⟩) n c6) wr.heap.size wb.heap.size (.cells #[.int .i64 kd, .int .i64 oa, .int .i64 obb, .slice k1a l1 k1c, .slice k2a l2 k2c, .slice k3a l3 k3c, .bool ch', .int .i64 lv, .slice ha lh hc, .int .i64 ri, .slice ka lk kc, .slice va lw vc, .slice ca lc cc] 38 (0, 0)) (.cells #[.pointer (some ⟨pp, 0, none⟩), .pointer (some ⟨qq, 0, none⟩), .slice ta tl tc] 49 (0, 0)) → Hid (GV w (i + 1) n wz P AX AY (.slice (some ⟨g6, 0, none⟩) n c6))) := fun wz hz => by
        obtain ⟨K, lab, L, h1, h2, h3, _⟩ := hz
        exact ⟨K, lab, s, L, h1.less HCC.out, h2, h3, Nat.le_succ_of_le HNI.out, HSI.out.mono (by omega)⟩
       by_cases hgo : k ≤ tb
       ·have jk : (k : Int) ≤ (tb : Int) := by omega
        go_wp2_with fail
        refine keep (HP2.out wt) ?_
        go_wp2_with fail
        refine HT.out.mono ?_
        rintro e wu ⟨rfl, hI⟩
        have HN := HFIN.out wu hI
        clear hI HT
        go_wp2_with fail
        go_roundw
        case rel => exact ⟨i + 1, n, some ⟨g6, 0, none⟩, c6, by omega, rfl, rfl, by go_num, HN⟩
        case measure => simp [intOf]; omega
       ·have jk : ¬ (k : Int) ≤ (tb : Int) := by omega
        go_wp2_with fail
        refine keep (HP2.out wt) ?_
        go_wp2_with fail
        refine HT.out.mono ?_
        rintro e wu ⟨rfl, hI⟩
        have HN := HFIN.out wu hI
        clear hI HT
        go_wp2_with fail
        go_roundw
        case rel => exact ⟨i + 1, n, some ⟨g6, 0, none⟩, c6, by omega, rfl, rfl, by go_num, HN⟩
        case measure => simp [intOf]; omega
  ·have j1 : ¬ (i : Int) < (lS : Int) := by omega
   obtain ⟨K, lab, s, L, hD, _⟩ := HI.out
   have HSM := hide (wsameB_any hD.aw)
   have HBW := hide hD.bw
   clear HI hD HO HLL HSZ HLS hlS2
   go_wp2_with fail
   refine HSM.out.mono ?_
   rintro e w4 ⟨rfl, hb4⟩
   have BF := hide (HBW.out.trans (hb4.mono HBW.out.size))
   clear hb4 HSM
   go_wp2_with fail
   go_ret
   exact ⟨rfl, BF.out⟩
end Go.Proofs.YtpljbgcofmlhbaaGreat
