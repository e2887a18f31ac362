/- DescentPlays: the walk. -/
import Derived.Test.YtpfmfobnanhcdaaG34
import Derived.Test.YtpfmfobnanhcdaaG23
import Derived.Deep.CutBlock
import Derived.Deep.DeepCutAuto
namespace Go.Proofs.Ytpfmfobnanhcdaa
open Go.RowKit
set_option maxRecDepth 100000

theorem infoDP : (Try.prog.info? 52).map (fun i => (i.zero, i.size, i.bytes)) = some (some (.agg #[.pointer none, .pointer none]), 2, 16) := by kernel_rfl
set_option maxRecDepth 100000 in
set_option maxHeartbeats 12800000 in
theorem descentPlays_any (aS : Option Addr) (lS cS : Nat) (O : List DOp) (w : World) (hL : O.length = lS) (hO : DOps (fun k => k < w.heap.size) w aS O) (hlS : lS * 200 ≤ 140737488355328) :
    Calls Try.prog 3 #[.slice aS lS cS] w fun e w' => e = .returned (.bool true) ∧ Below w.heap.size w w' := by
  obtain ⟨i0, hi0, hz0, hz1, hz2⟩ := info_parts infoByte'
  obtain ⟨i1, hi1, hy0, hy1, hy2⟩ := info_parts infoDP
  have HHD := hide (dhead_any w)
  have HBG : Hid (∀ W, Calls Try.prog 9 #[.int .i64 40] W (BegP W 40)) := fun W => begun_good 40 W (by decide) (by decide)
  have HLL := hide hL
  have HO := hide hO
  have hlS2 : (lS : Int) ≤ 9223372036854775807 := by omega
  have HLS := hide hlS
  clear hO hL hlS
  go_enter Try.func3, Try.ntmps3
  go_wp2_with fail
  refine HHD.out.mono ?_
  rintro e wA ⟨rfl, bA⟩
  have BA := hide bA
  clear bA HHD
  go_wp2_with fail
  refine (HBG.out wA).mono ?_
  rintro e w1 ⟨P, AX, AY, rfl, hA, hb⟩
  have HD1 : Hid (∃ K lab s L, DW w K lab (24 * 0) w1 P AX AY s L (L.map fun x => (x.p, x.q)) (.slice none 0 0) ∧ L.length = 0 ∧ (∀ x ∈ L, Sim x.m x.r) ∧ 0 ≤ 0) := by
    refine ⟨_, fun _ => 0, _, [], ⟨hA, BA.out.trans (hb.mono BA.out.size), fun k hk => .inl (Nat.lt_of_lt_of_le hk BA.out.size), fun _ _ => rfl, fun k hk => absurd rfl hk, fun k hk => absurd rfl hk, rfl, World.ownsRow_nil _ _ _ _, (fun k hk => by cases hk), fun i hi => absurd hi (Nat.not_lt_zero i), fun i hi => absurd hi (Nat.not_lt_zero i), (fun x hx => by cases hx)⟩, rfl, (fun x hx => by cases hx), Nat.le_refl _⟩
  clear hA hb HBG BA
  go_wp2_with fail
  go_loopw [5, 6, 7] (fun q5 q6 q7 wr => ∃ (i : Nat) (a : Option Addr) (n cap : Nat), i ≤ lS ∧ q5 = .bool true ∧ q6 = .slice a n cap ∧ q7 = .int .i64 (i : Int) ∧ Hid (∃ K lab s L, DW w K lab (24 * i) wr P AX AY s L (L.map fun x => (x.p, x.q)) (.slice a n cap) ∧ L.length = n ∧ (∀ x ∈ L, Sim x.m x.r) ∧ n ≤ i)) (fun _ _ q7 _ => lS - (intOf q7).toNat)
  case atStart => exact ⟨0, none, 0, 0, Nat.zero_le _, rfl, rfl, rfl, HD1⟩
  case round =>
    clear HD1
    obtain ⟨i, a, n, cap, hi, rfl, rfl, rfl, HI⟩ := hrel
    rename World => wr
    by_cases hlt : i < lS
    · have j1 : (i : Int) < (lS : Int) := by omega
      have hiL : i < O.length := by rw [HLL.out]; exact hlt
      obtain ⟨K, lab, s, L, hD, hLn, hSim, hni⟩ := HI.out
      have hops := HO.out.move hD.bw hD.kb
      obtain ⟨ob, oo, hoa, hoc⟩ := hops.c i hiL
      subst hoa
      have oko := hops.ok O[i] (List.getElem_mem hiL)
      generalize O[i] = op at *
      obtain ⟨kd, oa, obb, ⟨xa, xc, xs⟩, rawop⟩ := op
      obtain ⟨ok1, oa1, ob1, okey, oraw⟩ := oko
      simp only at ok1 oa1 ob1 okey oraw
      have HRAW : Hid (∀ W, Below wr.heap.size wr W → Calls Try.prog 13 #[.pointer (some ⟨P, 0, none⟩), rawop.v] W (AwPost K W P AX AY (s.raw rawop))) := fun W hb => raw_any ((hD.below hb).aw) rawop (by have := (HO.out.move (hD.below hb).bw hD.kb).ok; exact ⟨oraw.k1, oraw.a1, oraw.b1, oraw.w1, oraw.n.below hb, oraw.i⟩)
      have hoc' := hoc
      simp only [DOp.cs, Tx.v] at hoc'
      obtain ⟨kd2, ra, rb, rw', ch', ⟨lv, ⟨ha, hc, hs⟩, ri, ⟨ka, kc, KL⟩, ⟨va, vc, V⟩, ⟨ca, cc, C⟩⟩⟩ := rawop
      simp only [AOp.v, Tx.v, TL.v, IL.v] at HRAW hoc'
      clear hoc
      have hoc := hoc'
      clear hoc'
      obtain ⟨lx, hlx⟩ : ∃ lx, xs.length = lx := ⟨_, rfl⟩
      rw [hlx] at hoc
      have HLX := hide hlx
      generalize hs.length = lh at *
      generalize KL.length = lk at *
      generalize V.length = lw at *
      generalize C.length = lc at *
      have e0 : wr.cell? ⟨ob, oo + i * 15, none⟩ = some (.int .i64 kd) := hoc 0 _ rfl
      have e1 : wr.cell? ⟨ob, oo + i * 15 + 1, none⟩ = some (.int .i64 oa) := hoc 1 _ rfl
      have e2 : wr.cell? ⟨ob, oo + i * 15 + 2, none⟩ = some (.int .i64 obb) := hoc 2 _ rfl
      have e3 : wr.cell? ⟨ob, oo + i * 15 + 3, none⟩ = some (.slice xa lx xc) := hoc 3 _ rfl
      have e4 : wr.cell? ⟨ob, oo + i * 15 + 4, none⟩ = some (.int .i64 kd2) := hoc 4 _ rfl
      have e5 : wr.cell? ⟨ob, oo + i * 15 + 5, none⟩ = some (.int .i64 ra) := hoc 5 _ rfl
      have e6 : wr.cell? ⟨ob, oo + i * 15 + 6, none⟩ = some (.int .i64 rb) := hoc 6 _ rfl
      have e7 : wr.cell? ⟨ob, oo + i * 15 + 7, none⟩ = some (.int .u64 (rw' : Nat)) := hoc 7 _ rfl
      have e8 : wr.cell? ⟨ob, oo + i * 15 + 8, none⟩ = some (.bool ch') := hoc 8 _ rfl
      have e9 : wr.cell? ⟨ob, oo + i * 15 + 9, none⟩ = some (.int .i64 lv) := hoc 9 _ rfl
      have e10 : wr.cell? ⟨ob, oo + i * 15 + 10, none⟩ = some (.slice ha lh hc) := hoc 10 _ rfl
      have e11 : wr.cell? ⟨ob, oo + i * 15 + 11, none⟩ = some (.int .i64 ri) := hoc 11 _ rfl
      have e12 : wr.cell? ⟨ob, oo + i * 15 + 12, none⟩ = some (.slice ka lk kc) := hoc 12 _ rfl
      have e13 : wr.cell? ⟨ob, oo + i * 15 + 13, none⟩ = some (.slice va lw vc) := hoc 13 _ rfl
      have e14 : wr.cell? ⟨ob, oo + i * 15 + 14, none⟩ = some (.slice ca lc cc) := hoc 14 _ rfl
      have hlx2 : lx ≤ 140737488351232 := by have := okey.z; simp only at this; omega
      have HKEY := hide okey
      have HDW := hide hD
      have HSIM := hide hSim
      have HLN := hide hLn
      have HNI := hide hni
      obtain ⟨wb, hwb⟩ : ∃ wb, wb = wr.alloc (.cells #[.int .i64 kd, .int .i64 oa, .int .i64 obb, .slice xa lx xc, .int .i64 kd2, .int .i64 ra, .int .i64 rb, .int .u64 (rw' : Nat), .bool ch', .int .i64 lv, .slice ha lh hc, .int .i64 ri, .slice ka lk kc, .slice va lw vc, .slice ca lc cc] 41) := ⟨_, rfl⟩
      have bb : Below wr.heap.size wr wb := by rw [hwb]; exact (Below.refl _ _).alloc (Nat.le_refl _) _
      have GB : Hid (wb.heap[wr.heap.size]? = some (.cells #[.int .i64 kd, .int .i64 oa, .int .i64 obb, .slice xa lx xc, .int .i64 kd2, .int .i64 ra, .int .i64 rb, .int .u64 (rw' : Nat), .bool ch', .int .i64 lv, .slice ha lh hc, .int .i64 ri, .slice ka lk kc, .slice va lw vc, .slice ca lc cc] 41 (0, 0))) := by show _ = _; rw [hwb]; exact heap_alloc_new wr _
      have BB := hide bb
      have HWB := hide hwb
      have hsb : wr.heap.size < wb.heap.size := lt_of_block GB.out
      have c0 : wb.cell? ⟨wr.heap.size, 0, none⟩ = some (.int .i64 kd) := by rw [cell_of_row _ _ _ _ _ _ GB.out]; rfl
      have HPK := hide (pick12_any kd 4 wb (by decide) (by decide) ok1.1 ok1.2)
      have hp4 := pickN_lt kd 4 (by decide)
      have HSB := hide hsb
      have OA1 := hide oa1
      have OB1 := hide ob1
      clear hops okey oraw hlx hD hSim hLn hni HI bb hwb hoc hsb oa1 ob1 ok1
      simp only [show (((4 : Nat)) : Int) = 4 from rfl] at HPK
      obtain ⟨k4, hk4⟩ : ∃ k4, k4 = ((pickN kd 4 : Nat) : Int) := ⟨_, rfl⟩
      rw [← hk4] at HPK
      go_upto_region 10 with fail
      rw [← HWB.out]
      clear HWB e0 e1 e2 e3 e4 e5 e6 e7 e8 e9 e10 e11 e12 e13 e14
      go_wp2_with fail
      refine keep HPK.out ?_
      clear HPK
      by_cases h0 : k4 = 0
      · subst h0
        clear hk4 hp4
        have c3 : wb.cell? ⟨wr.heap.size, 3, none⟩ = some (.slice xa lx xc) := by rw [cell_of_row _ _ _ _ _ _ GB.out]; rfl
        have KB : Hid ((⟨xa, xc, xs⟩ : Tx).Ok wb) := HKEY.out.below BB.out
        have HN3 : Hid (xa = none → lx = 0 ∧ xc = 0) := fun e => by have := HKEY.out.n e; simp only [HLX.out] at this; exact this
        have HRB : Hid (Row wb .u8 xa xs) := KB.out.r
        have hsb := HSB.out
        have hne9 : ¬ wr.heap.size = wb.heap.size := by omega
        go_wp2_with (first
          | (at_builtin; refine append_b rfl (.tmp 89) (.tmp 91) 28 rfl wb.heap.size 5 i0 Try.underlying28 hi0 hz0 hz1 hz2 (.slice (some ⟨wb.heap.size, 0, none⟩) 0 0) [] rfl (OwnB.made #[] 0 (Nat.le_refl _) (by unfold maxLen; omega) rfl (by intro u hu; cases hu)) xa lx xc xs rfl HLX.out HN3.out (HRB.out.alloc _) (by simp; omega) (by simp) ?_; intro v4 wk hown4 hg4; simp only [List.nil_append] at hown4; obtain ⟨na, nc, rfl, _, _⟩ := hown4.slice; have HOK := hide hown4; have HGK := hide hg4; clear hown4 hg4; rw [HLX.out] at HOK; try rw [HLX.out])
          | fail)
        go_upto_region 23 with fail
        have BK : Hid (Below wb.heap.size wb wk) := ((Below.refl _ _).alloc (Nat.le_refl _) _).grown HGK.out (by simp) (fun k h => by cases h; exact Nat.le_refl _)
        have BWK : Hid (Below wr.heap.size wr wk) := BB.out.trans (BK.out.mono BB.out.size)
        have HDK := hide ((HDW.out.below BB.out).more BK.out)
        have hOwn : OwnB wk wb.heap.size 5 (⟨na, nc, xs⟩ : Tx).v xs := by simp only [Tx.v, HLX.out]; exact HOK.out
        have KTX : Hid ((⟨na, nc, xs⟩ : Tx).Ok wk) := ownB_ok (x := ⟨na, nc, xs⟩) hOwn HKEY.out.b8 HKEY.out.z
        have KEX : Hid ((⟨xa, xc, xs⟩ : Tx).Ok wk) := HKEY.out.below BWK.out
        have HBKK : Hid (Bk wk wb.heap.size wk.heap.size na lx) := by have := bk_own (x := ⟨na, nc, xs⟩) hOwn HKEY.out.z; simp only [HLX.out] at this; exact this
        obtain ⟨lv4, hlv4⟩ : ∃ lv4, lv4 = ((pickN oa 4 : Nat) : Int) := ⟨_, rfl⟩
        have HPA : Hid (∀ W, Calls Try.prog 10 #[.int .i64 oa, .int .i64 4] W fun e w' => e = .returned (.int .i64 lv4) ∧ w' = W) := fun W => by have := pick12_any oa 4 W (by decide) (by decide) OA1.out.1 OA1.out.2; rw [hlv4]; simpa using this
        have HNX : Hid (∀ W', Below wk.heap.size wk W' → Calls Try.prog 11 #[.pointer (some ⟨AX, 0, none⟩), .slice na lx nc, .int .i64 lv4] W' fun e w' => ∃ p k n D, e = .returned (.pointer (some ⟨p, 0, none⟩)) ∧ PM w' p AX k n D (MS.new xs lv4) ∧ W'.heap.size ≤ p ∧ (∀ x, D x → W'.heap.size ≤ x) ∧ Below wk.heap.size wk w' ∧ Below W'.heap.size W' w') := fun W' hb => by
          have := dnew_any (A := AX) ⟨na, nc, xs⟩ lv4 (KTX.out.below hb)
          simp only [Tx.v, HLX.out] at this
          exact this.mono fun e w' h => by obtain ⟨p, k, n, D, h1, h2, h3, h4, h5⟩ := h; exact ⟨p, k, n, D, h1, h2, h3, h4, hb.trans (h5.mono hb.size), h5⟩
        have HNY : Hid (∀ W', Below wk.heap.size wk W' → Calls Try.prog 12 #[.pointer (some ⟨AY, 0, none⟩), .slice xa lx xc, .int .i64 lv4] W' fun e w' => ∃ p k n D, e = .returned (.pointer (some ⟨p, 0, none⟩)) ∧ RM w' p AY k n D (RMS.new xs lv4) ∧ W'.heap.size ≤ p ∧ (∀ x, D x → W'.heap.size ≤ x) ∧ Below wk.heap.size wk w' ∧ Below W'.heap.size W' w') := fun W' hb => by
          have := rdnew_any (A := AY) ⟨xa, xc, xs⟩ lv4 (KEX.out.below hb)
          simp only [Tx.v, HLX.out] at this
          exact this.mono fun e w' h => by obtain ⟨p, k, n, D, h1, h2, h3, h4, h5⟩ := h; exact ⟨p, k, n, D, h1, h2, h3, h4, hb.trans (h5.mono hb.size), h5⟩
        obtain ⟨p0, p1⟩ := HDK.out.aw.cells
        have gk := (BK.out.block _ HSB.out).trans GB.out
        have p2 : wk.cell? ⟨wr.heap.size, 1, none⟩ = some (.int .i64 oa) := by rw [cell_of_row _ _ _ _ _ _ gk]; rfl
        have p3 : wk.cell? ⟨wr.heap.size, 3, none⟩ = some (.slice xa lx xc) := by rw [cell_of_row _ _ _ _ _ _ gk]; rfl
        have GK := hide gk
        have hPk := HDK.out.plt
        have hBk := lt_of_block gk
        clear c0 c3 gk hOwn KB HN3 HRB HOK hlv4 HRAW
        go_cut [10] (fun s10 wx => ∃ (pp qq gb : Nat), s10 = .pointer (some ⟨gb, 0, none⟩) ∧ Hid (NewB wk wx AX AY xs lv4 pp qq gb))
        case first =>
          go_region_held3 (fun W' => W'.cell? ⟨P, 0, none⟩ = some (.pointer (some ⟨AX, 0, none⟩)) ∧ W'.cell? ⟨P, 1, none⟩ = some (.pointer (some ⟨AY, 0, none⟩)) ∧ W'.cell? ⟨wr.heap.size, 1, none⟩ = some (.int .i64 oa) ∧ W'.cell? ⟨wr.heap.size, 3, none⟩ = some (.slice xa lx xc)) (go_keep) (first
            | (go_at_call 12; have hgA := gA.out; refine (HNY.out _ (BX2.out)).mono ?_; rintro e w3 ⟨qq, k3, n3', D3, rfl, hr, hq, hD3, hbk, hb3⟩; have BX3 := hide hbk; have HR3 := hide hr; have HQ3 := hide (And.intro hq hD3); have HB3 := hide hb3; have z0 := (BX3.out.cell (p := ⟨P, 0, none⟩) hPk).trans p0; have z1 := (BX3.out.cell (p := ⟨P, 1, none⟩) hPk).trans p1; have z2 := (BX3.out.cell (p := ⟨wr.heap.size, 1, none⟩) hBk).trans p2; have z3 := (BX3.out.cell (p := ⟨wr.heap.size, 3, none⟩) hBk).trans p3; have gb3 := (hb3.block wk.heap.size (lt_of_block hgA)).trans hgA; have G3 := hide gb3; have b0 := (show w3.cell? ⟨wk.heap.size, 0, none⟩ = some (.pointer none) by rw [cell_of_row _ _ _ _ _ _ gb3]; rfl); have b1 := (show w3.cell? ⟨wk.heap.size, 1, none⟩ = some (.pointer none) by rw [cell_of_row _ _ _ _ _ _ gb3]; rfl); have fz := (fun j => frozen_of gb3 j); have n1 : ¬ P = wk.heap.size := (by omega); have n2 : ¬ wk.heap.size = P := (by omega); have n3 : ¬ wr.heap.size = wk.heap.size := (by omega); have n4 : ¬ wk.heap.size = wr.heap.size := (by omega); clear gb3 hgA; clear hr hq hD3 hbk hb3)
            | (go_at_call 12; refine (HNY.out _ (BX2.out)).mono ?_; rintro e w3 ⟨qq, k3, n3', D3, rfl, hr, hq, hD3, hbk, hb3⟩; have BX3 := hide hbk; have HR3 := hide hr; have HQ3 := hide (And.intro hq hD3); have HB3 := hide hb3; have z0 := (BX3.out.cell (p := ⟨P, 0, none⟩) hPk).trans p0; have z1 := (BX3.out.cell (p := ⟨P, 1, none⟩) hPk).trans p1; have z2 := (BX3.out.cell (p := ⟨wr.heap.size, 1, none⟩) hBk).trans p2; have z3 := (BX3.out.cell (p := ⟨wr.heap.size, 3, none⟩) hBk).trans p3; clear hr hq hD3 hbk hb3)
            | (go_at_call 12; refine (HNY.out _ (BX2.out.alloc BX2.out.size _)).mono ?_; rintro e w3 ⟨qq, k3, n3', D3, rfl, hr, hq, hD3, hbk, hb3⟩; have BX3 := hide hbk; have HR3 := hide hr; have HQ3 := hide (And.intro hq hD3); have HB3 := hide hb3; have z0 := (BX3.out.cell (p := ⟨P, 0, none⟩) hPk).trans p0; have z1 := (BX3.out.cell (p := ⟨P, 1, none⟩) hPk).trans p1; have z2 := (BX3.out.cell (p := ⟨wr.heap.size, 1, none⟩) hBk).trans p2; have z3 := (BX3.out.cell (p := ⟨wr.heap.size, 3, none⟩) hBk).trans p3; have gb3 := (hb3.block w2.heap.size (by simp)).trans (heap_alloc_new w2 (.cells #[.pointer none, .pointer none] 52)); have G3 := hide gb3; have b0 := (show w3.cell? ⟨w2.heap.size, 0, none⟩ = some (.pointer none) by rw [cell_of_row _ _ _ _ _ _ gb3]; rfl); have b1 := (show w3.cell? ⟨w2.heap.size, 1, none⟩ = some (.pointer none) by rw [cell_of_row _ _ _ _ _ _ gb3]; rfl); have fz := (fun j => frozen_of gb3 j); have n1 : ¬ P = w2.heap.size := (by omega); have n2 : ¬ w2.heap.size = P := (by omega); have n3 : ¬ wr.heap.size = w2.heap.size := (by omega); have n4 : ¬ w2.heap.size = wr.heap.size := (by omega); clear gb3; clear hr hq hD3 hbk hb3)
            | (go_at_call 11; refine (HNX.out _ (below_drew (Below.refl _ _))).mono ?_; rintro e w2 ⟨pp, k2, n2', D2, rfl, hm, hp, hD2, hbk, hb2⟩; have BX2 := hide hbk; have HM2 := hide hm; have HP2 := hide (And.intro hp hD2); have hs2 := hbk.size; have y0 := (BX2.out.cell (p := ⟨P, 0, none⟩) hPk).trans p0; have y1 := (BX2.out.cell (p := ⟨P, 1, none⟩) hPk).trans p1; have y2 := (BX2.out.cell (p := ⟨wr.heap.size, 1, none⟩) hBk).trans p2; have y3 := (BX2.out.cell (p := ⟨wr.heap.size, 3, none⟩) hBk).trans p3; clear hm hp hD2 hbk hb2)
            | (go_at_call 11; refine (HNX.out _ (below_drew ((Below.refl _ _).alloc (Nat.le_refl _) _))).mono ?_; rintro e w2 ⟨pp, k2, n2', D2, rfl, hm, hp, hD2, hbk, hb2⟩; have gA := hide ((hb2.block wk.heap.size (by simp)).trans (heap_alloc_new wk (.cells #[.pointer none, .pointer none] 52))); have BX2 := hide hbk; have HM2 := hide hm; have HP2 := hide (And.intro hp hD2); have hs2 := hbk.size; have y0 := (BX2.out.cell (p := ⟨P, 0, none⟩) hPk).trans p0; have y1 := (BX2.out.cell (p := ⟨P, 1, none⟩) hPk).trans p1; have y2 := (BX2.out.cell (p := ⟨wr.heap.size, 1, none⟩) hBk).trans p2; have y3 := (BX2.out.cell (p := ⟨wr.heap.size, 3, none⟩) hBk).trans p3; clear hm hp hD2 hbk hb2)
            | (go_at_call 10; refine keep (HPA.out _) ?_)
            | fail)
          all_goals (try go_wp2_with fail)
          all_goals
            go_meet
            first
            | exact ⟨pp, qq, w3.heap.size, rfl, newC BX2.out HM2.out HP2.out BX3.out HR3.out HQ3.out HB3.out⟩
            | exact ⟨pp, qq, wk.heap.size, rfl, newA BX2.out HM2.out HP2.out BX3.out HR3.out HQ3.out HB3.out (lt_of_block gA.out) G3.out⟩
            | exact ⟨pp, qq, w2.heap.size, rfl, newM BX2.out HM2.out HP2.out BX3.out HR3.out HQ3.out HB3.out G3.out⟩
        case rest =>
          rename World => wx
          obtain ⟨pp, qq, gb, rfl, HNB⟩ := hcut
          have HBX : Hid (Below wk.heap.size wk wx) := by obtain ⟨_, _, _, _, _, _, _, _, _, _, _, _, _, _, _, _, hb⟩ := HNB.out; exact hb
          obtain ⟨Kn, labn, hDn, hKn, hlabn, _⟩ := HDK.out.add HNB.out
          have HDN := hide hDn
          have GBX : Hid (wx.heap[gb]? = some (.cells #[.pointer (some ⟨pp, 0, none⟩), .pointer (some ⟨qq, 0, none⟩)] 52 (0, 0)) ∧ wk.heap.size ≤ gb) := by obtain ⟨_, _, _, _, _, _, _, _, _, _, _, _, _, _, g, hg, _⟩ := HNB.out; exact ⟨g, hg⟩
          have GKX : Hid (wx.heap[wr.heap.size]? = some (.cells #[.int .i64 kd, .int .i64 oa, .int .i64 obb, .slice xa lx xc, .int .i64 kd2, .int .i64 ra, .int .i64 rb, .int .u64 (rw' : Nat), .bool ch', .int .i64 lv, .slice ha lh hc, .int .i64 ri, .slice ka lk kc, .slice va lw vc, .slice ca lc cc] 41 (0, 0))) := (HBX.out.block _ hBk).trans GK.out
          -- the key's own block
          have HSP : Hid (∀ b, wb.heap.size ≤ b ∧ b < wk.heap.size → Kn b ∧ labn b = 0 ∧ w.heap.size ≤ b ∧ b ≠ P) := fun b hb => by
            refine ⟨hKn b (.inr hb), by rw [hlabn b hb.2]; exact HDW.out.lz b (Nat.le_trans BB.out.size hb.1), ?_, ?_⟩
            · have := HDW.out.bw.size; have := BB.out.size; omega
            · have := HDW.out.plt; have := BB.out.size; omega
          have k1 : (convert 28 9 (.slice na lx nc)).run Try.prog wx = .ok (.string (strOfNums xs)) wx := nconv_row nc HLX.out (KTX.out.below HBX.out).r
          have k2 : (convert 28 9 (.slice xa lx xc)).run Try.prog wx = .ok (.string (strOfNums xs)) wx := nconv_row xc HLX.out (KEX.out.below HBX.out).r
          have b0 : wx.cell? ⟨gb, 0, none⟩ = some (.pointer (some ⟨pp, 0, none⟩)) := by rw [cell_of_row _ _ _ _ _ _ GBX.out.1]; rfl
          have b3 : wx.cell? ⟨wr.heap.size, 3, none⟩ = some (.slice xa lx xc) := by rw [cell_of_row _ _ _ _ _ _ GKX.out]; rfl
          have HB0 : Hid (Bk wx wb.heap.size wk.heap.size na lx ∧ Upd (fun b => wb.heap.size ≤ b ∧ b < wk.heap.size) wx wx) := ⟨HBKK.out.move (fun b _ h => HBX.out.block b h), Upd.refl _ _⟩
          have hgbP := GBX.out.2
          generalize strOfNums xs = st at *
          clear hDn hKn hlabn p0 p1 p2 p3 HNX HNY HPA KTX KEX HBKK HDK
          go_wp2_with fail
          clear k1 k2 b0 b3
          go_loopw [11] (fun q wt => ∃ k : Nat, k ≤ lx ∧ q = .int .i64 (k : Int) ∧ Hid (Bk wt wb.heap.size wk.heap.size na lx ∧ Upd (fun b => wb.heap.size ≤ b ∧ b < wk.heap.size) wx wt)) (fun q _ => lx - (intOf q).toNat)
          case atStart => exact ⟨0, Nat.zero_le _, rfl, HB0⟩
          case round =>
            clear HB0
            obtain ⟨k, hk, rfl, HJ⟩ := hrel
            rename World => wt
            by_cases hlk : k < lx
            · have j4 : (k : Int) < (lx : Int) := by omega
              have j5 : (0 : Int) ≤ (k : Int) := by omega
              obtain ⟨g2, cs, rfl, hN2, hg2, hsz2, hb2⟩ := HJ.out.1.2.resolve_left (by omega)
              obtain ⟨x, hx⟩ := hb2 cs[k] (by simp)
              have hcell : wt.cell? ⟨g2, k, none⟩ = some (.int .u8 x) := by rw [cell_of_row _ _ _ _ _ _ hg2, Array.getElem?_eq_getElem (by omega), hx]
              have hfr : wt.frozen? ⟨g2, k, none⟩ = false := by simp [World.frozen?, hg2]
              have HNX2 : Hid (∀ y : Int, Bk (wt.setCell ⟨g2, k, none⟩ (.int .u8 y)) wb.heap.size wk.heap.size (some ⟨g2, 0, none⟩) lx ∧ Upd (fun b => wb.heap.size ≤ b ∧ b < wk.heap.size) wx (wt.setCell ⟨g2, k, none⟩ (.int .u8 y))) := fun y => ⟨HJ.out.1.byte (k := k) hg2 hb2 y, HJ.out.2.trans ((Upd.refl _ wt).setCell _ _ (fun _ => hN2))⟩
              clear hg2 hx hb2 HJ hsz2
              go_wp2_with fail
              go_roundw
              case rel => exact ⟨k + 1, by omega, by go_num, HNX2.out _⟩
              case measure => simp [intOf]; omega
            · have j4 : ¬ (k : Int) < (lx : Int) := by omega
              have hDt := HDN.out.spoil HJ.out.2 HSP.out
              have hgt : wt.heap[gb]? = some (.cells #[.pointer (some ⟨pp, 0, none⟩), .pointer (some ⟨qq, 0, none⟩)] 52 (0, 0)) := HJ.out.2.heap GBX.out.1 (fun e => by omega)
              have t0 : wt.cell? ⟨gb, 0, none⟩ = some (.pointer (some ⟨pp, 0, none⟩)) := by rw [cell_of_row _ _ _ _ _ _ hgt]; rfl
              have t1 : wt.cell? ⟨gb, 1, none⟩ = some (.pointer (some ⟨qq, 0, none⟩)) := by rw [cell_of_row _ _ _ _ _ _ hgt]; rfl
              have HDT := hide hDt
              have hni := HNI.out
              have hls := HLS.out
              have HROW : Hid ((wt.alloc (.cells #[.pointer (some ⟨pp, 0, none⟩), .pointer (some ⟨qq, 0, none⟩)] 52)).ownsRow w.heap.size 52 2 (.slice a n cap) n ((L.map fun x => (x.p, x.q)).flatMap pqV)) := by
                have := ((HDT.out.below (W' := wt.alloc (.cells #[.pointer (some ⟨pp, 0, none⟩), .pointer (some ⟨qq, 0, none⟩)] 52)) ((Below.refl _ _).alloc (Nat.le_refl _) _)).row)
                rw [List.length_map, HLN.out] at this
                exact this
              have HNEW : Hid (∀ j u, (pqV (pp, qq))[j]? = some u → (wt.alloc (.cells #[.pointer (some ⟨pp, 0, none⟩), .pointer (some ⟨qq, 0, none⟩)] 52)).cell? ((⟨wt.heap.size, 0, none⟩ : Addr).add j) = some u) := fun j u hu => by
                match j, hu with
                | 0, hu => rw [Addr.add_lit]; simp only [pqV] at hu; rw [cell_of_row _ _ _ _ _ _ (heap_alloc_new wt _)]; simpa using hu
                | 1, hu => rw [Addr.add_lit]; simp only [pqV] at hu; rw [cell_of_row _ _ _ _ _ _ (heap_alloc_new wt _)]; simpa using hu
                | j + 2, hu => simp [pqV] at hu
              have hwle : w.heap.size ≤ (wt.alloc (.cells #[.pointer (some ⟨pp, 0, none⟩), .pointer (some ⟨qq, 0, none⟩)] 52)).heap.size := by have := HDT.out.bw.size; simp; omega
              have HWLE := hide hwle
              have HPUSH : Hid (∀ g' cap' w', w'.ownsRow w.heap.size 52 2 (.slice (some ⟨g', 0, none⟩) (n + 1) cap') (n + 1) ((L.map fun x => (x.p, x.q)).flatMap pqV ++ pqV (pp, qq)) → (wt.alloc (.cells #[.pointer (some ⟨pp, 0, none⟩), .pointer (some ⟨qq, 0, none⟩)] 52)).grownBy w' (Value.slice a n cap).ownBlock → ((Value.slice a n cap).ownBlock = some g' ∨ (wt.alloc (.cells #[.pointer (some ⟨pp, 0, none⟩), .pointer (some ⟨qq, 0, none⟩)] 52)).heap.size ≤ g') → ∃ K lab s L, DW w K lab (24 * (i + 1)) w' P AX AY s L (L.map fun x => (x.p, x.q)) (.slice (some ⟨g', 0, none⟩) (n + 1) cap') ∧ L.length = n + 1 ∧ (∀ x ∈ L, Sim x.m x.r) ∧ n + 1 ≤ i + 1) := fun g' cap' w' ho hg hor => by
                have hd0 := HDT.out.below (W' := wt.alloc (.cells #[.pointer (some ⟨pp, 0, none⟩), .pointer (some ⟨qq, 0, none⟩)] 52)) ((Below.refl _ _).alloc (Nat.le_refl _) _)
                have hq : (L.map fun x => (x.p, x.q)).length = n := by rw [List.length_map]; exact HLN.out
                obtain ⟨K', lab', hd, _⟩ := hd0.push (pp, qq) (by rw [hq]; exact ho) hg hor
                rw [hq] at hd
                refine ⟨K', lab', s, _, by rw [List.map_append]; exact hd.less (by omega), by rw [List.length_append, HLN.out]; rfl, fun x hx => ?_, Nat.succ_le_succ HNI.out⟩
                rcases List.mem_append.1 hx with hx | hx
                · exact HSIM.out x hx
                · rw [List.mem_singleton] at hx
                  subst hx
                  exact Sim.new _ _
              clear hDt hgt hwle
              have hn63 : n + 1 ≤ maxLen := by unfold maxLen; omega
              have hn16 : (n + 1) * 16 ≤ 140737488355328 := by omega
              go_wp2_with (first
                | (at_builtin; refine append_mineN rfl (.tmp 136) (.tmp 138) 27 rfl w.heap.size 52 i1 (.agg #[.pointer none, .pointer none]) 2 16 Try.underlying27 hi1 hy0 hy1 hy2 rfl (by decide) (.slice a n cap) n _ rfl HROW.out ⟨wt.heap.size, 0, none⟩ 1 1 (pqV (pp, qq)) rfl rfl HNEW.out (by intro u hu; simp only [pqV, List.mem_cons, List.not_mem_nil, or_false] at hu; rcases hu with rfl | rfl <;> rfl) (by decide) hn63 hn16 HWLE.out ?_; intro g' cap' wz hoz hgz horz; have HNZ := hide (HPUSH.out g' cap' wz hoz hgz horz); clear hoz hgz horz)
                | fail)
              go_roundw
              case rel => exact ⟨i + 1, some ⟨g', 0, none⟩, n + 1, cap', by omega, rfl, rfl, by go_num, HNZ⟩
              case measure => simp [intOf]; omega

      · by_cases h3 : k4 = 3
        · subst h3
          clear hk4 hp4 h0
          have HRB := hide (HRAW.out wb BB.out)
          have c4 : wb.cell? ⟨wr.heap.size, 4, none⟩ = some (.int .i64 kd2) := by rw [cell_of_row _ _ _ _ _ _ GB.out]; rfl
          have c5 : wb.cell? ⟨wr.heap.size, 5, none⟩ = some (.int .i64 ra) := by rw [cell_of_row _ _ _ _ _ _ GB.out]; rfl
          have c6 : wb.cell? ⟨wr.heap.size, 6, none⟩ = some (.int .i64 rb) := by rw [cell_of_row _ _ _ _ _ _ GB.out]; rfl
          have c7 : wb.cell? ⟨wr.heap.size, 7, none⟩ = some (.int .u64 (rw' : Nat)) := by rw [cell_of_row _ _ _ _ _ _ GB.out]; rfl
          have c8 : wb.cell? ⟨wr.heap.size, 8, none⟩ = some (.bool ch') := by rw [cell_of_row _ _ _ _ _ _ GB.out]; rfl
          have c9 : wb.cell? ⟨wr.heap.size, 9, none⟩ = some (.int .i64 lv) := by rw [cell_of_row _ _ _ _ _ _ GB.out]; rfl
          have c10 : wb.cell? ⟨wr.heap.size, 10, none⟩ = some (.slice ha lh hc) := by rw [cell_of_row _ _ _ _ _ _ GB.out]; rfl
          have c11 : wb.cell? ⟨wr.heap.size, 11, none⟩ = some (.int .i64 ri) := by rw [cell_of_row _ _ _ _ _ _ GB.out]; rfl
          have c12 : wb.cell? ⟨wr.heap.size, 12, none⟩ = some (.slice ka lk kc) := by rw [cell_of_row _ _ _ _ _ _ GB.out]; rfl
          have c13 : wb.cell? ⟨wr.heap.size, 13, none⟩ = some (.slice va lw vc) := by rw [cell_of_row _ _ _ _ _ _ GB.out]; rfl
          have c14 : wb.cell? ⟨wr.heap.size, 14, none⟩ = some (.slice ca lc cc) := by rw [cell_of_row _ _ _ _ _ _ GB.out]; rfl
          go_wp2_with fail
          refine HRB.out.mono ?_
          rintro e w3 ⟨rfl, hA, hU⟩
          have HN : Hid (∃ K lab s L, DW w K lab (24 * (i + 1)) w3 P AX AY s L (L.map fun x => (x.p, x.q)) (.slice a n cap) ∧ L.length = n ∧ (∀ x ∈ L, Sim x.m x.r) ∧ n ≤ i + 1) := ⟨K, lab, _, L, ((HDW.out.below BB.out).raw hA hU).less (by omega), HLN.out, HSIM.out, Nat.le_succ_of_le HNI.out⟩
          clear hA hU HRB HRAW c4 c5 c6 c7 c8 c9 c10 c11 c12 c13 c14 c0
          go_wp2_with fail
          go_roundw
          case rel => exact ⟨i + 1, a, n, cap, by omega, rfl, rfl, by go_num, HN⟩
          case measure => simp [intOf]; omega

        · clear hk4 hp4
          by_cases hn0 : n = 0
          · subst hn0
            have HN : Hid (∃ K lab s L, DW w K lab (24 * (i + 1)) wb P AX AY s L (L.map fun x => (x.p, x.q)) (.slice a 0 cap) ∧ L.length = 0 ∧ (∀ x ∈ L, Sim x.m x.r) ∧ 0 ≤ i + 1) := ⟨K, lab, _, L, (HDW.out.below BB.out).less (by omega), HLN.out, HSIM.out, Nat.zero_le _⟩
            go_wp2_with fail
            go_roundw
            case rel => exact ⟨i + 1, a, 0, cap, by omega, rfl, rfl, by go_num, HN⟩
            case measure => simp [intOf]; omega
          · have jn : ¬ (n : Int) = 0 := by omega
            have c1 : wb.cell? ⟨wr.heap.size, 1, none⟩ = some (.int .i64 oa) := by rw [cell_of_row _ _ _ _ _ _ GB.out]; rfl
            have hni := HNI.out
            have hls := HLS.out
            have HP1 := hide (pick12_any oa n wb (by omega) (by omega) OA1.out.1 OA1.out.2)
            have hp1 := pickN_lt oa n (by omega)
            obtain ⟨kp, hkp⟩ : ∃ kp, kp = pickN oa n := ⟨_, rfl⟩
            rw [← hkp] at HP1 hp1
            have hkL : kp < L.length := by rw [HLN.out]; exact hp1
            obtain ⟨g, hag, q0, q1⟩ := (HDW.out.below BB.out).at rfl (by rw [List.length_map]; exact HLN.out) kp (by rw [List.length_map]; exact hkL)
            subst hag
            simp only [List.getElem_map] at q0 q1
            obtain ⟨pp, hpp⟩ : ∃ pp, pp = L[kp].p := ⟨_, rfl⟩
            obtain ⟨qq, hqq⟩ : ∃ qq, qq = L[kp].q := ⟨_, rfl⟩
            rw [← hpp] at q0
            rw [← hqq] at q1
            have HPP := hide hpp
            have HQQ := hide hqq
            have j4 : (kp : Int) < (n : Int) := by omega
            have jn2 : (n : Int) ≤ 9223372036854775807 := by omega
            obtain ⟨wp, hwp⟩ : ∃ wp, wp = wb.alloc (.cells #[.pointer (some ⟨pp, 0, none⟩), .pointer (some ⟨qq, 0, none⟩)] 52) := ⟨_, rfl⟩
            have bp : Below wb.heap.size wb wp := by rw [hwp]; exact (Below.refl _ _).alloc (Nat.le_refl _) _
            have GP : Hid (wp.heap[wb.heap.size]? = some (.cells #[.pointer (some ⟨pp, 0, none⟩), .pointer (some ⟨qq, 0, none⟩)] 52 (0, 0))) := by show _ = _; rw [hwp]; exact heap_alloc_new wb _
            have GBP : Hid (wp.heap[wr.heap.size]? = _) := (bp.block _ HSB.out).trans GB.out
            have BP := hide bp
            have HWP := hide hwp
            have hz := fun k (hk : wr.heap.size ≤ k) => HDW.out.lz k hk
            have HP0 : Hid (PlI w (24 * i + 2 * 0) wp P AX AY s n kp pp qq (.slice (some ⟨g, 0, none⟩) n cap) wr.heap.size wb.heap.size (.cells #[.int .i64 kd, .int .i64 oa, .int .i64 obb, .slice xa lx xc, .int .i64 kd2, .int .i64 ra, .int .i64 rb, .int .u64 (rw' : Nat), .bool ch', .int .i64 lv, .slice ha lh hc, .int .i64 ri, .slice ka lk kc, .slice va lw vc, .slice ca lc cc] 41 (0, 0)) (.cells #[.pointer (some ⟨pp, 0, none⟩), .pointer (some ⟨qq, 0, none⟩)] 52 (0, 0))) :=
              ⟨K, lab, L, (HDW.out.below BB.out).below BP.out, HLN.out, HSIM.out, ⟨hkL, HPP.out.symm, HQQ.out.symm⟩, hz _ (Nat.le_refl _), hz _ BB.out.size, GBP.out, GP.out⟩
            have hc24 : 24 * i + 24 < 4611686018427387904 := by omega
            have HC24 := hide hc24
            have hp2 := pickN_lt obb 12 (by decide)
            have HP2 : Hid (∀ W, Calls Try.prog 10 #[.int .i64 obb, .int .i64 12] W fun e w' => e = .returned (.int .i64 (pickN obb 12 : Nat)) ∧ w' = W) := fun W => by have := pick12_any obb 12 W (by decide) (by decide) OB1.out.1 OB1.out.2; simpa using this
            obtain ⟨tb, htb⟩ : ∃ tb, tb = pickN obb 12 := ⟨_, rfl⟩
            rw [← htb] at HP2 hp2
            have HNI' := HNI
            clear hkp hpp hqq bp hwp hls hni htb hz hc24 HDW HSIM HPP HQQ GBP GP BP HRAW HKEY hkL
            go_wp2_with fail
            refine keep HP1.out ?_
            go_upto_region 13 with fail
            rw [← HWP.out]
            clear HWP HP1 q0 q1 c1 c0
            go_wp2_with fail
            go_loopw [5, 13] (fun q5 q13 wt => ∃ k : Nat, k ≤ 12 ∧ q5 = .bool true ∧ q13 = .int .i64 (k : Int) ∧ Hid (PlI w (24 * i + 2 * k) wt P AX AY s n kp pp qq (.slice (some ⟨g, 0, none⟩) n cap) wr.heap.size wb.heap.size (.cells #[.int .i64 kd, .int .i64 oa, .int .i64 obb, .slice xa lx xc, .int .i64 kd2, .int .i64 ra, .int .i64 rb, .int .u64 (rw' : Nat), .bool ch', .int .i64 lv, .slice ha lh hc, .int .i64 ri, .slice ka lk kc, .slice va lw vc, .slice ca lc cc] 41 (0, 0)) (.cells #[.pointer (some ⟨pp, 0, none⟩), .pointer (some ⟨qq, 0, none⟩)] 52 (0, 0)))) (fun _ q13 _ => 12 - (intOf q13).toNat)
            case atStart => exact ⟨0, Nat.zero_le _, rfl, rfl, HP0⟩
            case round =>
              clear HP0
              obtain ⟨k, hk, rfl, rfl, HJ⟩ := hrel
              rename World => wt
              obtain ⟨g1, g2⟩ : wt.heap[wr.heap.size]? = _ ∧ wt.heap[wb.heap.size]? = _ := by obtain ⟨_, _, _, _, _, _, _, _, _, g1, g2⟩ := HJ.out; exact ⟨g1, g2⟩
              have d0 : wt.cell? ⟨wr.heap.size, 0, none⟩ = some (.int .i64 kd) := by rw [cell_of_row _ _ _ _ _ _ g1]; rfl
              have d2 : wt.cell? ⟨wr.heap.size, 2, none⟩ = some (.int .i64 obb) := by rw [cell_of_row _ _ _ _ _ _ g1]; rfl
              have f0 : wt.cell? ⟨wb.heap.size, 0, none⟩ = some (.pointer (some ⟨pp, 0, none⟩)) := by rw [cell_of_row _ _ _ _ _ _ g2]; rfl
              have f1 : wt.cell? ⟨wb.heap.size, 1, none⟩ = some (.pointer (some ⟨qq, 0, none⟩)) := by rw [cell_of_row _ _ _ _ _ _ g2]; rfl
              clear g1 g2
              by_cases hgo : k ≤ tb ∧ ¬ Int.tmod kd 2 = 0
              · have jk : (k : Int) ≤ (tb : Int) := by omega
                have jo : ¬ Int.tmod kd 2 = 0 := hgo.2
                have hk12 : k < 12 := by omega
                have HS1 := hide (pli_step HJ.out (by have := HC24.out; omega))
                clear hgo
                go_wp2_with fail
                refine keep (HP2.out wt) ?_
                go_wp2_with fail
                refine HS1.out.mono ?_
                rintro e wu ⟨b, rfl, hJ⟩
                have HS2 := hide (plj_step hJ (by have := HC24.out; omega))
                obtain ⟨_, _, _, _, _, _, _, _, _, _, g2⟩ := hJ
                have f1' : wu.cell? ⟨wb.heap.size, 1, none⟩ = some (.pointer (some ⟨qq, 0, none⟩)) := by rw [cell_of_row _ _ _ _ _ _ g2]; rfl
                clear HS1 g2 d0 d2 f0 f1
                go_wp2_with fail
                refine HS2.out.mono ?_
                rintro e wv ⟨rfl, hI⟩
                have HI2 := hide hI
                clear hI HS2 f1'
                go_wp2_with fail
                go_roundw
                case rel => exact ⟨k + 1, by omega, by simp, by go_num, HI2⟩
                case measure => simp [intOf]; omega
              · have HT := hide (pli_told HJ.out)
                have HCC : Hid (24 * i + 2 * k ≤ 24 * (i + 1)) := by show _ ≤ _; omega
                have FIN : ∀ (wz : World), PlI w (24 * i + 2 * k) wz P AX AY s n kp pp qq (.slice (some ⟨g, 0, none⟩) n cap) wr.heap.size wb.heap.size (.cells #[.int .i64 kd, .int .i64 oa, .int .i64 obb, .slice xa lx xc, .int .i64 kd2, .int .i64 ra, .int .i64 rb, .int .u64 (rw' : Nat), .bool ch', .int .i64 lv, .slice ha lh hc, .int .i64 ri, .slice ka lk kc, .slice va lw vc, .slice ca lc cc] 41 (0, 0)) (.cells #[.pointer (some ⟨pp, 0, none⟩), .pointer (some ⟨qq, 0, none⟩)] 52 (0, 0)) → Hid (∃ K lab s L, DW w K lab (24 * (i + 1)) wz P AX AY s L (L.map fun x => (x.p, x.q)) (.slice (some ⟨g, 0, none⟩) n cap) ∧ L.length = n ∧ (∀ x ∈ L, Sim x.m x.r) ∧ n ≤ i + 1) := fun wz hz => by
                  obtain ⟨K, lab, L, h1, h2, h3, _⟩ := hz
                  exact ⟨K, lab, s, L, h1.less HCC.out, h2, h3, Nat.le_succ_of_le HNI'.out⟩
                have HFIN := hide FIN
                clear FIN
                by_cases hk2 : k ≤ tb
                · have jk : (k : Int) ≤ (tb : Int) := by omega
                  have jo : Int.tmod kd 2 = 0 := Decidable.byContradiction fun hc => hgo ⟨hk2, hc⟩
                  clear hgo
                  go_wp2_with fail
                  refine keep (HP2.out wt) ?_
                  go_wp2_with fail
                  refine HT.out.mono ?_
                  rintro e wu ⟨rfl, hI⟩
                  have HN := HFIN.out wu hI
                  clear hI HT
                  go_wp2_with fail
                  go_roundw
                  case rel => exact ⟨i + 1, some ⟨g, 0, none⟩, n, cap, by omega, rfl, rfl, by go_num, HN⟩
                  case measure => simp [intOf]; omega
                · have jk : ¬ (k : Int) ≤ (tb : Int) := by omega
                  clear hgo
                  go_wp2_with fail
                  refine keep (HP2.out wt) ?_
                  go_wp2_with fail
                  refine HT.out.mono ?_
                  rintro e wu ⟨rfl, hI⟩
                  have HN := HFIN.out wu hI
                  clear hI HT
                  go_wp2_with fail
                  go_roundw
                  case rel => exact ⟨i + 1, some ⟨g, 0, none⟩, n, cap, by omega, rfl, rfl, by go_num, HN⟩
                  case measure => simp [intOf]; omega

    · have j1 : ¬ (i : Int) < (lS : Int) := by omega
      obtain ⟨K, lab, s, L, hD, hLn, hSim, hni⟩ := HI.out
      have SM := hide (wsame_any hD.aw)
      have HDW := hide hD
      clear hD hLn hSim hni
      go_wp2_with fail
      refine SM.out.mono ?_
      rintro e w4 ⟨rfl, hA, hU⟩
      have BF : Hid (Below w.heap.size w w4) := (HDW.out.raw hA hU).bw
      clear hA hU SM
      go_wp2_with fail
      go_ret
      exact ⟨rfl, BF.out⟩
end Go.Proofs.Ytpfmfobnanhcdaa
