/- The statements' found of layer 11. -/
import Derived.Test.YtibifkindpgkgaaGreatHSPlc
import Derived.Test.YtibifkindpgkgaaGreatG38
import Derived.Test.YtibifkindpgkgaaGreatG17
namespace Go.Proofs.YtibifkindpgkgaaGreat
open Go.RowKit
set_option maxRecDepth 100000

theorem two_ce {W : World} {b : Nat} {T : TypeId} {x0 x1 : Value} (h : W.heap[b]? = some (.cells #[x0, x1] T (0, 0))) : W.cell? ⟨b, 0, none⟩ = some x0 ∧ W.cell? ⟨b, 1, none⟩ = some x1 := ⟨by rw [cell_of_row _ _ _ _ _ _ h]; rfl, by rw [cell_of_row _ _ _ _ _ _ h]; rfl⟩
set_option maxRecDepth 100000 in
set_option maxHeartbeats 6400000 in
theorem found_any {W : World} {A : Nat} {F : Nat → Prop} {s : AS} (hp : PX W A F s) (kx vx : Tx) (hk : kx.Ok W) (hv : vx.Ok W) (hf : s.fnd kx.s vx.s 200 s.root = true) :
    Calls Tryz.prog 16 #[.pointer (some ⟨A, 0, none⟩), .agg #[kx.v, vx.v]] W fun e w' => e = .returned (.bool true) ∧ Below W.heap.size W w' := by
  obtain ⟨ka, kc, kz⟩ := kx
  obtain ⟨va, vc, vz⟩ := vx
  simp only [Tx.v]
  simp only at hf
  obtain ⟨kl, hkl⟩ : ∃ x, kz.length = x := ⟨_, rfl⟩
  obtain ⟨vl, hvl⟩ : ∃ x, vz.length = x := ⟨_, rfl⟩
  rw [hkl, hvl]
  obtain ⟨w0, hw0⟩ : ∃ x, x = W.alloc (.cells #[.slice ka kl kc, .slice va vl vc] 41) := ⟨_, rfl⟩
  have b0 : Below W.heap.size W w0 := by rw [hw0]; exact (Below.refl _ _).alloc (Nat.le_refl _) _
  have g0 : w0.heap[W.heap.size]? = some (.cells #[.slice ka kl kc, .slice va vl vc] 41 (0, 0)) := by rw [hw0]; exact heap_alloc_new W _
  have HW0 : Hid (W.alloc (.cells #[.slice ka kl kc, .slice va vl vc] 41) = w0) := hw0.symm
  have HF : Hid (∀ Y, Below w0.heap.size w0 Y → PX Y A F s ∧ (⟨ka, kc, kz⟩ : Tx).Ok Y ∧ (⟨va, vc, vz⟩ : Tx).Ok Y ∧ Below W.heap.size W Y ∧ Y.heap[W.heap.size]? = some (.cells #[.slice ka kl kc, .slice va vl vc] 41 (0, 0))) := fun Y hb => by
    have h1 := b0.trans (hb.mono b0.size)
    exact ⟨hp.below h1, hk.below h1, hv.below h1, h1, (hb.block _ (lt_of_block g0)).trans g0⟩
  have HRT := hide (px_root (hp.below b0))
  have HKL := hide hkl
  have HVL := hide hvl
  obtain ⟨root, hroot⟩ : ∃ r, r = s.root := ⟨_, rfl⟩
  rw [← hroot] at HRT hf
  have H0 : Hid (s.fnd kz vz (200 - 0) root = true ∧ Below w0.heap.size w0 w0) := ⟨hf, Below.refl _ _⟩
  clear hw0 b0 g0 hp hk hv hf hkl hvl hroot
  go_enter Tryz.func16, Tryz.ntmps16
  go_upto_region 1 with fail
  rw [HW0.out]
  go_wp2_with fail
  refine keep HRT.out ?_
  clear HRT HW0
  go_wp2_with fail
  go_loopw [5, 6] (fun q5 q6 wr => ∃ (id : Int) (i : Nat), q5 = .int .i64 id ∧ q6 = .int .i64 (i : Int) ∧ Hid (s.fnd kz vz (200 - i) id = true ∧ Below w0.heap.size w0 wr)) (fun _ q6 _ => 200 - (intOf q6).toNat)
  case atStart => exact ⟨root, 0, rfl, rfl, H0⟩
  case round =>
    clear H0
    obtain ⟨id, i, rfl, rfl, HI⟩ := hrel
    rename World => wr
    have hi2 : i < 200 := Decidable.byContradiction fun hc => by
      have h1 := HI.out.1
      rw [show 200 - i = 0 by omega] at h1
      cases h1
    have hfd := HI.out.1
    rw [show 200 - i = (200 - (i + 1)) + 1 by omega, AS.fnd] at hfd
    have hin : s.inn id := Decidable.byContradiction fun hc => by rw [if_neg hc] at hfd; cases hfd
    rw [if_pos hin] at hfd
    have HFD := hide hfd
    have j1 : (i : Int) < 200 := by omega
    have hrd : s.rd id = s.n id := if_pos hin
    have hwe : s.wordE id = 0 := if_pos hin
    have HHD : Hid (Calls Tryz.prog 56 #[.pointer (some ⟨A, 0, none⟩), .int .i64 id] wr (HdP2 wr (s.n id) 0)) := by
      have := px_head (HF.out wr HI.out.2).1 id
      rw [hrd, hwe] at this
      exact this
    have HBD : Hid (∀ Y, Below wr.heap.size wr Y → Calls Tryz.prog 57 #[.pointer (some ⟨A, 0, none⟩), .int .i64 id] Y (BdP2 Y (s.n id) 0)) := fun Y hb => by
      have := px_body (HF.out Y (HI.out.2.trans (hb.mono HI.out.2.size))).1 id
      rw [hrd, hwe] at this
      exact this
    have HBR := hide HI.out.2
    generalize hnp : s.n id = p at *
    have HJ : Hid (i < 200) := hi2
    clear hfd hin hrd hwe HI hnp
    go_wp2_with fail
    refine HHD.out.mono ?_
    rintro e w3 ⟨⟨ta, tc, ts⟩, rfl, hts, hto, ht8, htz, hb3⟩
    simp only [Tx.v] at hto ⊢
    obtain ⟨tl, htl⟩ : ∃ x, ts.length = x := ⟨_, rfl⟩
    rw [htl]
    obtain ⟨lv, hlv⟩ : ∃ x, p.lv = x := ⟨_, rfl⟩
    obtain ⟨ri, hri⟩ : ∃ x, p.ri = x := ⟨_, rfl⟩
    rw [hlv, hri]
    obtain ⟨w4, hw4⟩ : ∃ x, x = w3.alloc (.cells #[.int .i64 lv, .slice ta tl tc, .int .i64 ri] 55) := ⟨_, rfl⟩
    have b4 : Below w3.heap.size w3 w4 := by rw [hw4]; exact (Below.refl _ _).alloc (Nat.le_refl _) _
    have G4 : Hid (w4.heap[w3.heap.size]? = some (.cells #[.int .i64 lv, .slice ta tl tc, .int .i64 ri] 55 (0, 0))) := by show _ = _; rw [hw4]; exact heap_alloc_new w3 _
    have HW4 := hide hw4
    have B34 := hide (hb3.trans (b4.mono hb3.size))
    have HTX : Hid ((⟨ta, tc, ts⟩ : Tx).Ok w4 ∧ ts = p.hi ∧ ts.length = tl ∧ p.lv = lv ∧ p.ri = ri) := ⟨(ownB_ok (x := ⟨ta, tc, ts⟩) hto ht8 htz).below b4, hts, htl, hlv, hri⟩
    have HBD4 := hide (HBD.out w4 B34.out)
    clear hw4 b4 hts hto ht8 htz hb3 htl hlv hri HHD HBD
    go_upto_region 6 with fail
    rw [← HW4.out]
    clear HW4
    go_wp2_with fail
    refine HBD4.out.mono ?_
    rintro e w5 ⟨⟨xka, xkc, XK⟩, ⟨xva, xvc, XV⟩, ⟨xca, xcc, XC⟩, rfl, h1, h2, h3, h4, h5, h6, h7, hb5⟩
    simp only [TL.v, IL.v] at h6 ⊢
    obtain ⟨xlk, hq2⟩ : ∃ z, XK.length = z := ⟨_, rfl⟩
    obtain ⟨xlw, hq3⟩ : ∃ z, XV.length = z := ⟨_, rfl⟩
    obtain ⟨xlc, hq4⟩ : ∃ z, XC.length = z := ⟨_, rfl⟩
    rw [hq2, hq3, hq4]
    obtain ⟨w6, hw6⟩ : ∃ x, x = w5.alloc (.cells #[.slice xka xlk xkc, .slice xva xlw xvc, .slice xca xlc xcc] 59) := ⟨_, rfl⟩
    have b6 : Below w5.heap.size w5 w6 := by rw [hw6]; exact (Below.refl _ _).alloc (Nat.le_refl _) _
    have G6 : Hid (w6.heap[w5.heap.size]? = some (.cells #[.slice xka xlk xkc, .slice xva xlw xvc, .slice xca xlc xcc] 59 (0, 0))) := by show _ = _; rw [hw6]; exact heap_alloc_new w5 _
    have HW6 := hide hw6
    have b46 := hb5.trans (b6.mono hb5.size)
    have G46 : Hid (w6.heap[w3.heap.size]? = some (.cells #[.int .i64 lv, .slice ta tl tc, .int .i64 ri] 55 (0, 0))) := (b46.block _ (lt_of_block G4.out)).trans G4.out
    have B36 := hide (B34.out.trans (b46.mono B34.out.size))
    have HNO : Hid ((⟨lv, ⟨ta, tc, ts⟩, ri, ⟨xka, xkc, XK⟩, ⟨xva, xvc, XV⟩, ⟨xca, xcc, XC⟩⟩ : Nd).Ok w6) := ⟨HTX.out.1.below b46, h4.ok.below b6, h5.ok.below b6, (il_of_owns (t := ⟨xca, xcc, XC⟩) h6).below b6, h7.1, h7.2.1, h7.2.2⟩
    have HNP : Hid ((⟨lv, ⟨ta, tc, ts⟩, ri, ⟨xka, xkc, XK⟩, ⟨xva, xvc, XV⟩, ⟨xca, xcc, XC⟩⟩ : Nd).p = p) := by
      obtain ⟨plv, phi, pri, pks, pvs, pcs⟩ := p
      have e1 := HTX.out
      simp only at e1 h1 h2 h3
      show NP.mk _ _ _ _ _ _ = _
      simp only [h1, h2, h3, e1.2.1, ← e1.2.2.2.1, ← e1.2.2.2.2]
    have HQ : Hid (ts.length = tl ∧ XK.length = xlk ∧ XV.length = xlw ∧ XC.length = xlc ∧ p.vs.length = xlw) := ⟨HTX.out.2.2.1, hq2, hq3, hq4, by rw [← h2, TL.p_len]; exact hq3⟩
    clear hw6 b6 b46 h1 h2 h3 h4 h5 h6 h7 hb5 hq2 hq3 hq4 HBD4 B34
    go_upto_region 7 with fail
    rw [← HW6.out]
    clear HW6
    obtain ⟨a0, a1, a2⟩ := tri_at G46.out
    obtain ⟨c0, c1, c2⟩ := tri_at G6.out
    obtain ⟨w7, hw7⟩ : ∃ x, x = w6.alloc (.cells #[.int .i64 lv, .slice ta tl tc, .int .i64 ri, .slice xka xlk xkc, .slice xva xlw xvc, .slice xca xlc xcc] 61) := ⟨_, rfl⟩
    have b7 : Below w6.heap.size w6 w7 := by rw [hw7]; exact (Below.refl _ _).alloc (Nat.le_refl _) _
    have G7 : Hid (w7.heap[w6.heap.size]? = some (.cells #[.int .i64 lv, .slice ta tl tc, .int .i64 ri, .slice xka xlk xkc, .slice xva xlw xvc, .slice xca xlc xcc] 61 (0, 0))) := by show _ = _; rw [hw7]; exact heap_alloc_new w6 _
    have HW7 := hide hw7
    have B07 : Hid (Below w0.heap.size w0 w7) := HBR.out.trans ((B36.out.trans (b7.mono B36.out.size)).mono HBR.out.size)
    have HNO7 := hide (HNO.out.below b7)
    clear hw7 b7
    go_upto_region 10 with fail
    rw [← HW7.out]
    clear HW7 a0 a1 a2 c0 c1 c2
    obtain ⟨z0, z1, z2, z3, z4, z5⟩ := Six.of G7.out
    obtain ⟨_, hk7, hv7, _, g7⟩ := HF.out w7 B07.out
    obtain ⟨y0, y1⟩ := two_ce g7
    have HBY := hide (rbeyond_any _ _ w7 HNO7.out hk7)
    simp only [Nd.v, Tx.v, TL.v, IL.v, HQ.out.1, HQ.out.2.1, HQ.out.2.2.1, HQ.out.2.2.2.1, HKL.out] at HBY
    have hbe : beyB ts kz = beyB p.hi kz := by rw [HTX.out.2.1]
    rw [hbe] at HBY
    clear hbe g7 hk7 hv7
    obtain ⟨be, hbe⟩ : ∃ b, beyB p.hi kz = b := ⟨_, rfl⟩
    rw [hbe] at HBY
    have HFD2 := HFD.out
    rw [hbe] at HFD2
    have HFD3 := hide HFD2
    clear HFD HFD2 hbe
    go_wp2_with fail
    refine HBY.out.mono ?_
    rintro e w8 ⟨rfl, hb8⟩
    have B08 : Hid (Below w0.heap.size w0 w8) := B07.out.trans (hb8.mono B07.out.size)
    have G8 : Hid (w8.heap[w6.heap.size]? = some (.cells #[.int .i64 lv, .slice ta tl tc, .int .i64 ri, .slice xka xlk xkc, .slice xva xlw xvc, .slice xca xlc xcc] 61 (0, 0))) := (hb8.block _ (lt_of_block G7.out)).trans G7.out
    have HNO8 := hide (HNO7.out.below hb8)
    clear hb8 HBY z0 z1 z2 z3 z4 z5 y0 y1
    obtain ⟨z0, z1, z2, z3, z4, z5⟩ := Six.of G8.out
    obtain ⟨_, hk8, hv8, _, g8⟩ := HF.out w8 B08.out
    obtain ⟨y0, y1⟩ := two_ce g8
    cases be with
    | true =>
      have HNX : Hid (s.fnd kz vz (200 - (i + 1)) ri = true ∧ Below w0.heap.size w0 w8) := by
        have h1 := HFD3.out
        rw [if_pos rfl, HTX.out.2.2.2.2] at h1
        exact ⟨h1, B08.out⟩
      clear g8 hk8 hv8
      go_wp2_with fail
      go_roundw
      case rel => exact ⟨ri, i + 1, rfl, by go_num, HNX⟩
      case measure => simp [intOf]; omega
    | false =>
      have h1 := HFD3.out
      rw [if_neg (by decide), HTX.out.2.2.2.1] at h1
      by_cases hlv : 0 < lv
      · rw [if_pos hlv] at h1
        have HCH := hide (rchild_any _ _ w8 HNO8.out hk8)
        simp only [Nd.v, Tx.v, TL.v, IL.v, HQ.out.1, HQ.out.2.1, HQ.out.2.2.1, HQ.out.2.2.2.1, HKL.out] at HCH
        have hch : chiN (⟨xka, xkc, XK⟩ : TL).p XC kz = chiN p.ks p.cs kz := by rw [← HNP.out]; rfl
        rw [hch] at HCH
        obtain ⟨nid, hnid⟩ : ∃ x, chiN p.ks p.cs kz = x := ⟨_, rfl⟩
        rw [hnid] at HCH h1
        have HNX := hide h1
        clear g8 hk8 hv8 hch hnid h1
        go_wp2_with fail
        refine HCH.out.mono ?_
        rintro e w9 ⟨rfl, hb9⟩
        have HN9 : Hid (s.fnd kz vz (200 - (i + 1)) nid = true ∧ Below w0.heap.size w0 w9) := ⟨HNX.out, B08.out.trans (hb9.mono B08.out.size)⟩
        clear hb9 HCH
        go_wp2_with fail
        go_roundw
        case rel => exact ⟨nid, i + 1, rfl, by go_num, HN9⟩
        case measure => simp [intOf]; omega
      · -- LEAF
        rw [if_neg hlv] at h1
        simp only [Bool.and_eq_true, decide_eq_true_eq] at h1
        obtain ⟨e1, e2, e3⟩ := h1
        have HFI := hide (rfind_any _ _ w8 HNO8.out hk8)
        simp only [Nd.v, Tx.v, TL.v, IL.v, HQ.out.1, HQ.out.2.1, HQ.out.2.2.1, HQ.out.2.2.2.1, HKL.out] at HFI
        have hks : (⟨xka, xkc, XK⟩ : TL).p = p.ks := by rw [← HNP.out]; rfl
        have hvs : (⟨xva, xvc, XV⟩ : TL).p = p.vs := by rw [← HNP.out]; rfl
        rw [hks, e1] at HFI
        obtain ⟨j, hj⟩ : ∃ x, cntB p.ks kz = x := ⟨_, rfl⟩
        rw [hj] at HFI e2 e3
        have hjl : j < xlw := by rw [HQ.out.2.2.2.2] at e2; exact e2
        have hjV : j < XV.length := by rw [HQ.out.2.2.1]; exact hjl
        have hVs : XV[j].s = vz := by
          have h2 : (⟨xva, xvc, XV⟩ : TL).p.getD j [] = vz := by rw [hvs]; exact e3
          rw [tl_getD (t := ⟨xva, xvc, XV⟩) hjV] at h2
          exact h2
        have HVJ : Hid (∃ h : j < XV.length, XV[j].s = vz) := ⟨hjV, hVs⟩
        clear g8 hk8 hv8 hks hvs e1 e2 e3 hj hjV hVs
        go_wp2_with fail
        refine HFI.out.mono ?_
        rintro e w9 ⟨rfl, hb9⟩
        have B09 : Hid (Below w0.heap.size w0 w9) := B08.out.trans (hb9.mono B08.out.size)
        have G9 := (hb9.block _ (lt_of_block G8.out)).trans G8.out
        have hno9 := HNO8.out.below hb9
        clear z0 z1 z2 z3 z4 z5 y0 y1
        obtain ⟨z0, z1, z2, z3, z4, z5⟩ := Six.of G9
        obtain ⟨_, hk9, hv9, hbw9, g9⟩ := HF.out w9 B09.out
        obtain ⟨y0, y1⟩ := two_ce g9
        obtain ⟨hjV, hVs⟩ := HVJ.out
        obtain ⟨bV, oV, hva, cV⟩ := hno9.v.r j hjV
        simp only at hva
        subst hva
        have htok := hno9.v.ok XV[j] (List.getElem_mem hjV)
        generalize XV[j] = tx at *
        obtain ⟨la, lc', lz⟩ := tx
        simp only [Tx.v] at cV
        simp only at hVs
        subst hVs
        rw [HVL.out] at cV
        have k1 : ∀ q, (convert 39 9 (.slice la vl lc')).run Tryz.prog (w9.drewN q) = .ok (.string (strOfNums lz)) (w9.drewN q) := fun q => nconv_row lc' HVL.out (htok.drewN q).r
        have k2 : ∀ q, (convert 39 9 (.slice va vl vc)).run Tryz.prog (w9.drewN q) = .ok (.string (strOfNums lz)) (w9.drewN q) := fun q => nconv_row vc HVL.out (hv9.drewN q).r
        generalize strOfNums lz = st at *
        have jj : (j : Int) < (xlw : Int) := by omega
        have HB9 : Hid (∀ n, Below W.heap.size W (w9.drewN n)) := fun n => hbw9.trans (below_drewN (Below.refl _ _) n)
        clear hb9 G9 hno9 hk9 hv9 hbw9 g9 htok hjV HFI HVJ
        go_upto_region 12 with fail
        go_quiet (fail)
        go_wp2_with fail
        go_ret
        exact ⟨rfl, HB9.out _⟩
end Go.Proofs.YtibifkindpgkgaaGreat
