/- BlockFinds: the walk. -/
import Derived.Test.YtjnldmbjeiejdaaG49
import Derived.Test.YtjnldmbjeiejdaaG50
import Derived.Test.YtjnldmbjeiejdaaG39
import Derived.Test.YtjnldmbjeiejdaaG37
import Derived.Test.YtjnldmbjeiejdaaG16
import Derived.Test.YtjnldmbjeiejdaaG10
namespace Go.Proofs.Ytjnldmbjeiejdaa
open Go.RowKit

theorem bRes_nil {zs : List Int} (z8 : B8 zs) {Es : List Ent} (hk : kvs Es = (bRes zs).1) (h : 0 < Es.length) : (bRes zs).2.1 = 0 := by
  apply Classical.byContradiction
  intro h0
  rw [(bRes_err z8 h0).1] at hk
  have := congrArg List.length hk
  rw [kvs_len] at this
  rw [this] at h
  exact absurd h (Nat.lt_irrefl _)

set_option maxRecDepth 100000 in
set_option maxHeartbeats 3200000 in
theorem blockFinds_any (a : Option Addr) (l c : Nat) (zs : List Int) (ta : Option Addr) (tb tq tl tc : Nat) (L : List Txt) (w : World) (hl : zs.length = l) (hm : l ≤ 140737488351232) (hcl : l ≤ c) (na : a = none → l = 0 ∧ c = 0) (hr : Row w .u8 a zs) (z8 : B8 zs)
    (hL : L.length = tl) (htm : tl ≤ 140737488351232) (hta : 0 < tl → ta = some ⟨tb, tq, none⟩) (hT : Txs w tb tq L) :
    Calls Try.prog 6 #[.slice a l c, .slice ta tl tc] w fun e w' => e = .returned (.bool true) ∧ Below w.heap.size w w' := by
  have HR := hide (fun (W : World) (h : Below w.heap.size w W) => hr.below2 h)
  have HT := hide (fun (W : World) (h : Below w.heap.size w W) => hT.below h)
  have HNA := hide na
  have HTA := hide hta
  clear hr na hT hta
  go_enter Try.func6, Try.ntmps6
  go_wp2_with fail
  refine (lives_any _).mono ?_
  rintro e w1 ⟨rfl, t1⟩
  have T1 := hide t1
  clear t1
  have HRR := hide (rblk_any a l c zs w1 hl hm hcl HNA.out (HR.out w1 T1.out) z8)
  go_wp2_with fail
  refine HRR.out.mono ?_
  rintro e w2 ⟨a5, c5, b5, Es, rfl, hkv, ha5, hE5, _, b2, _⟩
  have T2 := hide (T1.out.trans (b2.mono T1.out.size))
  have KV := hide hkv
  have HBK := hide (fun h => bRes_back (zs := zs) z8 h)
  have HNIL := hide (fun h => bRes_nil z8 hkv h)
  have h64 : Es.length ≤ 64 := by
    by_cases h0 : 0 < Es.length
    · have := (HBK.out (HNIL.out h0)).1.n64
      rw [← hkv, kvs_len] at this
      exact this
    · omega
  obtain ⟨n, hn⟩ : ∃ n, Es.length = n := ⟨_, rfl⟩
  rw [hn] at ha5 h64 HNIL ⊢
  have HA5 := hide ha5
  have E2 := hide hE5
  clear HRR hkv ha5 hE5 b2
  go_wp2_with fail
  refine (lent_any a l c zs w2 hl hm HNA.out (HR.out w2 T2.out)).mono ?_
  rintro e w3 ⟨rfl, hL3, b3⟩
  have T3 := hide (T2.out.trans (b3.mono T2.out.size))
  obtain ⟨g, hg⟩ : ∃ g, g = w2.heap.size := ⟨_, rfl⟩
  rw [← hg] at hL3 ⊢
  have hg3 : g < w3.heap.size := hL3.lt
  have HL := hide (fun (W : World) (h : Below w3.heap.size w3 W) => hL3.below h hg3)
  have HE := hide (fun (W : World) (h : Below w3.heap.size w3 W) => (E2.out.below b3).below h)
  have HTX := hide (fun (W : World) (h : Below w3.heap.size w3 W) => HT.out W (T3.out.trans (h.mono T3.out.size)))
  have HRW := hide (fun (W : World) (h : Below w3.heap.size w3 W) => HR.out W (T3.out.trans (h.mono T3.out.size)))
  have HTT := hide (fun (W : World) (h : Below w3.heap.size w3 W) => T3.out.trans (h.mono T3.out.size))
  have HFD := hide (fun (W : World) (h : Below w3.heap.size w3 W) (ka : Option Addr) (kl kc : Nat) (key : List Int) (hk : key.length = kl) (k8 : B8 key) (hrk : Row W .u8 ka key) => find_any (some ⟨g, 0, none⟩) l (l + 2) zs ka kl kc key W hl hm (by omega) (fun h => by cases h) (HL.out W h).row z8 hk k8 hrk)
  have HKP := hide (fun (W : World) (h : Below w3.heap.size w3 W) => kept_any g a l c zs W hl hm (HL.out W h) (HRW.out W h))
  unfold FdPost at HFD
  clear hL3 b3 hg E2 HR HT
  rw [show (bRes zs).2.1 = (bRes zs).2.1 from rfl]
  generalize (bRes zs).2.1 = bE at *
  generalize (bRes zs).2.2 = bP at *
  go_wp2_with fail
  go_loopw [10] (fun q wr => ∃ i : Nat, i ≤ tl ∧ q = .int .i64 (i : Int) ∧ Hid (Below w3.heap.size w3 wr)) (fun q _ => tl - (intOf q).toNat)
  case atStart => exact ⟨0, Nat.zero_le _, rfl, Below.refl _ _⟩
  case round =>
    obtain ⟨i, hi, rfl, HB⟩ := hrel
    rename World => wr
    by_cases hlt : i < tl
    · have i1 : (i : Int) < (tl : Int) := by omega
      have i2 : (0 : Int) ≤ (i : Int) := by omega
      obtain rfl := HTA.out (by omega)
      have hiL : i < L.length := by omega
      have d0 := (HTX.out wr HB.out).at' i hiL
      have hdl : Hid (∀ W, Below w3.heap.size w3 W → W.cell? ⟨tb, tq + i, none⟩ = some (.slice L[i].a L[i].s.length L[i].c) ∧ L[i].Ok W) := fun W h => ⟨(HTX.out W h).at' i hiL, (HTX.out W h).ok i hiL⟩
      replace d0 : wr.cell? ⟨tb, tq + i, none⟩ = some (.slice L[i].a L[i].s.length L[i].c) := d0
      have hz := (hdl.out wr HB.out).2.z
      have k8 := (hdl.out wr HB.out).2.b8
      generalize L[i] = tx at *
      obtain ⟨ka, kc, key⟩ := tx
      simp only at d0 hdl hz k8
      obtain ⟨kl, hkl⟩ : ∃ kl, key.length = kl := ⟨_, rfl⟩
      rw [hkl] at d0 hdl hz
      have K8 := hide k8
      go_wp2_with fail
      refine (lent_any ka kl kc key wr hkl hz (by have := (hdl.out wr HB.out).2.n; simp only at this; rw [hkl] at this; exact this) (hdl.out wr HB.out).2.r).mono ?_
      rintro e w4 ⟨rfl, hL4, b4⟩
      obtain ⟨gk, hgk⟩ : ∃ gk, gk = wr.heap.size := ⟨_, rfl⟩
      rw [← hgk] at hL4 ⊢
      have hgk3 : w3.heap.size ≤ gk := by rw [hgk]; exact HB.out.size
      have B4 := hide (HB.out.trans (b4.mono HB.out.size))
      have L4 := hide hL4
      have hgk4 : gk < w4.heap.size := hL4.lt
      clear hL4 b4 hgk d0 k8
      go_wp2_with fail
      refine (HFD.out w4 B4.out (some ⟨gk, 0, none⟩) kl (kl + 2) key hkl K8.out L4.out.row).mono ?_
      rintro e w5 ⟨b5', va, vs, vc, bb, er, rfl, ov, hf⟩
      have B5 := hide (B4.out.trans (b5'.mono B4.out.size))
      have L5 := hide (L4.out.below b5' hgk4)
      have z45 := b5'.size
      have OV5 := hide ov
      have HVB := hide (fun k hk => ov.owns.lt k hk)
      have HF1 := hide hf
      obtain ⟨nv, hnv⟩ : ∃ nv, vs.length = nv := ⟨_, rfl⟩
      rw [hnv] at OV5 HVB ⊢
      clear b5' ov hf
      go_wp2_with fail
      refine (HFD.out w5 B5.out (some ⟨gk, 0, none⟩) kl (kl + 2) key hkl K8.out L5.out.row).mono ?_
      rintro e w6 ⟨b6', va2, vs2, vc2, bb2, er2, rfl, ov2, hf2⟩
      have B6 := hide (B5.out.trans (b6'.mono B5.out.size))
      have L6 := hide (L5.out.below b6' (by omega))
      have z56 := b6'.size
      have OV6 := hide (OV5.out.below b6')
      have OW6 := hide ov2
      have HF2 := hide hf2
      obtain ⟨nv2, hnv2⟩ : ∃ nv2, vs2.length = nv2 := ⟨_, rfl⟩
      rw [hnv2] at OW6 ⊢
      clear b6' ov2 hf2 OV5
      have d6 := (hdl.out w6 B6.out).1
      go_wp2_with fail
      refine (HKP.out w6 B6.out).mono ?_
      rintro e w7 ⟨rfl, s7⟩
      have b7 := s7.below w6.heap.size
      have B7 := hide (B6.out.trans (b7.mono B6.out.size))
      have L7 := hide (L6.out.below b7 (by omega))
      have OV7 := hide (OV6.out.below b7)
      have OW7 := hide (OW6.out.below b7)
      have z67 := b7.size
      have d7 := (hdl.out w7 B7.out).1
      clear s7 b7 OV6 OW6 d6
      go_wp2_with fail
      refine (kept_any gk ka kl kc key w7 hkl hz L7.out (hdl.out w7 B7.out).2.r).mono ?_
      rintro e w8 ⟨rfl, s8⟩
      have b8 := s8.below w7.heap.size
      have B8' := hide (B7.out.trans (b8.mono B7.out.size))
      have OV8 := hide (OV7.out.below b8)
      have OW8 := hide (OW7.out.below b8)
      have z78 := b8.size
      have d8 := (hdl.out w8 B8'.out).1
      clear s8 b8 OV7 OW7 d7 L4 L5 L6 L7
      by_cases hbE : bE = 0
      · subst hbE
        have hG := (HBK.out rfl).1
        obtain ⟨hi1, her1⟩ := HF1.out rfl
        obtain ⟨hi2, her2⟩ := HF2.out rfl
        subst her1
        subst her2
        have HGD := hide hG
        have HI1 := hide hi1
        have HI2 := hide hi2
        have RKW := hide (hdl.out w8 B8'.out).2.r
        clear hG hi1 hi2 HF1 HF2 HBK
        go_wp2_with fail
        refine (rfind_any a5 b5 n c5 Es ka kl kc key w8 hn (by omega) HA5.out (HE.out w8 B8'.out) hkl K8.out RKW.out).mono ?_
        rintro e w9 ⟨wa, ws, wc, wb, rfl, hisf, hrow, b9⟩
        rw [KV.out] at hisf
        have hv256 : ws.length ≤ 256 := by
          rcases hisf with ⟨_, j, hj, _, hv⟩ | ⟨_, hv, _⟩
          · rw [hv]; exact HGD.out.v1 j hj
          · rw [hv]; simp
        obtain ⟨e1, e2⟩ := IsF.same HGD.out HI1.out hisf
        obtain ⟨e3, e4⟩ := IsF.same HGD.out HI2.out hisf
        subst e1
        subst e2
        subst e3
        subst e4
        rw [hnv] at hnv2 hv256
        subst hnv2
        rw [hnv]
        have B9 := hide (B8'.out.trans (b9.mono B8'.out.size))
        have OV9 := hide (OV8.out.below b9)
        have OW9 := hide (OW8.out.below b9)
        have HRWA := hide hrow
        have z89 := b9.size
        clear hrow b9 OV8 OW8 d8 hisf HI1 HI2
        go_wp2_with fail
        refine (same_any va wa nv vc nv wc vs2 vs2 w9 (by unfold maxLen; omega) hnv hnv OV9.out.row (HRWA.out w9 (HE.out w9 B9.out))).mono ?_
        rintro e w10 ⟨rfl, s10⟩
        rw [decide_eq_true rfl]
        have b10 := s10.below w9.heap.size
        have B10 := hide (B9.out.trans (b10.mono B9.out.size))
        have OV10 := hide (OV9.out.below b10)
        have OW10 := hide (OW9.out.below b10)
        have z910 := b10.size
        clear s10 b10 OV9 OW9
        go_wp2_with fail
        refine (spoil_any OV10.out).mono ?_
        rintro e w11 ⟨rfl, g11⟩
        have u11 : Upd (fun k => (Value.slice va nv vc).ownBlock = some k) w10 w11 := Upd.of_grown g11 (fun k hk _ => hk)
        have OW11 := hide (OW10.out.upd u11 (fun k hk e => by have h1 := (HVB.out k e).2; have h2 := (OW10.out.owns.lt k hk).1; omega))
        have z3r := HB.out.size
        have z34 := B4.out.size
        have B11 : Hid (Below w3.heap.size w3 w11) := B10.out.trans (u11.below (by have := B10.out.size; omega) (fun k hk e => by have := (HVB.out k e).1; omega))
        clear g11 u11 OV10 OW10
        go_wp2_with fail
        refine (same_any va2 wa nv vc2 nv wc vs2 vs2 w11 (by unfold maxLen; omega) hnv hnv OW11.out.row (HRWA.out w11 (HE.out w11 B11.out))).mono ?_
        rintro e w12 ⟨rfl, s12⟩
        rw [decide_eq_true rfl]
        have b12 := s12.below w11.heap.size
        have B12 := hide (B11.out.trans (b12.mono B11.out.size))
        clear s12 b12 OW11 hv256 hnv
        cases bb2 <;>
        · go_wp2_with fail
          go_roundw
          case rel => exact ⟨i + 1, by omega, by go_num, B12⟩
          case measure => simp [intOf]; omega
      · have hne : (bE != 0) = true := by simp [hbE]
        go_wp2_with fail
        go_roundw
        case rel => exact ⟨i + 1, by omega, by go_num, B8'⟩
        case measure => simp [intOf]; omega
    · have i1 : ¬ (i : Int) < (tl : Int) := by omega
      clear HKP HTX HTA
      go_wp2_with fail
      go_loopw [22] (fun q wq => ∃ j : Nat, j ≤ n ∧ q = .int .i64 (j : Int) ∧ Hid (Below w3.heap.size w3 wq)) (fun q _ => n - (intOf q).toNat)
      case atStart => exact ⟨0, Nat.zero_le _, rfl, HB⟩
      case round =>
        clear HB
        obtain ⟨j, hj, rfl, HB⟩ := hrel
        rename World => wq
        by_cases hlj : j < n
        · have j1 : (j : Int) < (n : Int) := by omega
          have j2 : (0 : Int) ≤ (j : Int) := by omega
          obtain rfl := HA5.out (by omega)
          have hjE : j < Es.length := by omega
          have hbE := HNIL.out (by omega)
          have d0 := (HE.out wq HB.out).at0 j hjE
          unfold Ent.kv at d0
          rw [Nat.zero_add] at d0
          have HOK := hide (fun (W : World) (h : Below w3.heap.size w3 W) => (HE.out W h).ok j hjE)
          have HD1 : Hid (∀ W, Below w3.heap.size w3 W → W.cell? ⟨b5, j * 2 + 1, none⟩ = some (.slice Es[j].va Es[j].vs.length Es[j].vc)) := fun W h => by
            have := (HE.out W h).at1 j hjE
            rw [Nat.zero_add] at this
            exact this
          have HIS : Hid (IsF (bRes zs).1 Es[j].ks Es[j].vs true) := by
            show IsF _ _ _ _
            rw [← KV.out]
            exact .inl ⟨rfl, j, by rw [kvs_len]; omega, kvs_ky Es j hjE, (kvs_vl Es j hjE).symm⟩
          have hG : Hid (Good (bRes zs).1) := (HBK.out hbE).1
          have hv256 : Es[j].vs.length ≤ 256 := by
            have := hG.out.v1 j (by rw [← KV.out, kvs_len]; omega)
            rw [← KV.out, kvs_vl Es j hjE] at this
            exact this
          generalize Es[j] = en at *
          have OK0 := hide (HOK.out wq HB.out)
          have HFW := hide (HFD.out wq HB.out en.ka en.ks.length en.kc en.ks rfl OK0.out.k8 OK0.out.k)
          replace hbE := hide hbE
          go_wp2_with fail
          refine HFW.out.mono ?_
          rintro e w5 ⟨b5', va, vs, vc, bb, er, rfl, ov, hf⟩
          obtain ⟨hf1, rfl⟩ := hf hbE.out
          obtain ⟨rfl, rfl⟩ := IsF.same hG.out hf1 HIS.out
          have B5 := hide (HB.out.trans (b5'.mono HB.out.size))
          have OV5 := hide ov
          have d1 := HD1.out w5 B5.out
          have RV := hide (HOK.out w5 B5.out).v
          clear b5' ov hf hf1 HFW d0 HIS
          obtain ⟨nv, hnv⟩ : ∃ nv, en.vs.length = nv := ⟨_, rfl⟩
          rw [hnv] at OV5 d1 hv256 ⊢
          replace hnv := hide hnv
          go_wp2_with fail
          refine (same_any va en.va nv vc nv en.vc en.vs en.vs w5 (by unfold maxLen; omega) hnv.out hnv.out OV5.out.row RV.out).mono ?_
          rintro e w6 ⟨rfl, s6⟩
          rw [decide_eq_true rfl]
          have b6 := s6.below w5.heap.size
          have B6 := hide (B5.out.trans (b6.mono B5.out.size))
          clear s6 b6 OV5 d1
          go_wp2_with fail
          go_roundw
          case rel => exact ⟨j + 1, by omega, by go_num, B6⟩
          case measure => simp [intOf]; omega
        · have j1 : ¬ (j : Int) < (n : Int) := by omega
          have HTF := hide (HTT.out wq HB.out)
          go_wp2_with fail
          go_ret
          exact ⟨rfl, HTF.out⟩

end Go.Proofs.Ytjnldmbjeiejdaa
