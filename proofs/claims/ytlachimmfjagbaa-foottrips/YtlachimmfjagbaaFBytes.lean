/- foot: Bytes. -/
import Derived.Test.YtlachimmfjagbaaFRBytes
namespace Go.Proofs.Ytlachimmfjagbaa
open Go.RowKit

set_option maxRecDepth 100000 in
set_option maxHeartbeats 3200000 in
theorem fbytes_any (a : Option Addr) (b o n c : Nat) (L : List Spn) (w : World) (hl : L.length = n) (hm : n ≤ 140737488351232) (ha : 0 < n → a = some ⟨b, o, none⟩) (hS : Sps w b o L) :
    Calls Try.prog 10 #[.slice a n c] w (FByPost w (rws L)) := by
  have HCK := hide (fcheck_any a b o n c L w hl hm ha hS)
  have HTO := hide (fun W (h : Below w.heap.size w W) => total_any a b o n c L W hl hm ha (hS.below h))
  have HP : Hid (∀ e w', FByPost w (rws L) e w' ↔ ∃ (m : Nat) (er : Int), IsChk (rws L) m er ∧ ((er ≠ 0 ∧ e = .returned (.tuple #[.slice none 0 0, .int .i64 er, .int .i64 (m : Int)])) ∨ (er = 0 ∧ ∃ v, e = .returned (.tuple #[v, .int .i64 0, .int .i64 0]) ∧ OwnB w' w.heap.size 5 v (footB (rws L)))) ∧ Below w.heap.size w w') := fun _ _ => Iff.rfl
  have HS := hide hS
  have HA := hide ha
  clear hS ha
  have HL : Hid ((rws L).length = n) := (rws_len L).trans hl
  obtain ⟨i0, hi, hz0, hz1, hz2⟩ := info_parts infoByte'
  have HRN : Hid (∀ (W : World) (N : Nat) (x : Int), N ≤ 18446744073709551615 → x = (N : Int) → Calls Try.prog 29 #[.int .u64 x] W fun e w' => ∃ ua uc, e = .returned (.slice ua (enc N).length uc) ∧ OwnB w' W.heap.size 5 (.slice ua (enc N).length uc) (enc N) ∧ (ua = none → (enc N).length = 0 ∧ uc = 0) ∧ Below W.heap.size W w') := fun W N x hN hx => by
    subst hx
    refine (vbytes_any N W hN).mono ?_
    rintro e w' ⟨rfl, ho, hb⟩
    exact ⟨_, _, rfl, ho, (fun h => by cases h), hb⟩
  go_enter Try.func10, Try.ntmps10
  go_wp2_with fail
  refine HCK.out.mono ?_
  rintro e w1 ⟨m, er, rfl, hck, b1⟩
  have CK := hide hck
  have B1 := hide b1
  clear hck b1 HCK
  by_cases he : er = 0
  · subst he
    obtain ⟨hn8, hgd, rfl⟩ := CK.out.ok rfl
    rw [HL.out] at hn8 hgd
    have GD := hide hgd
    clear hgd
    go_wp2_with fail
    refine (rules_any w1).mono ?_
    rintro e w2 ⟨rfl, t2, b2⟩
    have T2 := hide t2
    have B2 : Hid (Below w.heap.size w w2) := B1.out.trans (b2.mono B1.out.size)
    generalize w1.heap.size + 2 = gt at *
    generalize w1.heap.size = g2 at *
    generalize g2 + 1 = g3 at *
    clear t2 b2
    go_wp2_with fail
    refine (HRN.out w2 n _ (by omega) (by first | rfl | (rw [IntKind.wrap_u64]; omega))).mono ?_
    rintro e w3 ⟨ua, uc, rfl, hr2, hn2, b3⟩
    have F0 : Hid (FbS w2 w3 (.slice ua (enc n).length uc) (fpre (rws L) 0)) := by
      have h : fpre (rws L) 0 = enc n := by rw [fpre, HL.out]
      show FbS _ _ _ _
      rw [h]
      exact ⟨hr2, b3⟩
    clear hr2 hn2 b3
    go_wp2_with fail
    go_loopw [8, 28] (fun y x wr => ∃ (i : Nat) (ua : Option Addr) (ln uc : Nat), i ≤ n ∧ x = .int .i64 (i : Int) ∧ y = .slice ua ln uc ∧ Hid (FbS w2 wr (.slice ua ln uc) (fpre (rws L) i))) (fun _ x _ => n - (intOf x).toNat)
    case atStart => exact ⟨0, ua, _, uc, Nat.zero_le _, rfl, rfl, F0⟩
    case round =>
      clear F0
      obtain ⟨i, ua, ln, uc, hi', rfl, rfl, HF⟩ := hrel
      rename World => wr
      by_cases hlt : i < n
      · have j1 : (i : Int) < (n : Int) := by omega
        have j2 : (0 : Int) ≤ (i : Int) := by omega
        obtain rfl := HA.out (by omega)
        have hiL : i < L.length := by omega
        have GI := GD.out.mono (show i + 1 ≤ n by omega)
        have hrow := GI.row i (Nat.lt_succ_self i)
        have hpos := (GI.mono (Nat.le_succ i)).pos
        have hZ0 := fpre_len (GI.mono (Nat.le_succ i)) (by omega) (by rw [HL.out]; exact hn8)
        have HFP : Hid (fpre (rws L) (i + 1) = fpre (rws L) i ++ (enc L[i].ks.length ++ L[i].ks ++ ((([] ++ enc L[i].pl.toNat) ++ enc L[i].ln.toNat) ++ enc L[i].n.toNat))) := by
          show fpre _ _ = _
          rw [fpre, rws_at L i hiL]
          rfl
        rw [rws_at L i hiL] at hrow
        obtain ⟨hk64, _, hp, hlr, hnr⟩ := hrow
        have HBW : Hid (∀ W, Below w2.heap.size w2 W → Below w.heap.size w W) := fun W h => B2.out.trans (h.mono B2.out.size)
        have SC := hide (fun W (h : Below w2.heap.size w2 W) => (HS.out.below (HBW.out W h)).c i hiL)
        have OK := hide (fun W (h : Below w2.heap.size w2 W) => (HS.out.below (HBW.out W h)).ok i hiL)
        have HBO : Hid (b < w2.heap.size) := ((HS.out.below B2.out).c i hiL).lt
        replace hp : L[i].pl = pAt (rws L) i := hp
        replace hlr : 1 ≤ L[i].ln ∧ L[i].ln ≤ 131072 := hlr
        replace hnr : 1 ≤ L[i].n ∧ L[i].n ≤ 64 := hnr
        replace hk64 : 1 ≤ L[i].ks.length ∧ L[i].ks.length ≤ 64 := hk64
        generalize L[i] = s at *
        obtain ⟨pN, hpN⟩ : ∃ pN : Nat, s.pl = (pN : Int) := ⟨s.pl.toNat, by omega⟩
        obtain ⟨lN, hlN⟩ : ∃ lN : Nat, s.ln = (lN : Int) := ⟨s.ln.toNat, by omega⟩
        obtain ⟨nN, hnN⟩ : ∃ nN : Nat, s.n = (nN : Int) := ⟨s.n.toNat, by omega⟩
        have hpB : pN ≤ 1099511627784 := by omega
        have hlB : lN ≤ 131072 := by omega
        have hnB : nN ≤ 64 := by omega
        obtain ⟨nk, hnk⟩ : ∃ nk, s.ks.length = nk := ⟨_, rfl⟩
        rw [hpN, hlN, hnN, hnk, Int.toNat_natCast, Int.toNat_natCast, Int.toNat_natCast] at HFP
        rw [hnk] at hk64
        have HC0 : Hid (∀ W, Below w2.heap.size w2 W → W.cell? ⟨b, o + i * 4, none⟩ = some (.slice s.ka nk s.kc)) := fun W h => by have := (SC.out W h).c0; unfold Spn.kv at this; rw [hnk] at this; exact this
        have HC1 : Hid (∀ W, Below w2.heap.size w2 W → W.cell? ⟨b, o + i * 4 + 1, none⟩ = some (.int .i64 (pN : Int))) := fun W h => by rw [← hpN]; exact (SC.out W h).c1
        have HC2 : Hid (∀ W, Below w2.heap.size w2 W → W.cell? ⟨b, o + i * 4 + 2, none⟩ = some (.int .i64 (lN : Int))) := fun W h => by rw [← hlN]; exact (SC.out W h).c2
        have HC3 : Hid (∀ W, Below w2.heap.size w2 W → W.cell? ⟨b, o + i * 4 + 3, none⟩ = some (.int .i64 (nN : Int))) := fun W h => by rw [← hnN]; exact (SC.out W h).c3
        have e1 := (enc_len_le nk (by omega)).2
        have e2 := (enc_len_le pN (by omega)).2
        have e3 := (enc_len_le lN (by omega)).2
        have e4 := (enc_len_le nN (by omega)).2
        replace hnk := hide hnk
        clear hp hlr hnr hpN hlN hnN hpos GI SC
        generalize fpre (rws L) i = Z at *
        obtain ⟨E1, hE1⟩ : ∃ E, E = enc nk := ⟨_, rfl⟩
        obtain ⟨E2, hE2⟩ : ∃ E, E = enc pN := ⟨_, rfl⟩
        obtain ⟨E3, hE3⟩ : ∃ E, E = enc lN := ⟨_, rfl⟩
        obtain ⟨E4, hE4⟩ : ∃ E, E = enc nN := ⟨_, rfl⟩
        have N1 := hide (fun W x hx => HRN.out W nk x (by omega) hx)
        have N2 := hide (fun W x hx => HRN.out W pN x (by omega) hx)
        have N3 := hide (fun W x hx => HRN.out W lN x (by omega) hx)
        have N4 := hide (fun W x hx => HRN.out W nN x (by omega) hx)
        rw [← hE1] at N1 e1 HFP
        rw [← hE2] at N2 e2 HFP
        rw [← hE3] at N3 e3 HFP
        rw [← hE4] at N4 e4 HFP
        have hks : s.ks.length ≤ 64 := by rw [hnk.out]; omega
        clear hE1 hE2 hE3 hE4
        have s0 := HC0.out wr HF.out.b
        go_wp2_with fail
        refine (N1.out wr _ (by first | rfl | (rw [IntKind.wrap_u64]; omega))).mono ?_
        rintro e y2 ⟨u1, c1, rfl, ho1, hn1, b2⟩
        have F1 := hide (HF.out.below b2)
        have R1 := hide ho1.row
        clear ho1 b2 s0
        go_upto_region 10 with (first | (at_builtin; refine append_b rfl (.tmp 31) (.tmp 39) 25 rfl w2.heap.size 5 i0 Try.underlying25 hi hz0 hz1 hz2 _ (Z) rfl F1.out.o u1 _ c1 (E1) rfl rfl hn1 R1.out (by (try simp only [List.length_append]); omega) F1.out.b.size ?_; intro v3 y3 ho3 hg3))
        have F2 := hide (F1.out.app ho3 hg3)
        obtain ⟨n3, hn3⟩ : ∃ m, (Z ++ E1).length = m := ⟨_, rfl⟩
        obtain ⟨a3, q3, rfl, _⟩ := ho3.sliceN hn3
        replace hn3 := hide hn3
        have s0 := HC0.out y3 F2.out.b
        have K2 := hide (OK.out y3 F2.out.b)
        clear ho3 hg3 F1 R1 hn1 HF
        go_upto_region 11 with (first | (at_builtin; refine append_b rfl (.tmp 41) (.tmp 46) 25 rfl w2.heap.size 5 i0 Try.underlying25 hi hz0 hz1 hz2 _ (Z ++ E1) rfl F2.out.o s.ka _ s.kc (s.ks) rfl hnk.out (by have := K2.out.nk; rw [hnk.out] at this; exact this) K2.out.k (by (try simp only [List.length_append]); omega) F2.out.b.size ?_; intro v4 y4 ho4 hg4))
        have F3 := hide (F2.out.app ho4 hg4)
        obtain ⟨n4, hn4⟩ : ∃ m, (Z ++ E1 ++ s.ks).length = m := ⟨_, rfl⟩
        obtain ⟨a4, q4, rfl, _⟩ := ho4.sliceN hn4
        have hZ2 : n4 ≤ 900000000 := by rw [← hn4]; simp only [List.length_append]; omega
        clear ho4 hg4 F2 K2 s0
        have HFP2 : Hid (fpre (rws L) (i + 1) = Z ++ E1 ++ s.ks ++ ([] ++ E2 ++ E3 ++ E4)) := by show fpre _ _ = _; rw [HFP.out]; simp only [List.append_assoc]
        generalize Z ++ E1 ++ s.ks = Z2 at *
        clear hks
        obtain ⟨fm, hfm⟩ : ∃ fm : Nat → List Int, fm = fun k => match k with | 0 => [] | 1 => [] ++ E2 | 2 => [] ++ E2 ++ E3 | _ => [] ++ E2 ++ E3 ++ E4 := ⟨_, rfl⟩
        have HFM : Hid (∀ k, k ≤ 3 → fm k = match k with | 0 => [] | 1 => [] ++ E2 | 2 => [] ++ E2 ++ E3 | _ => [] ++ E2 ++ E3 ++ E4) := fun k _ => by rw [hfm]
        have F4 : Hid (FbS w2 y4 (.slice a4 n4 q4) (Z2 ++ fm 0)) := by show FbS _ _ _ _; rw [hfm]; show FbS _ _ _ (Z2 ++ []); rw [List.append_nil]; exact F3.out
        clear hfm F3 HFP
        go_wp2_with fail
        go_loopw [8, 50] (fun y x vr => ∃ (k : Nat) (ua : Option Addr) (ln uc : Nat), k ≤ 3 ∧ x = .int .i64 (k : Int) ∧ y = .slice ua ln uc ∧ Hid (FbS w2 vr (.slice ua ln uc) (Z2 ++ fm k))) (fun _ x _ => 3 - (intOf x).toNat)
        case atStart => exact ⟨0, a4, n4, q4, by omega, rfl, rfl, F4⟩
        case round =>
          clear F4
          obtain ⟨k, ua, ln, uc, hk3, rfl, rfl, HV⟩ := hrel
          rename World => vr
          have hkc : k = 0 ∨ k = 1 ∨ k = 2 ∨ k = 3 := by omega
          rcases hkc with rfl | rfl | rfl | rfl
          ·
            have FV0 : Hid (FbS w2 vr (.slice ua ln uc) (Z2 ++ [])) := by
              have h := HV.out
              rw [HFM.out 0 (by omega)] at h
              exact h
            have HTb := hide (T2.out.below FV0.out.b).t
            have e0 : vr.cell? ⟨gt, 0, none⟩ = some (.func (.func 44) #[] #[]) := by rw [cell_of_row _ _ _ _ _ _ HTb.out]; rfl
            have e1' : vr.cell? ⟨gt, 1, none⟩ = some (.func (.func 45) #[] #[]) := by rw [cell_of_row _ _ _ _ _ _ HTb.out]; rfl
            have e2' : vr.cell? ⟨gt, 2, none⟩ = some (.int .i64 73) := by rw [cell_of_row _ _ _ _ _ _ HTb.out]; rfl
            obtain ⟨y1, hy1⟩ : ∃ y1, y1 = vr.alloc (.cells #[.func (.func 44) #[] #[], .func (.func 45) #[] #[], .int .i64 73] 57) := ⟨_, rfl⟩
            have by1 : Below vr.heap.size vr y1 := by rw [hy1]; exact (Below.refl _ _).alloc (Nat.le_refl _) _
            have hbr : y1.heap[vr.heap.size]? = some (.cells #[.func (.func 44) #[] #[], .func (.func 45) #[] #[], .int .i64 73] 57 (0, 0)) := by rw [hy1]; exact heap_alloc_new vr _
            have FV := hide (FV0.out.below by1)
            have HNE : Hid (∀ q, (Value.slice ua ln uc).ownBlock = some q → w2.heap.size ≤ q ∧ q < vr.heap.size) := fun q hq => FV0.out.o.owns.lt q hq
            clear by1
            go_upto_region 14 with fail
            rw [← hy1]
            clear hy1 e0 e1' e2' HTb FV0 HV
            generalize vr.heap.size = gr at *
            have r0 : y1.cell? ⟨gr, 0, none⟩ = some (.func (.func 44) #[] #[]) := by rw [cell_of_row _ _ _ _ _ _ hbr]; rfl
            have hgr : gr < y1.heap.size := lt_of_block hbr
            clear hbr
            have x4 := HC1.out y1 FV.out.b
            have hbl : b < y1.heap.size := World.block_lt_of_cell? y1 ⟨b, _, none⟩ x4
            go_region_held3 (fun W => W.cell? ⟨gr, 0, none⟩ = some (.func (.func 44) #[] #[]) ∧ W.cell? ⟨b, o + i * 4 + 1, none⟩ = some (.int .i64 (pN : Int))) (go_keep) (first
              | (refine step_appB rfl (.tmp 54) (.tmp 64) 25 rfl w2.heap.size 5 i0 Try.underlying25 hi hz0 hz1 hz2 (.slice ua ln uc) (Z2 ++ []) (by simp [Act.eval]) F5.out.o u1 E2.length c1 E2 (by simp [Act.eval]) rfl hn1 R1.out (by (try simp only [List.length_append, List.length_nil]); omega) F5.out.b.size ?_; intro v6 w6 ho6 hg6; have F6 := hide (F5.out.app ho6 hg6); have m0 := hg6.cell l0 (fun e => by have := (HNE.out gr e.symm).2; omega); have m1 := hg6.cell l1 (fun e => by have := (HNE.out b e.symm).1; have := HBO.out; omega); have OF := hide ho6; clear ho6 hg6)
              | (go_at_call 29; refine (N2.out v4 _ (by first | rfl | (rw [IntKind.wrap_u64]; omega))).mono ?_; rintro e v5 ⟨u1, c1, rfl, ho1, hn1, b5⟩; have F5 := hide ((FV.out.below BV4.out).below b5); have R1 := hide ho1.row; have l0 := (b5.cell (p := ⟨gr, 0, none⟩) (Nat.lt_of_lt_of_le hgr BV4.out.size)).trans k0; have l1 := (b5.cell (p := ⟨b, o + i * 4 + 1, none⟩) (Nat.lt_of_lt_of_le hbl BV4.out.size)).trans k1; clear ho1 b5)
              | (go_at_call 44; refine (in1_any b (o + i * 4) _).mono ?_; rintro e v4 ⟨rfl, hv4⟩; have BV4 : Hid (Below y1.heap.size y1 v4) := (by rw [hv4]; exact ⟨rfl, rfl, rfl, Nat.le_refl _, fun _ _ => rfl⟩); have k0 := (BV4.out.cell (p := ⟨gr, 0, none⟩) hgr).trans r0; have k1 := (BV4.out.cell (p := ⟨b, o + i * 4 + 1, none⟩) hbl).trans x4; clear hv4)
              | fail)
            obtain ⟨n6, hn6⟩ : ∃ m, (Z2 ++ [] ++ E2).length = m := ⟨_, rfl⟩
            obtain ⟨a6, q6, rfl, _⟩ := OF.out.sliceN hn6
            replace hn6 := hide hn6
            have HN : Hid (FbS w2 w6 (.slice a6 n6 q6) (Z2 ++ fm (0 + 1))) := by
              show FbS _ _ _ _
              rw [HFM.out (0 + 1) (by omega)]
              have e : Z2 ++ ([] ++ E2) = Z2 ++ [] ++ E2 := by simp only [List.nil_append, List.append_nil]
              show FbS _ _ _ (Z2 ++ ([] ++ E2))
              rw [e]
              exact F6.out
            clear OF F6 F5 R1 hn1
            go_wp2_with fail
            go_roundw
            case rel => exact ⟨0 + 1, a6, n6, q6, by omega, by go_num, rfl, HN⟩
            case measure => simp [intOf]
          ·
            have FV0 : Hid (FbS w2 vr (.slice ua ln uc) (Z2 ++ ([] ++ E2))) := by
              have h := HV.out
              rw [HFM.out 1 (by omega)] at h
              exact h
            have HTb := hide (T2.out.below FV0.out.b).t
            have e0 : vr.cell? ⟨gt, 3, none⟩ = some (.func (.func 46) #[] #[]) := by rw [cell_of_row _ _ _ _ _ _ HTb.out]; rfl
            have e1' : vr.cell? ⟨gt, 4, none⟩ = some (.func (.func 43) #[] #[.pointer (some ⟨g2, 0, none⟩)]) := by rw [cell_of_row _ _ _ _ _ _ HTb.out]; rfl
            have e2' : vr.cell? ⟨gt, 5, none⟩ = some (.int .i64 74) := by rw [cell_of_row _ _ _ _ _ _ HTb.out]; rfl
            obtain ⟨y1, hy1⟩ : ∃ y1, y1 = vr.alloc (.cells #[.func (.func 46) #[] #[], .func (.func 43) #[] #[.pointer (some ⟨g2, 0, none⟩)], .int .i64 74] 57) := ⟨_, rfl⟩
            have by1 : Below vr.heap.size vr y1 := by rw [hy1]; exact (Below.refl _ _).alloc (Nat.le_refl _) _
            have hbr : y1.heap[vr.heap.size]? = some (.cells #[.func (.func 46) #[] #[], .func (.func 43) #[] #[.pointer (some ⟨g2, 0, none⟩)], .int .i64 74] 57 (0, 0)) := by rw [hy1]; exact heap_alloc_new vr _
            have FV := hide (FV0.out.below by1)
            have HNE : Hid (∀ q, (Value.slice ua ln uc).ownBlock = some q → w2.heap.size ≤ q ∧ q < vr.heap.size) := fun q hq => FV0.out.o.owns.lt q hq
            clear by1
            go_upto_region 14 with fail
            rw [← hy1]
            clear hy1 e0 e1' e2' HTb FV0 HV
            generalize vr.heap.size = gr at *
            have r0 : y1.cell? ⟨gr, 0, none⟩ = some (.func (.func 46) #[] #[]) := by rw [cell_of_row _ _ _ _ _ _ hbr]; rfl
            have hgr : gr < y1.heap.size := lt_of_block hbr
            clear hbr
            have x4 := HC2.out y1 FV.out.b
            have hbl : b < y1.heap.size := World.block_lt_of_cell? y1 ⟨b, _, none⟩ x4
            go_region_held3 (fun W => W.cell? ⟨gr, 0, none⟩ = some (.func (.func 46) #[] #[]) ∧ W.cell? ⟨b, o + i * 4 + 2, none⟩ = some (.int .i64 (lN : Int))) (go_keep) (first
              | (refine step_appB rfl (.tmp 54) (.tmp 64) 25 rfl w2.heap.size 5 i0 Try.underlying25 hi hz0 hz1 hz2 (.slice ua ln uc) (Z2 ++ ([] ++ E2)) (by simp [Act.eval]) F5.out.o u1 E3.length c1 E3 (by simp [Act.eval]) rfl hn1 R1.out (by (try simp only [List.length_append, List.length_nil]); omega) F5.out.b.size ?_; intro v6 w6 ho6 hg6; have F6 := hide (F5.out.app ho6 hg6); have m0 := hg6.cell l0 (fun e => by have := (HNE.out gr e.symm).2; omega); have m1 := hg6.cell l1 (fun e => by have := (HNE.out b e.symm).1; have := HBO.out; omega); have OF := hide ho6; clear ho6 hg6)
              | (go_at_call 29; refine (N3.out v4 _ (by first | rfl | (rw [IntKind.wrap_u64]; omega))).mono ?_; rintro e v5 ⟨u1, c1, rfl, ho1, hn1, b5⟩; have F5 := hide ((FV.out.below BV4.out).below b5); have R1 := hide ho1.row; have l0 := (b5.cell (p := ⟨gr, 0, none⟩) (Nat.lt_of_lt_of_le hgr BV4.out.size)).trans k0; have l1 := (b5.cell (p := ⟨b, o + i * 4 + 2, none⟩) (Nat.lt_of_lt_of_le hbl BV4.out.size)).trans k1; clear ho1 b5)
              | (go_at_call 46; refine (in2_any b (o + i * 4) _).mono ?_; rintro e v4 ⟨rfl, hv4⟩; have BV4 : Hid (Below y1.heap.size y1 v4) := (by rw [hv4]; exact ⟨rfl, rfl, rfl, Nat.le_refl _, fun _ _ => rfl⟩); have k0 := (BV4.out.cell (p := ⟨gr, 0, none⟩) hgr).trans r0; have k1 := (BV4.out.cell (p := ⟨b, o + i * 4 + 2, none⟩) hbl).trans x4; clear hv4)
              | fail)
            obtain ⟨n6, hn6⟩ : ∃ m, (Z2 ++ ([] ++ E2) ++ E3).length = m := ⟨_, rfl⟩
            obtain ⟨a6, q6, rfl, _⟩ := OF.out.sliceN hn6
            replace hn6 := hide hn6
            have HN : Hid (FbS w2 w6 (.slice a6 n6 q6) (Z2 ++ fm (1 + 1))) := by
              show FbS _ _ _ _
              rw [HFM.out (1 + 1) (by omega)]
              have e : Z2 ++ ([] ++ E2 ++ E3) = Z2 ++ ([] ++ E2) ++ E3 := by simp only [List.append_assoc, List.nil_append]
              show FbS _ _ _ (Z2 ++ ([] ++ E2 ++ E3))
              rw [e]
              exact F6.out
            clear OF F6 F5 R1 hn1
            go_wp2_with fail
            go_roundw
            case rel => exact ⟨1 + 1, a6, n6, q6, by omega, by go_num, rfl, HN⟩
            case measure => simp [intOf]
          ·
            have FV0 : Hid (FbS w2 vr (.slice ua ln uc) (Z2 ++ ([] ++ E2 ++ E3))) := by
              have h := HV.out
              rw [HFM.out 2 (by omega)] at h
              exact h
            have HTb := hide (T2.out.below FV0.out.b).t
            have e0 : vr.cell? ⟨gt, 6, none⟩ = some (.func (.func 47) #[] #[]) := by rw [cell_of_row _ _ _ _ _ _ HTb.out]; rfl
            have e1' : vr.cell? ⟨gt, 7, none⟩ = some (.func (.func 43) #[] #[.pointer (some ⟨g3, 0, none⟩)]) := by rw [cell_of_row _ _ _ _ _ _ HTb.out]; rfl
            have e2' : vr.cell? ⟨gt, 8, none⟩ = some (.int .i64 75) := by rw [cell_of_row _ _ _ _ _ _ HTb.out]; rfl
            obtain ⟨y1, hy1⟩ : ∃ y1, y1 = vr.alloc (.cells #[.func (.func 47) #[] #[], .func (.func 43) #[] #[.pointer (some ⟨g3, 0, none⟩)], .int .i64 75] 57) := ⟨_, rfl⟩
            have by1 : Below vr.heap.size vr y1 := by rw [hy1]; exact (Below.refl _ _).alloc (Nat.le_refl _) _
            have hbr : y1.heap[vr.heap.size]? = some (.cells #[.func (.func 47) #[] #[], .func (.func 43) #[] #[.pointer (some ⟨g3, 0, none⟩)], .int .i64 75] 57 (0, 0)) := by rw [hy1]; exact heap_alloc_new vr _
            have FV := hide (FV0.out.below by1)
            have HNE : Hid (∀ q, (Value.slice ua ln uc).ownBlock = some q → w2.heap.size ≤ q ∧ q < vr.heap.size) := fun q hq => FV0.out.o.owns.lt q hq
            clear by1
            go_upto_region 14 with fail
            rw [← hy1]
            clear hy1 e0 e1' e2' HTb FV0 HV
            generalize vr.heap.size = gr at *
            have r0 : y1.cell? ⟨gr, 0, none⟩ = some (.func (.func 47) #[] #[]) := by rw [cell_of_row _ _ _ _ _ _ hbr]; rfl
            have hgr : gr < y1.heap.size := lt_of_block hbr
            clear hbr
            have x4 := HC3.out y1 FV.out.b
            have hbl : b < y1.heap.size := World.block_lt_of_cell? y1 ⟨b, _, none⟩ x4
            go_region_held3 (fun W => W.cell? ⟨gr, 0, none⟩ = some (.func (.func 47) #[] #[]) ∧ W.cell? ⟨b, o + i * 4 + 3, none⟩ = some (.int .i64 (nN : Int))) (go_keep) (first
              | (refine step_appB rfl (.tmp 54) (.tmp 64) 25 rfl w2.heap.size 5 i0 Try.underlying25 hi hz0 hz1 hz2 (.slice ua ln uc) (Z2 ++ ([] ++ E2 ++ E3)) (by simp [Act.eval]) F5.out.o u1 E4.length c1 E4 (by simp [Act.eval]) rfl hn1 R1.out (by (try simp only [List.length_append, List.length_nil]); omega) F5.out.b.size ?_; intro v6 w6 ho6 hg6; have F6 := hide (F5.out.app ho6 hg6); have m0 := hg6.cell l0 (fun e => by have := (HNE.out gr e.symm).2; omega); have m1 := hg6.cell l1 (fun e => by have := (HNE.out b e.symm).1; have := HBO.out; omega); have OF := hide ho6; clear ho6 hg6)
              | (go_at_call 29; refine (N4.out v4 _ (by first | rfl | (rw [IntKind.wrap_u64]; omega))).mono ?_; rintro e v5 ⟨u1, c1, rfl, ho1, hn1, b5⟩; have F5 := hide ((FV.out.below BV4.out).below b5); have R1 := hide ho1.row; have l0 := (b5.cell (p := ⟨gr, 0, none⟩) (Nat.lt_of_lt_of_le hgr BV4.out.size)).trans k0; have l1 := (b5.cell (p := ⟨b, o + i * 4 + 3, none⟩) (Nat.lt_of_lt_of_le hbl BV4.out.size)).trans k1; clear ho1 b5)
              | (go_at_call 47; refine (in3_any b (o + i * 4) _).mono ?_; rintro e v4 ⟨rfl, hv4⟩; have BV4 : Hid (Below y1.heap.size y1 v4) := (by rw [hv4]; exact ⟨rfl, rfl, rfl, Nat.le_refl _, fun _ _ => rfl⟩); have k0 := (BV4.out.cell (p := ⟨gr, 0, none⟩) hgr).trans r0; have k1 := (BV4.out.cell (p := ⟨b, o + i * 4 + 3, none⟩) hbl).trans x4; clear hv4)
              | fail)
            obtain ⟨n6, hn6⟩ : ∃ m, (Z2 ++ ([] ++ E2 ++ E3) ++ E4).length = m := ⟨_, rfl⟩
            obtain ⟨a6, q6, rfl, _⟩ := OF.out.sliceN hn6
            replace hn6 := hide hn6
            have HN : Hid (FbS w2 w6 (.slice a6 n6 q6) (Z2 ++ fm (2 + 1))) := by
              show FbS _ _ _ _
              rw [HFM.out (2 + 1) (by omega)]
              have e : Z2 ++ ([] ++ E2 ++ E3 ++ E4) = Z2 ++ ([] ++ E2 ++ E3) ++ E4 := by simp only [List.append_assoc, List.nil_append]
              show FbS _ _ _ (Z2 ++ ([] ++ E2 ++ E3 ++ E4))
              rw [e]
              exact F6.out
            clear OF F6 F5 R1 hn1
            go_wp2_with fail
            go_roundw
            case rel => exact ⟨2 + 1, a6, n6, q6, by omega, by go_num, rfl, HN⟩
            case measure => simp [intOf]
          · have F10 : Hid (FbS w2 vr (.slice ua ln uc) (fpre (rws L) (i + 1))) := by
              show FbS _ _ _ _
              rw [HFP2.out]
              have h := HV.out
              rw [HFM.out 3 (by omega)] at h
              exact h
            clear HV
            go_wp2_with fail
            go_roundw
            case rel => exact ⟨i + 1, ua, ln, uc, by omega, by go_num, rfl, F10⟩
            case measure => simp [intOf]; omega
      · have j1 : ¬ (i : Int) < (n : Int) := by omega
        obtain rfl : i = n := by omega
        have hZ0 := fpre_len GD.out hn8 (by rw [HL.out]; exact hn8)
        have ht := totN_le GD.out
        have HT := hide (HTO.out wr (B2.out.trans (HF.out.b.mono B2.out.size)))
        rw [tot_good GD.out hn8] at HT
        have HFB : Hid (footB (rws L) = fpre (rws L) i ++ enc (totN (rws L) i)) := by show footB _ = _; unfold footB; rw [HL.out]
        generalize totN (rws L) i = tN at *
        have e1 := (enc_len_le tN (by omega)).2
        generalize fpre (rws L) i = Z at *
        go_wp2_with fail
        refine HT.out.mono ?_
        rintro e y2 ⟨rfl, b2⟩
        have F1 := hide (HF.out.below b2)
        clear b2 HT
        go_wp2_with fail
        refine (HRN.out y2 tN _ (by omega) (by first | rfl | (rw [IntKind.wrap_u64]; omega))).mono ?_
        rintro e y3 ⟨u1, c1, rfl, ho1, hn1, b3⟩
        have F2 := hide (F1.out.below b3)
        have R1 := hide ho1.row
        clear ho1 b3 F1
        go_wp2_with (first | (at_builtin; refine append_b rfl (.tmp 68) (.tmp 72) 25 rfl w2.heap.size 5 i0 Try.underlying25 hi hz0 hz1 hz2 _ Z rfl F2.out.o u1 _ c1 (enc tN) rfl rfl hn1 R1.out (by omega) F2.out.b.size ?_; intro v4 w4 ho4 hg4))
        have F3 := F2.out.app ho4 hg4
        have HFin : Hid (FByPost w (rws L) (.returned (.tuple #[v4, .int .i64 0, .int .i64 0])) w4) := (HP.out _ _).2 ⟨0, 0, CK.out, .inr ⟨rfl, v4, rfl, by rw [HFB.out]; exact F3.o.mono B2.out.size⟩, B2.out.trans (F3.b.mono B2.out.size)⟩
        clear F3 ho4 hg4
        go_ret3
        exact HFin.out
  · have he' : (er != 0) = true := by simp [he]
    have HF : Hid (FByPost w (rws L) (.returned (.tuple #[.slice none 0 0, .int .i64 er, .int .i64 (m : Int)])) w1) := ⟨m, er, CK.out, .inl ⟨he, rfl⟩, B1.out⟩
    go_wp2_with fail
    go_ret3
    exact HF.out

end Go.Proofs.Ytlachimmfjagbaa
