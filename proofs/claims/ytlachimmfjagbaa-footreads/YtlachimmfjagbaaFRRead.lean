/- foot: the document's Read. -/
import Derived.Test.YtlachimmfjagbaaFRead
import Derived.Test.YtlachimmfjagbaaFRCheck
import Derived.Test.YtlachimmfjagbaaRRead
namespace Go.Proofs.Ytlachimmfjagbaa
open Go.RowKit

theorem rread_at (a : Option Addr) (l c p : Nat) (zs : List Int) (w : World) (hl : zs.length = l) (hm : l ≤ 140737488351232) (hr : Row w .u8 a zs) (z8 : B8 zs) (hp : p ≤ l) :
    Calls Try.prog 41 #[.slice a l c, .int .i64 (p : Int)] w fun e w' => e = .returned (.tuple #[.int .u64 (nm zs p : Int), .int .i64 (nx zs p : Int), .int .i64 (er zs p)]) ∧ w' = w := by
  obtain ⟨h1, h2, h3, _⟩ := rd_at zs p z8 (by omega)
  have := rread_any a l c (p : Int) zs w hl (by unfold maxLen; omega) hr (fits8_b8F z8)
  rw [h1, h2, h3] at this
  exact this
section
variable {pk : List Int} {pos : Nat} {zs : List Int} {p : Nat}
theorem rowR_e1 (h : er zs p ≠ 0) : rowR pk pos zs p = (er zs p, nx zs p) := by
  have e : kyR pk zs p = (er zs p, nx zs p) := by unfold kyR; rw [if_pos h]
  unfold rowR; rw [e, if_pos h]
theorem rowR_e2 (h : er zs p = 0) (h2 : nm zs p < 1 ∨ 64 < nm zs p) : rowR pk pos zs p = (72, p) := by
  have e : kyR pk zs p = (72, p) := by unfold kyR; rw [if_neg (fun q => q h), if_pos h2]
  unfold rowR; rw [e, if_pos (by simp)]
theorem rowR_e3 (h : er zs p = 0) (h2 : ¬ (nm zs p < 1 ∨ 64 < nm zs p)) (h3 : zs.length < nx zs p + nm zs p) : rowR pk pos zs p = (77, zs.length) := by
  have e : kyR pk zs p = (77, zs.length) := by unfold kyR; rw [if_neg (fun q => q h), if_neg h2, if_pos h3]
  unfold rowR; rw [e, if_pos (by simp)]
theorem rowR_e4 (h : er zs p = 0) (h2 : ¬ (nm zs p < 1 ∨ 64 < nm zs p)) (h3 : ¬ zs.length < nx zs p + nm zs p) (h4 : ¬ cmpI pk (ky zs p) < 0) : rowR pk pos zs p = (72, p) := by
  have e : kyR pk zs p = (72, p) := by unfold kyR; rw [if_neg (fun q => q h), if_neg h2, if_neg h3, if_pos h4]
  unfold rowR; rw [e, if_pos (by simp)]
theorem rowR_n (h : er zs p = 0) (h2 : ¬ (nm zs p < 1 ∨ 64 < nm zs p)) (h3 : ¬ zs.length < nx zs p + nm zs p) (h4 : cmpI pk (ky zs p) < 0) : rowR pk pos zs p = nuR pos zs (nx zs p + nm zs p) 3 0 := by
  have e : kyR pk zs p = (0, nx zs p + nm zs p) := by unfold kyR; rw [if_neg (fun q => q h), if_neg h2, if_neg h3, if_neg (fun q => q h4)]
  unfold rowR; rw [e, if_neg (by simp)]
theorem nuR_eq (f k : Nat) : nuR pos zs p (f + 1) k = if er zs (kK zs p k) ≠ 0 then (er zs (kK zs p k), nx zs (kK zs p k)) else if ¬ rlN pos k (nm zs (kK zs p k)) then (73 + (k : Int), kK zs p k) else nuR pos zs p f (k + 1) := rfl
end
theorem nine_made (w : World) : OwnB (w.alloc (.cells #[] 5)) w.heap.size 5 (.slice (some ⟨w.heap.size, 0, none⟩) 0 0) [] :=
  OwnB.made (w := w) (base := w.heap.size) (e := 5) #[] 0 (Nat.le_refl _) (by unfold maxLen; omega) rfl (fun u hu => by simp at hu)

/-- Between two rounds of the document's Read. -/
structure RRI (w wr : World) (zs : List Int) (v : Value) (C : List Spn) (f p : Nat) : Prop where
  bel : Below w.heap.size w wr
  li : RdL wr w.heap.size v C
  rd : rdF zs = rdG zs f p (rws C)

set_option maxRecDepth 100000 in
set_option maxHeartbeats 3200000 in
theorem rfread_any (a : Option Addr) (l c : Nat) (zs : List Int) (w : World) (hl : zs.length = l) (hm : l ≤ 140737488351232) (hlc : l ≤ c) (hna : a = none → l = 0 ∧ c = 0) (hr : Row w .u8 a zs) (z8 : B8 zs) :
    Calls Try.prog 22 #[.slice a l c] w (FRdPost w zs) := by
  obtain ⟨i0, hi0, hz0, hz1, hz2⟩ := info_parts infoByte'
  have HRO := hide (fun W (h : Below w.heap.size w W) => hr.below2 h)
  have HRA := hide (fun W (h : Below w.heap.size w W) p (hp : p ≤ l) => rread_at a l c p zs W hl hm (hr.below2 h) z8 hp)
  have HQL := hide (fun p (hp : p ≤ l) => And.intro (show nx zs p ≤ l by rw [← hl]; exact (rd_at zs p z8 (by omega)).2.2.2.1) (rd_at zs p z8 (by omega)).2.2.2.2.2)
  have HRD : Hid (rdF zs = if er zs 0 ≠ 0 then ([], er zs 0, nx zs 0) else if 8388608 < nm zs 0 then ([], 71, 0) else rdG zs (nm zs 0) (nx zs 0) []) := rfl
  have HERR := hide (fun (w' : World) (E : Int) (Q : Nat) (h : rdF zs = ([], E, Q)) (hb : Below w.heap.size w w') => rd_err h hb)
  have HV := hide (HRA.out w (Below.refl _ _) 0 (Nat.zero_le _))
  obtain ⟨hq1, hq3⟩ := HQL.out 0 (Nat.zero_le _)
  obtain ⟨N, hN⟩ : ∃ N, nm zs 0 = N := ⟨_, rfl⟩
  obtain ⟨Q, hQ⟩ : ∃ Q, nx zs 0 = Q := ⟨_, rfl⟩
  obtain ⟨E, hE⟩ : ∃ E, er zs 0 = E := ⟨_, rfl⟩
  rw [hN, hQ, hE] at HV HRD
  rw [hN] at hq3
  rw [hQ] at hq1
  clear hr hN hQ hE
  go_enter Try.func22, Try.ntmps22
  go_wp2_with fail
  refine keep HV.out ?_
  clear HV
  by_cases he : E = 0
  · subst he
    replace HRD : Hid (rdF zs = if 8388608 < N then ([], 71, 0) else rdG zs N Q []) := by show rdF zs = _; rw [HRD.out, if_neg (by simp)]
    by_cases hbig : 8388608 < N
    · have e1 : (8388608 : Int) < (N : Int) := by omega
      have HF := hide (HERR.out w 71 0 (by rw [HRD.out, if_pos hbig]) (Below.refl _ _))
      go_wp2_with fail
      go_ret3
      exact HF.out
    · have e1 : ¬ (8388608 : Int) < (N : Int) := by omega
      replace HRD : Hid (rdF zs = rdG zs N Q []) := by show rdF zs = _; rw [HRD.out, if_neg hbig]
      have H0 : Hid (RRI w w zs (.slice none 0 0) [] N Q) := ⟨Below.refl _ _, RdL.nil _ _, HRD.out⟩
      have cN : IntKind.i64.wrap (N : Int) = (N : Int) := by rw [IntKind.wrap_i64]; omega
      go_wp2_with fail
      go_loopw [6, 8, 9, 10] (fun y6 y8 y9 x wr => ∃ (i p ps : Nat) (v : Value) (C : List Spn), i ≤ N ∧ p ≤ l ∧ C.length = i ∧ x = .int .i64 (i : Int) ∧ y6 = .int .i64 (p : Int) ∧ y8 = v ∧ y9 = .int .i64 (ps : Int) ∧ (ps : Int) = pAt (rws C) C.length ∧ Hid (RRI w wr zs v C (N - i) p)) (fun _ _ _ x _ => N - (intOf x).toNat)
      case atStart => exact ⟨0, Q, 8, _, [], Nat.zero_le _, hq1, rfl, rfl, rfl, rfl, rfl, rfl, H0⟩
      case round =>
        clear H0 HRD
        obtain ⟨i, p, ps, v, C, hi, hp, hCi, rfl, rfl, rfl, rfl, hps, HI⟩ := hrel
        rename World => wr
        by_cases hlt : i < N
        · have j1 : (i : Int) < (N : Int) := by omega
          have hpb := HI.out.li.gd.pos
          have hCn := HI.out.li.n
          have hps2 : ps ≤ 1099511627784 := by omega
          have HST : Hid (∀ R, rowR (kAt (rws C) i) ps zs p = R → rdF zs = if R.1 ≠ 0 then ([], R.1, R.2) else rdG zs (N - (i + 1)) R.2 (rws C ++ [rowV zs p])) := fun R hR => by
            have e1 : N - i = (N - (i + 1)) + 1 := by omega
            have e2 : kAt (rws C) (rws C).length = kAt (rws C) i := by rw [rws_len, hCi]
            have e3 : (pAt (rws C) (rws C).length).toNat = ps := by rw [rws_len, ← hps]; exact Int.toNat_natCast _
            rw [HI.out.rd, e1, rdG_step, e2, e3, hR]
          have HER : Hid (∀ (w' : World) (E : Int) (P : Nat), rowR (kAt (rws C) i) ps zs p = (E, P) → E ≠ 0 → Below w.heap.size w w' → FRdPost w zs (.returned (.tuple #[.slice none 0 0, .int .i64 E, .int .i64 (P : Int)])) w') := fun w' E P h h0 hb => HERR.out w' E P (by rw [HST.out _ h, if_pos h0]) hb
          have HFLT : Hid ((rowR (kAt (rws C) i) ps zs p).1 = 0 → flt (kAt (rws C) i) (ps : Int) (rowV zs p) = 0) := fun h => rowV_ok h
          have HPS : Hid ((ps : Int) = pAt (rws C) i) := by rw [hCi] at hps; exact hps
          have BW := hide HI.out.bel
          have LI := hide HI.out.li
          obtain ⟨va, vb, vc, hv, hva, hsp⟩ := HI.out.li.sps
          rw [hCi] at hv hva
          subst hv
          have HSP := hide hsp
          have HVA := hide hva
          have R1 := hide (fun h => rowR_e1 (pk := kAt (rws C) i) (pos := ps) (zs := zs) (p := p) h)
          have R2 := hide (fun h h2 => rowR_e2 (pk := kAt (rws C) i) (pos := ps) (zs := zs) (p := p) h h2)
          have R3 := hide (fun h h2 h3 => rowR_e3 (pk := kAt (rws C) i) (pos := ps) (zs := zs) (p := p) h h2 h3)
          have R4 := hide (fun h h2 h3 h4 => rowR_e4 (pk := kAt (rws C) i) (pos := ps) (zs := zs) (p := p) h h2 h3 h4)
          have R5 := hide (fun h h2 h3 h4 => rowR_n (pk := kAt (rws C) i) (pos := ps) (zs := zs) (p := p) h h2 h3 h4)
          have HV1 := hide (HRA.out wr BW.out p hp)
          obtain ⟨hq1', hn1'⟩ := HQL.out p hp
          have HYL := hide (fun h => ky_len (zs := zs) (p := p) h)
          have K8 := hide (ky_b8 z8 p)
          have HRV : Hid (rowV zs p = ⟨ky zs p, (nm zs (nx zs p + nm zs p) : Nat), (nm zs (nx zs (nx zs p + nm zs p)) : Nat), (nm zs (nx zs (nx zs (nx zs p + nm zs p))) : Nat)⟩) := rfl
          have HKD : Hid (ky zs p = (zs.drop (nx zs p)).take (nm zs p)) := rfl
          obtain ⟨N1, hN1⟩ : ∃ N1, nm zs p = N1 := ⟨_, rfl⟩
          obtain ⟨Q1, hQ1⟩ : ∃ Q1, nx zs p = Q1 := ⟨_, rfl⟩
          obtain ⟨E1, hE1⟩ : ∃ E1, er zs p = E1 := ⟨_, rfl⟩
          rw [hN1] at hn1'
          rw [hQ1] at hq1'
          rw [hN1, hQ1] at HYL HKD HRV
          rw [hN1, hQ1, hE1] at HV1 R3 R4 R5
          rw [hN1, hE1] at R2
          rw [hQ1, hE1] at R1
          rw [hl] at R3 R4 R5 HYL
          obtain ⟨K, hK⟩ : ∃ K, ky zs p = K := ⟨_, rfl⟩
          rw [hK] at HYL K8 HRV HKD R4 R5
          have hCih := hide hCi
          clear hpb hps hsp hva HI hN1 hQ1 hE1 hK
          go_wp2_with fail
          refine keep HV1.out ?_
          by_cases he1 : E1 = 0
          · subst he1
            have c1 : IntKind.i64.wrap (N1 : Int) = (N1 : Int) ∨ True := .inr trivial
            by_cases hs1 : N1 < 1
            · have e2 : (N1 : Int) < 1 := by omega
              have HF := hide (HER.out wr 72 p (R2.out rfl (.inl hs1)) (by decide) BW.out)
              go_wp2_with fail
              go_ret3
              exact HF.out
            · have e2 : ¬ (N1 : Int) < 1 := by omega
              by_cases hs2 : 64 < N1
              · have e3 : (64 : Int) < (N1 : Int) := by omega
                have HF := hide (HER.out wr 72 p (R2.out rfl (.inr hs2)) (by decide) BW.out)
                go_wp2_with fail
                go_ret3
                exact HF.out
              · have e3 : ¬ (64 : Int) < (N1 : Int) := by omega
                have cN1 : IntKind.i64.wrap (N1 : Int) = (N1 : Int) := by rw [IntKind.wrap_i64]; omega
                have hno : ¬ (N1 < 1 ∨ 64 < N1) := by omega
                by_cases hs3 : l < Q1 + N1
                · have e4 : (l : Int) - (Q1 : Int) < (N1 : Int) := by omega
                  have HF := hide (HER.out wr 77 l (R3.out rfl hno hs3) (by decide) BW.out)
                  go_wp2_with fail
                  go_ret3
                  exact HF.out
                · have e4 : ¬ (l : Int) - (Q1 : Int) < (N1 : Int) := by omega
                  have hKl := HYL.out (by omega)
                  have RK : Hid (∀ W, Below w.heap.size w W → Row W .u8 (a.map (fun x => x.add Q1)) K) := fun W h => by
                    have := cut_part (n := Q1) (m := N1) (show zs.length ≤ c by omega) (HRO.out W h)
                    rw [← HKD.out] at this
                    unfold cutAt at this
                    rw [if_neg (by omega)] at this
                    exact this
                  have HCN : Hid (a.map (fun x => x.add Q1) = none → Q1 + N1 - Q1 = 0 ∧ c - Q1 = 0) := fun h => by
                    cases a with
                    | none => have := hna rfl; omega
                    | some x => cases h
                  have c2 : IntKind.i64.wrap ((Q1 : Int) + (N1 : Int)) = ((Q1 + N1 : Nat) : Int) := by rw [IntKind.wrap_i64]; omega
                  have hKl2 : K.length = Q1 + N1 - Q1 := by omega
                  go_upto_region 20 with (first
                    | (at_builtin; refine append_b rfl (.tmp 68) (.tmp 75) 25 rfl wr.heap.size 5 i0 Try.underlying25 hi0 hz0 hz1 hz2 (.slice (some ⟨wr.heap.size, 0, none⟩) 0 0) [] rfl (nine_made wr) (a.map (fun x => x.add Q1)) (Q1 + N1 - Q1) (c - Q1) K rfl hKl2 HCN.out (RK.out _ (BW.out.alloc BW.out.size _)) (by simp; omega) (by simp) ?_; intro v2 y2 ho2 hg2)
                    | fail)
                  rw [List.nil_append] at ho2
                  obtain ⟨ua, uc, rfl, _, _, hub⟩ := ho2.sliceN hKl
                  have b2 : Below wr.heap.size wr y2 := ((Below.refl wr.heap.size wr).alloc (Nat.le_refl _) _).grown hg2 (by simp) (fun k hk => by have : wr.heap.size = k := (by simpa [Value.ownBlock] using hk); omega)
                  have BY2 := hide b2
                  have BW2 := hide (BW.out.trans (b2.mono BW.out.size))
                  have LI2 := hide (LI.out.below b2)
                  have HO2 := hide ho2
                  have HUB := hide hub
                  have HSP2 := hide (HSP.out.below b2)
                  clear b2 ho2 hg2 hub
                  obtain ⟨bb, hbb⟩ : ∃ bb : Bool, bb = decide (¬ cmpI (kAt (rws C) i) K < 0) := ⟨_, rfl⟩
                  replace hbb := hide hbb
                  go_upto_region 21 with fail
                  go_cut [93] (fun s93 wx => s93 = .bool bb ∧ Hid (Below y2.heap.size y2 wx))
                  case first =>
                    by_cases hi0' : i = 0
                    · subst hi0'
                      obtain rfl : bb = false := by
                        rw [hbb.out, decide_eq_false_iff_not, Decidable.not_not]
                        exact cmp_nilF (by omega)
                      rw [show ((0 : Nat) : Int) = 0 from rfl] at *
                      go_wp2_with fail
                      go_meet
                      exact ⟨rfl, Below.refl _ _⟩
                    · obtain ⟨m, hm1⟩ : ∃ m, i = m + 1 := ⟨i - 1, by omega⟩
                      have hmC : m < C.length := by rw [hCih.out]; omega
                      obtain rfl := HVA.out (by omega)
                      have s0 := (HSP2.out.c m hmC).c0
                      have okm := HSP2.out.ok m hmC
                      unfold Spn.kv at s0
                      rw [Nat.zero_add] at s0
                      have hkm : kAt (rws C) i = C[m].ks := by rw [hm1, kAt_succ, rws_at C m hmC]; rfl
                      obtain ⟨cv, hcv⟩ : ∃ cv, cv = cmpI C[m].ks K := ⟨_, rfl⟩
                      have hcr := cmpI_fits C[m].ks K
                      rw [← hcv] at hcr
                      have hzk := okm.zk
                      have HCM := hide (rcompare_any C[m].ka ua C[m].ks.length C[m].kc N1 uc C[m].ks K y2 (by unfold maxLen; omega) (by unfold maxLen; omega) rfl hKl okm.k HO2.out.row)
                      rw [← hcv] at HCM
                      obtain rfl : bb = decide (0 ≤ cv) := by
                        rw [hbb.out, hkm, hcv, decide_eq_decide]
                        omega
                      have q1 : IntKind.i64.wrap ((i : Int) - 1) = (m : Int) := by rw [IntKind.wrap_i64]; omega
                      have q3 : (m : Int) < (i : Int) := by omega
                      have q4 : (0 : Int) < (i : Int) := by omega
                      have q5 : (0 : Int) ≤ (m : Int) := by omega
                      have q6 : 0 < i := by omega
                      generalize C[m].ka = pa at *
                      generalize C[m].ks.length = pn at *
                      generalize C[m].kc = pc at *
                      clear hkm hcv okm hzk hm1
                      go_wp2_with fail
                      refine HCM.out.mono ?_
                      rintro e y3 ⟨rfl, mm, hy3⟩
                      have b3 : Hid (Below y2.heap.size y2 y3) := by show Below _ _ _; rw [hy3]; exact below_of_drewNF (Below.refl _ _) mm
                      clear hy3
                      go_wp2_with fail
                      go_meet
                      exact ⟨rfl, b3⟩
                  case rest =>
                  obtain ⟨rfl, HB3⟩ := hcut
                  rename World => y3
                  have BW3 := hide (BW2.out.trans (HB3.out.mono BW2.out.size))
                  have LI3 := hide (LI2.out.below HB3.out)
                  have HO3 := hide (HO2.out.below HB3.out)
                  have HY3 : Hid (wr.heap.size ≤ y3.heap.size) := Nat.le_trans BY2.out.size HB3.out.size
                  clear LI2 HO2 HB3 HSP2
                  cases bb with
                  | true =>
                    have hcm : ¬ cmpI (kAt (rws C) i) K < 0 := of_decide_eq_true hbb.out.symm
                    have HF := hide (HER.out y3 72 p (R4.out (by simp) (by omega) (by omega) (by omega)) (by decide) BW3.out)
                    clear hcm
                    go_wp2_with fail
                    go_ret3
                    exact HF.out
                  | false =>
                    have hcm : cmpI (kAt (rws C) i) K < 0 := Decidable.not_not.1 (of_decide_eq_false hbb.out.symm)
                    have HNU := hide (R5.out (by simp) (by omega) (by omega) (by omega))
                    clear hcm
                    have hk1 : Q1 + N1 ≤ l := by omega
                    have hk1c : (Q1 : Int) + (N1 : Int) = ((Q1 + N1 : Nat) : Int) := by omega
                    generalize Q1 + N1 = k1 at *
                    have HRX : Hid (∀ W, Below w.heap.size w W → ∀ (x : Int) (q : Nat), x = (q : Int) → q ≤ l → Calls Try.prog 41 #[.slice a l c, .int .i64 x] W fun e w' => e = .returned (.tuple #[.int .u64 (nm zs q : Int), .int .i64 (nx zs q : Int), .int .i64 (er zs q)]) ∧ w' = W) := fun W h x q hx hq => by subst hx; exact HRA.out W h q hq
                    have HN0 := hide (nuR_eq (pos := ps) (zs := zs) (p := k1) 2 0)
                    have HN1 := hide (nuR_eq (pos := ps) (zs := zs) (p := k1) 1 1)
                    have HN2 := hide (nuR_eq (pos := ps) (zs := zs) (p := k1) 0 2)
                    have HN3 : Hid (nuR ps zs k1 0 3 = (0, kK zs k1 3)) := rfl
                    rw [show kK zs k1 3 = nx zs (nx zs (nx zs k1)) from rfl] at HN3
                    rw [show kK zs k1 2 = nx zs (nx zs k1) from rfl] at HN2
                    rw [show kK zs k1 1 = nx zs k1 from rfl] at HN1
                    rw [show kK zs k1 0 = k1 from rfl] at HN0
                    have V2 := hide (HRX.out y3 BW3.out _ k1 rfl hk1)
                    obtain ⟨hqa, hna2⟩ := HQL.out k1 hk1
                    obtain ⟨M2, hM2⟩ : ∃ M, nm zs k1 = M := ⟨_, rfl⟩
                    obtain ⟨Q2, hQ2⟩ : ∃ M, nx zs k1 = M := ⟨_, rfl⟩
                    obtain ⟨E2, hE2⟩ : ∃ M, er zs k1 = M := ⟨_, rfl⟩
                    rw [hM2, hQ2, hE2] at V2 HN0
                    rw [hM2] at hna2 HRV
                    rw [hQ2] at hqa HN1 HN2 HN3 HRV
                    have V3 := hide (HRX.out y3 BW3.out _ Q2 rfl hqa)
                    obtain ⟨hqb, hnb2⟩ := HQL.out Q2 hqa
                    obtain ⟨M3, hM3⟩ : ∃ M, nm zs Q2 = M := ⟨_, rfl⟩
                    obtain ⟨Q3, hQ3⟩ : ∃ M, nx zs Q2 = M := ⟨_, rfl⟩
                    obtain ⟨E3, hE3⟩ : ∃ M, er zs Q2 = M := ⟨_, rfl⟩
                    rw [hM3, hQ3, hE3] at V3 HN1
                    rw [hM3] at hnb2 HRV
                    rw [hQ3] at hqb HN2 HN3 HRV
                    have V4 := hide (HRX.out y3 BW3.out _ Q3 rfl hqb)
                    obtain ⟨hqc, hnc2⟩ := HQL.out Q3 hqb
                    obtain ⟨M4, hM4⟩ : ∃ M, nm zs Q3 = M := ⟨_, rfl⟩
                    obtain ⟨Q4, hQ4⟩ : ∃ M, nx zs Q3 = M := ⟨_, rfl⟩
                    obtain ⟨E4, hE4⟩ : ∃ M, er zs Q3 = M := ⟨_, rfl⟩
                    rw [hM4, hQ4, hE4] at V4 HN2
                    rw [hM4] at hnc2 HRV
                    rw [hQ4] at hqc HN3
                    clear hM2 hQ2 hE2 hM3 hQ3 hE3 hM4 hQ4 hE4 HRX
                    go_wp2_with fail
                    refine keep V2.out ?_
                    by_cases hE20 : E2 = 0
                    · subst hE20
                      have cps : IntKind.u64.wrap (ps : Int) = (ps : Int) := by rw [IntKind.wrap_u64]; omega
                      by_cases hM2 : M2 = ps
                      · subst hM2
                        have HA1 : Hid (rowR (kAt (rws C) i) M2 zs p = nuR M2 zs k1 2 1) := by
                          show rowR _ _ _ _ = _
                          rw [HNU.out, HN0.out, if_neg (by simp), if_neg (fun h => h (show M2 = M2 from rfl))]
                        go_wp2_with fail
                        refine keep V3.out ?_
                        by_cases hE30 : E3 = 0
                        · subst hE30
                          by_cases hM3 : 1 ≤ M3 ∧ M3 ≤ 131072
                          · have f1 : ¬ (M3 : Int) < 1 := by omega
                            have f2 : ¬ (131072 : Int) < (M3 : Int) := by omega
                            have HA2 : Hid (rowR (kAt (rws C) i) M2 zs p = nuR M2 zs k1 1 2) := by
                              show rowR _ _ _ _ = _
                              rw [HA1.out, HN1.out, if_neg (by simp), if_neg (fun h => h hM3)]
                            go_wp2_with fail
                            refine keep V4.out ?_
                            by_cases hE40 : E4 = 0
                            · subst hE40
                              by_cases hM4 : 1 ≤ M4 ∧ M4 ≤ 64
                              · have g1 : ¬ (M4 : Int) < 1 := by omega
                                have g2 : ¬ (64 : Int) < (M4 : Int) := by omega
                                have HA3 : Hid (rowR (kAt (rws C) i) M2 zs p = (0, Q4)) := by
                                  show rowR _ _ _ _ = _
                                  rw [HA2.out, HN2.out, if_neg (by simp), if_neg (fun h => h hM4), HN3.out]
                                have HRD3 : Hid (rdF zs = rdG zs (N - (i + 1)) Q4 (rws C ++ [⟨K, (M2 : Int), (M3 : Int), (M4 : Int)⟩])) := by
                                  show rdF zs = _
                                  rw [HST.out _ HA3.out, if_neg (by simp), HRV.out]
                                have HFL3 : Hid (flt (kAt (rws C) i) (M2 : Int) ⟨K, (M2 : Int), (M3 : Int), (M4 : Int)⟩ = 0) := by
                                  have h := HFLT.out (by rw [HA3.out])
                                  rw [HRV.out] at h
                                  exact h
                                have cM3 : IntKind.i64.wrap (M3 : Int) = (M3 : Int) := by rw [IntKind.wrap_i64]; omega
                                have cM4 : IntKind.i64.wrap (M4 : Int) = (M4 : Int) := by rw [IntKind.wrap_i64]; omega
                                have cA : IntKind.i64.wrap ((M2 : Int) + (M3 : Int)) = ((M2 + M3 : Nat) : Int) := by rw [IntKind.wrap_i64]; omega
                                have zy : w.heap.size ≤ y3.heap.size := BW3.out.size
                                have LI3a := hide (LI3.out.below ((Below.refl y3.heap.size y3).alloc (Nat.le_refl _) (.cells #[.slice ua N1 uc, .int .i64 (M2 : Int), .int .i64 (M3 : Int), .int .i64 (M4 : Int)] 33)))
                                go_upto_region 42 with (first
                                  | (at_builtin; refine append_s rfl (.tmp 150) (.tmp 158) rfl w.heap.size (.slice va i vc) C ⟨ua, uc, K, (M2 : Int), (M3 : Int), (M4 : Int)⟩ rfl LI3a.out.own ⟨y3.heap.size, 0, none⟩ 1 rfl (by unfold Spn.kv; rw [hKl]; exact four_new _ _ _ _ _ _) (by omega) (by simp; omega) ?_; intro v5 y5 ho5 hg5 hk5)
                                  | fail)
                                have hvb := LI3.out.own.lt
                                have hnc : (⟨ua, uc, K, (M2 : Int), (M3 : Int), (M4 : Int)⟩ : Spn).kv = .slice ua N1 uc := by unfold Spn.kv; rw [hKl]
                                have hOA : OwnB (y3.alloc (.cells #[.slice ua N1 uc, .int .i64 (M2 : Int), .int .i64 (M3 : Int), .int .i64 (M4 : Int)] 33)) w.heap.size 5 (.slice ua N1 uc) K := (HO3.out.below ((Below.refl y3.heap.size y3).alloc (Nat.le_refl _) _)).mono BW.out.size
                                have hvw := LI.out.own.lt
                                have LI5 : Hid (RdL y5 w.heap.size v5 (C ++ [⟨ua, uc, K, (M2 : Int), (M3 : Int), (M4 : Int)⟩])) := LI3a.out.app (by rw [hnc]; exact hOA) (fun b hb e => by rw [hnc] at hb; have := (HUB.out b hb).1; have := (hvw b e).2; omega) K8.out (by rw [hCih.out, ← HPS.out]; exact HFL3.out) (by rw [hCih.out]; omega) ho5 hg5 hk5
                                have BW5 : Hid (Below w.heap.size w y5) := (BW3.out.alloc zy _).grown hg5 (by simp; omega) (fun k hk => (hvb k hk).1)
                                have hlC : (C ++ [(⟨ua, uc, K, (M2 : Int), (M3 : Int), (M4 : Int)⟩ : Spn)]).length = C.length + 1 := by simp
                                have hrw : rws (C ++ [⟨ua, uc, K, (M2 : Int), (M3 : Int), (M4 : Int)⟩]) = rws C ++ [⟨K, (M2 : Int), (M3 : Int), (M4 : Int)⟩] := by rw [rws_app]; rfl
                                have HN : Hid (RRI w y5 zs v5 (C ++ [⟨ua, uc, K, (M2 : Int), (M3 : Int), (M4 : Int)⟩]) (N - (i + 1)) Q4) := ⟨BW5.out, LI5.out, by rw [hrw]; exact HRD3.out⟩
                                have HPN : Hid (((M2 + M3 : Nat) : Int) = pAt (rws (C ++ [⟨ua, uc, K, (M2 : Int), (M3 : Int), (M4 : Int)⟩])) (C ++ [(⟨ua, uc, K, (M2 : Int), (M3 : Int), (M4 : Int)⟩ : Spn)]).length) := by
                                  show _ = _
                                  rw [hrw, hlC, ← rws_len C, pAt_new]
                                  exact Int.natCast_add M2 M3
                                clear hvb hvw hOA ho5 hg5 hk5
                                go_wp2_with fail
                                go_roundw
                                case rel => exact ⟨i + 1, Q4, M2 + M3, v5, _, by omega, hqc, by rw [hlC, hCi], by go_num, rfl, rfl, by go_num, HPN.out, HN⟩
                                case measure => simp [intOf]; omega
                              · have HF := hide (HER.out y3 75 Q3 (by rw [HA2.out, HN2.out, if_neg (by simp), if_pos (show ¬ rlN M2 2 M4 from hM4)]; rfl) (by decide) BW3.out)
                                by_cases g1 : M4 < 1
                                · have g1' : (M4 : Int) < 1 := by omega
                                  go_wp2_with fail
                                  go_ret3
                                  exact HF.out
                                · have g1' : ¬ (M4 : Int) < 1 := by omega
                                  have g2' : (64 : Int) < (M4 : Int) := by omega
                                  go_wp2_with fail
                                  go_ret3
                                  exact HF.out
                            · have he' : (E4 != 0) = true := by simp [hE40]
                              have HF := hide (HER.out y3 E4 Q4 (by rw [HA2.out, HN2.out, if_pos hE40]) hE40 BW3.out)
                              go_wp2_with fail
                              go_ret3
                              exact HF.out
                          · have HF := hide (HER.out y3 74 Q2 (by rw [HA1.out, HN1.out, if_neg (by simp), if_pos (show ¬ rlN M2 1 M3 from hM3)]; rfl) (by decide) BW3.out)
                            by_cases g1 : M3 < 1
                            · have g1' : (M3 : Int) < 1 := by omega
                              go_wp2_with fail
                              go_ret3
                              exact HF.out
                            · have g1' : ¬ (M3 : Int) < 1 := by omega
                              have g2' : (131072 : Int) < (M3 : Int) := by omega
                              go_wp2_with fail
                              go_ret3
                              exact HF.out
                        · have he' : (E3 != 0) = true := by simp [hE30]
                          have HF := hide (HER.out y3 E3 Q3 (by rw [HA1.out, HN1.out, if_pos hE30]) hE30 BW3.out)
                          go_wp2_with fail
                          go_ret3
                          exact HF.out
                      · have e2 : ((M2 : Int) != (ps : Int)) = true := by simp; omega
                        have HF := hide (HER.out y3 73 k1 (by rw [HNU.out, HN0.out, if_neg (by simp), if_pos (show ¬ rlN ps 0 M2 from hM2)]; rfl) (by decide) BW3.out)
                        go_wp2_with fail
                        go_ret3
                        exact HF.out
                    · have he' : (E2 != 0) = true := by simp [hE20]
                      have HF := hide (HER.out y3 E2 Q2 (by rw [HNU.out, HN0.out, if_pos hE20]) hE20 BW3.out)
                      go_wp2_with fail
                      go_ret3
                      exact HF.out
          · have he' : (E1 != 0) = true := by simp [he1]
            have HF := hide (HER.out wr E1 Q1 (R1.out he1) he1 BW.out)
            go_wp2_with fail
            go_ret3
            exact HF.out
        · have j1 : ¬ (i : Int) < (N : Int) := by omega
          obtain rfl : i = N := by omega
          have hCn := HI.out.li.n
          rw [hCi] at hCn
          have hgd : Gd (rws C) i := by rw [← hCi]; exact HI.out.li.gd
          have htl := totN_le hgd
          have HVR := hide (HRA.out wr HI.out.bel p hp)
          have hql := HQL.out p hp
          have HEN : Hid (rdF zs = if (enR zs p (totN (rws C) i)).1 ≠ 0 then ([], (enR zs p (totN (rws C) i)).1, (enR zs p (totN (rws C) i)).2) else (rws C, 0, 0)) := by
            show rdF zs = _
            rw [HI.out.rd, Nat.sub_self, rdG_end, rws_len, hCi]
          unfold enR at HEN
          have HTW := tot_good hgd hCn
          obtain ⟨va, vb, vc, hv, hva, hsp⟩ := HI.out.li.sps
          rw [hCi] at hv hva
          subst hv
          have HT := hide (rtotal_any va vb 0 i vc C wr hCi (by omega) hva hsp)
          rw [HTW] at HT
          have LI := hide HI.out.li
          have BW := hide HI.out.bel
          obtain ⟨N1, hN1⟩ : ∃ N1, nm zs p = N1 := ⟨_, rfl⟩
          obtain ⟨Q1, hQ1⟩ : ∃ Q1, nx zs p = Q1 := ⟨_, rfl⟩
          obtain ⟨E1, hE1⟩ : ∃ E1, er zs p = E1 := ⟨_, rfl⟩
          rw [hN1, hQ1] at hql
          rw [hN1, hQ1, hE1] at HVR HEN
          rw [hl] at HEN
          generalize totN (rws C) i = tN at *
          have c1 : IntKind.u64.wrap (tN : Int) = (tN : Int) := by rw [IntKind.wrap_u64]; omega
          replace hCi := hide hCi
          replace hps := hide hps
          clear hgd hva hsp HTW HI hN1 hQ1 hE1
          go_wp2_with fail
          refine keep HVR.out ?_
          by_cases he1 : E1 = 0
          · subst he1
            replace HEN : Hid (rdF zs = if (if N1 ≠ tN then ((76 : Int), p) else if Q1 < l then (78, Q1) else (0, 0)).1 ≠ 0 then ([], (if N1 ≠ tN then ((76 : Int), p) else if Q1 < l then (78, Q1) else (0, 0)).1, (if N1 ≠ tN then ((76 : Int), p) else if Q1 < l then (78, Q1) else (0, 0)).2) else (rws C, 0, 0)) := by show rdF zs = _; rw [HEN.out]; simp only [ne_eq, not_true_eq_false, if_false]
            go_wp2_with fail
            refine HT.out.mono ?_
            rintro e y1 ⟨rfl, b1⟩
            have BY1 := hide (BW.out.trans (b1.mono BW.out.size))
            have LI1 := hide (LI.out.below b1)
            clear b1 HT
            by_cases hn : N1 = tN
            · subst hn
              by_cases hq : Q1 < l
              · have e2 : (Q1 : Int) < (l : Int) := by omega
                have HF := hide (HERR.out y1 78 Q1 (by rw [HEN.out]; simp [hq]) BY1.out)
                go_wp2_with fail
                go_ret3
                exact HF.out
              · have e2 : ¬ (Q1 : Int) < (l : Int) := by omega
                have HF : Hid (FRdPost w zs (.returned (.tuple #[.slice va i vc, .int .i64 0, .int .i64 ((0 : Nat) : Int)])) y1) := by
                  have h : rdF zs = (rws C, 0, 0) := by rw [HEN.out]; simp [hq]
                  exact ⟨_, C, by rw [h], LI1.out, by rw [h], BY1.out⟩
                go_wp2_with fail
                go_ret3
                exact HF.out
            · have e2 : ((N1 : Int) != (tN : Int)) = true := by simp; omega
              have HF := hide (HERR.out y1 76 p (by rw [HEN.out]; simp [hn]) BY1.out)
              go_wp2_with fail
              go_ret3
              exact HF.out
          · have he' : (E1 != 0) = true := by simp [he1]
            have HF := hide (HERR.out wr E1 Q1 (by rw [HEN.out]; simp [he1]) BW.out)
            go_wp2_with fail
            go_ret3
            exact HF.out
  · have he' : (E != 0) = true := by simp [he]
    have HF := hide (HERR.out w E Q (by rw [HRD.out, if_pos he]) (Below.refl _ _))
    go_wp2_with fail
    go_ret3
    exact HF.out

end Go.Proofs.Ytlachimmfjagbaa
