/- Sorted. -/
import Derived.Test.YtjnldmbjeiejdaaKSort
namespace Go.Proofs.Ytjnldmbjeiejdaa
open Go.RowKit

set_option maxRecDepth 100000 in
set_option maxHeartbeats 3200000 in
theorem sorted_any (a : Option Addr) (b o l c : Nat) (L : List Ent) (w : World) (hl : L.length = l) (hm : l ≤ 140737488351232) (ha : 0 < l → a = some ⟨b, o, none⟩) (hE : Ens w b o L) :
    Calls Try.prog 34 #[.slice a l c] w fun e w' => ∃ n r, e = .returned (.tuple #[.int .i64 (n : Nat), .int .i64 r]) ∧ Srt (fL L) l n r ∧ Below w.heap.size w w' := by
  have HE := hide (fun (W : World) (h : Below w.heap.size w W) => hE.below h)
  clear hE
  go_enter Try.func34, Try.ntmps34
  go_wp2
  go_loopw [9] (fun q wr => ∃ k : Nat, k ≤ l ∧ q = .int .i64 (k : Int) ∧ Hid (∀ i, i < k → fL L i = 0) ∧ Hid (Below w.heap.size w wr)) (fun q _ => l - (intOf q).toNat)
  case atStart => exact ⟨0, by omega, rfl, fun i hi => absurd hi (Nat.not_lt_zero i), Below.refl _ _⟩
  case round =>
    obtain ⟨k, hk, rfl, HP, HB⟩ := hrel
    by_cases hlt : k < l
    · obtain rfl := ha (by omega)
      have hkL : k < L.length := by omega
      have hen := HE.out wr HB.out
      have c0 := hen.at0 k hkL
      have c1 := hen.at1 k hkL
      have ok := hide (hen.ok k hkL)
      have hbr : b < wr.heap.size := hen.lt (by omega)
      unfold Ent.kv at c0
      unfold Ent.vv at c1
      have i1 : (k : Int) < (l : Int) := by omega
      clear hen
      have HF1 := hide (fun h => fL_chk hkL h)
      by_cases hk0 : k = 0
      · subst hk0
        have HF0 := hide (fun h => fL_zero hkL h)
        simp only [Nat.zero_mul, Nat.add_zero] at c0 c1
        generalize hen : L[0] = en at *
        clear hen
        have b1 : Below wr.heap.size wr (wr.alloc (.cells #[.slice en.ka en.ks.length en.kc, .slice en.va en.vs.length en.vc] 25)) := (Below.refl _ _).alloc (Nat.le_refl _) _
        have TW1 : Hid (Below w.heap.size w (wr.alloc (.cells #[.slice en.ka en.ks.length en.kc, .slice en.va en.vs.length en.vc] 25))) := HB.out.trans (b1.mono HB.out.size)
        have Z1 := hide (show (wr.alloc (.cells #[.slice en.ka en.ks.length en.kc, .slice en.va en.vs.length en.vc] 25)).heap.size = wr.heap.size + 1 by simp)
        have X0 := hide (two_new wr (.slice en.ka en.ks.length en.kc) (.slice en.va en.vs.length en.vc) 25 0 _ rfl)
        have B1 := hide b1
        clear b1
        go_wp2_with fail
        generalize wr.alloc (.cells #[.slice en.ka en.ks.length en.kc, .slice en.va en.vs.length en.vc] 25) = w1 at *
        refine (check_any en.ka en.va en.ks.length en.kc en.vs.length en.vc w1).mono ?_
        rintro e w2 ⟨rfl, b2⟩
        have T2 : Hid (Below w.heap.size w w2) := TW1.out.trans (b2.mono TW1.out.size)
        clear b2 c0 c1
        by_cases hc : chkE en.ks.length en.vs.length = 0
        · have HS : Hid (∀ i, i < 0 + 1 → fL L i = 0) := fun i hi => by rw [show i = 0 by omega]; exact HF0.out hc
          rw [hc]
          go_wp2
          go_quiet (fail)
          go_wp2
          go_roundw
          case rel => exact ⟨0 + 1, by omega, by go_num, HS, bdrew1 T2.out _⟩
          case measure => simp [intOf]; omega
        · have hne := beq_eq_false_iff_ne.2 hc
          have HS : Hid (Srt (fL L) l 0 (chkE en.ks.length en.vs.length)) := .inr ⟨by omega, by rw [HF1.out hc]; exact hc, (HF1.out hc).symm, fun i hi => absurd hi (Nat.not_lt_zero i)⟩
          generalize chkE en.ks.length en.vs.length = r at *
          clear hc
          go_wp2
          go_ret2
          exact ⟨0, r, rfl, HS.out, T2.out⟩
      · obtain ⟨j, rfl⟩ : ∃ j, k = j + 1 := ⟨k - 1, by omega⟩
        have HFS := hide (fun h => fL_succ hkL (by omega) h)
        have hjL : j < L.length := by omega
        have hen := HE.out wr HB.out
        have p0 := hen.at0 j hjL
        have okp := hide (hen.ok j hjL)
        unfold Ent.kv at p0
        clear hen
        simp only [Nat.add_sub_cancel] at HFS
        have ec : o + (j + 1) * 2 = o + j * 2 + 2 := by omega
        rw [ec] at c0 c1
        generalize hen : L[j + 1] = en at *
        generalize hpn : L[j] = pn at *
        clear hen hpn
        have i2 : (0 : Int) < ((j + 1 : Nat) : Int) := by omega
        have i3 : (j : Int) < (l : Int) := by omega
        have i4 : (j : Int) + 1 < (l : Int) := by omega
        have i5 : (0 : Int) < (j : Int) + 1 := by omega
        have i6 : (0 : Int) ≤ (j : Int) + 1 := by omega
        have i7 : (0 : Int) ≤ (j : Int) := by omega
        have hw1 : IntKind.i64.wrap ((j : Int) + 1 - 1) = (j : Int) := by rw [IntKind.wrap_i64]; omega
        have hw2 : IntKind.i64.wrap (((j + 1 : Nat) : Int) - 1) = (j : Int) := by rw [IntKind.wrap_i64]; omega
        have hw3 : IntKind.i64.wrap (j : Int) = (j : Int) := by rw [IntKind.wrap_i64]; omega
        have b1 : Below wr.heap.size wr (wr.alloc (.cells #[.slice en.ka en.ks.length en.kc, .slice en.va en.vs.length en.vc] 25)) := (Below.refl _ _).alloc (Nat.le_refl _) _
        have TW1 : Hid (Below w.heap.size w (wr.alloc (.cells #[.slice en.ka en.ks.length en.kc, .slice en.va en.vs.length en.vc] 25))) := HB.out.trans (b1.mono HB.out.size)
        have Z1 := hide (show (wr.alloc (.cells #[.slice en.ka en.ks.length en.kc, .slice en.va en.vs.length en.vc] 25)).heap.size = wr.heap.size + 1 by simp)
        have X0 := hide (two_new wr (.slice en.ka en.ks.length en.kc) (.slice en.va en.vs.length en.vc) 25 0 _ rfl)
        have B1 := hide b1
        clear b1
        go_wp2_with fail
        generalize wr.alloc (.cells #[.slice en.ka en.ks.length en.kc, .slice en.va en.vs.length en.vc] 25) = w1 at *
        refine (check_any en.ka en.va en.ks.length en.kc en.vs.length en.vc w1).mono ?_
        rintro e w2 ⟨rfl, b2⟩
        have T2 : Hid (Below w.heap.size w w2) := TW1.out.trans (b2.mono TW1.out.size)
        have z2 := b2.size
        have z1 := Z1.out
        have hb1 : b < w1.heap.size := by omega
        have hx1 : wr.heap.size < w1.heap.size := by omega
        have d0 : w2.cell? ⟨wr.heap.size, 0, none⟩ = some (.slice en.ka en.ks.length en.kc) := (b2.cell (p := ⟨wr.heap.size, 0, none⟩) hx1).trans X0.out
        have q0 := (b2.cell (p := ⟨b, o + j * 2, none⟩) hb1).trans ((B1.out.cell (p := ⟨b, o + j * 2, none⟩) hbr).trans p0)
        have OK2 := hide ((ok.out.below B1.out).below b2)
        have OKP := hide ((okp.out.below B1.out).below b2)
        clear b2 c0 c1 p0 ok okp z1 Z1 X0 B1
        generalize wr.heap.size = gx at *
        by_cases hc : chkE en.ks.length en.vs.length = 0
        · have HFC : Hid (fL L (j + 1) = if cmpI pn.ks en.ks < 0 then 0 else 51) := HFS.out hc
          have RC : Hid (Calls Try.prog 64 #[.slice pn.ka pn.ks.length pn.kc, .slice en.ka en.ks.length en.kc] w2.drew fun e w' => e = .returned (.bool (decide (cmpI pn.ks en.ks < 0))) ∧ Below w2.heap.size w2 w') := (below_any pn.ka en.ka pn.ks.length pn.kc en.ks.length en.kc pn.ks en.ks w2.drew rfl rfl (show Row w2 .u8 _ _ from OKP.out.k) (show Row w2 .u8 _ _ from OK2.out.k) OKP.out.k8 OK2.out.k8).mono fun e w' ⟨h1, h2⟩ => ⟨h1, by subst h2; exact bdrew2 (Below.refl _ _) 0⟩
          rw [hc]
          by_cases hcm : cmpI pn.ks en.ks < 0
          · rw [decide_eq_true hcm] at RC
            have HS : Hid (∀ i, i < j + 1 + 1 → fL L i = 0) := fun i hi => by
              by_cases h : i < j + 1
              · exact HP.out i h
              · rw [show i = j + 1 by omega, HFC.out, if_pos hcm]
            clear hcm HFC
            go_wp2_with fail
            go_region_held3 (fun W => W.cell? ⟨b, o + j * 2, none⟩ = some (.slice pn.ka pn.ks.length pn.kc) ∧ W.cell? ⟨gx, 0, none⟩ = some (.slice en.ka en.ks.length en.kc)) (go_keep) (first
              | (go_at_call 64; (refine RC.out.mono ?_; rintro e w3 ⟨rfl, hw3⟩; have B3 : Hid (Below w2.heap.size w2 w3) := hw3; have f0 := (B3.out.cell (p := ⟨b, o + j * 2, none⟩) (Nat.lt_of_lt_of_le hb1 z2)).trans q0; have f1 := (B3.out.cell (p := ⟨gx, 0, none⟩) (Nat.lt_of_lt_of_le hx1 z2)).trans d0; clear hw3))
              | fail)
            have T3 : Hid (Below w.heap.size w w3) := T2.out.trans (B3.out.mono T2.out.size)
            clear f0 f1 d0 q0
            go_wp2
            go_roundw
            case rel => exact ⟨j + 1 + 1, by omega, by go_num, HS, T3⟩
            case measure => simp [intOf]; omega
          · rw [decide_eq_false hcm] at RC
            have HS : Hid (Srt (fL L) l (j + 1) 51) := .inr ⟨by omega, by rw [HFC.out, if_neg hcm]; omega, by rw [HFC.out, if_neg hcm], HP.out⟩
            clear hcm HFC
            go_wp2_with fail
            go_region_held3 (fun W => W.cell? ⟨b, o + j * 2, none⟩ = some (.slice pn.ka pn.ks.length pn.kc) ∧ W.cell? ⟨gx, 0, none⟩ = some (.slice en.ka en.ks.length en.kc)) (go_keep) (first
              | (go_at_call 64; (refine RC.out.mono ?_; rintro e w3 ⟨rfl, hw3⟩; have B3 : Hid (Below w2.heap.size w2 w3) := hw3; have f0 := (B3.out.cell (p := ⟨b, o + j * 2, none⟩) (Nat.lt_of_lt_of_le hb1 z2)).trans q0; have f1 := (B3.out.cell (p := ⟨gx, 0, none⟩) (Nat.lt_of_lt_of_le hx1 z2)).trans d0; clear hw3))
              | fail)
            have T3 : Hid (Below w.heap.size w w3) := T2.out.trans (B3.out.mono T2.out.size)
            clear f0 f1 d0 q0
            go_wp2
            go_ret2
            exact ⟨j + 1, 51, rfl, HS.out, T3.out⟩
        · have hne := beq_eq_false_iff_ne.2 hc
          have HS : Hid (Srt (fL L) l (j + 1) (chkE en.ks.length en.vs.length)) := .inr ⟨by omega, by rw [HF1.out hc]; exact hc, (HF1.out hc).symm, HP.out⟩
          generalize chkE en.ks.length en.vs.length = r at *
          clear hc
          go_wp2
          go_ret2
          exact ⟨j + 1, r, rfl, HS.out, T2.out⟩
    · have i1 : ¬ (k : Int) < (l : Int) := by omega
      have HS : Hid (Srt (fL L) l 0 0) := .inl ⟨fun i hi => HP.out i (by omega), rfl, rfl⟩
      go_wp2
      go_ret2
      exact ⟨0, 0, rfl, HS.out, HB.out⟩

end Go.Proofs.Ytjnldmbjeiejdaa
