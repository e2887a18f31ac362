/- Sorted, and the document's. -/
import Derived.Test.YthloaabdlciefaaG28
import Derived.Test.YthloaabdlciefaaG19
import Derived.Test.YthloaabdlciefaaG29
namespace Go.Proofs.Ythloaabdlciefaa
open Go.RowKit

/-- What is wrong with the entry at a place. -/
def fL (L : List Ent) (i : Nat) : Int := match L[i]? with
  | none => 0
  | some e => if chkE e.ks.length e.vs.length ≠ 0 then chkE e.ks.length e.vs.length else if 0 < i then (match L[i - 1]? with
    | some p => if cmpI p.ks e.ks < 0 then 0 else 51
    | none => 0) else 0
theorem fL_chk {L : List Ent} {i : Nat} (h : i < L.length) (hc : chkE L[i].ks.length L[i].vs.length ≠ 0) : fL L i = chkE L[i].ks.length L[i].vs.length := by
  unfold fL; rw [List.getElem?_eq_getElem h]; simp only [if_pos hc]
theorem fL_zero {L : List Ent} (h : 0 < L.length) (hc : chkE L[0].ks.length L[0].vs.length = 0) : fL L 0 = 0 := by
  unfold fL; rw [List.getElem?_eq_getElem h]; simp only [hc]; simp
theorem fL_succ {L : List Ent} {i : Nat} (h : i < L.length) (h0 : 0 < i) (hc : chkE L[i].ks.length L[i].vs.length = 0) : fL L i = if cmpI (L[i - 1]'(by omega)).ks L[i].ks < 0 then 0 else 51 := by
  unfold fL; rw [List.getElem?_eq_getElem h, List.getElem?_eq_getElem (show i - 1 < L.length by omega)]; simp only [hc]; simp [h0]
/-- The place and the error that Sorted tells. -/
def Srt (f : Nat → Int) (l : Nat) (n : Nat) (e : Int) : Prop := ((∀ i, i < l → f i = 0) ∧ n = 0 ∧ e = 0) ∨ (n < l ∧ f n ≠ 0 ∧ e = f n ∧ ∀ i, i < n → f i = 0)
theorem Srt.one {f : Nat → Int} {l n n' : Nat} {e e' : Int} (h : Srt f l n e) (h' : Srt f l n' e') : n = n' ∧ e = e' := by
  rcases h with ⟨h1, h2, h3⟩ | ⟨h1, h2, h3, h4⟩ <;> rcases h' with ⟨k1, k2, k3⟩ | ⟨k1, k2, k3, k4⟩
  · exact ⟨h2.trans k2.symm, h3.trans k3.symm⟩
  · exact absurd (h1 _ k1) k2
  · exact absurd (k1 _ h1) h2
  · have : n = n' := by
      rcases Nat.lt_trichotomy n n' with h | h | h
      · exact absurd (k4 _ h) h2
      · exact h
      · exact absurd (h4 _ h) k2
    subst this
    exact ⟨rfl, h3.trans k3.symm⟩
theorem bdrew2 {B : Nat} {a w : World} (h : Below B a w) (n : Nat) : Below B a (w.drew.drewN n) := ⟨h.os, h.tape, h.output, h.size, h.block⟩
theorem bdrew1 {B : Nat} {a w : World} (h : Below B a w) (m : Nat) : Below B a (w.drewN m) := ⟨h.os, h.tape, h.output, h.size, h.block⟩
theorem Ens.lt {W : World} {b o : Nat} {L : List Ent} (h : Ens W b o L) (h0 : 0 < L.length) : b < W.heap.size := World.block_lt_of_cell? W ⟨b, o + 0 * 2, none⟩ (h.at0 0 h0)

set_option maxRecDepth 100000 in
set_option maxHeartbeats 3200000 in
theorem rsorted_any (a : Option Addr) (b o l c : Nat) (L : List Ent) (w : World) (hl : L.length = l) (hm : l ≤ 140737488351232) (ha : 0 < l → a = some ⟨b, o, none⟩) (hE : Ens w b o L) :
    Calls Try.prog 42 #[.slice a l c] w fun e w' => ∃ n r, e = .returned (.tuple #[.int .i64 (n : Nat), .int .i64 r]) ∧ Srt (fL L) l n r ∧ Below w.heap.size w w' := by
  have HE := hide (fun (W : World) (h : Below w.heap.size w W) => hE.below h)
  clear hE
  go_enter Try.func42, Try.ntmps42
  go_wp2
  go_loopw [4] (fun q wr => ∃ k : Nat, k ≤ l ∧ q = .int .i64 (k : Int) ∧ Hid (∀ i, i < k → fL L i = 0) ∧ Hid (Below w.heap.size w wr)) (fun q _ => l - (intOf q).toNat)
  case atStart => exact ⟨0, by omega, rfl, fun i hi => absurd hi (Nat.not_lt_zero i), Below.refl _ _⟩
  case round =>
    obtain ⟨k, hk, rfl, HP, HB⟩ := hrel
    by_cases hlt : k < l
    · obtain rfl := ha (by omega)
      have hkL : k < L.length := by omega
      have hen := HE.out wr HB.out
      have c0 := hen.at0 k hkL
      have c1 := hen.at1 k hkL
      have ok := hide (hen.ok k hkL)
      have hbr : b < wr.heap.size := hen.lt (by omega)
      unfold Ent.kv at c0
      unfold Ent.vv at c1
      have i1 : (k : Int) < (l : Int) := by omega
      clear hen
      have HF1 := hide (fun h => fL_chk hkL h)
      by_cases hk0 : k = 0
      · subst hk0
        have HF0 := hide (fun h => fL_zero hkL h)
        simp only [Nat.zero_mul, Nat.add_zero] at c0 c1
        generalize hen : L[0] = en at *
        clear hen
        go_wp2_with fail
        refine (rcheck_any en.ka en.va en.ks.length en.kc en.vs.length en.vc wr).mono ?_
        rintro e w2 ⟨rfl, b2⟩
        have T2 : Hid (Below w.heap.size w w2) := HB.out.trans (b2.mono HB.out.size)
        clear b2 c0 c1
        by_cases hc : chkE en.ks.length en.vs.length = 0
        · have HS : Hid (∀ i, i < 0 + 1 → fL L i = 0) := fun i hi => by rw [show i = 0 by omega]; exact HF0.out hc
          rw [hc]
          go_wp2
          go_quiet (fail)
          go_wp2
          go_roundw
          case rel => exact ⟨0 + 1, by omega, by go_num, HS, bdrew1 T2.out _⟩
          case measure => simp [intOf]; omega
        · have hne := beq_eq_false_iff_ne.2 hc
          have HS : Hid (Srt (fL L) l 0 (chkE en.ks.length en.vs.length)) := .inr ⟨by omega, by rw [HF1.out hc]; exact hc, (HF1.out hc).symm, fun i hi => absurd hi (Nat.not_lt_zero i)⟩
          generalize chkE en.ks.length en.vs.length = r at *
          clear hc
          go_wp2
          go_ret2
          exact ⟨0, r, rfl, HS.out, T2.out⟩
      · obtain ⟨j, rfl⟩ : ∃ j, k = j + 1 := ⟨k - 1, by omega⟩
        have HFS := hide (fun h => fL_succ hkL (by omega) h)
        have hjL : j < L.length := by omega
        have hen := HE.out wr HB.out
        have p0 := hen.at0 j hjL
        have okp := hide (hen.ok j hjL)
        unfold Ent.kv at p0
        clear hen
        simp only [Nat.add_sub_cancel] at HFS
        have ec : o + (j + 1) * 2 = o + j * 2 + 2 := by omega
        rw [ec] at c0 c1
        generalize hen : L[j + 1] = en at *
        generalize hpn : L[j] = pn at *
        clear hen hpn
        have i2 : (0 : Int) < ((j + 1 : Nat) : Int) := by omega
        have i3 : (j : Int) < (l : Int) := by omega
        have i4 : (j : Int) + 1 < (l : Int) := by omega
        have i5 : (0 : Int) < (j : Int) + 1 := by omega
        have i6 : (0 : Int) ≤ (j : Int) + 1 := by omega
        have i7 : (0 : Int) ≤ (j : Int) := by omega
        have hw1 : IntKind.i64.wrap ((j : Int) + 1 - 1) = (j : Int) := by rw [IntKind.wrap_i64]; omega
        have hw2 : IntKind.i64.wrap (((j + 1 : Nat) : Int) - 1) = (j : Int) := by rw [IntKind.wrap_i64]; omega
        have hw3 : IntKind.i64.wrap (j : Int) = (j : Int) := by rw [IntKind.wrap_i64]; omega
        go_wp2_with fail
        refine (rcheck_any en.ka en.va en.ks.length en.kc en.vs.length en.vc wr).mono ?_
        rintro e w2 ⟨rfl, b2⟩
        have T2 : Hid (Below w.heap.size w w2) := HB.out.trans (b2.mono HB.out.size)
        have z2 := b2.size
        have d0 := (b2.cell (p := ⟨b, o + j * 2 + 2, none⟩) hbr).trans c0
        have q0 := (b2.cell (p := ⟨b, o + j * 2, none⟩) hbr).trans p0
        have OK2 := hide (ok.out.below b2)
        have OKP := hide (okp.out.below b2)
        clear b2 c0 c1 p0 ok okp
        by_cases hc : chkE en.ks.length en.vs.length = 0
        · have HFC : Hid (fL L (j + 1) = if cmpI pn.ks en.ks < 0 then 0 else 51) := HFS.out hc
          have RC : Hid (Calls Try.prog 49 #[.slice pn.ka pn.ks.length pn.kc, .slice en.ka en.ks.length en.kc] w2.drew fun e w' => e = .returned (.int .i64 (cmpI pn.ks en.ks)) ∧ Below w2.heap.size w2 w') := (rcompare_any pn.ka en.ka pn.ks.length pn.kc en.ks.length en.kc pn.ks en.ks w2.drew (by have := OKP.out.zk; unfold maxLen; omega) (by have := OK2.out.zk; unfold maxLen; omega) rfl rfl (show Row w2 .u8 _ _ from OKP.out.k) (show Row w2 .u8 _ _ from OK2.out.k)).mono fun e w' ⟨h1, m, h2⟩ => ⟨h1, by subst h2; exact bdrew2 (Below.refl _ _) _⟩
          rw [hc]
          by_cases hcm : cmpI pn.ks en.ks < 0
          · have hge : ¬ (0 : Int) ≤ cmpI pn.ks en.ks := by omega
            generalize cmpI pn.ks en.ks = cm at *
            go_wp2_with fail
            go_region_held3 (fun W => W.cell? ⟨b, o + j * 2, none⟩ = some (.slice pn.ka pn.ks.length pn.kc) ∧ W.cell? ⟨b, o + j * 2 + 2, none⟩ = some (.slice en.ka en.ks.length en.kc)) (go_keep) (first
              | (go_at_call 49; (refine RC.out.mono ?_; rintro e w3 ⟨rfl, hw3⟩; have B3 : Hid (Below w2.heap.size w2 w3) := hw3; have f0 := (B3.out.cell (p := ⟨b, o + j * 2, none⟩) (Nat.lt_of_lt_of_le hbr z2)).trans q0; have f1 := (B3.out.cell (p := ⟨b, o + j * 2 + 2, none⟩) (Nat.lt_of_lt_of_le hbr z2)).trans d0; clear hw3))
              | fail)
            have T3 : Hid (Below w.heap.size w w3) := T2.out.trans (B3.out.mono T2.out.size)
            have HS : Hid (∀ i, i < j + 1 + 1 → fL L i = 0) := fun i hi => by
              by_cases h : i < j + 1
              · exact HP.out i h
              · rw [show i = j + 1 by omega, HFC.out, if_pos hcm]
            clear f0 f1 d0 q0
            go_wp2
            go_roundw
            case rel => exact ⟨j + 1 + 1, by omega, by go_num, HS, T3⟩
            case measure => simp [intOf]; omega
          · have hge : (0 : Int) ≤ cmpI pn.ks en.ks := by omega
            generalize cmpI pn.ks en.ks = cm at *
            go_wp2_with fail
            go_region_held3 (fun W => W.cell? ⟨b, o + j * 2, none⟩ = some (.slice pn.ka pn.ks.length pn.kc) ∧ W.cell? ⟨b, o + j * 2 + 2, none⟩ = some (.slice en.ka en.ks.length en.kc)) (go_keep) (first
              | (go_at_call 49; (refine RC.out.mono ?_; rintro e w3 ⟨rfl, hw3⟩; have B3 : Hid (Below w2.heap.size w2 w3) := hw3; have f0 := (B3.out.cell (p := ⟨b, o + j * 2, none⟩) (Nat.lt_of_lt_of_le hbr z2)).trans q0; have f1 := (B3.out.cell (p := ⟨b, o + j * 2 + 2, none⟩) (Nat.lt_of_lt_of_le hbr z2)).trans d0; clear hw3))
              | fail)
            have T3 : Hid (Below w.heap.size w w3) := T2.out.trans (B3.out.mono T2.out.size)
            have HS : Hid (Srt (fL L) l (j + 1) 51) := .inr ⟨by omega, by rw [HFC.out, if_neg (show ¬ cm < 0 by omega)]; omega, by rw [HFC.out, if_neg (show ¬ cm < 0 by omega)], HP.out⟩
            clear f0 f1 d0 q0
            go_wp2
            go_ret2
            exact ⟨j + 1, 51, rfl, HS.out, T3.out⟩
        · have hne := beq_eq_false_iff_ne.2 hc
          have HS : Hid (Srt (fL L) l (j + 1) (chkE en.ks.length en.vs.length)) := .inr ⟨by omega, by rw [HF1.out hc]; exact hc, (HF1.out hc).symm, HP.out⟩
          generalize chkE en.ks.length en.vs.length = r at *
          clear hc
          go_wp2
          go_ret2
          exact ⟨j + 1, r, rfl, HS.out, T2.out⟩
    · have i1 : ¬ (k : Int) < (l : Int) := by omega
      have HS : Hid (Srt (fL L) l 0 0) := .inl ⟨fun i hi => HP.out i (by omega), rfl, rfl⟩
      go_wp2
      go_ret2
      exact ⟨0, 0, rfl, HS.out, HB.out⟩

end Go.Proofs.Ythloaabdlciefaa

namespace Go.Proofs.Ythloaabdlciefaa
open Go.RowKit

set_option maxRecDepth 100000 in
set_option maxHeartbeats 3200000 in
theorem sorted_any (a : Option Addr) (b o l c : Nat) (L : List Ent) (w : World) (hl : L.length = l) (hm : l ≤ 140737488351232) (ha : 0 < l → a = some ⟨b, o, none⟩) (hE : Ens w b o L) :
    Calls Try.prog 34 #[.slice a l c] w fun e w' => ∃ n r, e = .returned (.tuple #[.int .i64 (n : Nat), .int .i64 r]) ∧ Srt (fL L) l n r ∧ Below w.heap.size w w' := by
  have HE := hide (fun (W : World) (h : Below w.heap.size w W) => hE.below h)
  clear hE
  go_enter Try.func34, Try.ntmps34
  go_wp2
  go_loopw [9] (fun q wr => ∃ k : Nat, k ≤ l ∧ q = .int .i64 (k : Int) ∧ Hid (∀ i, i < k → fL L i = 0) ∧ Hid (Below w.heap.size w wr)) (fun q _ => l - (intOf q).toNat)
  case atStart => exact ⟨0, by omega, rfl, fun i hi => absurd hi (Nat.not_lt_zero i), Below.refl _ _⟩
  case round =>
    obtain ⟨k, hk, rfl, HP, HB⟩ := hrel
    by_cases hlt : k < l
    · obtain rfl := ha (by omega)
      have hkL : k < L.length := by omega
      have hen := HE.out wr HB.out
      have c0 := hen.at0 k hkL
      have c1 := hen.at1 k hkL
      have ok := hide (hen.ok k hkL)
      have hbr : b < wr.heap.size := hen.lt (by omega)
      unfold Ent.kv at c0
      unfold Ent.vv at c1
      have i1 : (k : Int) < (l : Int) := by omega
      clear hen
      have HF1 := hide (fun h => fL_chk hkL h)
      by_cases hk0 : k = 0
      · subst hk0
        have HF0 := hide (fun h => fL_zero hkL h)
        simp only [Nat.zero_mul, Nat.add_zero] at c0 c1
        generalize hen : L[0] = en at *
        clear hen
        have b1 : Below wr.heap.size wr (wr.alloc (.cells #[.slice en.ka en.ks.length en.kc, .slice en.va en.vs.length en.vc] 25)) := (Below.refl _ _).alloc (Nat.le_refl _) _
        have TW1 : Hid (Below w.heap.size w (wr.alloc (.cells #[.slice en.ka en.ks.length en.kc, .slice en.va en.vs.length en.vc] 25))) := HB.out.trans (b1.mono HB.out.size)
        have Z1 := hide (show (wr.alloc (.cells #[.slice en.ka en.ks.length en.kc, .slice en.va en.vs.length en.vc] 25)).heap.size = wr.heap.size + 1 by simp)
        have X0 := hide (two_new wr (.slice en.ka en.ks.length en.kc) (.slice en.va en.vs.length en.vc) 25 0 _ rfl)
        have B1 := hide b1
        clear b1
        go_wp2_with fail
        generalize wr.alloc (.cells #[.slice en.ka en.ks.length en.kc, .slice en.va en.vs.length en.vc] 25) = w1 at *
        refine (check_any en.ka en.va en.ks.length en.kc en.vs.length en.vc w1).mono ?_
        rintro e w2 ⟨rfl, b2⟩
        have T2 : Hid (Below w.heap.size w w2) := TW1.out.trans (b2.mono TW1.out.size)
        clear b2 c0 c1
        by_cases hc : chkE en.ks.length en.vs.length = 0
        · have HS : Hid (∀ i, i < 0 + 1 → fL L i = 0) := fun i hi => by rw [show i = 0 by omega]; exact HF0.out hc
          rw [hc]
          go_wp2
          go_quiet (fail)
          go_wp2
          go_roundw
          case rel => exact ⟨0 + 1, by omega, by go_num, HS, bdrew1 T2.out _⟩
          case measure => simp [intOf]; omega
        · have hne := beq_eq_false_iff_ne.2 hc
          have HS : Hid (Srt (fL L) l 0 (chkE en.ks.length en.vs.length)) := .inr ⟨by omega, by rw [HF1.out hc]; exact hc, (HF1.out hc).symm, fun i hi => absurd hi (Nat.not_lt_zero i)⟩
          generalize chkE en.ks.length en.vs.length = r at *
          clear hc
          go_wp2
          go_ret2
          exact ⟨0, r, rfl, HS.out, T2.out⟩
      · obtain ⟨j, rfl⟩ : ∃ j, k = j + 1 := ⟨k - 1, by omega⟩
        have HFS := hide (fun h => fL_succ hkL (by omega) h)
        have hjL : j < L.length := by omega
        have hen := HE.out wr HB.out
        have p0 := hen.at0 j hjL
        have okp := hide (hen.ok j hjL)
        unfold Ent.kv at p0
        clear hen
        simp only [Nat.add_sub_cancel] at HFS
        have ec : o + (j + 1) * 2 = o + j * 2 + 2 := by omega
        rw [ec] at c0 c1
        generalize hen : L[j + 1] = en at *
        generalize hpn : L[j] = pn at *
        clear hen hpn
        have i2 : (0 : Int) < ((j + 1 : Nat) : Int) := by omega
        have i3 : (j : Int) < (l : Int) := by omega
        have i4 : (j : Int) + 1 < (l : Int) := by omega
        have i5 : (0 : Int) < (j : Int) + 1 := by omega
        have i6 : (0 : Int) ≤ (j : Int) + 1 := by omega
        have i7 : (0 : Int) ≤ (j : Int) := by omega
        have hw1 : IntKind.i64.wrap ((j : Int) + 1 - 1) = (j : Int) := by rw [IntKind.wrap_i64]; omega
        have hw2 : IntKind.i64.wrap (((j + 1 : Nat) : Int) - 1) = (j : Int) := by rw [IntKind.wrap_i64]; omega
        have hw3 : IntKind.i64.wrap (j : Int) = (j : Int) := by rw [IntKind.wrap_i64]; omega
        have b1 : Below wr.heap.size wr (wr.alloc (.cells #[.slice en.ka en.ks.length en.kc, .slice en.va en.vs.length en.vc] 25)) := (Below.refl _ _).alloc (Nat.le_refl _) _
        have TW1 : Hid (Below w.heap.size w (wr.alloc (.cells #[.slice en.ka en.ks.length en.kc, .slice en.va en.vs.length en.vc] 25))) := HB.out.trans (b1.mono HB.out.size)
        have Z1 := hide (show (wr.alloc (.cells #[.slice en.ka en.ks.length en.kc, .slice en.va en.vs.length en.vc] 25)).heap.size = wr.heap.size + 1 by simp)
        have X0 := hide (two_new wr (.slice en.ka en.ks.length en.kc) (.slice en.va en.vs.length en.vc) 25 0 _ rfl)
        have B1 := hide b1
        clear b1
        go_wp2_with fail
        generalize wr.alloc (.cells #[.slice en.ka en.ks.length en.kc, .slice en.va en.vs.length en.vc] 25) = w1 at *
        refine (check_any en.ka en.va en.ks.length en.kc en.vs.length en.vc w1).mono ?_
        rintro e w2 ⟨rfl, b2⟩
        have T2 : Hid (Below w.heap.size w w2) := TW1.out.trans (b2.mono TW1.out.size)
        have z2 := b2.size
        have z1 := Z1.out
        have hb1 : b < w1.heap.size := by omega
        have hx1 : wr.heap.size < w1.heap.size := by omega
        have d0 : w2.cell? ⟨wr.heap.size, 0, none⟩ = some (.slice en.ka en.ks.length en.kc) := (b2.cell (p := ⟨wr.heap.size, 0, none⟩) hx1).trans X0.out
        have q0 := (b2.cell (p := ⟨b, o + j * 2, none⟩) hb1).trans ((B1.out.cell (p := ⟨b, o + j * 2, none⟩) hbr).trans p0)
        have OK2 := hide ((ok.out.below B1.out).below b2)
        have OKP := hide ((okp.out.below B1.out).below b2)
        clear b2 c0 c1 p0 ok okp z1 Z1 X0 B1
        generalize wr.heap.size = gx at *
        by_cases hc : chkE en.ks.length en.vs.length = 0
        · have HFC : Hid (fL L (j + 1) = if cmpI pn.ks en.ks < 0 then 0 else 51) := HFS.out hc
          have RC : Hid (Calls Try.prog 64 #[.slice pn.ka pn.ks.length pn.kc, .slice en.ka en.ks.length en.kc] w2.drew fun e w' => e = .returned (.bool (decide (cmpI pn.ks en.ks < 0))) ∧ Below w2.heap.size w2 w') := (below_any pn.ka en.ka pn.ks.length pn.kc en.ks.length en.kc pn.ks en.ks w2.drew rfl rfl (show Row w2 .u8 _ _ from OKP.out.k) (show Row w2 .u8 _ _ from OK2.out.k) OKP.out.k8 OK2.out.k8).mono fun e w' ⟨h1, h2⟩ => ⟨h1, by subst h2; exact bdrew2 (Below.refl _ _) 0⟩
          rw [hc]
          by_cases hcm : cmpI pn.ks en.ks < 0
          · rw [decide_eq_true hcm] at RC
            have HS : Hid (∀ i, i < j + 1 + 1 → fL L i = 0) := fun i hi => by
              by_cases h : i < j + 1
              · exact HP.out i h
              · rw [show i = j + 1 by omega, HFC.out, if_pos hcm]
            clear hcm HFC
            go_wp2_with fail
            go_region_held3 (fun W => W.cell? ⟨b, o + j * 2, none⟩ = some (.slice pn.ka pn.ks.length pn.kc) ∧ W.cell? ⟨gx, 0, none⟩ = some (.slice en.ka en.ks.length en.kc)) (go_keep) (first
              | (go_at_call 64; (refine RC.out.mono ?_; rintro e w3 ⟨rfl, hw3⟩; have B3 : Hid (Below w2.heap.size w2 w3) := hw3; have f0 := (B3.out.cell (p := ⟨b, o + j * 2, none⟩) (Nat.lt_of_lt_of_le hb1 z2)).trans q0; have f1 := (B3.out.cell (p := ⟨gx, 0, none⟩) (Nat.lt_of_lt_of_le hx1 z2)).trans d0; clear hw3))
              | fail)
            have T3 : Hid (Below w.heap.size w w3) := T2.out.trans (B3.out.mono T2.out.size)
            clear f0 f1 d0 q0
            go_wp2
            go_roundw
            case rel => exact ⟨j + 1 + 1, by omega, by go_num, HS, T3⟩
            case measure => simp [intOf]; omega
          · rw [decide_eq_false hcm] at RC
            have HS : Hid (Srt (fL L) l (j + 1) 51) := .inr ⟨by omega, by rw [HFC.out, if_neg hcm]; omega, by rw [HFC.out, if_neg hcm], HP.out⟩
            clear hcm HFC
            go_wp2_with fail
            go_region_held3 (fun W => W.cell? ⟨b, o + j * 2, none⟩ = some (.slice pn.ka pn.ks.length pn.kc) ∧ W.cell? ⟨gx, 0, none⟩ = some (.slice en.ka en.ks.length en.kc)) (go_keep) (first
              | (go_at_call 64; (refine RC.out.mono ?_; rintro e w3 ⟨rfl, hw3⟩; have B3 : Hid (Below w2.heap.size w2 w3) := hw3; have f0 := (B3.out.cell (p := ⟨b, o + j * 2, none⟩) (Nat.lt_of_lt_of_le hb1 z2)).trans q0; have f1 := (B3.out.cell (p := ⟨gx, 0, none⟩) (Nat.lt_of_lt_of_le hx1 z2)).trans d0; clear hw3))
              | fail)
            have T3 : Hid (Below w.heap.size w w3) := T2.out.trans (B3.out.mono T2.out.size)
            clear f0 f1 d0 q0
            go_wp2
            go_ret2
            exact ⟨j + 1, 51, rfl, HS.out, T3.out⟩
        · have hne := beq_eq_false_iff_ne.2 hc
          have HS : Hid (Srt (fL L) l (j + 1) (chkE en.ks.length en.vs.length)) := .inr ⟨by omega, by rw [HF1.out hc]; exact hc, (HF1.out hc).symm, HP.out⟩
          generalize chkE en.ks.length en.vs.length = r at *
          clear hc
          go_wp2
          go_ret2
          exact ⟨j + 1, r, rfl, HS.out, T2.out⟩
    · have i1 : ¬ (k : Int) < (l : Int) := by omega
      have HS : Hid (Srt (fL L) l 0 0) := .inl ⟨fun i hi => HP.out i (by omega), rfl, rfl⟩
      go_wp2
      go_ret2
      exact ⟨0, 0, rfl, HS.out, HB.out⟩

end Go.Proofs.Ythloaabdlciefaa
