/- The document's Read. -/
import Derived.Test.YtjnldmbjeiejdaaG42
namespace Go.Proofs.Ytjnldmbjeiejdaa
open Go.RowKit

theorem u8_low (p : Nat) : IntKind.u8.wrap ((p : Int).tmod 256) = ((p % 256 : Nat) : Int) := by
  have h1 : (p : Int).tmod 256 = ((p % 256 : Nat) : Int) := by
    rw [Int.tmod_eq_emod_of_nonneg (by omega)]
    rfl
  rw [h1]
  have h2 : p % 256 < 256 := Nat.mod_lt _ (by decide)
  generalize p % 256 = q at *
  rw [IntKind.wrap_u8]
  omega
theorem u8_high (p : Nat) (h : p ≤ 4611686018427387904) : IntKind.u8.wrap (IntKind.i64.wrap ((p : Int) / 256)) = ((p / 256 % 256 : Nat) : Int) := by
  have h1 : (p : Int) / 256 = ((p / 256 : Nat) : Int) := rfl
  rw [h1]
  have h2 : p / 256 ≤ 4611686018427387904 := Nat.le_trans (Nat.div_le_self _ _) h
  generalize p / 256 = q at *
  have h3 : IntKind.i64.wrap (q : Int) = (q : Int) := by rw [IntKind.wrap_i64]; omega
  rw [h3, IntKind.wrap_u8]
  omega
theorem getD_left (a b : List Int) (i : Nat) (h : i < a.length) : (a ++ b).getD i 0 = a.getD i 0 := by simp [List.getD, List.getElem?_append_left h]
theorem getD_right (a b : List Int) (i : Nat) (h : a.length ≤ i) : (a ++ b).getD i 0 = b.getD (i - a.length) 0 := by simp [List.getD, List.getElem?_append_right h]
theorem tabP_get (ps : List Nat) : ∀ (n j : Nat), j * 8 < n → (tabP ps n).getD (j * 2) 0 = ((ps.getD (j * 8) 0 % 256 : Nat) : Int) ∧ (tabP ps n).getD (j * 2 + 1) 0 = ((ps.getD (j * 8) 0 / 256 % 256 : Nat) : Int)
  | 0, j, h => absurd h (by omega)
  | n + 1, j, h => by
    have hl := tabP_len ps n
    rw [tabP]
    by_cases h8 : n % 8 = 0
    · rw [if_pos h8]
      by_cases hj : j * 8 < n
      · have ih := tabP_get ps n j hj
        rw [getD_left _ _ _ (by omega), getD_left _ _ _ (by omega)]
        exact ih
      · have e : j * 8 = n := by omega
        rw [getD_right _ _ _ (by omega), getD_right _ _ _ (by omega), show j * 2 - (tabP ps n).length = 0 by omega, show j * 2 + 1 - (tabP ps n).length = 1 by omega, e]
        exact ⟨rfl, rfl⟩
    · rw [if_neg h8]
      exact tabP_get ps n j (by omega)
theorem entS_at {zs : List Int} (h : (entS zs).e = 0) : bRes zs = bFin zs (entS zs) := by
  unfold bRes entS at *
  by_cases h1 : er zs 0 = 0
  · simp only [if_neg (show ¬ er zs 0 ≠ 0 by rw [h1]; simp)] at h ⊢
    by_cases h2 : nm zs 0 < 1 ∨ 64 < nm zs 0
    · rw [if_pos h2] at h; exact absurd h (by simp)
    · simp only [if_neg h2]
  · rw [if_pos h1] at h; exact absurd h h1
theorem entS_err {zs : List Int} (h : (entS zs).e ≠ 0) : bRes zs = ([], (entS zs).e, (entS zs).q) := by
  unfold bRes entS at *
  by_cases h1 : er zs 0 = 0
  · simp only [if_neg (show ¬ er zs 0 ≠ 0 by rw [h1]; simp)] at h ⊢
    by_cases h2 : nm zs 0 < 1 ∨ 64 < nm zs 0
    · simp only [if_pos h2]
    · simp only [if_neg h2] at h ⊢
      unfold bFin
      rw [if_pos h]
  · simp only [if_pos h1]
theorem entS_inv {zs : List Int} (z8 : B8 zs) (h : (entS zs).e = 0) : (entS zs).p ≤ zs.length ∧ (entS zs).ps.length = (entS zs).l.length ∧ (entS zs).l.length ≤ 64 ∧ Good (entS zs).l ∧ ∀ i, (entS zs).ps.getD i 0 ≤ zs.length := by
  have hx := (rd_at zs 0 z8 (Nat.zero_le _)).2.2.2.1
  unfold entS at *
  by_cases h1 : er zs 0 = 0
  · rw [if_neg (by rw [h1]; simp)] at h ⊢
    by_cases h2 : nm zs 0 < 1 ∨ 64 < nm zs 0
    · rw [if_pos h2] at h; exact absurd h (by simp)
    · rw [if_neg h2] at h ⊢
      obtain ⟨hi, hl, hle⟩ := rinv z8 hx (nm zs 0) (by omega)
      have hll := hl h
      refine ⟨hi.p, hi.ps, by omega, hi.good (by omega), fun i => ?_⟩
      by_cases h3 : i < (rrun zs (nx zs 0) (nm zs 0)).l.length
      · rw [hi.at' i h3]
        have hq := congrArg List.length hi.eq
        rw [List.length_append, List.length_drop, List.length_drop] at hq
        have hmono : ∀ (l : List KV) (a b : Nat), a ≤ b → (bod l a).length ≤ (bod l b).length := fun l a b hab => by
          obtain ⟨d, rfl⟩ : ∃ d, b = a + d := ⟨b - a, by omega⟩
          clear hab
          induction d with
          | zero => exact Nat.le_refl _
          | succ d ih => rw [← Nat.add_assoc, bod, List.length_append]; omega
        have := hmono (rrun zs (nx zs 0) (nm zs 0)).l i (rrun zs (nx zs 0) (nm zs 0)).l.length (by omega)
        have := hi.p
        have := hi.ge
        omega
      · rw [show (rrun zs (nx zs 0) (nm zs 0)).ps.getD i 0 = 0 from by simp [List.getD, List.getElem?_eq_none (show (rrun zs (nx zs 0) (nm zs 0)).ps.length ≤ i by rw [hi.ps]; omega)]]
        exact Nat.zero_le _
  · rw [if_pos h1] at h; exact absurd h h1

/-- What the document's Read tells. -/
def RRdB (w : World) (zs : List Int) (e : Ending) (w' : World) : Prop :=
  ∃ a c b Es, e = .returned (.tuple #[.slice a Es.length c, .int .i64 (bRes zs).2.1, .int .i64 ((bRes zs).2.2 : Nat)]) ∧ kvs Es = (bRes zs).1 ∧ (0 < Es.length → a = some ⟨b, 0, none⟩) ∧ Ens w' b 0 Es ∧ (0 < Es.length → w.heap.size ≤ b) ∧ Below w.heap.size w w' ∧ (∀ i (h : i < Es.length) x, (Es[i].ka = some x ∧ 0 < Es[i].ks.length) ∨ (Es[i].va = some x ∧ 0 < Es[i].vs.length) → w.heap.size ≤ x.block)
/-- The table up to here is right. -/
def Upto (xs ts : List Int) (m : Nat) : Prop := m ≤ xs.length ∧ m ≤ ts.length ∧ ∀ i, i < m → xs.getD i 0 = ts.getD i 0
theorem Upto.next {xs ts : List Int} {m : Nat} (h : Upto xs ts m) (h1 : m < xs.length) (h2 : m < ts.length) (he : xs.getD m 0 = ts.getD m 0) : Upto xs ts (m + 1) := by
  refine ⟨h1, h2, fun i hi => ?_⟩
  by_cases h3 : i < m
  · exact h.2.2 i h3
  · rw [show i = m by omega]; exact he

theorem fin62 {zs : List Int} {S : RS} {n m : Nat} (he : S.e = 0) (hn : S.ps.length = n) (h : Upto (zs.drop S.p) (tabP S.ps n) m) (hm : m < (tabP S.ps n).length) (hc : m = (zs.drop S.p).length ∨ (zs.drop S.p).getD m 0 ≠ (tabP S.ps n).getD m 0) : bFin zs S = ([], 62, S.p + m) := by
  have hc' := comN_of m (zs.drop S.p) (tabP S.ps n) h.1 h.2.1 h.2.2 (hc.imp id (fun h => .inr h))
  unfold bFin
  rw [if_neg (by rw [he]; simp), hn, hc', if_pos hm]
theorem fin63 {zs : List Int} {S : RS} {n m : Nat} (he : S.e = 0) (hn : S.ps.length = n) (h : Upto (zs.drop S.p) (tabP S.ps n) m) (hm : m = (tabP S.ps n).length) : bFin zs S = if m < (zs.drop S.p).length then ([], 63, S.p + m) else (S.l, 0, 0) := by
  have hc' := comN_of m (zs.drop S.p) (tabP S.ps n) h.1 h.2.1 h.2.2 (.inr (.inl hm))
  unfold bFin
  rw [if_neg (by rw [he]; simp), hn, hc', if_neg (by omega)]

set_option maxRecDepth 100000 in
set_option maxHeartbeats 3200000 in
theorem rblk_any (a : Option Addr) (l c : Nat) (zs : List Int) (w : World) (hl : zs.length = l) (hm : l ≤ 140737488351232) (hcl : l ≤ c) (na : a = none → l = 0 ∧ c = 0) (hr : Row w .u8 a zs) (z8 : B8 zs) :
    Calls Try.prog 19 #[.slice a l c] w (RRdB w zs) := by
  have HEN := hide (rentries_any a l c zs w hl hm hcl na hr z8)
  have HRW := hide (fun (W : World) (h : Below w.heap.size w W) => hr.below2 h)
  have HP : Hid (∀ e w', RRdB w zs e w' ↔ ∃ a c b Es, e = .returned (.tuple #[.slice a Es.length c, .int .i64 (bRes zs).2.1, .int .i64 ((bRes zs).2.2 : Nat)]) ∧ kvs Es = (bRes zs).1 ∧ (0 < Es.length → a = some ⟨b, 0, none⟩) ∧ Ens w' b 0 Es ∧ (0 < Es.length → w.heap.size ≤ b) ∧ Below w.heap.size w w' ∧ (∀ i (h : i < Es.length) x, (Es[i].ka = some x ∧ 0 < Es[i].ks.length) ∨ (Es[i].va = some x ∧ 0 < Es[i].vs.length) → w.heap.size ≤ x.block)) := fun _ _ => Iff.rfl
  have HF0 : Hid (∀ er (pl : Nat) w', bRes zs = ([], er, pl) → Below w.heap.size w w' → RRdB w zs (.returned (.tuple #[.slice none 0 0, .int .i64 er, .int .i64 (pl : Int)])) w') := fun er pl w' hb hw => by
    refine (HP.out _ _).2 ⟨none, 0, 0, [], by rw [hb]; rfl, by rw [hb]; rfl, fun h => absurd h (Nat.not_lt_zero _), ⟨fun i h => absurd h (Nat.not_lt_zero i), fun i h => absurd h (Nat.not_lt_zero i), fun i h => absurd h (Nat.not_lt_zero i)⟩, fun h => absurd h (Nat.not_lt_zero _), hw, fun i h => absurd h (Nat.not_lt_zero i)⟩
  have HAT := hide (fun h => entS_at (zs := zs) h)
  have HER := hide (fun h => entS_err (zs := zs) h)
  have HINV := hide (fun h => entS_inv (zs := zs) z8 h)
  clear hr na
  go_enter Try.func19, Try.ntmps19
  go_wp2_with fail
  refine HEN.out.mono ?_
  rintro e w1 ⟨Es, v1, v2, rfl, hI⟩
  generalize entS zs = S at *
  obtain ⟨a1, b1, c1, rfl, ha1, hEns, _⟩ := hI.ens
  obtain ⟨a2, c2, rfl, _, _⟩ := slice_of_owns2 hI.o2
  have HI := hide hI
  have HA1 := hide ha1
  have B1 := hide hI.bel
  have HN1 : Hid (0 < Es.length → w.heap.size ≤ b1) := fun h => by
    have h1 := hI.o1
    rw [ha1 h] at h1
    exact (h1.lt b1 rfl).1
  clear hI ha1 hEns HEN
  by_cases he : S.e = 0
  · obtain ⟨hp, hps, hl64, hgood, hpl⟩ := HINV.out he
    have hEl : Es.length = S.l.length := by rw [← kvs_len, HI.out.kv]
    obtain ⟨n, hn⟩ : ∃ n, S.ps.length = n := ⟨_, rfl⟩
    have hEn : Es.length = n := by rw [hEl, ← hps, hn]
    have HFIN : Hid (bRes zs = bFin zs S) := HAT.out he
    have HIw := hide (fun (W : World) (h : Below w1.heap.size w1 W) => HI.out.below h)
    obtain ⟨ts, hts⟩ : ∃ ts, ts = tabP S.ps n := ⟨_, rfl⟩
    have htl : ts.length = 2 * ((n + 7) / 8) := by rw [hts, tabP_len]
    have HTG := hide (fun j (h : j * 8 < n) => by have := tabP_get S.ps n j h; rw [← hts] at this; exact this)
    have H62 := hide (fun m (h : Upto (zs.drop S.p) ts m) h1 h2 => by have := fin62 (zs := zs) (S := S) (n := n) (m := m) he hn (by rw [← hts]; exact h) (by rw [← hts]; exact h1) (by rw [← hts]; exact h2); rw [← HFIN.out] at this; exact this)
    have H63 := hide (fun m (h : Upto (zs.drop S.p) ts m) h1 => by have := fin63 (zs := zs) (S := S) (n := n) (m := m) he hn (by rw [← hts]; exact h) (by rw [← hts]; exact h1); rw [← HFIN.out] at this; exact this)
    have hdl : (zs.drop S.p).length = l - S.p := by rw [List.length_drop, hl]
    have HPS : Hid (∀ (W : World), Below w1.heap.size w1 W → ∀ i, i < n → ∃ b2, a2 = some ⟨b2, 0, none⟩ ∧ W.cell? ⟨b2, i, none⟩ = some (.int .i64 ((S.ps.getD i 0 : Nat) : Int)) ∧ b2 < W.heap.size) := fun W hW i hi => by
      have ho := (HIw.out W hW).o2
      rw [hn] at ho
      obtain ⟨g, cap, hv, _⟩ := slice_of_owns ho (by omega)
      cases hv
      have hc := ho.cells (g := g) rfl i (.int .i64 ((S.ps.getD i 0 : Nat) : Int)) (by
        rw [psV, List.getElem?_map, List.getD, List.getElem?_eq_getElem (by rw [hn]; exact hi)]; rfl)
      rw [Addr.add_lit, Nat.zero_add] at hc
      exact ⟨g, rfl, hc, (ho.lt g rfl).2⟩
    have HRZ : Hid (∀ (W : World), Below w1.heap.size w1 W → Row W .u8 a zs) := fun W hW => HRW.out W (B1.out.trans (hW.mono B1.out.size))
    have HBW : Hid (∀ (W : World), Below w1.heap.size w1 W → Below w.heap.size w W) := fun W hW => B1.out.trans (hW.mono B1.out.size)
    have HPL := hide hpl
    have HE := hide he
    rw [hEn, hn]
    obtain ⟨P, hP⟩ : ∃ P, P = S.p := ⟨_, rfl⟩
    rw [← hP] at H62 H63 hdl hp ⊢
    rw [he]
    replace hts := hide hts
    replace hP := hide hP
    replace hn := hide hn
    replace htl := hide htl
    replace hdl := hide hdl
    have HXZ : Hid (∀ i, (zs.drop P).getD i 0 = zs.getD (P + i) 0) := fun i => by simp [List.getD]
    generalize zs.drop P = xs at *
    have H0 : Hid (Upto xs ts 0) := ⟨Nat.zero_le _, Nat.zero_le _, fun i h => absurd h (Nat.not_lt_zero i)⟩
    have HIE := HIw
    rw [hEn, hn.out] at HIE
    clear HAT HER HINV HI HIw
    go_wp2_with fail
    go_loopw [7, 10] (fun q7 q10 wr => ∃ j pp i8 : Nat, Hid (j ≤ (n + 7) / 8 ∧ pp = P + j * 2 ∧ i8 = j * 8) ∧ q7 = .int .i64 (pp : Int) ∧ q10 = .int .i64 (i8 : Int) ∧ Hid (Upto xs ts (j * 2)) ∧ Hid (Below w1.heap.size w1 wr)) (fun _ q _ => n + 8 - (intOf q).toNat)
    case atStart => exact ⟨0, P, 0, ⟨Nat.zero_le _, by simp, rfl⟩, rfl, rfl, H0, Below.refl _ _⟩
    case round =>
      clear H0
      obtain ⟨j, pp, i8, HJ, rfl, rfl, HU, HB⟩ := hrel
      have hi8n : i8 ≤ n + 7 := by have := HJ.out; omega
      have hpps : pp ≤ l + 1000 := by have := HJ.out; omega
      rename World => wo
      by_cases hlt : i8 < n
      · obtain ⟨b2, rfl, d0, hb2⟩ := HPS.out wo HB.out i8 hlt
        obtain ⟨t0, t1⟩ := HTG.out j (by have := HJ.out; omega)
        have hpj := HPL.out i8
        rw [show j * 8 = i8 by have := HJ.out; omega] at t0 t1
        have i1 : (i8 : Int) < (n : Int) := by omega
        have i2 : (0 : Int) ≤ (i8 : Int) := by omega
        generalize S.ps.getD i8 0 = pj at *
        have e1 : IntKind.u8.wrap ((pj : Int).tmod 256) = ((pj % 256 : Nat) : Int) := u8_low pj
        have e2 : IntKind.u8.wrap (IntKind.i64.wrap ((pj : Int) / 256)) = ((pj / 256 % 256 : Nat) : Int) := u8_high pj (by omega)
        have T0 := hide t0
        have T1 := hide t1
        have E1 := hide e1
        have E2' := hide e2
        have hnn := World.new_ne wo ⟨b2, i8, none⟩ d0
        clear t0 t1 e1 e2
        go_wp2_with fail
        go_region_held3 (fun W => W.cell? ⟨b2, i8, none⟩ = some (.int .i64 (pj : Int))) (go_keep) (fail)
        rw [E1.out, E2'.out]
        clear E1 E2'
        generalize ((pj % 256 : Nat) : Int) = lo at *
        generalize ((pj / 256 % 256 : Nat) : Int) = hi at *
        generalize (pj : Int).tmod 256 = ta at *
        generalize IntKind.i64.wrap ((pj : Int) / 256) = tb at *
        have hb5 : Below w1.heap.size w1 (wo.alloc (.cells #[.int .u8 lo, .int .u8 hi] 5)).drew := (HB.out.alloc HB.out.size _).drew
        have hrw5 : Row (wo.alloc (.cells #[.int .u8 lo, .int .u8 hi] 5)).drew .u8 (some ⟨wo.heap.size, 0, none⟩) [lo, hi] := two_row wo _ _ _
        have HB5 := hide hb5
        have HW5 := hide hrw5
        have hz5 : wo.heap.size < (wo.alloc (.cells #[.int .u8 lo, .int .u8 hi] 5)).drew.heap.size := by show _ < (wo.alloc _).heap.size; simp
        clear hb5 hrw5 d0 hnn
        generalize (wo.alloc (.cells #[.int .u8 lo, .int .u8 hi] 5)).drew = w5 at *
        obtain ⟨wg, hwg⟩ : ∃ wg, wg = wo.heap.size := ⟨_, rfl⟩
        rw [← hwg] at HW5 hz5 ⊢
        replace hwg := hide hwg
        go_wp2_with fail
        go_loopw [7, 12] (fun q7 q12 wr => ∃ k p2 : Nat, Hid (k ≤ 2 ∧ p2 = pp + k) ∧ q7 = .int .i64 (p2 : Int) ∧ q12 = .int .i64 (k : Int) ∧ Hid (Upto xs ts (j * 2 + k)) ∧ Hid (Below w5.heap.size w5 wr)) (fun _ q _ => 2 - (intOf q).toNat)
        case atStart => exact ⟨0, pp, ⟨by omega, by omega⟩, rfl, rfl, HU, Below.refl _ _⟩
        case round =>
          obtain ⟨k, p2, HK, rfl, rfl, HU2, HB2⟩ := hrel
          have HBB : Hid (Below w1.heap.size w1 wr) := HB5.out.trans (HB2.out.mono HB5.out.size)
          have hk2 := HK.out.1
          have hp2 : p2 ≤ l + 2000 := by have := HK.out; omega
          by_cases hlk : k < 2
          · have j1 : (k : Int) < 2 := by omega
            have j2 : (0 : Int) ≤ (k : Int) := by omega
            have hmt : j * 2 + k < ts.length := by rw [htl.out]; have := HJ.out; omega
            by_cases hpl2 : l ≤ p2
            · have j3 : (l : Int) ≤ (p2 : Int) := by omega
              have hpe : P + (j * 2 + k) = l := by have h1 := HU2.out.1; rw [hdl.out] at h1; have := HJ.out; have := HK.out; omega
              have hf := H62.out (j * 2 + k) HU2.out hmt (.inl (by rw [hdl.out]; omega))
              rw [hpe] at hf
              have HF := hide (HF0.out _ _ wr hf (HBW.out wr HBB.out))
              clear hf
              go_wp2_with fail
              go_ret3
              exact HF.out
            · have j3 : ¬ (l : Int) ≤ (p2 : Int) := by omega
              have j4 : (p2 : Int) < (l : Int) := by omega
              have j5 : (0 : Int) ≤ (p2 : Int) := by omega
              have hpe : P + (j * 2 + k) = p2 := by have := HJ.out; have := HK.out; omega
              have hrz := HRZ.out wr HBB.out
              obtain ⟨bz, oz, rfl, _, hcz⟩ := hrz.cons (by omega)
              have c0 := hcz p2 (by omega)
              have hxz := HXZ.out (j * 2 + k)
              rw [hpe] at hxz
              obtain ⟨bq, oq, hq1, _, hcq⟩ := (HW5.out.below2 HB2.out).cons (by simp)
              cases hq1
              have c1 := hcq k (by simp; omega)
              rw [Nat.zero_add] at c1
              have htk : [lo, hi].getD k 0 = ts.getD (j * 2 + k) 0 := by
                match k, hlk with
                | 0, _ => exact T0.out.symm
                | 1, _ => exact T1.out.symm
              rw [htk] at c1
              rw [← hxz] at c0
              have HNE := hide (fun h => H62.out (j * 2 + k) HU2.out hmt (.inr h))
              have HEQ := hide (fun h => HU2.out.next (by rw [hdl.out]; omega) hmt h)
              rw [hpe] at HNE
              obtain ⟨x, hx⟩ : ∃ x, x = xs.getD (j * 2 + k) 0 := ⟨_, rfl⟩
              obtain ⟨y, hy⟩ : ∃ y, y = ts.getD (j * 2 + k) 0 := ⟨_, rfl⟩
              rw [← hx] at c0 HNE HEQ
              rw [← hy] at c1 HNE HEQ
              clear hx hy hxz htk hcz hcq hrz
              rename World => w6
              by_cases hxy : x = y
              · subst hxy
                have HU3 := hide (HEQ.out rfl)
                clear HNE HEQ
                go_wp2_with fail
                go_quiet (fail)
                go_wp2_with fail
                go_roundw
                case rel => exact ⟨k + 1, p2 + 1, ⟨by omega, by have := HK.out; omega⟩, by go_num, by go_num, HU3, below_of_drewN HB2.out _⟩
                case measure => simp [intOf]; omega
              · have hne : (x != y) = true := by simp [hxy]
                have HF := hide (fun m => HF0.out _ _ (w6.drewN m) (HNE.out hxy) (below_of_drewN (HBW.out w6 HBB.out) m))
                clear HNE HEQ
                go_wp2_with fail
                go_quiet (fail)
                go_wp2_with fail
                go_ret3
                exact HF.out _
          · obtain rfl : k = 2 := by omega
            rw [show ((2 : Nat) : Int) = 2 from rfl]
            go_wp2_with fail
            go_roundw
            case rel => exact ⟨j + 1, p2, i8 + 8, ⟨by have := HJ.out; omega, by have := HJ.out; have := HK.out; omega, by have := HJ.out; omega⟩, rfl, by go_num, by rw [show (j + 1) * 2 = j * 2 + 2 by omega]; exact HU2, HBB⟩
            case measure => simp [intOf]; omega
      · have i1 : ¬ (i8 : Int) < (n : Int) := by omega
        have hjT : j * 2 = ts.length := by rw [htl.out]; have := HJ.out; omega
        have hf := H63.out (j * 2) HU.out hjT
        rw [hdl.out, show P + j * 2 = pp by have := HJ.out; omega] at hf
        by_cases hlt2 : j * 2 < l - P
        · have i2 : (pp : Int) < (l : Int) := by have := HJ.out; omega
          rw [if_pos hlt2] at hf
          have HF := hide (HF0.out _ _ wo hf (HBW.out wo HB.out))
          clear hf
          go_wp2_with fail
          go_ret3
          exact HF.out
        · have i2 : ¬ (pp : Int) < (l : Int) := by have := HJ.out; omega
          rw [if_neg hlt2] at hf
          have HF : Hid (RRdB w zs (.returned (.tuple #[.slice a1 n c1, .int .i64 0, .int .i64 0])) wo) := by
            obtain ⟨a1', b1', c1', q1, q2, q3, _⟩ := (HIE.out wo HB.out).ens
            rw [hEn] at q1
            cases q1
            refine (HP.out _ _).2 ⟨a1, c1, b1', Es, by rw [hf, hEn]; rfl, by rw [hf]; exact (HIE.out wo HB.out).kv, q2, q3, fun h => ?_, HBW.out wo HB.out, (HIE.out wo HB.out).loc⟩
            have h1 := (HIE.out wo HB.out).o1
            rw [hEn, q2 h] at h1
            exact (h1.lt b1' rfl).1
          clear hf
          go_wp2_with fail
          go_ret3
          exact HF.out
  · have hne : (S.e != 0) = true := by simp [he]
    have HF := hide (HF0.out _ _ w1 (HER.out he) B1.out)
    generalize S.e = er at *
    generalize S.q = q at *
    go_wp2_with fail
    go_ret3
    exact HF.out

end Go.Proofs.Ytjnldmbjeiejdaa
