/- PairLeast: the walk. -/
import Derived.Test.YtfcjbibnjibijabKAfter
import Derived.Test.YtfcjbibnjibijabKLives
import Derived.Test.YtfcjbibnjibijabPSame
import Derived.Deep.CutBlock
import Derived.Deep.DeepCutAuto
namespace Go.Proofs.Ytfcjbibnjibijab
open Go.RowKit

theorem af_true (xs ts : List Int) (h8 : B8 xs) (t8 : B8 ts) (h : afS xs = true) : keyE (afL xs).length = 0 ∧ cmpI xs (afL xs) = -1 ∧ B8 (afL xs) ∧ (afL xs).length ≤ 64 ∧ (0 ≤ cmpI xs ts ∨ keyE ts.length ≠ 0 ∨ cmpI (afL xs) ts ≤ 0) := by
  unfold afS at h
  unfold afL
  cases e : aft 64 xs with
  | none => rw [e] at h; cases h
  | some k =>
    obtain ⟨h1, h2, h3, h4⟩ := aft_some 64 xs k h8 e
    have hk : keyE k.length = 0 := by rcases keyE_cases k.length with ⟨_, h⟩ | ⟨h, _⟩ <;> omega
    refine ⟨hk, h4, h3, h1, ?_⟩
    by_cases q1 : 0 ≤ cmpI xs ts
    · exact .inl q1
    · by_cases q2 : keyE ts.length = 0
      · obtain ⟨k', e1, e2⟩ := aft_least 64 xs ts h8 t8 (by rcases keyE_cases ts.length with ⟨h, _⟩ | ⟨_, _, h⟩ <;> omega) (by omega)
        rw [e] at e1
        cases e1
        exact .inr (.inr e2)
      · exact .inr (.inl q2)
theorem af_false (xs ts : List Int) (h8 : B8 xs) (t8 : B8 ts) (h : afS xs = false) : afL xs = [] ∧ (0 ≤ cmpI xs ts ∨ keyE ts.length ≠ 0) := by
  unfold afS at h
  unfold afL
  cases e : aft 64 xs with
  | some k => rw [e] at h; cases h
  | none =>
    refine ⟨rfl, ?_⟩
    by_cases q1 : 0 ≤ cmpI xs ts
    · exact .inl q1
    · by_cases q2 : keyE ts.length = 0
      · obtain ⟨k', e1, _⟩ := aft_least 64 xs ts h8 t8 (by rcases keyE_cases ts.length with ⟨h, _⟩ | ⟨_, _, h⟩ <;> omega) (by omega)
        rw [e] at e1
        cases e1
      · exact .inr q2

theorem B8.takeB {zs : List Int} (h : B8 zs) (k : Nat) : B8 (zs.take k) := fun c hc => h c (List.mem_of_mem_take hc)

set_option maxRecDepth 100000 in
set_option maxHeartbeats 3200000 in
theorem pairLeast_any (a b d : Option Addr) (la ca lb cb ld cd : Nat) (xs ys ts : List Int) (w : World) (ha : xs.length = la) (hb : ys.length = lb) (hd : ts.length = ld) (hma : la ≤ 140737488351232) (hmb : lb ≤ 140737488351232) (hca : la ≤ ca) (hcb : lb ≤ cb) (na : a = none → la = 0 ∧ ca = 0)
    (ra : Row w .u8 a xs) (rb : Row w .u8 b ys) (rd : Row w .u8 d ts) (a8 : B8 xs) (b8 : B8 ys) (d8 : B8 ts) :
    Calls Try.prog 3 #[.slice a la ca, .slice b lb cb, .slice d ld cd] w fun e w' => e = .returned (.bool true) ∧ Below w.heap.size w w' := by
  have CP : Hid (∀ W (p q : Option Addr) (m1 k1 m2 k2 : Nat) (us vs : List Int), us.length = m1 → vs.length = m2 → Row W .u8 p us → Row W .u8 q vs → B8 us → B8 vs → Calls Try.prog 7 #[.slice p m1 k1, .slice q m2 k2] W fun e w' => e = .returned (.int .i64 (cmpI us vs)) ∧ w' = W) := fun W p q m1 k1 m2 k2 us vs h1 h2 h3 h4 h5 h6 => compare_any p q m1 k1 m2 k2 us vs W h1 h2 h3 h4 h5 h6
  have RA : Hid (∀ W, Below w.heap.size w W → Row W .u8 a xs) := fun W h => ra.below2 h
  have RB : Hid (∀ W, Below w.heap.size w W → Row W .u8 b ys) := fun W h => rb.below2 h
  have RD : Hid (∀ W, Below w.heap.size w W → Row W .u8 d ts) := fun W h => rd.below2 h
  have NA := hide na
  have A8 := hide a8
  have B8' := hide b8
  have D8 := hide d8
  clear ra rb rd na a8 b8 d8
  have hr1 := cmpI_fits xs ys
  have HAT := hide (fun h => af_true xs ts A8.out D8.out h)
  have HAF := hide (fun h => af_false xs ts A8.out D8.out h)
  rw [hd] at HAT HAF
  have HBL := hide (betw_least xs ys ts)
  have HBA := hide (betw_above xs ys)
  have HBN := hide (betw_len xs ys)
  have HBR := hide (betw_room xs ys)
  have HBT := hide (cmpI_take ys (comN xs ys + 1))
  have HKD : Hid (keyE ld = 3 ∨ keyE ld = 0) := by rcases keyE_cases ld with ⟨h, _⟩ | ⟨h, _⟩; exact .inl h; exact .inr h
  rw [hd] at HBL
  rw [hb] at HBR
  have HBE : Hid (betw xs ys = ys.take (comN xs ys + 1)) := rfl
  have HB8 : Hid (B8 (betw xs ys)) := B8'.out.takeB _
  have HBW := hide (fun W h => between_any a b la ca lb cb xs ys W hma hmb hcb ha hb (RA.out W h) (RB.out W h) A8.out B8'.out)
  have HAW := hide (fun W h => after_any a la ca xs W hma hca NA.out ha (RA.out W h) A8.out)
  go_enter Try.func3, Try.ntmps3
  go_wp2_with fail
  refine (lives_any _).mono ?_
  rintro e w1 ⟨rfl, t1⟩
  go_wp2_with fail
  refine (HBW.out w1 t1).mono ?_
  rintro e w2 ⟨v2, rfl, o2, b2⟩
  have t2 := t1.trans (b2.mono t1.size)
  obtain ⟨a2, c2, rfl, _, hc2⟩ := o2.sliceN rfl
  have R2 : Hid (Row w2 .u8 a2 (btL xs ys)) := o2.row
  clear o2 b2 t1
  go_wp2_with fail
  refine keep (CP.out _ _ _ _ _ _ _ _ _ ha hb (RA.out _ t2) (RB.out _ t2) A8.out B8'.out) ?_
  have HS : Hid ((cmpI xs ys < 0 ∧ btE xs ys = 0 ∧ btL xs ys = betw xs ys) ∨ (¬ cmpI xs ys < 0 ∧ btE xs ys = 51 ∧ btL xs ys = [])) := by
    unfold btE btL
    by_cases h : cmpI xs ys < 0
    · exact .inl ⟨h, if_pos h, if_pos h⟩
    · exact .inr ⟨h, if_neg h, if_neg h⟩
  generalize hsl : btL xs ys = sl at *
  generalize hse : btE xs ys = se at *
  clear hsl hse
  go_upto_region 4 with fail
  go_cut [41] from 33 to 41 (fun c wx => c = .bool false ∧ Hid (w2 = wx))
  case first =>
    rcases HS.out with ⟨h1, h2, _⟩ | ⟨h1, h2, _⟩
    · have q1 : (se == 0) = true := by rw [h2]; rfl
      have q2 : decide (cmpI xs ys < 0) = true := decide_eq_true h1
      clear h2
      go_wp2_with fail
      go_meet
      exact ⟨rfl, rfl⟩
    · have q1 : (se == 0) = false := by rw [h2]; rfl
      have q2 : decide (cmpI xs ys < 0) = false := decide_eq_false (by omega)
      clear h2
      go_wp2_with fail
      go_meet
      exact ⟨rfl, rfl⟩
  obtain ⟨rfl, hwc⟩ := hcut
  obtain rfl := hwc.out
  clear hwc
  go_upto_if 43 with fail
  go_cut [11, 12, 13, 14, 15] from 43 to 91 (fun _ _ _ _ _ wx => Hid (Below w.heap.size w wx))
  case first =>
    rcases HS.out with ⟨h1, h2, h3⟩ | ⟨h1, h2, _⟩
    · have q1 : (se == 0) = true := by rw [h2]; rfl
      have hn := HBN.out h1
      have hroom := HBR.out h1
      have hlow := HBA.out h1
      have hsl : sl.length = comN xs ys + 1 := by rw [h3]; exact hn
      have HSL := hide h3
      have HLW : Hid (cmpI xs sl = -1) := by rw [h3]; exact hlow
      have HHI : Hid (cmpI sl ys ≤ 0) := by rw [h3]; exact HBT.out
      have HS8 : Hid (B8 sl) := by rw [h3]; exact HB8.out
      have HST : Hid (sl = ys.take sl.length) := by rw [h3, hn]; rfl
      have hll : sl.length ≤ lb := by omega
      have HTT : Hid (¬ cmpI xs ts < 0 ∨ (cmpI xs ts < 0 ∧ ¬ cmpI ts ys ≤ 0) ∨ (cmpI xs ts < 0 ∧ cmpI ts ys ≤ 0 ∧ ¬ (ld : Int) < (sl.length : Int))) := by
        by_cases p1 : cmpI xs ts < 0
        · by_cases p2 : cmpI ts ys ≤ 0
          · have := HBL.out p1 p2
            exact .inr (.inr ⟨p1, p2, by omega⟩)
          · exact .inr (.inl ⟨p1, p2⟩)
        · exact .inl p1
      clear h2 h3 hn hroom hlow h1
      have C1 := hide (CP.out w2 a a2 la ca sl.length c2 xs sl ha rfl (RA.out _ t2) R2.out A8.out HS8.out)
      rw [HLW.out] at C1
      have C2 := hide (CP.out w2 a2 b sl.length c2 lb cb sl ys rfl hb R2.out (RB.out _ t2) HS8.out B8'.out)
      have C3 := hide (CP.out w2 a d la ca ld cd xs ts ha hd (RA.out _ t2) (RD.out _ t2) A8.out D8.out)
      have C4 := hide (CP.out w2 d b ld cd lb cb ts ys hd hb (RD.out _ t2) (RB.out _ t2) D8.out B8'.out)
      have C5 : Hid (∀ c, Calls Try.prog 8 #[.slice a2 sl.length c2, .slice b sl.length c] w2 fun e w' => e = .returned (.bool true) ∧ ∃ m, w' = w2.drewN m) := fun c => by
        have h := (RB.out _ t2).take sl.length
        rw [← HST.out] at h
        exact sameq a2 b sl.length c2 c sl w2 (by unfold maxLen; omega) rfl R2.out h
      have hhi := HHI.out
      have hi1 : (sl.length : Int) ≤ (lb : Int) := by omega
      have hi2 : (sl.length : Int) ≤ (cb : Int) := by omega
      obtain ⟨p, o, rfl, _, _⟩ := (RB.out _ t2).cons (by omega)
      have HPOS := hide hsl
      clear hsl
      generalize cmpI sl ys = hi' at *
      generalize cmpI xs ts = at' at *
      generalize cmpI ts ys = tb' at *
      generalize sl.length = ls at *
      have hd1 : decide (0 < hi') = false := by rw [decide_eq_false_iff_not]; omega
      have hd2 : decide ((lb : Int) < (ls : Int)) = false := by rw [decide_eq_false_iff_not]; omega
      rcases HTT.out with p1 | ⟨p1, p2⟩ | ⟨p1, p2, p3⟩
      all_goals
        go_wp2_with fail
        refine keep C1.out ?_
        go_wp2_with fail
        refine keep C2.out ?_
        go_wp2_with fail
        refine keep C3.out ?_
        go_wp2_with fail
        refine keep C4.out ?_
        go_wp2_with fail
        refine (C5.out _).mono ?_
        rintro e w3 ⟨rfl, m3, hw3⟩
        have t3 : Below w.heap.size w w3 := by rw [hw3]; exact drewK t2 m3
        clear hw3
        go_wp2_with fail
        go_meet
        exact t3
    · have q1 : (se == 0) = false := by rw [h2]; rfl
      clear h2
      go_wp2_with fail
      go_meet
      exact t2
  have t4 := hcut.out
  clear t2 R2 HS HBL HBA HBN HBR HBT HBE HB8 hcut
  go_wp2_with fail
  refine (HAW.out _ t4).mono ?_
  rintro e w5 ⟨v5, rfl, o5, b5⟩
  have t5 := t4.trans (b5.mono t4.size)
  obtain ⟨a5, c5, rfl, _, hc5⟩ := o5.sliceN rfl
  have R5 : Hid (Row w5 .u8 a5 (afL xs)) := o5.row
  clear o5 b5 t4
  have C3 := hide (CP.out w5 a d la ca ld cd xs ts ha hd (RA.out _ t5) (RD.out _ t5) A8.out D8.out)
  go_wp2_with fail
  refine keep C3.out ?_
  go_wp2_with fail
  refine keep (key_any d ld cd w5) ?_
  cases hS : afS xs with
  | true =>
    obtain ⟨k1, k2, k3, k4, k5⟩ := HAT.out hS
    have C6 := hide (key_any a5 (afL xs).length c5 w5)
    rw [k1] at C6
    have C7 := hide (CP.out w5 a a5 la ca (afL xs).length c5 xs (afL xs) ha rfl (RA.out _ t5) R5.out A8.out k3)
    rw [k2] at C7
    have C8 := hide (CP.out w5 a5 d (afL xs).length c5 ld cd (afL xs) ts rfl hd R5.out (RD.out _ t5) k3 D8.out)
    have K5 := hide k5
    clear k1 k2 k3 k4 k5
    generalize cmpI (afL xs) ts = kt at *
    generalize cmpI xs ts = ab at *
    generalize (afL xs).length = lk at *
    have HK : Hid (0 ≤ ab ∨ (¬ 0 ≤ ab ∧ (keyE ld != 0) = true) ∨ (¬ 0 ≤ ab ∧ (keyE ld != 0) = false ∧ kt ≤ 0)) := by
      by_cases q1 : 0 ≤ ab
      · exact .inl q1
      · by_cases q2 : keyE ld = 0
        · exact .inr (.inr ⟨q1, by rw [q2]; rfl, by rcases K5.out with h | h | h; exact absurd h q1; exact absurd q2 h; exact h⟩)
        · exact .inr (.inl ⟨q1, by rw [bne_iff_ne]; exact q2⟩)
    generalize keyE ld = ky at *
    rcases HK.out with q1 | ⟨q1, q2⟩ | ⟨q1, q2, q3⟩
    all_goals
      go_wp2_with fail
      refine keep C6.out ?_
      go_wp2_with fail
      refine keep C7.out ?_
      go_wp2_with fail
      refine keep C8.out ?_
      go_wp2_with fail
      go_ret
      exact ⟨rfl, t5⟩
  | false =>
    obtain ⟨k1, k2⟩ := HAF.out hS
    have hz : (afL xs).length = 0 := by rw [k1]; rfl
    rw [hz]
    have K2 := hide k2
    clear k1 k2 hz
    generalize cmpI xs ts = ab at *
    have HK : Hid (0 ≤ ab ∨ (¬ 0 ≤ ab ∧ (keyE ld != 0) = true)) := by
      by_cases q1 : 0 ≤ ab
      · exact .inl q1
      · exact .inr ⟨q1, by rw [bne_iff_ne]; exact K2.out.elim (fun h => absurd h q1) id⟩
    generalize keyE ld = ky at *
    rcases HK.out with q1 | ⟨q1, q2⟩
    all_goals
      go_wp2_with fail
      go_ret
      exact ⟨rfl, t5⟩

end Go.Proofs.Ytfcjbibnjibijab
