/- PairOrder: the walk. -/
import Derived.Test.YtfcjbibnjibijaaKClone
import Derived.Test.YtfcjbibnjibijaaKLives
import Derived.Test.YtfcjbibnjibijaaPSame
import Derived.Deep.CutBlock
import Derived.Deep.DeepCutAuto
namespace Go.Proofs.Ytfcjbibnjibijaa
open Go.RowKit

theorem cmpI_eq0 (xs ys : List Int) : (cmpI xs ys == 0) = decide (xs = ys) := by
  by_cases h : xs = ys
  · subst h; rw [cmpI_refl]; simp
  · rw [decide_eq_false h, beq_eq_false_iff_ne]
    exact fun e => h (cmpI_zero xs ys e)
theorem com_lt (xs ys : List Int) (h1 : comN xs ys < xs.length) (h2 : comN xs ys < ys.length) : (xs.getD (comN xs ys) 0 != ys.getD (comN xs ys) 0) = true ∧ decide (xs.getD (comN xs ys) 0 < ys.getD (comN xs ys) 0) = decide (cmpI xs ys < 0) := by
  refine ⟨by rw [bne_iff_ne]; exact comN_ne xs ys h1 h2, ?_⟩
  rw [cmpI_com, if_neg (by omega), if_neg (by omega)]
  by_cases h : xs.getD (comN xs ys) 0 < ys.getD (comN xs ys) 0
  · rw [if_pos h, decide_eq_true h]; rfl
  · rw [if_neg h, decide_eq_false h]; rfl

set_option maxRecDepth 100000 in
set_option maxHeartbeats 3200000 in
theorem pairOrder_any (a b d : Option Addr) (la ca lb cb ld cd : Nat) (xs ys zs : List Int) (w : World) (ha : xs.length = la) (hb : ys.length = lb) (hd : zs.length = ld) (hma : la ≤ 1048576) (hmb : lb ≤ 1048576) (hmd : ld ≤ 1048576) (hca : la ≤ ca) (hcb : lb ≤ cb) (na : a = none → la = 0 ∧ ca = 0) (nb : b = none → lb = 0 ∧ cb = 0) (nd : d = none → ld = 0 ∧ cd = 0)
    (ra : Row w .u8 a xs) (rb : Row w .u8 b ys) (rd : Row w .u8 d zs) (a8 : B8 xs) (b8 : B8 ys) (d8 : B8 zs) :
    Calls Try.prog 8 #[.slice a la ca, .slice b lb cb, .slice d ld cd] w fun e w' => e = .returned (.bool true) ∧ Below w.heap.size w w' := by
  obtain ⟨i0, hi, hz0, hz1, hz2⟩ := info_parts infoByte'
  have RA := hide ra
  have RB := hide rb
  have RD := hide rd
  have NA := hide na
  have NB := hide nb
  have ND := hide nd
  have A8 := hide a8
  have B8' := hide b8
  have D8 := hide d8
  clear ra rb rd na nb nd a8 b8 d8
  have CM : Hid (∀ W, Below w.heap.size w W → Calls Try.prog 26 #[.slice a la ca, .slice b lb cb] W fun e w' => e = .returned (.int .i64 (cmpI xs ys)) ∧ w' = W) := fun W h => compare_any a b la ca lb cb xs ys W ha hb (RA.out.below2 h) (RB.out.below2 h) A8.out B8'.out
  have CM2 : Hid (∀ W, Below w.heap.size w W → Calls Try.prog 26 #[.slice b lb cb, .slice a la ca] W fun e w' => e = .returned (.int .i64 (-cmpI xs ys)) ∧ w' = W) := fun W h => by
    have := compare_any b a lb cb la ca ys xs W hb ha (RB.out.below2 h) (RA.out.below2 h) B8'.out A8.out
    rwa [cmpI_swap xs ys] at this
  have CM3 : Hid (∀ W, Below w.heap.size w W → Calls Try.prog 26 #[.slice b lb cb, .slice d ld cd] W fun e w' => e = .returned (.int .i64 (cmpI ys zs)) ∧ w' = W) := fun W h => compare_any b d lb cb ld cd ys zs W hb hd (RB.out.below2 h) (RD.out.below2 h) B8'.out D8.out
  have CM4 : Hid (∀ W, Below w.heap.size w W → Calls Try.prog 26 #[.slice a la ca, .slice d ld cd] W fun e w' => e = .returned (.int .i64 (cmpI xs zs)) ∧ w' = W) := fun W h => compare_any a d la ca ld cd xs zs W ha hd (RA.out.below2 h) (RD.out.below2 h) A8.out D8.out
  have CM5 : Hid (∀ W e n c, Below w.heap.size w W → n = la + ld → Row W .u8 e (xs ++ zs) → Calls Try.prog 26 #[.slice a la ca, .slice e n c] W fun e w' => e = .returned (.int .i64 (if zs = [] then 0 else -1)) ∧ w' = W) := fun W e n c h hn hr => by
    have := compare_any a e la ca n c xs (xs ++ zs) W ha (by rw [List.length_append]; omega) (RA.out.below2 h) hr A8.out (A8.out.append D8.out)
    rwa [cmpI_app] at this
  obtain ⟨lg, hlg, hcase⟩ : ∃ lg : Int, (if zs = [] then 0 else -1 : Int) = lg ∧ ((lg = 0 ∧ ld = 0) ∨ (lg = -1 ∧ 0 < ld)) := by
    by_cases h : zs = []
    · subst h; exact ⟨0, by simp, .inl ⟨rfl, by simpa using hd.symm⟩⟩
    · exact ⟨-1, by rw [if_neg h], .inr ⟨rfl, by have := List.length_pos_iff.2 h; omega⟩⟩
  rw [hlg] at CM5
  replace hcase := hide hcase
  clear hlg
  have hr1 := cmpI_fits xs ys
  have hr2 := cmpI_fits ys zs
  have hr3 := cmpI_fits xs zs
  have HT : Hid (¬ cmpI xs ys ≤ 0 ∨ (cmpI xs ys ≤ 0 ∧ ¬ cmpI ys zs ≤ 0) ∨ (cmpI xs ys ≤ 0 ∧ cmpI ys zs ≤ 0 ∧ cmpI xs zs < 0) ∨ (cmpI xs ys = 0 ∧ cmpI ys zs ≤ 0 ∧ cmpI xs zs = 0)) := by
    have := cmpI_trans xs ys zs
    show _ ∨ _
    omega
  have hE0 := cmpI_eq0 xs ys
  have hSM := same_any a b la ca lb cb xs ys
  have hcl := comN_le xs ys
  have SM : Hid (∀ W, Row W .u8 a xs → Row W .u8 b ys → Calls Try.prog 14 #[.slice a la ca, .slice b lb cb] W fun e w' => e = .returned (.bool (decide (xs = ys))) ∧ Still W w') := fun W h h' => same_any a b la ca lb cb xs ys W (by unfold maxLen; omega) ha hb h h'
  clear hSM
  have HCM : Hid (∀ W, Row W .u8 a xs → Row W .u8 b ys → Calls Try.prog 27 #[.slice a la ca, .slice b lb cb] W fun e w' => e = .returned (.int .i64 (comN xs ys : Nat)) ∧ ∃ m, w' = W.drewN m) := fun W h h' => common_any a b la ca lb cb xs ys W (by unfold maxLen; omega) (by unfold maxLen; omega) ha hb h h'
  have HST : Hid (∀ W c c' q, Row W .u8 a xs → Row W .u8 b ys → Calls Try.prog 14 #[.slice a (comN xs ys) c, .slice b (comN xs ys) c'] (W.drewN q) fun e w' => e = .returned (.bool true) ∧ ∃ m, w' = W.drewN m) := fun W c c' q h h' => by
    have hlt : (xs.take (comN xs ys)).length = comN xs ys := by rw [List.length_take]; omega
    have h2 := h'.take (comN xs ys)
    rw [← comN_take] at h2
    exact Calls.quiet_of (sameq a b (comN xs ys) c c' (xs.take (comN xs ys)) (W.drewN q) (by unfold maxLen; omega) hlt (h.take _) h2)
  have HLT := hide (com_lt xs ys)
  rw [ha, hb] at hcl HLT
  generalize hab : cmpI xs ys = ab at *
  generalize hbc : cmpI ys zs = bc at *
  generalize hac : cmpI xs zs = ac at *
  generalize hal : decide (xs = ys) = al at *
  generalize hn : comN xs ys = n at *
  clear hab hbc hac hal hn
  go_enter Try.func8, Try.ntmps8
  go_wp2_with fail
  refine (lives_any _).mono ?_
  rintro e w1 ⟨rfl, t1⟩
  go_wp2_with fail
  refine keep (CM.out _ t1) ?_
  go_wp2_with fail
  refine keep (CM2.out _ t1) ?_
  go_wp2_with fail
  refine keep (CM3.out _ t1) ?_
  go_wp2_with fail
  refine keep (CM4.out _ t1) ?_
  have RA1 := hide (RA.out.below2 t1)
  have RD1 := hide (RD.out.below2 t1)
  have HFAC : Hid (∀ v5 w5, OwnB w5 w1.heap.size 5 v5 (xs ++ zs) → ∃ a5 c5, v5 = .slice a5 (la + ld) c5 ∧ Row w5 .u8 a5 (xs ++ zs)) := fun v5 w5 ho => by
    obtain ⟨a5, c5, h5, _⟩ := ho.sliceN (n := la + ld) (by rw [List.length_append]; omega)
    subst h5
    exact ⟨a5, c5, rfl, ho.row⟩
  go_wp2_with (first
    | (at_builtin; refine append_b rfl (.tmp 30) (.tmp 31) 23 rfl w1.heap.size 5 i0 Try.underlying23 hi hz0 hz1 hz2 (.slice (some ⟨w1.heap.size, 0, none⟩) 0 0) [] rfl (OwnB.made #[] 0 (Nat.le_refl _) (by unfold maxLen; omega) rfl (by intro u hu; cases hu)) a la ca xs rfl ha NA.out (RA1.out.alloc _) (by simp; omega) (by simp) ?_; intro v4 w4 hown4 hg4; simp only [List.nil_append] at hown4; have HO4 := hide hown4; have HG4 := hide hg4; clear hown4 hg4)
    | (at_builtin; refine append_b rfl (.tmp 32) (.tmp 33) 23 rfl w1.heap.size 5 i0 Try.underlying23 hi hz0 hz1 hz2 v4 xs rfl HO4.out d ld cd zs rfl hd ND.out (RD1.out.below2 (((Below.refl _ _).alloc (Nat.le_refl _) _).grown HG4.out (by simp) (fun k h => by cases h; exact Nat.le_refl _))) (by omega) (by have := HG4.out.size; simp at this ⊢; omega) ?_; intro v5 w5 hown5 hg5; obtain ⟨a5, c5, rfl, hr5⟩ := HFAC.out v5 w5 hown5; have HG5 := hide hg5; have HR5 := hide hr5; clear hown5 hg5 hr5)
    | fail)
  have b4 : Below w1.heap.size w1 w4 := ((Below.refl _ _).alloc (Nat.le_refl _) _).grown HG4.out (by simp) (fun k h => by cases h; exact Nat.le_refl _)
  have b5 : Below w1.heap.size w1 w5 := b4.grown HG5.out (by have := b4.size; omega) (fun k h => (HO4.out.owns.lt k h).1)
  have t5 : Below w.heap.size w w5 := t1.trans (b5.mono t1.size)
  refine keep (CM5.out _ _ _ _ t5 rfl HR5.out) ?_
  clear b4 b5 t1 HG4 HG5 HO4 HFAC
  go_wp2_with fail
  refine (SM.out _ (RA.out.below2 t5) (RB.out.below2 t5)).mono ?_
  rintro e w6 ⟨rfl, s6⟩
  have t6 := t5.trans (s6.below _)
  clear t5 s6
  have HRA6 := hide (RA.out.below2 t6)
  have HRB6 := hide (RB.out.below2 t6)
  clear RA RB RD RA1 RD1 CM CM2 CM3 CM4 CM5 SM NA NB ND HR5
  have hnla : (n : Int) ≤ (la : Int) := by omega
  have hnlb : (n : Int) ≤ (lb : Int) := by omega
  have hnca : (n : Int) ≤ (ca : Int) := by omega
  have hncb : (n : Int) ≤ (cb : Int) := by omega
  have hnn : (0 : Int) ≤ (n : Int) := by omega
  have hpt : (0 < ld → (ld : Int) > 0) := fun h => by omega
  have hd1 : decide (ab < -1) = false := by rw [decide_eq_false_iff_not]; omega
  have hd2 : decide (1 < ab) = false := by rw [decide_eq_false_iff_not]; omega
  go_upto_region 8 with fail
  go_cut [73] from 39 to 73 (fun c wx => c = .bool false ∧ Hid (wx = w6))
  case first =>
    rcases hcase.out with ⟨rfl, hld⟩ | ⟨rfl, hld⟩
    · subst hld
      clear hpt
      go_wp2_with fail
      go_meet
      exact ⟨rfl, rfl⟩
    · replace hpt := hpt hld
      go_wp2_with fail
      go_meet
      exact ⟨rfl, rfl⟩
  obtain ⟨rfl, hwc⟩ := hcut
  have hwc' := hwc.out.symm
  subst hwc'
  clear hwc
  clear hcase hpt hE0
  go_upto_region 10 with fail
  go_cut [91] from 74 to 91 (fun c wx => c = .bool false ∧ Hid (wx = w6))
  case first =>
    rcases HT.out with h1 | ⟨h1, h2⟩ | ⟨h1, h2, h3⟩ | ⟨rfl, h2, rfl⟩
    all_goals
      first
        | have hq : decide (0 < ac) = false := by rw [decide_eq_false_iff_not]; omega
        | skip
      go_wp2_with fail
      go_meet
      exact ⟨rfl, rfl⟩
  obtain ⟨rfl, hwc⟩ := hcut
  have hwc' := hwc.out.symm
  subst hwc'
  clear hwc
  clear HT
  go_wp2_with fail
  refine (HCM.out _ HRA6.out HRB6.out).mono ?_
  rintro e w7 ⟨rfl, m7, hw7⟩
  have t7 : Below w.heap.size w w7 := by rw [hw7]; exact drewK t6 m7
  have HRA7 : Hid (Row w7 .u8 a xs) := by rw [hw7]; exact HRA6.out
  have HRB7 : Hid (Row w7 .u8 b ys) := by rw [hw7]; exact HRB6.out
  have HS7 : Hid (∀ c c' q, Calls Try.prog 14 #[.slice a n c, .slice b n c'] (w7.drewN q) fun e w' => e = .returned (.bool true) ∧ ∃ m, w' = w7.drewN m) := fun c c' q => HST.out w7 c c' q HRA7.out HRB7.out
  clear hw7 HRA6 HRB6 t6 HCM HST
  go_wp2_with fail
  go_quiet ((go_at_call 14; with_reducible exact HS7.out _ _ _))
  clear HS7
  by_cases e1 : n = la
  · have q1 : ((n : Int) == (la : Int)) = true := by rw [beq_iff_eq]; omega
    clear HLT HRA7 HRB7
    go_wp2_with fail
    go_quiet (fail)
    go_wp2_with fail
    go_ret
    exact ⟨rfl, drewK (drewK t7 _) _⟩
  · have q1 : ((n : Int) == (la : Int)) = false := by rw [beq_eq_false_iff_ne]; omega
    by_cases e2 : n = lb
    · have q2 : ((n : Int) == (lb : Int)) = true := by rw [beq_iff_eq]; omega
      clear HLT HRA7 HRB7 e1 e2
      go_wp2_with fail
      go_quiet (fail)
      go_wp2_with fail
      go_ret
      exact ⟨rfl, drewK (drewK t7 _) _⟩
    · have q2 : ((n : Int) == (lb : Int)) = false := by rw [beq_eq_false_iff_ne]; omega
      obtain ⟨p1, o1, rfl, g1⟩ := HRA7.out n (by omega)
      obtain ⟨p2, o2, rfl, g2⟩ := HRB7.out n (by omega)
      obtain ⟨hne, hdec⟩ := HLT.out (by omega) (by omega)
      have i1 : (n : Int) < (la : Int) := by omega
      have i2 : (n : Int) < (lb : Int) := by omega
      generalize xs.getD n 0 = c1 at *
      generalize ys.getD n 0 = c2 at *
      clear HLT HRA7 HRB7
      go_wp2_with fail
      go_quiet (fail)
      go_wp2_with fail
      go_ret
      exact ⟨rfl, drewK (drewK t7 _) _⟩

end Go.Proofs.Ytfcjbibnjibijaa
