/- PairCompares: the walk. -/
import Derived.Test.YtfcjbibnjibijaaKRBetw
import Derived.Test.YtfcjbibnjibijaaKRAfter
import Derived.Test.YtfcjbibnjibijaaKLives
import Derived.Test.YtfcjbibnjibijaaCSpoil
import Derived.Test.YtfcjbibnjibijaaLent
namespace Go.Proofs.Ytfcjbibnjibijaa
open Go.RowKit

theorem Lent.kept2 {w w' : World} {g : Nat} {zs : List Int} {row : Option Nat} (h : Lent w g zs) (hg : w.grownBy w' row) (hne : some g ≠ row) : Lent w' g zs :=
  fun i hi => hg.cell (h i hi) hne
theorem Still.own {w w' : World} {base : Nat} {e : TypeId} {v : Value} {zs : List Int} (hs : Still w w') (h : OwnB w base e v zs) : OwnB w' base e v zs := h.blk fun k _ => by rw [hs.heap]

/-- A text of one's own, and between which blocks it lies. -/
structure Mine (W : World) (lo hi : Nat) (a : Option Addr) (n c : Nat) (zs : List Int) : Prop where
  own : OwnB W lo 5 (.slice a n c) zs
  len : zs.length = n
  lt : ∀ k, (Value.slice a n c).ownBlock = some k → k < hi
  in' : hi ≤ W.heap.size
theorem Mine.row {W : World} {lo hi : Nat} {a : Option Addr} {n c : Nat} {zs : List Int} (h : Mine W lo hi a n c zs) : Row W .u8 a zs := h.own.row
theorem Mine.below {W W' : World} {lo hi : Nat} {a : Option Addr} {n c : Nat} {zs : List Int} (h : Mine W lo hi a n c zs) (hb : Below W.heap.size W W') : Mine W' lo hi a n c zs := ⟨h.own.below hb, h.len, h.lt, Nat.le_trans h.in' hb.size⟩
theorem Mine.kept {W W' : World} {lo hi lo' hi' : Nat} {a a' : Option Addr} {n c n' c' : Nat} {zs zs' : List Int} (h : Mine W lo hi a n c zs) (k : Mine W lo' hi' a' n' c' zs') (hg : W.grownBy W' (Value.slice a' n' c').ownBlock) (hd : hi ≤ lo' ∨ hi' ≤ lo) : Mine W' lo hi a n c zs :=
  ⟨h.own.kept hg (fun i hi e => by
    have h1 := h.own.owns.lt i hi
    have h2 := h.lt i hi
    have h3 := k.own.owns.lt i e.symm
    have h4 := k.lt i e.symm
    omega), h.len, h.lt, Nat.le_trans h.in' hg.size⟩
theorem Mine.made {W W' : World} {v : Value} {zs : List Int} (h : OwnB W' W.heap.size 5 v zs) : ∃ a c, v = .slice a zs.length c ∧ zs.length ≤ c ∧ (a = none → zs.length = 0 ∧ c = 0) ∧ Mine W' W.heap.size W'.heap.size a zs.length c zs := by
  obtain ⟨a, c, h1, h2, h3, h4⟩ := h.sliceN rfl
  subst h1
  exact ⟨a, c, rfl, h3, h2, h, rfl, fun k hk => (h4 k hk).2, Nat.le_refl _⟩
theorem Mine.grown {W W' : World} {lo hi : Nat} {a : Option Addr} {n c : Nat} {zs : List Int} {B : Nat} (h : Mine W lo hi a n c zs) (hg : W.grownBy W' (Value.slice a n c).ownBlock) (hB : B ≤ lo) (hs : B ≤ W.heap.size) : Below B W W' :=
  (Below.refl _ _).grown hg hs (fun k hk => Nat.le_trans hB (h.own.owns.lt k hk).1)
theorem Lent.mine {W W' : World} {g : Nat} {ys : List Int} {lo hi : Nat} {a : Option Addr} {n c : Nat} {zs : List Int} (h : Lent W g ys) (k : Mine W lo hi a n c zs) (hg : W.grownBy W' (Value.slice a n c).ownBlock) (hd : g < lo) : Lent W' g ys :=
  h.kept2 hg (fun e => by have := (k.own.owns.lt g e.symm).1; omega)

theorem btL_le (a b : List Int) : (btL a b).length ≤ b.length := by
  unfold btL
  split
  · unfold betw; rw [List.length_take]; omega
  · simp
theorem afL_le (xs : List Int) (h8 : B8 xs) : (afL xs).length ≤ 64 := by
  unfold afL
  cases h : aft 64 xs with
  | none => simp
  | some k => exact (aft_some 64 xs k h8 h).1

set_option maxRecDepth 100000 in
set_option maxHeartbeats 3200000 in
theorem pairCompares_any (a b : Option Addr) (la ca lb cb : Nat) (xs ys : List Int) (w : World) (ha : xs.length = la) (hb : ys.length = lb) (hma : la ≤ 140737488351232) (hmb : lb ≤ 140737488351232) (hca : la ≤ ca) (hcb : lb ≤ cb) (na : a = none → la = 0 ∧ ca = 0) (nb : b = none → lb = 0 ∧ cb = 0) (ra : Row w .u8 a xs) (rb : Row w .u8 b ys) (a8 : B8 xs) (b8 : B8 ys) :
    Calls Try.prog 5 #[.slice a la ca, .slice b lb cb] w fun e w' => e = .returned (.bool true) ∧ Below w.heap.size w w' := by
  have RA := hide ra
  have RB := hide rb
  have NA := hide na
  have NB := hide nb
  have A8 := hide a8
  have B8' := hide b8
  have hbt := btL_le xs ys
  have haf := afL_le xs a8
  clear ra rb na nb a8 b8
  have SM : Hid (∀ W a c a' c' (zs : List Int), zs.length ≤ 140737488351232 → Row W .u8 a zs → Row W .u8 a' zs → Calls Try.prog 14 #[.slice a zs.length c, .slice a' zs.length c'] W fun e w' => e = .returned (.bool true) ∧ Still W w') := fun W a c a' c' zs hm h h' => by
    have := same_any a a' zs.length c zs.length c' zs zs W (by unfold maxLen; omega) rfl rfl h h'
    rw [decide_eq_true rfl] at this
    exact this
  go_enter Try.func5, Try.ntmps5
  go_wp2_with fail
  refine (lives_any _).mono ?_
  rintro e w1 ⟨rfl, t1⟩
  go_wp2_with fail
  refine (lent_any a la ca xs w1 ha (by omega) NA.out (RA.out.below2 t1)).mono ?_
  rintro e w2 ⟨rfl, hL2, b2⟩
  have t2 := t1.trans (b2.mono t1.size)
  have hg1 : w1.heap.size < w2.heap.size := hL2.lt
  have G1 : Hid (w.heap.size ≤ w1.heap.size) := t1.size
  generalize w1.heap.size = g1 at *
  have HL2 := hide hL2
  clear hL2 t1 b2
  go_wp2_with fail
  refine (lent_any b lb cb ys w2 hb (by omega) NB.out (RB.out.below2 t2)).mono ?_
  rintro e w3 ⟨rfl, hM3, b3⟩
  have t3 := t2.trans (b3.mono t2.size)
  have hg2 : w2.heap.size < w3.heap.size := hM3.lt
  have HL3 := hide (HL2.out.below b3 HL2.out.lt)
  generalize w2.heap.size = g2 at *
  have HM3 := hide hM3
  clear hM3 t2 b3 HL2
  go_wp2_with fail
  refine keep (compare_any _ _ _ _ _ _ xs ys w3 ha hb HL3.out.row HM3.out.row A8.out B8'.out) ?_
  go_wp2_with fail
  refine (common_any _ _ _ _ _ _ xs ys w3 (by unfold maxLen; omega) (by unfold maxLen; omega) ha hb HL3.out.row HM3.out.row).mono ?_
  rintro e w4 ⟨rfl, m4, hw4⟩
  have b4 : Below w3.heap.size w3 w4 := by rw [hw4]; exact drewK (Below.refl _ _) m4
  have t4 := t3.trans (b4.mono t3.size)
  have HL4 := hide (HL3.out.below b4 HL3.out.lt)
  have HM4 := hide (HM3.out.below b4 HM3.out.lt)
  have z4 := b4.size
  clear hw4 b4 t3 HL3 HM3
  go_wp2_with fail
  refine (between_any _ _ _ _ _ _ xs ys w4 (by omega) (by omega) (by omega) ha hb HL4.out.row HM4.out.row A8.out B8'.out).mono ?_
  rintro e w5 ⟨v5, rfl, o5, b5⟩
  obtain ⟨a5, c5, rfl, _, _, k5⟩ := Mine.made o5
  have t5 := t4.trans (b5.mono t4.size)
  have HL5 := hide (HL4.out.below b5 HL4.out.lt)
  have HM5 := hide (HM4.out.below b5 HM4.out.lt)
  have z5 := b5.size
  have K5 := hide k5
  clear o5 k5 b5 t4 HL4 HM4
  go_wp2_with fail
  refine (between_any _ _ _ _ _ _ xs ys w5 (by omega) (by omega) (by omega) ha hb HL5.out.row HM5.out.row A8.out B8'.out).mono ?_
  rintro e w6 ⟨v6, rfl, o6, b6⟩
  obtain ⟨a6, c6, rfl, _, _, k6⟩ := Mine.made o6
  have t6 := t5.trans (b6.mono t5.size)
  have HL6 := hide (HL5.out.below b6 HL5.out.lt)
  have HM6 := hide (HM5.out.below b6 HM5.out.lt)
  have K5' := hide (K5.out.below b6)
  have z6 := b6.size
  have K6 := hide k6
  clear o6 k6 b6 t5 HL5 HM5 K5
  go_wp2_with fail
  refine (rbetween_any a b la ca lb cb xs ys w6 (by omega) (by omega) (by omega) ha hb (RA.out.below2 t6) (RB.out.below2 t6)).mono ?_
  rintro e w7 ⟨v7, rfl, o7, b7⟩
  obtain ⟨a7, c7, rfl, _, _, k7⟩ := Mine.made o7
  have t7 := t6.trans (b7.mono t6.size)
  have HL7 := hide (HL6.out.below b7 HL6.out.lt)
  have HM7 := hide (HM6.out.below b7 HM6.out.lt)
  have K57 := hide (K5'.out.below b7)
  have K67 := hide (K6.out.below b7)
  have z7 := b7.size
  have K7 := hide k7
  clear o7 k7 b7 t6 HL6 HM6 K5' K6
  go_wp2_with fail
  refine (after_any _ _ _ xs w7 (by omega) (by omega) (by intro h; cases h) ha HL7.out.row A8.out).mono ?_
  rintro e w8 ⟨v8, rfl, o8, b8⟩
  obtain ⟨a8', c8, rfl, _, _, k8⟩ := Mine.made o8
  have t8 := t7.trans (b8.mono t7.size)
  have HL8 := hide (HL7.out.below b8 HL7.out.lt)
  have HM8 := hide (HM7.out.below b8 HM7.out.lt)
  have K58 := hide (K57.out.below b8)
  have K68 := hide (K67.out.below b8)
  have K78 := hide (K7.out.below b8)
  have z8 := b8.size
  have K8 := hide k8
  clear o8 k8 b8 t7 HL7 HM7 K57 K67 K7
  go_wp2_with fail
  refine (after_any _ _ _ xs w8 (by omega) (by omega) (by intro h; cases h) ha HL8.out.row A8.out).mono ?_
  rintro e w9 ⟨v9, rfl, o9, b9⟩
  obtain ⟨a9, c9, rfl, _, _, k9⟩ := Mine.made o9
  have t9 := t8.trans (b9.mono t8.size)
  have HL9 := hide (HL8.out.below b9 HL8.out.lt)
  have HM9 := hide (HM8.out.below b9 HM8.out.lt)
  have K59 := hide (K58.out.below b9)
  have K69 := hide (K68.out.below b9)
  have K79 := hide (K78.out.below b9)
  have K89 := hide (K8.out.below b9)
  have z9 := b9.size
  have K9 := hide k9
  clear o9 k9 b9 t8 HL8 HM8 K58 K68 K78 K8
  go_wp2_with fail
  refine (rafter_any a la ca xs w9 (by omega) (by omega) NA.out ha (RA.out.below2 t9) A8.out).mono ?_
  rintro e wA ⟨vA, rfl, oA, bA⟩
  obtain ⟨aA, cA, rfl, _, _, kA⟩ := Mine.made oA
  have tA := t9.trans (bA.mono t9.size)
  have HLA := hide (HL9.out.below bA HL9.out.lt)
  have HMA := hide (HM9.out.below bA HM9.out.lt)
  have K5A := hide (K59.out.below bA)
  have K6A := hide (K69.out.below bA)
  have K7A := hide (K79.out.below bA)
  have K8A := hide (K89.out.below bA)
  have K9A := hide (K9.out.below bA)
  have zA := bA.size
  have KA := hide kA
  clear oA kA bA t9 HL9 HM9 K59 K69 K79 K89 K9
  go_wp2_with fail
  refine (SM.out _ _ _ _ _ _ (by omega) K5A.out.row K7A.out.row).mono ?_
  rintro e wB ⟨rfl, sB⟩
  have bB := sB.below wA.heap.size
  have tB := tA.trans (bB.mono tA.size)
  have HLB := hide (HLA.out.below bB HLA.out.lt)
  have HMB := hide (HMA.out.below bB HMA.out.lt)
  have K5B := hide (K5A.out.below bB)
  have K6B := hide (K6A.out.below bB)
  have K7B := hide (K7A.out.below bB)
  have K8B := hide (K8A.out.below bB)
  have K9B := hide (K9A.out.below bB)
  have KAB := hide (KA.out.below bB)
  have zB := bB.size
  clear sB bB tA HLA HMA K5A K6A K7A K8A K9A KA
  go_wp2_with fail
  refine (SM.out _ _ _ _ _ _ (by omega) K8B.out.row KAB.out.row).mono ?_
  rintro e wC ⟨rfl, sC⟩
  have bC := sC.below wB.heap.size
  have tC := tB.trans (bC.mono tB.size)
  have HLC := hide (HLB.out.below bC HLB.out.lt)
  have HMC := hide (HMB.out.below bC HMB.out.lt)
  have K5C := hide (K5B.out.below bC)
  have K6C := hide (K6B.out.below bC)
  have K7C := hide (K7B.out.below bC)
  have K8C := hide (K8B.out.below bC)
  have K9C := hide (K9B.out.below bC)
  have KAC := hide (KAB.out.below bC)
  have zC := bC.size
  clear sC bC tB HLB HMB K5B K6B K7B K8B K9B KAB
  go_wp2_with fail
  refine (spoil_any K5C.out.own).mono ?_
  rintro e wD ⟨rfl, gD⟩
  have zD := gD.size
  have G1' := G1.out
  have bD : Below w.heap.size wC wD := K5C.out.grown gD (by omega) (by omega)
  have tD := tC.trans bD
  have HLD := hide (HLC.out.mine K5C.out gD (by omega))
  have HMD := hide (HMC.out.mine K5C.out gD (by omega))
  have K6D := hide (K6C.out.kept K5C.out gD (by omega))
  have K7D := hide (K7C.out.kept K5C.out gD (by omega))
  have K8D := hide (K8C.out.kept K5C.out gD (by omega))
  have K9D := hide (K9C.out.kept K5C.out gD (by omega))
  have KAD := hide (KAC.out.kept K5C.out gD (by omega))
  clear gD bD tC HLC HMC K5C K6C K7C K8C K9C KAC
  go_wp2_with fail
  refine (spoil_any K8D.out.own).mono ?_
  rintro e wE ⟨rfl, gE⟩
  have zE := gE.size
  have bE : Below w.heap.size wD wE := K8D.out.grown gE (by omega) (by omega)
  have tE := tD.trans bE
  have HLE := hide (HLD.out.mine K8D.out gE (by omega))
  have HME := hide (HMD.out.mine K8D.out gE (by omega))
  have K6E := hide (K6D.out.kept K8D.out gE (by omega))
  have K7E := hide (K7D.out.kept K8D.out gE (by omega))
  have K9E := hide (K9D.out.kept K8D.out gE (by omega))
  have KAE := hide (KAD.out.kept K8D.out gE (by omega))
  clear gE bE tD HLD HMD K6D K7D K8D K9D KAD
  go_wp2_with fail
  refine (SM.out _ _ _ _ _ _ (by omega) K6E.out.row K7E.out.row).mono ?_
  rintro e wF ⟨rfl, sF⟩
  have bF := sF.below wE.heap.size
  have tF := tE.trans (bF.mono tE.size)
  have HLF := hide (HLE.out.below bF HLE.out.lt)
  have HMF := hide (HME.out.below bF HME.out.lt)
  have K9F := hide (K9E.out.below bF)
  have KAF := hide (KAE.out.below bF)
  clear sF bF tE HLE HME K6E K7E K9E KAE
  go_wp2_with fail
  refine (SM.out _ _ _ _ _ _ (by omega) K9F.out.row KAF.out.row).mono ?_
  rintro e wG ⟨rfl, sG⟩
  have bG := sG.below wF.heap.size
  have tG := tF.trans (bG.mono tF.size)
  have HLG := hide (HLF.out.below bG HLF.out.lt)
  have HMG := hide (HMF.out.below bG HMF.out.lt)
  clear sG bG tF HLF HMF K9F KAF
  go_wp2_with fail
  refine (kept_any g1 a la ca xs wG ha (by omega) HLG.out (RA.out.below2 tG)).mono ?_
  rintro e wH ⟨rfl, sH⟩
  have bH := sH.below wG.heap.size
  have tH := tG.trans (bH.mono tG.size)
  have HMH := hide (HMG.out.below bH HMG.out.lt)
  clear sH bH tG HLG HMG
  go_wp2_with fail
  refine (kept_any g2 b lb cb ys wH hb (by omega) HMH.out (RB.out.below2 tH)).mono ?_
  rintro e wI ⟨rfl, sI⟩
  have bI := sI.below wH.heap.size
  have tI := tH.trans (bI.mono tH.size)
  clear sI bI tH HMH
  go_wp2_with fail
  refine (rcompare_any a b la ca lb cb xs ys wI (by unfold maxLen; omega) (by unfold maxLen; omega) ha hb (RA.out.below2 tI) (RB.out.below2 tI)).mono ?_
  rintro e wJ ⟨rfl, mJ, hwJ⟩
  have tJ : Below w.heap.size w wJ := by rw [hwJ]; exact drewK tI mJ
  clear hwJ
  go_wp2_with fail
  refine (rcommon_any a b la ca lb cb xs ys wJ (by unfold maxLen; omega) (by unfold maxLen; omega) ha hb (RA.out.below2 tJ) (RB.out.below2 tJ)).mono ?_
  rintro e wK ⟨rfl, mK, hwK⟩
  have tK : Below w.heap.size w wK := by rw [hwK]; exact drewK tJ mK
  clear hwK
  go_wp2_with fail
  go_ret
  exact ⟨rfl, tK⟩

end Go.Proofs.Ytfcjbibnjibijaa
