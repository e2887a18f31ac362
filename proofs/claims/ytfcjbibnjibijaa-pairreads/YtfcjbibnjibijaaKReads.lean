/- PairReads: the walk. -/
import Derived.Test.YtfcjbibnjibijaaKRRead
import Derived.Test.YtfcjbibnjibijaaKSame
import Derived.Test.YtfcjbibnjibijaaKLives
import Derived.Test.YtfcjbibnjibijaaCSpoil
import Derived.Test.YtfcjbibnjibijaaLent
namespace Go.Proofs.Ytfcjbibnjibijaa
open Go.RowKit

/-! ### Read at any place -/
def gE (xs zs : List Int) (p : Int) : Int := if p < 0 ∨ (zs.length : Int) < p then 1 else rEr xs zs p.toNat
def gP (xs zs : List Int) (p : Int) : Nat := if p < 0 ∨ (zs.length : Int) < p then 0 else rPl xs zs p.toNat
def gK (xs zs : List Int) (p : Int) : List Int := if p < 0 ∨ (zs.length : Int) < p then [] else rKy xs zs p.toNat
def gV (xs zs : List Int) (p : Int) : List Int := if p < 0 ∨ (zs.length : Int) < p then [] else rVl xs zs p.toNat
theorem read_all (a b : Option Addr) (la ca lb cb : Nat) (p : Int) (xs zs : List Int) (w : World) (h1 : xs.length = la) (h2 : zs.length = lb) (m1 : la ≤ 140737488351232) (m2 : lb ≤ 140737488351232) (hca : la ≤ ca) (hcb : lb ≤ cb) (r1 : Row w .u8 a xs) (r2 : Row w .u8 b zs) (x8 : B8 xs) (z8 : B8 zs) (nb : b = none → lb = 0 ∧ cb = 0) :
    Calls Try.prog 11 #[.slice a la ca, .slice b lb cb, .int .i64 p] w (RdPost w (gK xs zs p) (gV xs zs p) (gP xs zs p) (gE xs zs p)) := by
  unfold gK gV gP gE
  by_cases hp : p < 0 ∨ (lb : Int) < p
  · rw [h2, if_pos hp, if_pos hp, if_pos hp, if_pos hp]
    exact read_out a b la ca lb cb p w hp
  · rw [h2, if_neg hp, if_neg hp, if_neg hp, if_neg hp]
    obtain ⟨q, rfl⟩ := Int.eq_ofNat_of_zero_le (show 0 ≤ p by omega)
    exact read_in a b la ca lb cb q xs zs w h1 h2 m1 m2 hca hcb (by omega) r1 r2 x8 z8 nb
theorem rrd_all (a b : Option Addr) (la ca lb cb : Nat) (p : Int) (xs zs : List Int) (w : World) (h1 : xs.length = la) (h2 : zs.length = lb) (m1 : la ≤ 140737488351232) (m2 : lb ≤ 140737488351232) (hca : la ≤ ca) (hcb : lb ≤ cb) (r1 : Row w .u8 a xs) (r2 : Row w .u8 b zs) (z8 : B8 zs) (na : a = none → la = 0 ∧ ca = 0) (nb : b = none → lb = 0 ∧ cb = 0) :
    Calls Try.prog 36 #[.slice a la ca, .slice b lb cb, .int .i64 p] w (RRPost w (gK xs zs p) (gV xs zs p) (gP xs zs p) (gE xs zs p)) := by
  unfold gK gV gP gE
  by_cases hp : p < 0 ∨ (lb : Int) < p
  · rw [h2, if_pos hp, if_pos hp, if_pos hp, if_pos hp]
    exact rrd_out a b la ca lb cb p w hp
  · rw [h2, if_neg hp, if_neg hp, if_neg hp, if_neg hp]
    obtain ⟨q, rfl⟩ := Int.eq_ofNat_of_zero_le (show 0 ≤ p by omega)
    exact rrd_in a b la ca lb cb q xs zs w h1 h2 m1 m2 hca hcb (by omega) r1 r2 z8 na nb

theorem Lent.keptL {w w' : World} {g : Nat} {zs : List Int} {row : Option Nat} (h : Lent w g zs) (hg : w.grownBy w' row) (hne : some g ≠ row) : Lent w' g zs :=
  fun i hi => hg.cell (h i hi) hne
theorem E2.keptE {w w' : World} {g : Nat} {k v : Value} {row : Option Nat} (h : E2 w g k v) (hg : w.grownBy w' row) (hne : some g ≠ row) : E2 w' g k v := (hg.block g (lt_of_block h) hne).trans h

set_option maxRecDepth 100000 in
set_option maxHeartbeats 6400000 in
theorem pairReads_any (a b d : Option Addr) (la ca lb cb ld cd : Nat) (xs zs ps : List Int) (w : World) (ha : xs.length = la) (hb : zs.length = lb) (hd : ps.length = ld) (hma : la ≤ 140737488351232) (hmb : lb ≤ 140737488351232) (hmd : ld ≤ 140737488351232) (hca : la ≤ ca) (hcb : lb ≤ cb) (na : a = none → la = 0 ∧ ca = 0) (nb : b = none → lb = 0 ∧ cb = 0)
    (ra : Row w .u8 a xs) (rb : Row w .u8 b zs) (rd : Row w .i64 d ps) (a8 : B8 xs) (b8 : B8 zs) :
    Calls Try.prog 7 #[.slice a la ca, .slice b lb cb, .slice d ld cd] w fun e w' => e = .returned (.bool true) ∧ Below w.heap.size w w' := by
  have RA : Hid (∀ W, Below w.heap.size w W → Row W .u8 a xs) := fun W h => ra.below2 h
  have RB : Hid (∀ W, Below w.heap.size w W → Row W .u8 b zs) := fun W h => rb.below2 h
  have RD : Hid (∀ W, Below w.heap.size w W → Row W .i64 d ps) := fun W h => rd.below2 h
  have NA := hide na
  have NB := hide nb
  have A8 := hide a8
  have B8' := hide b8
  clear ra rb rd na nb a8 b8
  go_enter Try.func7, Try.ntmps7
  go_wp2_with fail
  refine (lives_any _).mono ?_
  rintro e w1 ⟨rfl, t1⟩
  go_wp2_with fail
  refine (lent_any a la ca xs w1 ha (by omega) NA.out (RA.out _ t1)).mono ?_
  rintro e w2 ⟨rfl, hL2, b2⟩
  have t2 := t1.trans (b2.mono t1.size)
  have G1 : Hid (w.heap.size ≤ w1.heap.size) := t1.size
  generalize w1.heap.size = g1 at *
  have HL2 := hide hL2
  clear hL2 t1 b2
  go_wp2_with fail
  refine (lent_any b lb cb zs w2 hb (by omega) NB.out (RB.out _ t2)).mono ?_
  rintro e w3 ⟨rfl, hM3, b3⟩
  have t3 := t2.trans (b3.mono t2.size)
  have G2 : Hid (w.heap.size ≤ w2.heap.size) := t2.size
  have HL3 := hide (HL2.out.below b3 HL2.out.lt)
  generalize w2.heap.size = g2 at *
  have HM3 := hide hM3
  clear hM3 t2 b3 HL2
  go_wp2_with fail
  go_loopw [10] (fun q wr => ∃ j : Nat, j ≤ ld ∧ q = .int .i64 (j : Int) ∧ Hid (Lent wr g1 xs ∧ Lent wr g2 zs ∧ Below w.heap.size w wr)) (fun q _ => ld - (intOf q).toNat)
  case atStart => exact ⟨0, by omega, rfl, HL3.out, HM3.out, t3⟩
  case round =>
    obtain ⟨j, hj, rfl, HW⟩ := hrel
    have tr := HW.out.2.2
    have LR := hide HW.out.1
    have MR := hide HW.out.2.1
    clear HW HL3 HM3 t3
    by_cases hlt : j < ld
    · have i1 : (j : Int) < (ld : Int) := by omega
      obtain ⟨pb, po, rfl, hcell⟩ := RD.out wr tr j (by omega)
      have hpb : pb < wr.heap.size := World.block_lt_of_cell? wr ⟨pb, po + j, none⟩ hcell
      have RE := hide (read_all (some ⟨g1, 0, none⟩) (some ⟨g2, 0, none⟩) la (la + 2) lb (lb + 2) (ps.getD j 0) xs zs wr ha hb hma hmb (by omega) (by omega) LR.out.row MR.out.row A8.out B8'.out (fun h => by cases h))
      have RR := hide (fun (W : World) (h : Below w.heap.size w W) => rrd_all a b la ca lb cb (ps.getD j 0) xs zs W ha hb hma hmb hca hcb (RA.out W h) (RB.out W h) B8'.out NA.out NB.out)
      generalize gK xs zs (ps.getD j 0) = K at *
      generalize gV xs zs (ps.getD j 0) = V at *
      generalize gP xs zs (ps.getD j 0) = PL at *
      generalize gE xs zs (ps.getD j 0) = ER at *
      generalize ps.getD j 0 = pj at *
      go_wp2_with fail
      refine RE.out.mono ?_
      rintro e w5 ⟨k5, kc5, v5, vc5, M5, rfl, ok5, ov5, hM5, hM5', hlt5, b5⟩
      have t5 := tr.trans (b5.mono tr.size)
      have L5 := hide (LR.out.below b5 LR.out.lt)
      have M5L := hide (MR.out.below b5 MR.out.lt)
      have LT5 := hide hlt5
      have s5 := b5.size
      have hg1 := LR.out.lt
      have hg2 := MR.out.lt
      have sr := tr.size
      have hc5 := (b5.cell (p := ⟨pb, po + j, none⟩) hpb).trans hcell
      have hc6 : (w5.alloc (.cells #[.slice k5 K.length kc5, .slice v5 V.length vc5] 25)).cell? ⟨pb, po + j, none⟩ = some (.int .i64 pj) := (((Below.refl w5.heap.size w5).alloc (Nat.le_refl _) _).cell (p := ⟨pb, po + j, none⟩) (by show pb < w5.heap.size; omega)).trans hc5
      have OK6 := hide (ok5.below ((Below.refl w5.heap.size w5).alloc (Nat.le_refl _) (.cells #[.slice k5 K.length kc5, .slice v5 V.length vc5] 25)))
      have OV6 := hide (ov5.below ((Below.refl w5.heap.size w5).alloc (Nat.le_refl _) (.cells #[.slice k5 K.length kc5, .slice v5 V.length vc5] 25)))
      have X6 : Hid (E2 (w5.alloc (.cells #[.slice k5 K.length kc5, .slice v5 V.length vc5] 25)) w5.heap.size (.slice k5 K.length kc5) (.slice v5 V.length vc5)) := heap_alloc_new w5 _
      have L6 := hide (L5.out.below ((Below.refl w5.heap.size w5).alloc (Nat.le_refl _) (.cells #[.slice k5 K.length kc5, .slice v5 V.length vc5] 25)) (by omega))
      have M6 := hide (M5L.out.below ((Below.refl w5.heap.size w5).alloc (Nat.le_refl _) (.cells #[.slice k5 K.length kc5, .slice v5 V.length vc5] 25)) (by omega))
      have t6 : Below w.heap.size w (w5.alloc (.cells #[.slice k5 K.length kc5, .slice v5 V.length vc5] 25)) := t5.alloc (by omega) _
      have s6 : (w5.alloc (.cells #[.slice k5 K.length kc5, .slice v5 V.length vc5] 25)).heap.size = w5.heap.size + 1 := by simp
      clear ok5 ov5 hlt5 b5 t5 L5 M5L hc5 LR MR RE hcell
      go_wp2_with fail
      generalize w5.alloc (.cells #[.slice k5 K.length kc5, .slice v5 V.length vc5] 25) = w6 at *
      refine (RR.out w6 t6).mono ?_
      rintro e w7 ⟨k7, kc7, v7, vc7, rfl, rk7, rv7, b7⟩
      have t7 := t6.trans (b7.mono t6.size)
      have s7 := b7.size
      have bA : Below w6.heap.size w6 (w7.alloc (.cells #[.slice k7 K.length kc7, .slice v7 V.length vc7] 25)) := b7.alloc s7 _
      have t8 : Below w.heap.size w (w7.alloc (.cells #[.slice k7 K.length kc7, .slice v7 V.length vc7] 25)) := t6.trans (bA.mono t6.size)
      have OK8 := hide (OK6.out.below bA)
      have OV8 := hide (OV6.out.below bA)
      have X8 := X6.out.below bA
      have L8 := hide (L6.out.below bA L6.out.lt)
      have M8 := hide (M6.out.below bA M6.out.lt)
      have Y8 : E2 (w7.alloc (.cells #[.slice k7 K.length kc7, .slice v7 V.length vc7] 25)) w7.heap.size (.slice k7 K.length kc7) (.slice v7 V.length vc7) := heap_alloc_new w7 _
      have RK8 := hide (rk7.alloc (.cells #[.slice k7 K.length kc7, .slice v7 V.length vc7] 25))
      have RV8 := hide (rv7.alloc (.cells #[.slice k7 K.length kc7, .slice v7 V.length vc7] 25))
      have s8 : (w7.alloc (.cells #[.slice k7 K.length kc7, .slice v7 V.length vc7] 25)).heap.size = w7.heap.size + 1 := by simp
      obtain ⟨x0, x1⟩ := X8.cells
      obtain ⟨y0, y1⟩ := Y8.cells
      have XX8 := hide X8
      have SMQ := hide (rsame_eq k5 k7 v5 v7 K.length kc5 kc7 V.length vc5 vc7 K V (w7.alloc (.cells #[.slice k7 K.length kc7, .slice v7 V.length vc7] 25)) rfl rfl OK8.out.row RK8.out OV8.out.row RV8.out)
      clear rk7 rv7 b7 t7 bA OK6 OV6 X6 X8 Y8 L6 M6 RK8 RV8 RR hc6
      go_wp2_with fail
      generalize w7.alloc (.cells #[.slice k7 K.length kc7, .slice v7 V.length vc7] 25) = w8 at *
      refine SMQ.out.mono ?_
      rintro e w9 ⟨rfl, b9⟩
      have t9 := t8.trans (b9.mono t8.size)
      have s9 := b9.size
      have OK9 := hide (OK8.out.below b9)
      have OV9 := hide (OV8.out.below b9)
      have X9 := XX8.out.below b9
      have L9 := hide (L8.out.below b9 L8.out.lt)
      have M9 := hide (M8.out.below b9 M8.out.lt)
      obtain ⟨z0, z1⟩ := X9.cells
      have XX9 := hide X9
      clear b9 t8 OK8 OV8 X9 XX8 L8 M8 x0 x1 y0 y1 SMQ
      go_wp2_with fail
      refine (spoil_any OK9.out).mono ?_
      rintro e wA ⟨rfl, gA⟩
      have hkb : ∀ i, (Value.slice k5 K.length kc5).ownBlock = some i → wr.heap.size ≤ i ∧ i < M5 := fun i hi => ⟨(OK9.out.owns.lt i hi).1, LT5.out i hi⟩
      have tA : Below w.heap.size w wA := t9.grown gA t9.size (fun i hi => by have := hkb i hi; omega)
      have LA := hide (L9.out.keptL gA (fun e => by have := hkb g1 e.symm; omega))
      have MA := hide (M9.out.keptL gA (fun e => by have := hkb g2 e.symm; omega))
      have XA := XX9.out.keptE gA (fun e => by have := hkb _ e.symm; omega)
      have OVA := hide (OV9.out.kept gA (fun i hi e => by have := (OV9.out.owns.lt i hi).1; have := hkb i e.symm; omega))
      have sA := gA.size
      obtain ⟨q0, q1⟩ := XA.cells
      clear gA t9 OK9 OV9 L9 M9 XX9 z0 z1 hkb XA
      go_wp2_with fail
      refine (spoil_any OVA.out).mono ?_
      rintro e wB ⟨rfl, gB⟩
      have hvb : ∀ i, (Value.slice v5 V.length vc5).ownBlock = some i → M5 ≤ i := fun i hi => (OVA.out.owns.lt i hi).1
      have tB : Below w.heap.size w wB := tA.grown gB tA.size (fun i hi => by have := hvb i hi; omega)
      have LB := hide (LA.out.keptL gB (fun e => by have := hvb g1 e.symm; omega))
      have MB := hide (MA.out.keptL gB (fun e => by have := hvb g2 e.symm; omega))
      clear gB tA OVA LA MA hvb q0 q1
      go_wp2_with fail
      refine (kept_any g1 a la ca xs wB ha (by omega) LB.out (RA.out _ tB)).mono ?_
      rintro e wC ⟨rfl, sC⟩
      have bC := sC.below wB.heap.size
      have tC := tB.trans (bC.mono tB.size)
      have LC := hide (LB.out.below bC LB.out.lt)
      have MC := hide (MB.out.below bC MB.out.lt)
      clear sC bC tB LB MB
      go_wp2_with fail
      refine (kept_any g2 b lb cb zs wC hb (by omega) MC.out (RB.out _ tC)).mono ?_
      rintro e wD ⟨rfl, sD⟩
      have bD := sD.below wC.heap.size
      have tD := tC.trans (bD.mono tC.size)
      have LD := hide (LC.out.below bD LC.out.lt)
      have MD := hide (MC.out.below bD MC.out.lt)
      clear sD bD tC LC MC
      go_wp2_with fail
      go_roundw
      case rel => exact ⟨j + 1, by omega, by go_num, LD.out, MD.out, tD⟩
      case measure => simp [intOf]; omega
    · have i1 : ¬ (j : Int) < (ld : Int) := by omega
      go_wp2_with fail
      go_ret
      exact ⟨rfl, tr⟩

end Go.Proofs.Ytfcjbibnjibijaa
