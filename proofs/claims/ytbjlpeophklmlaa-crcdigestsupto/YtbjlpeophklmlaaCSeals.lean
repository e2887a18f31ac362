/- CrcSeals: the walk. -/
import Derived.Test.YtbjlpeophklmlaaCRSeal
import Derived.Test.YtbjlpeophklmlaaCSpoil
import Derived.Test.YtbjlpeophklmlaaLent
namespace Go.Proofs.Ytbjlpeophklmlaa
open Go.RowKit

theorem sealed_open (zs : List Int) : opErr (zs ++ spell (sumOf zs)) = 0 ∧ opVal (zs ++ spell (sumOf zs)) = zs := by
  have hl0 : (zs ++ spell (sumOf zs)).length = zs.length + 4 := by rw [List.length_append, spell_len]
  have e1 : opErr (zs ++ spell (sumOf zs)) = 0 := by
    unfold opErr
    rw [if_neg (by omega), show (zs ++ spell (sumOf zs)).length - 4 = zs.length by omega, List.take_left, List.drop_left, if_pos rfl]
  exact ⟨e1, by unfold opVal; rw [e1, if_pos rfl, hl0, Nat.add_sub_cancel, List.take_left]⟩
theorem opVal_le (zs : List Int) : (opVal zs).length ≤ zs.length := by
  unfold opVal
  split
  · rw [List.length_take]; omega
  · simp
theorem Lent.kept {w w' : World} {g : Nat} {zs : List Int} {row : Option Nat} (h : Lent w g zs) (hg : w.grownBy w' row) (hne : some g ≠ row) : Lent w' g zs :=
  fun i hi => hg.cell (h i hi) hne
theorem Still.own {w w' : World} {base : Nat} {e : TypeId} {v : Value} {zs : List Int} (hs : Still w w') (h : OwnB w base e v zs) : OwnB w' base e v zs := h.blk fun k _ => by rw [hs.heap]
theorem Still.lent {w w' : World} {g : Nat} {zs : List Int} (hs : Still w w') (h : Lent w g zs) : Lent w' g zs := fun i hi => (hs.cell _).trans (h i hi)

set_option maxRecDepth 100000 in
set_option maxHeartbeats 3200000 in
theorem crcSeals_any (a : Option Addr) (len cap : Nat) (zs : List Int) (w : World) (hl : zs.length = len) (hc : len ≤ cap) (hm : len ≤ 140737488351232) (hnone : a = none → len = 0 ∧ cap = 0) (hr : Row w .u8 a zs) (h8 : B8 zs) :
    Calls Try.prog 6 #[.slice a len cap] w fun e w' => e = .returned (.bool true) ∧ Below w.heap.size w w' := by
  have HR := hide hr
  have HN := hide hnone
  clear hr hnone
  have hlT : (zs ++ spell (sumOf zs)).length = len + 4 := by rw [List.length_append, spell_len, hl]
  have HSO := hide (sealed_open zs)
  have h8T : B8 (zs ++ spell (sumOf zs)) := h8.append (spell_b8 _)
  have SE : Hid (∀ W a c, (a = none → len = 0 ∧ c = 0) → Row W .u8 a zs → Calls Try.prog 21 #[.slice a len c] W fun e w' => ∃ v, e = .returned v ∧ OwnB w' W.heap.size 5 v (zs ++ spell (sumOf zs)) ∧ Below W.heap.size W w') := fun W a c hn h => seal_any a len c zs W hl hm hn h h8
  have RS : Hid (∀ W, Row W .u8 a zs → Calls Try.prog 23 #[.slice a len cap] W fun e w' => ∃ v, e = .returned v ∧ OwnB w' W.heap.size 5 v (zs ++ spell (sumOf zs)) ∧ Below W.heap.size W w') := fun W h => rseal_any a len cap zs W hl hm HN.out h h8
  have OP : Hid (∀ W a c, len ≤ c → Row W .u8 a zs → Calls Try.prog 12 #[.slice a len c] W fun e w' => ∃ v, e = .returned (.tuple #[v, .int .i64 (opErr zs)]) ∧ OwnB w' W.heap.size 5 v (opVal zs) ∧ Below W.heap.size W w') := fun W a c hc h => open_any a len c zs W hl hc (by omega) h h8
  have RO : Hid (∀ W, Row W .u8 a zs → Calls Try.prog 22 #[.slice a len cap] W fun e w' => ∃ v, e = .returned (.tuple #[v, .int .i64 (opErr zs)]) ∧ OwnB w' W.heap.size 5 v (opVal zs) ∧ Below W.heap.size W w') := fun W h => ropen_any a len cap zs W hl hc (by omega) h h8
  have hvl := opVal_le zs
  rw [hl] at hvl
  obtain ⟨nV, hnV⟩ : ∃ nV, (opVal zs).length = nV := ⟨_, rfl⟩
  generalize opVal zs = V at *
  generalize opErr zs = E at *
  generalize zs ++ spell (sumOf zs) = T at *
  have OT : Hid (∀ W a c, len + 4 ≤ c → Row W .u8 a T → Calls Try.prog 12 #[.slice a (len + 4) c] W fun e w' => ∃ v, e = .returned (.tuple #[v, .int .i64 0]) ∧ OwnB w' W.heap.size 5 v zs ∧ Below W.heap.size W w') := fun W a c hc h => by
    have := open_any a (len + 4) c T W hlT hc (by omega) h h8T
    rw [HSO.out.1, HSO.out.2] at this
    exact this
  have SMT : Hid (∀ W a c a' c', Row W .u8 a T → Row W .u8 a' T → Calls Try.prog 14 #[.slice a (len + 4) c, .slice a' (len + 4) c'] W fun e w' => e = .returned (.bool true) ∧ Still W w') := fun W a c a' c' h h' => by
    have := same_any a a' (len + 4) c (len + 4) c' T T W (by unfold maxLen; omega) hlT hlT h h'
    rw [decide_eq_true rfl] at this
    exact this
  have SMV : Hid (∀ W a c a' c', Row W .u8 a V → Row W .u8 a' V → Calls Try.prog 14 #[.slice a nV c, .slice a' nV c'] W fun e w' => e = .returned (.bool true) ∧ Still W w') := fun W a c a' c' h h' => by
    have := same_any a a' nV c nV c' V V W (by unfold maxLen; omega) hnV hnV h h'
    rw [decide_eq_true rfl] at this
    exact this
  have SMZ : Hid (∀ W a c a' c', Row W .u8 a zs → Row W .u8 a' zs → Calls Try.prog 14 #[.slice a len c, .slice a' len c'] W fun e w' => e = .returned (.bool true) ∧ Still W w') := fun W a c a' c' h h' => by
    have := same_any a a' len c len c' zs zs W (by unfold maxLen; omega) hl hl h h'
    rw [decide_eq_true rfl] at this
    exact this
  go_enter Try.func6, Try.ntmps6
  go_wp2_with fail
  refine (lives_any _).mono ?_
  rintro e w1 ⟨rfl, hb1⟩
  go_wp2_with fail
  refine (lent_any a len cap zs w1 hl (by omega) HN.out (HR.out.below2 hb1)).mono ?_
  rintro e w2 ⟨rfl, hL2, hb2⟩
  have hbw2 : Below w.heap.size w w2 := hb1.trans (hb2.mono hb1.size)
  have HL2 := hide hL2
  have hgl : w1.heap.size < w2.heap.size := hL2.lt
  clear hL2 hb2 hb1
  generalize w1.heap.size = g at *
  go_wp2_with fail
  refine (SE.out w2 _ _ (by intro h; cases h) HL2.out.row).mono ?_
  rintro e w3 ⟨vs, rfl, hos, hb3⟩
  obtain ⟨as1, cs, rfl, _, hcs, hbs⟩ := hos.sliceN hlT
  have HOS := hide hos
  have HL3 := hide (HL2.out.below hb3 HL2.out.lt)
  have hbw3 := hbw2.trans (hb3.mono hbw2.size)
  clear hos
  go_wp2_with fail
  refine (SE.out w3 _ _ (by intro h; cases h) HL3.out.row).mono ?_
  rintro e w4 ⟨vt, rfl, hot, hb4⟩
  obtain ⟨at', ct, rfl, _, hct, hbt⟩ := hot.sliceN hlT
  have HOT := hide hot
  have HL4 := hide (HL3.out.below hb4 HL3.out.lt)
  have HOS4 := hide (HOS.out.below hb4)
  have hbw4 := hbw3.trans (hb4.mono hbw3.size)
  clear hot HOS
  go_wp2_with fail
  refine (OP.out w4 _ _ (by omega) HL4.out.row).mono ?_
  rintro e w5 ⟨vo, rfl, hoo, hb5⟩
  obtain ⟨ao, co, rfl, _, _, hbo⟩ := hoo.sliceN hnV
  have HOO := hide hoo
  have HL5 := hide (HL4.out.below hb5 HL4.out.lt)
  have HOS5 := hide (HOS4.out.below hb5)
  have HOT5 := hide (HOT.out.below hb5)
  have hbw5 := hbw4.trans (hb5.mono hbw4.size)
  clear hoo HOS4 HOT
  go_wp2_with fail
  refine (OP.out w5 _ _ (by omega) HL5.out.row).mono ?_
  rintro e w6 ⟨vp, rfl, hop, hb6⟩
  obtain ⟨ap, cp, rfl, _, _, hbp⟩ := hop.sliceN hnV
  have HOP := hide hop
  have HL6 := hide (HL5.out.below hb6 HL5.out.lt)
  have HOS6 := hide (HOS5.out.below hb6)
  have HOT6 := hide (HOT5.out.below hb6)
  have HOO6 := hide (HOO.out.below hb6)
  have hbw6 := hbw5.trans (hb6.mono hbw5.size)
  clear hop HOS5 HOT5 HOO
  go_wp2_with fail
  refine (RO.out w6 (HR.out.below2 hbw6)).mono ?_
  rintro e w7 ⟨vw, rfl, how, hb7⟩
  obtain ⟨aw, cw, rfl, _, _, hbW⟩ := how.sliceN hnV
  have HOW := hide how
  have HL7 := hide (HL6.out.below hb7 HL6.out.lt)
  have HOS7 := hide (HOS6.out.below hb7)
  have HOT7 := hide (HOT6.out.below hb7)
  have HOO7 := hide (HOO6.out.below hb7)
  have HOP7 := hide (HOP.out.below hb7)
  have hbw7 := hbw6.trans (hb7.mono hbw6.size)
  have z2 := hbw2.size
  have z3 := hb3.size
  have z4 := hb4.size
  have z5 := hb5.size
  have z6 := hb6.size
  have z7 := hb7.size
  clear how HOS6 HOT6 HOO6 HOP hbw2 hbw3 hbw4 hbw5 hbw6 HL2 HL3 HL4 HL5 HL6 hb3 hb4 hb5 hb6 hb7
  go_wp2_with fail
  refine (kept_any g a len cap zs w7 hl (by omega) HL7.out (HR.out.below2 hbw7)).mono ?_
  rintro e w8 ⟨rfl, hst8⟩
  have hbw8 := hbw7.trans (hst8.below _)
  go_wp2_with fail
  refine (RS.out w8 (HR.out.below2 hbw8)).mono ?_
  rintro e w9 ⟨vr, rfl, hor, hb9⟩
  obtain ⟨ar, cr, rfl, _, _, _⟩ := hor.sliceN hlT
  have HOS9 := hide ((hst8.own HOS7.out).below hb9)
  have HOT9 := hide ((hst8.own HOT7.out).below hb9)
  have HOO9 := hide ((hst8.own HOO7.out).below hb9)
  have HOP9 := hide ((hst8.own HOP7.out).below hb9)
  have HOW9 := hide ((hst8.own HOW.out).below hb9)
  have HL9 := hide ((hst8.lent HL7.out).below hb9 (hst8.lent HL7.out).lt)
  have hbw9 := hbw8.trans (hb9.mono hbw8.size)
  have z9 : w7.heap.size ≤ w9.heap.size := by have := hb9.size; rw [hst8.heap] at this; exact this
  have hror := hor.row
  clear HOS7 HOT7 HOO7 HOP7 HOW HL7 hst8 hb9 hbw8 hbw7 hor
  go_wp2_with fail
  refine (SMT.out w9 _ _ _ _ HOS9.out.row hror).mono ?_
  rintro e w10 ⟨rfl, hst10⟩
  have HOS10 := hide (hst10.own HOS9.out)
  have HOT10 := hide (hst10.own HOT9.out)
  have HOO10 := hide (hst10.own HOO9.out)
  have HOP10 := hide (hst10.own HOP9.out)
  have HOW10 := hide (hst10.own HOW9.out)
  have HL10 := hide (hst10.lent HL9.out)
  have hbw10 := hbw9.trans (hst10.below _)
  have z10 : w10.heap.size = w9.heap.size := by rw [hst10.heap]
  clear HOS9 HOT9 HOO9 HOP9 HOW9 HL9 hbw9 hst10 hror
  go_wp2_with fail
  refine (SMV.out w10 _ _ _ _ HOO10.out.row HOW10.out.row).mono ?_
  rintro e w11 ⟨rfl, hst11⟩
  have HOS11 := hide (hst11.own HOS10.out)
  have HOT11 := hide (hst11.own HOT10.out)
  have HOO11 := hide (hst11.own HOO10.out)
  have HOP11 := hide (hst11.own HOP10.out)
  have HOW11 := hide (hst11.own HOW10.out)
  have HL11 := hide (hst11.lent HL10.out)
  have hbw11 := hbw10.trans (hst11.below _)
  have z11 : w11.heap.size = w10.heap.size := by rw [hst11.heap]
  clear HOS10 HOT10 HOO10 HOP10 HOW10 HL10 hbw10 hst11
  go_wp2_with fail
  refine (spoil_any HOS11.out).mono ?_
  rintro e w12 ⟨rfl, hg12⟩
  have HOT12 := hide (HOT11.out.kept hg12 (fun k hk h => by have := hbt k hk; have := hbs k h.symm; omega))
  have HOO12 := hide (HOO11.out.kept hg12 (fun k hk h => by have := hbo k hk; have := hbs k h.symm; omega))
  have HOP12 := hide (HOP11.out.kept hg12 (fun k hk h => by have := hbp k hk; have := hbs k h.symm; omega))
  have HOW12 := hide (HOW11.out.kept hg12 (fun k hk h => by have := hbW k hk; have := hbs k h.symm; omega))
  have HL12 := hide (HL11.out.kept hg12 (fun h => by have := hbs g h.symm; omega))
  have hbw12 := hbw11.grown hg12 hbw11.size (fun k h => by have := hbs k h; omega)
  clear HOS11 HOT11 HOO11 HOP11 HOW11 HL11 hg12 hbw11
  go_wp2_with fail
  refine (spoil_any HOO12.out).mono ?_
  rintro e w13 ⟨rfl, hg13⟩
  have HOT13 := hide (HOT12.out.kept hg13 (fun k hk h => by have := hbt k hk; have := hbo k h.symm; omega))
  have HOP13 := hide (HOP12.out.kept hg13 (fun k hk h => by have := hbp k hk; have := hbo k h.symm; omega))
  have HOW13 := hide (HOW12.out.kept hg13 (fun k hk h => by have := hbW k hk; have := hbo k h.symm; omega))
  have HL13 := hide (HL12.out.kept hg13 (fun h => by have := hbo g h.symm; omega))
  have hbw13 := hbw12.grown hg13 hbw12.size (fun k h => by have := hbo k h; omega)
  clear HOT12 HOO12 HOP12 HOW12 HL12 hg13 hbw12 hbs hbo hbt hbp hbW
  go_wp2_with fail
  refine (kept_any g a len cap zs w13 hl (by omega) HL13.out (HR.out.below2 hbw13)).mono ?_
  rintro e w14 ⟨rfl, hst14⟩
  have hbw14 := hbw13.trans (hst14.below _)
  go_wp2_with fail
  refine (RS.out w14 (HR.out.below2 hbw14)).mono ?_
  rintro e w15 ⟨vq, rfl, hoq, hb15⟩
  obtain ⟨aq, cq, rfl, _, _, _⟩ := hoq.sliceN hlT
  have HOT15 := hide ((hst14.own HOT13.out).below hb15)
  have HOP15 := hide ((hst14.own HOP13.out).below hb15)
  have HOW15 := hide ((hst14.own HOW13.out).below hb15)
  have hbw15 := hbw14.trans (hb15.mono hbw14.size)
  have hroq := hoq.row
  clear HOT13 HOP13 HOW13 HL13 hst14 hb15 hbw14 hbw13 hoq
  go_wp2_with fail
  refine (SMT.out w15 _ _ _ _ HOT15.out.row hroq).mono ?_
  rintro e w16 ⟨rfl, hst16⟩
  have HOT16 := hide (hst16.own HOT15.out)
  have HOP16 := hide (hst16.own HOP15.out)
  have HOW16 := hide (hst16.own HOW15.out)
  have hbw16 := hbw15.trans (hst16.below _)
  clear HOT15 HOP15 HOW15 hbw15 hst16 hroq
  go_wp2_with fail
  refine (SMV.out w16 _ _ _ _ HOP16.out.row HOW16.out.row).mono ?_
  rintro e w17 ⟨rfl, hst17⟩
  have HOT17 := hide (hst17.own HOT16.out)
  have hbw17 := hbw16.trans (hst17.below _)
  clear HOT16 HOP16 HOW16 hbw16 hst17
  go_wp2_with fail
  refine (OT.out w17 _ _ hct HOT17.out.row).mono ?_
  rintro e w18 ⟨vb, rfl, hob, hb18⟩
  obtain ⟨ab, cb, rfl, _, _, _⟩ := hob.sliceN hl
  have hbw18 := hbw17.trans (hb18.mono hbw17.size)
  have hrb := hob.row
  clear HOT17 hbw17 hb18 hob
  go_wp2_with fail
  refine (SMZ.out w18 _ _ _ _ hrb (HR.out.below2 hbw18)).mono ?_
  rintro e w19 ⟨rfl, hst19⟩
  go_wp2_with fail
  go_ret
  exact ⟨rfl, hbw18.trans (hst19.below _)⟩

end Go.Proofs.Ytbjlpeophklmlaa
