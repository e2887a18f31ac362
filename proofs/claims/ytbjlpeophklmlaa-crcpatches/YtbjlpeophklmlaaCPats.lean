/- CrcPatches: the walk, over what the two Patches answer; the document's Patch where it refuses. -/
import Derived.Test.YtbjlpeophklmlaaCRPatch
import Derived.Test.YtbjlpeophklmlaaCSeals
namespace Go.Proofs.Ytbjlpeophklmlaa
open Go.RowKit

set_option maxRecDepth 100000 in
set_option maxHeartbeats 1600000 in
theorem rpatch_neg (a : Option Addr) (len cap : Nat) (at' want : Int) (w : World) (h : at' < 0) :
    Calls Try.prog 25 #[.slice a len cap, .int .i64 at', .int .u32 want] w fun e w' => e = .returned (.tuple #[.slice none 0 0, .int .i64 1]) ∧ w' = w := by
  go_enter Try.func25, Try.ntmps25
  go_wp2
  go_ret2
  exact ⟨rfl, rfl⟩
set_option maxRecDepth 100000 in
set_option maxHeartbeats 1600000 in
theorem rpatch_short (a : Option Addr) (len cap : Nat) (at' want : Int) (w : World) (h : ¬ at' < 0) (hs : (len : Int) < 4) :
    Calls Try.prog 25 #[.slice a len cap, .int .i64 at', .int .u32 want] w fun e w' => e = .returned (.tuple #[.slice none 0 0, .int .i64 1]) ∧ w' = w := by
  go_enter Try.func25, Try.ntmps25
  go_wp2
  go_ret2
  exact ⟨rfl, rfl⟩
set_option maxRecDepth 100000 in
set_option maxHeartbeats 1600000 in
theorem rpatch_far (a : Option Addr) (len cap : Nat) (at' want : Int) (w : World) (hl : len ≤ maxLen) (h : ¬ at' < 0) (hs : ¬ (len : Int) < 4) (hf : (len : Int) - 4 < at') :
    Calls Try.prog 25 #[.slice a len cap, .int .i64 at', .int .u32 want] w fun e w' => e = .returned (.tuple #[.slice none 0 0, .int .i64 1]) ∧ w' = w := by
  unfold maxLen at hl
  go_enter Try.func25, Try.ntmps25
  go_wp2
  go_ret2
  exact ⟨rfl, rfl⟩
theorem rpatch_bad (a : Option Addr) (len cap : Nat) (at' want : Int) (w : World) (hl : len ≤ maxLen) (h : at' < 0 ∨ (len : Int) - at' < 4) :
    Calls Try.prog 25 #[.slice a len cap, .int .i64 at', .int .u32 want] w fun e w' => e = .returned (.tuple #[.slice none 0 0, .int .i64 1]) ∧ w' = w := by
  by_cases h0 : at' < 0
  · exact rpatch_neg a len cap at' want w h0
  · by_cases h1 : (len : Int) < 4
    · exact rpatch_short a len cap at' want w h0 h1
    · exact rpatch_far a len cap at' want w hl h0 h1 (by omega)

theorem row_kept {w w' : World} {a : Option Addr} {zs : List Int} {row : Option Nat} (h : Row w .u8 a zs) (hg : w.grownBy w' row) (hne : ∀ k o, a = some ⟨k, o, none⟩ → some k ≠ row) : Row w' .u8 a zs := fun i hi => by
  obtain ⟨b, o, ha, hc⟩ := h i hi
  exact ⟨b, o, ha, hg.cell hc (hne b o ha)⟩
theorem row_still {w w' : World} {a : Option Addr} {zs : List Int} (h : Row w .u8 a zs) (hs : Still w w') : Row w' .u8 a zs := fun i hi => by
  obtain ⟨b, o, ha, hc⟩ := h i hi
  exact ⟨b, o, ha, (hs.cell _).trans hc⟩

set_option maxRecDepth 100000 in
set_option maxHeartbeats 3200000 in
theorem crcPatches_walk (a : Option Addr) (len cap nT : Nat) (at' want E : Int) (zs T : List Int) (w : World) (hl : zs.length = len) (hm : len ≤ 140737488351232) (hnT : T.length = nT) (hTm : nT ≤ maxLen) (hnone : a = none → len = 0 ∧ cap = 0) (hr : Row w .u8 a zs)
    (PA : Hid (∀ W a c, len ≤ c → Row W .u8 a zs → Calls Try.prog 13 #[.slice a len c, .int .i64 at', .int .u32 want] W fun e w' => ∃ v, e = .returned (.tuple #[v, .int .i64 E]) ∧ OwnB w' W.heap.size 5 v T ∧ Below W.heap.size W w'))
    (RA : Hid (∀ W, Row W .u8 a zs → Calls Try.prog 25 #[.slice a len cap, .int .i64 at', .int .u32 want] W fun e w' => ∃ az c, e = .returned (.tuple #[.slice az nT c, .int .i64 E]) ∧ (∀ k o, az = some ⟨k, o, none⟩ → W.heap.size ≤ k) ∧ Row w' .u8 az T ∧ Below W.heap.size W w')) :
    Calls Try.prog 7 #[.slice a len cap, .int .i64 at', .int .u32 want] w fun e w' => e = .returned (.bool true) ∧ Below w.heap.size w w' := by
  have HR := hide hr
  have HN := hide hnone
  clear hr hnone
  have SMT : Hid (∀ W a c a' c', Row W .u8 a T → Row W .u8 a' T → Calls Try.prog 14 #[.slice a nT c, .slice a' nT c'] W fun e w' => e = .returned (.bool true) ∧ Still W w') := fun W a c a' c' h h' => by
    have := same_any a a' nT c nT c' T T W hTm hnT hnT h h'
    rw [decide_eq_true rfl] at this
    exact this
  go_enter Try.func7, Try.ntmps7
  go_wp2_with fail
  refine (lives_any _).mono ?_
  rintro e w1 ⟨rfl, hb1⟩
  go_wp2_with fail
  refine (lent_any a len cap zs w1 hl (by omega) HN.out (HR.out.below2 hb1)).mono ?_
  rintro e w2 ⟨rfl, hL2, hb2⟩
  have hbw2 : Below w.heap.size w w2 := hb1.trans (hb2.mono hb1.size)
  have HL2 := hide hL2
  have hgl : w1.heap.size < w2.heap.size := hL2.lt
  clear hL2 hb2 hb1
  generalize w1.heap.size = g at *
  go_wp2_with fail
  refine (PA.out w2 _ _ (by omega) HL2.out.row).mono ?_
  rintro e w3 ⟨vs, rfl, hos, hb3⟩
  obtain ⟨as1, cs, rfl, _, hcs, hbs⟩ := hos.sliceN hnT
  have HOS := hide hos
  have HL3 := hide (HL2.out.below hb3 HL2.out.lt)
  have hbw3 := hbw2.trans (hb3.mono hbw2.size)
  clear hos
  go_wp2_with fail
  refine (PA.out w3 _ _ (by omega) HL3.out.row).mono ?_
  rintro e w4 ⟨vt, rfl, hot, hb4⟩
  obtain ⟨at'', ct, rfl, _, hct, hbt⟩ := hot.sliceN hnT
  have HOT := hide hot
  have HL4 := hide (HL3.out.below hb4 HL3.out.lt)
  have HOS4 := hide (HOS.out.below hb4)
  have hbw4 := hbw3.trans (hb4.mono hbw3.size)
  clear hot HOS
  go_wp2_with fail
  refine (RA.out w4 (HR.out.below2 hbw4)).mono ?_
  rintro e w5 ⟨az, cz, rfl, hgz, hrz, hb5⟩
  have HZ5 := hide hrz
  have HGZ := hide hgz
  have HL5 := hide (HL4.out.below hb5 HL4.out.lt)
  have HOS5 := hide (HOS4.out.below hb5)
  have HOT5 := hide (HOT.out.below hb5)
  have hbw5 := hbw4.trans (hb5.mono hbw4.size)
  have z2 := hbw2.size
  have z3 := hb3.size
  have z4 := hb4.size
  have z5 := hb5.size
  clear hrz hgz HOS4 HOT hbw2 hbw3 hbw4 HL2 HL3 HL4 hb3 hb4 hb5
  go_wp2_with fail
  refine (SMT.out w5 _ _ _ _ HOS5.out.row HZ5.out).mono ?_
  rintro e w6 ⟨rfl, hst6⟩
  have HOS6 := hide (hst6.own HOS5.out)
  have HOT6 := hide (hst6.own HOT5.out)
  have HZ6 := hide (row_still HZ5.out hst6)
  have HL6 := hide (hst6.lent HL5.out)
  have hbw6 := hbw5.trans (hst6.below _)
  clear HOS5 HOT5 HZ5 HL5 hbw5 hst6
  go_wp2_with fail
  refine (spoil_any HOS6.out).mono ?_
  rintro e w7 ⟨rfl, hg7⟩
  have HOT7 := hide (HOT6.out.kept hg7 (fun k hk h => by have := hbt k hk; have := hbs k h.symm; omega))
  have HZ7 := hide (row_kept HZ6.out hg7 (fun k o hk h => by have := HGZ.out k o hk; have := hbs k h.symm; omega))
  have HL7 := hide (HL6.out.kept hg7 (fun h => by have := hbs g h.symm; omega))
  have hbw7 := hbw6.grown hg7 hbw6.size (fun k h => by have := hbs k h; omega)
  clear HOS6 HOT6 HZ6 HL6 hg7 hbw6 hbs hbt
  go_wp2_with fail
  refine (SMT.out w7 _ _ _ _ HOT7.out.row HZ7.out).mono ?_
  rintro e w8 ⟨rfl, hst8⟩
  have HL8 := hide (hst8.lent HL7.out)
  have hbw8 := hbw7.trans (hst8.below _)
  clear HOT7 HZ7 HL7 hbw7 hst8
  go_wp2_with fail
  refine (kept_any g a len cap zs w8 hl (by omega) HL8.out (HR.out.below2 hbw8)).mono ?_
  rintro e w9 ⟨rfl, hst9⟩
  go_wp2_with fail
  go_ret
  exact ⟨rfl, hbw8.trans (hst9.below _)⟩

end Go.Proofs.Ytbjlpeophklmlaa
