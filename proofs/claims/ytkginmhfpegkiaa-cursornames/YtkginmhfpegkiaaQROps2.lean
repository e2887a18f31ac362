/- The document's In: Byte, End. -/
import Derived.Test.YtkginmhfpegkiaaQROps
namespace Go.Proofs.Ytkginmhfpegkiaa
open Go.RowKit

theorem byte_bytes {σ : Type} {RD : Nat → σ → Int × Int × List Int × σ} (x : InS σ) : byteP RD x = if (bytesP RD 1 x).2.1 ≠ 0 then (0, (bytesP RD 1 x).2.1, (bytesP RD 1 x).2.2) else ((bytesP RD 1 x).1.getD 0 0, 0, (bytesP RD 1 x).2.2) := by
  unfold byteP bytesP
  by_cases he : x.err ≠ 0
  · rw [if_pos he, if_pos he, if_pos he]
  · rw [if_neg he, if_neg he, if_neg (show ¬ (1 : Int) < 0 by decide), show (1 : Int).toNat = 1 from rfl]
    by_cases h : (takeP RD 1 x).2.1 ≠ 0
    · rw [if_pos h, if_pos h, if_pos h]
    · rw [if_neg h, if_neg h, if_neg (by simp)]
theorem bytes1_len {σ : Type} {RD : Nat → σ → Int × Int × List Int × σ} {cnt m vol : σ → Nat} {f : FuncId} {recv : Value} {B : Nat} {Rd : World → σ → (Nat → Prop) → Prop} (X : RFam RD cnt m vol f recv B Rd) (x : InS σ) (C l : Nat) (hok : InOk cnt m vol C l x) (h : (bytesP RD 1 x).2.1 = 0) : (bytesP RD 1 x).1.length = 1 := by
  unfold bytesP at *
  by_cases he : x.err ≠ 0
  · rw [if_pos he] at h
    exact absurd h he
  · rw [if_neg he, if_neg (show ¬ (1 : Int) < 0 by decide), show (1 : Int).toNat = 1 from rfl] at *
    by_cases h2 : (takeP RD 1 x).2.1 ≠ 0
    · rw [if_pos h2] at h
      exact absurd h h2
    · rw [if_neg h2]
      exact ((take_ok X 1 x C l hok (by simpa using he)).ok (by simpa using h2)).1

set_option maxRecDepth 100000 in
set_option maxHeartbeats 1600000 in
theorem rbyte_any {σ : Type} {RD : Nat → σ → Int × Int × List Int × σ} {cnt m vol : σ → Nat} {B g2 : Nat} {Rd : World → σ → (Nat → Prop) → Prop} (X : RFam RD cnt m vol 66 (.pointer (some ⟨g2, 0, none⟩)) B Rd)
    (W : World) (g most : Nat) (x : InS σ) (F : Nat → Prop) (C l : Nat) (hI : IsRIn Rd B g g2 most W x F) (hok : InOk cnt m vol C l x) (hC : C ≤ 4611686018427387000) (hml : most ≤ 9223372036854775807) (hB : B ≤ W.heap.size) :
    Calls Try.prog 42 #[.pointer (some ⟨g, 0, none⟩)] W fun e W' => RBytePost Rd B g g2 most (.int .u8 (byteP RD x).1) (byteP RD x).2.1 (byteP RD x).2.2 F W e W' := by
  have HB := hide (rbytes_any X W g most x F C l 1 (by omega) hI hok hC hml hB)
  have HE := hide (byte_bytes (RD := RD) x)
  have HL := hide (bytes1_len X x C l hok)
  clear hI hok X
  generalize bytesP RD 1 x = q at *
  obtain ⟨bs, er, x'⟩ := q
  simp only at HE HL
  go_enter Try.func42, Try.ntmps42
  go_wp2_with fail
  refine HB.out.mono ?_
  rintro e w1 ⟨v, F', rfl, ho1, hi1, hu1, hf1, hd1⟩
  simp only at ho1 hi1
  have HF : Hid (∀ z, (byteP RD x).1 = z → RBytePost Rd B g g2 most (.int .u8 (byteP RD x).1) (byteP RD x).2.1 (byteP RD x).2.2 F W (.returned (.tuple #[.int .u8 z, .int .i64 er])) w1) := hide fun z hz => by
    subst hz
    have h1 : (byteP RD x).2 = (er, x') := by
      rw [HE.out]
      by_cases h : er ≠ 0
      · rw [if_pos h]
      · rw [if_neg h]
        have : er = 0 := by simpa using h
        rw [this]
    exact ⟨F', by rw [h1], by rw [h1]; exact hi1, hu1, hf1⟩
  by_cases e0 : er = 0
  · subst e0
    have hl1 := HL.out rfl
    obtain ⟨a1, c1, rfl, _, _, _⟩ := ho1.sliceN hl1
    obtain ⟨b, o, ha, hcell⟩ := ho1.row 0 (by rw [hl1]; omega)
    subst ha
    rw [if_neg (by simp)] at HE
    simp only [Nat.add_zero] at hcell
    have HF' := hide (HF.out (bs.getD 0 0) (by rw [HE.out]))
    clear HE HB ho1 hi1 hu1 hf1 hd1 hl1 HL HF
    go_wp2_with fail
    go_ret2
    exact HF'.out
  · rw [if_pos e0] at HE
    have HF' := hide (HF.out 0 (by rw [HE.out]))
    have e0' : (er != 0) = true := by simp [e0]
    obtain ⟨a1, c1, rfl, _, _, _⟩ := ho1.sliceN rfl
    clear HE HB ho1 hi1 hu1 hf1 hd1 HL HF
    go_wp2_with fail
    go_ret2
    exact HF'.out

set_option maxRecDepth 100000 in
set_option maxHeartbeats 1600000 in
theorem rinend_any {σ : Type} {RD : Nat → σ → Int × Int × List Int × σ} {cnt m vol : σ → Nat} {B g2 : Nat} {Rd : World → σ → (Nat → Prop) → Prop} (X : RFam RD cnt m vol 66 (.pointer (some ⟨g2, 0, none⟩)) B Rd)
    (W : World) (g most : Nat) (x : InS σ) (F : Nat → Prop) (C l : Nat) (hI : IsRIn Rd B g g2 most W x F) (hok : InOk cnt m vol C l x) (hC : C ≤ 4611686018427387000) (hB : B ≤ W.heap.size) :
    Calls Try.prog 46 #[.pointer (some ⟨g, 0, none⟩)] W fun e W' => RBytePost Rd B g g2 most (.bool (endP RD x).1) (endP RD x).2.1 (endP RD x).2.2 F W e W' := by
  have hg := hI.at0
  have c3 := hg.2.2.2.2.1
  by_cases he : x.err = 0
  · have HSAME : Hid (endP RD x = (false, 0, x) → RBytePost Rd B g g2 most (.bool (endP RD x).1) (endP RD x).2.1 (endP RD x).2.2 F W (.returned (.tuple #[.bool false, .int .i64 0])) W) := hide fun h => by
      rw [h]
      exact ⟨F, rfl, hI, Upd.refl _ _, fun _ h => .inl h⟩
    have hmo := hg.2.2.2.2.2.2 he
    obtain ⟨hv, hs, i, M, hi, hr, ho, hMg, hBg, hd, hx0, hF⟩ := hI
    obtain ⟨rfl, rfl, _⟩ := hx0 he
    have c4 := (RInC.c hi).2.2.2.2.1
    obtain ⟨lh, hlh⟩ : ∃ lh, x.held.length = lh := ⟨_, rfl⟩
    have ho' := ho
    obtain ⟨ah, ch, rfl, _, _, _⟩ := ho'.sliceN hlh
    rw [he] at c3
    by_cases hh : x.held = []
    · have hlh0 : lh = 0 := by rw [← hlh, hh]; rfl
      subst hlh0
      rw [hh] at ho
      have HFA := hide (want_any X W g x.s M most x.at' x.i x.err (.slice ah 0 ch) [] 1 (by omega) (by simp) hB hi hr hMg hBg (hok.i16 he) ho hd (by have := hok.pot he; omega) (by omega))
      have HE : Hid (endP RD x = if (fillA RD 1 [] x.s x.i).2.1 = 41 then (true, 0, ⟨(fillA RD 1 [] x.s x.i).2.2.1, x.at', (fillA RD 1 [] x.s x.i).2.2.2, x.err, x.left, x.held⟩) else
  if (fillA RD 1 [] x.s x.i).2.1 ≠ 0 then (false, (fillA RD 1 [] x.s x.i).2.1, ⟨(fillA RD 1 [] x.s x.i).2.2.1, x.at', (fillA RD 1 [] x.s x.i).2.2.2, (fillA RD 1 [] x.s x.i).2.1, x.left, x.held⟩) else
  (false, 0, ⟨(fillA RD 1 [] x.s x.i).2.2.1, x.at', (fillA RD 1 [] x.s x.i).2.2.2, x.err, x.left, (fillA RD 1 [] x.s x.i).1⟩)) := hide (by unfold endP; rw [if_neg (by simp [he]), if_neg (by simp [hh])])
      have HHD : Hid (x.held = []) := hide hh
      generalize fillA RD 1 [] x.s x.i = q at *
      obtain ⟨bs, er, s', i'⟩ := q
      simp only at HE
      have HX := hide X
      have HFF := hide hF
      have hgl : g < W.heap.size := lt_of_block hi
      have HHE := hide he
      have HMO := hide hmo
      clear HSAME hg hi hr ho ho' hd hF hok X he hh hlh hx0 hmo
      go_enter Try.func46, Try.ntmps46
      go_wp2_with fail
      refine HFA.out.mono ?_
      rintro e w1 ⟨v, vs, M', rfl, ho1, hb1, hi1, hr1, hu1, hm1, hd1⟩
      simp only at hb1 hi1 hr1
      have HU1 : Hid (Upd F W w1) := hide (hu1.mono (fun j _ e => (HFF.out j).2 e))
      have hM'g : ¬ M' g := fun e => (hm1 g e).elim hMg (fun h => by omega)
      have HSUB : Hid (∀ j, (M' j ∨ j = g) → F j ∨ W.heap.size ≤ j) := hide fun j h => h.elim (fun h => (hm1 j h).elim (fun h => .inl ((HFF.out j).2 (.inl h))) .inr) (fun h => .inl ((HFF.out j).2 (.inr (.inl h))))
      have HIN : Hid (IsRIn Rd B g g2 most w1 ⟨s', x.at', i', x.err, x.left, x.held⟩ (fun j => M' j ∨ j = g)) := hide ⟨.slice none 0 0, [], i', M', hi1, hr1, OwnB.nil _ _ _, hM'g, hBg, (fun j hj => by cases hj), fun _ => ⟨rfl, HHD.out.symm, HMO.out⟩, fun j => ⟨fun h => h.elim .inl (fun h => .inr (.inl h)), fun h => h.elim .inl (fun h => h.elim .inr (fun h => by cases h))⟩⟩
      have HR1 := hide hr1
      have HI1 := hide hi1
      have HD1 := hide hd1
      have HB1 := hide hb1
      have d3 := (RInC.c hi1).2.2.2.1
      have d4 := (RInC.c hi1).2.2.2.2.1
      have g3 := (RInC.c hi1).2.2.2.2.2.2 3
      have g4 := (RInC.c hi1).2.2.2.2.2.2 4
      have HO1 := hide ho1
      obtain ⟨a3, c3', rfl, hn3, _, _⟩ := ho1.sliceN rfl
      clear ho1 hb1 hi1 hr1 hu1 hm1 hd1 HFA hn3
      by_cases e41 : er = 41
      · subst e41
        rw [if_pos rfl] at HE
        have HF : Hid (RBytePost Rd B g g2 most (.bool (endP RD x).1) (endP RD x).2.1 (endP RD x).2.2 F W (.returned (.tuple #[.bool true, .int .i64 0])) w1) := by
          rw [HE.out]
          exact ⟨_, rfl, HIN.out, HU1.out, HSUB.out⟩
        go_wp2_with fail
        go_ret2
        exact HF.out
      · rw [if_neg e41] at HE
        by_cases e0 : er = 0
        · subst e0
          rw [if_neg (by simp)] at HE
          obtain rfl : vs = bs := HB1.out rfl
          have HF : Hid (RBytePost Rd B g g2 most (.bool (endP RD x).1) (endP RD x).2.1 (endP RD x).2.2 F W (.returned (.tuple #[.bool false, .int .i64 0])) (w1.setCell ⟨g, 4, none⟩ (.slice a3 vs.length c3'))) := by
            rw [HE.out]
            have hu : Upd (fun j => j = g) w1 (w1.setCell ⟨g, 4, none⟩ (.slice a3 vs.length c3')) := (Upd.refl _ _).set1 4 _
            refine ⟨fun j => M' j ∨ j = g ∨ (Value.slice a3 vs.length c3').ownBlock = some j, rfl, ⟨_, _, i', M', block_setCell HI1.out 4 _, (HX.out.R 1 (by omega) (by omega)).upd HR1.out hu (fun j e => by subst e; exact ⟨hBg, hM'g⟩), HO1.out.upd hu (fun j hj e => (HD1.out j hj).2.1 e), hM'g, hBg, fun j hj => ⟨(HD1.out j hj).1, (HD1.out j hj).2.1⟩, fun _ => ⟨rfl, rfl, HMO.out⟩, fun j => Iff.rfl⟩, HU1.out.then hu (fun j _ e => (HFF.out j).2 (.inr (.inl e))), ?_⟩
            rintro j (h | h | h)
            · exact HSUB.out j (.inl h)
            · exact HSUB.out j (.inr h)
            · exact ((HD1.out j h).2.2).elim (fun h => .inl ((HFF.out j).2 (.inr (.inr h)))) .inr
          go_wp2_with fail
          go_ret2
          exact HF.out
        · rw [if_pos e0] at HE
          have e0' : (er != 0) = true := by simp [e0]
          have HF : Hid (RBytePost Rd B g g2 most (.bool (endP RD x).1) (endP RD x).2.1 (endP RD x).2.2 F W (.returned (.tuple #[.bool false, .int .i64 er])) (w1.setCell ⟨g, 3, none⟩ (.int .i64 er))) := by
            rw [HE.out]
            obtain ⟨q1, q2⟩ := HIN.out.setErr HX.out er e0
            exact ⟨_, rfl, q1, HU1.out.then q2 (fun j hj e => (HSUB.out j e).elim id (fun h => by omega)), HSUB.out⟩
          go_wp2_with fail
          go_ret2
          exact HF.out
    · have hlp : (0 : Int) < (lh : Int) := by have := List.length_pos_iff.2 hh; omega
      have HF := hide (HSAME.out (by unfold endP; rw [if_neg (by simp [he]), if_pos hh]))
      clear HSAME hg hi hr ho ho' hd hF hok X he hh hlh hmo hx0
      go_enter Try.func46, Try.ntmps46
      go_wp2_with fail
      go_ret2
      exact HF.out
  · have he' : (x.err != 0) = true := by simp [he]
    have HF : Hid (∀ n, RBytePost Rd B g g2 most (.bool (endP RD x).1) (endP RD x).2.1 (endP RD x).2.2 F W (.returned (.tuple #[.bool false, .int .i64 x.err])) (W.drewN n)) := hide fun n => by
      have hb : endP RD x = (false, x.err, x) := by unfold endP; rw [if_pos he]
      rw [hb]
      exact ⟨F, rfl, hI.still X n, (((Still.refl W).drewN n).upd Noth).noth, fun _ h => .inl h⟩
    clear hg hI hok X
    go_enter Try.func46, Try.ntmps46
    go_wp2_with fail
    go_quiet (fail)
    go_wp2_with fail
    go_ret2
    exact HF.out _

end Go.Proofs.Ytkginmhfpegkiaa
