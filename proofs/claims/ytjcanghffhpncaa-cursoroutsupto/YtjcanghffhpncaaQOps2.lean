/- An In's calls: Bytes, End. -/
import Derived.Test.YtjcanghffhpncaaQOps
namespace Go.Proofs.Ytjcanghffhpncaa
open Go.RowKit

/-- A call that does nothing, drawing aside. -/
theorem IsIn.still {σ : Type} {RD : Nat → σ → Int × Int × List Int × σ} {cnt m vol : σ → Nat} {f : FuncId} {recv : Value} {B : Nat} {Rd : World → σ → (Nat → Prop) → Prop} (X : RFam RD cnt m vol f recv B Rd) {g : Nat} {r : Value} {W : World} {x : InS σ} {F : Nat → Prop} (h : IsIn Rd B g r W x F) (n : Nat) : IsIn Rd B g r (W.drewN n) x F := by
  obtain ⟨hv, M, hi, hr, ho, hMg, hBg, hd, hF⟩ := h
  have hu : Upd Noth W (W.drewN n) := ((Still.refl W).drewN n).upd Noth
  exact ⟨hv, M, hi, (X.R 1 (by omega) (by omega)).upd hr hu (fun _ e => e.elim), ho.upd hu (fun _ _ e => e), hMg, hBg, hd, hF⟩
theorem IsIn.upd {σ : Type} {RD : Nat → σ → Int × Int × List Int × σ} {cnt m vol : σ → Nat} {f : FuncId} {recv : Value} {B : Nat} {Rd : World → σ → (Nat → Prop) → Prop} (X : RFam RD cnt m vol f recv B Rd) {g : Nat} {r : Value} {W W' : World} {x : InS σ} {F S : Nat → Prop} (h : IsIn Rd B g r W x F) (hu : Upd S W W') (hs : ∀ j, S j → B ≤ j ∧ ¬ F j) : IsIn Rd B g r W' x F := by
  obtain ⟨hv, M, hi, hr, ho, hMg, hBg, hd, hF⟩ := h
  exact ⟨hv, M, hi.upd hu (fun e => (hs g e).2 ((hF g).2 (.inr (.inl rfl)))), (X.R 1 (by omega) (by omega)).upd hr hu (fun j e => ⟨(hs j e).1, fun h => (hs j e).2 ((hF j).2 (.inl h))⟩), ho.upd hu (fun j hj e => (hs j e).2 ((hF j).2 (.inr (.inr hj)))), hMg, hBg, hd, hF⟩

set_option maxRecDepth 100000 in
set_option maxHeartbeats 1600000 in
theorem bytes_any {σ : Type} {RD : Nat → σ → Int × Int × List Int × σ} {cnt m vol : σ → Nat} {f : FuncId} {recv : Value} {B : Nat} {Rd : World → σ → (Nat → Prop) → Prop} {ty : TypeId} {pv : Value} (L : Leads "Read" ty pv f recv) (X : RFam RD cnt m vol f recv B Rd)
    (W : World) (g : Nat) (x : InS σ) (F : Nat → Prop) (C l : Nat) (n : Int) (hn : n ≤ 9223372036854775807) (hI : IsIn Rd B g (.iface ty pv) W x F) (hok : InOk cnt m vol C l x) (hC : C ≤ 4611686018427387000) (hl : l ≤ 9223372036854775807) (hB : B ≤ W.heap.size) :
    Calls Try.prog 15 #[.pointer (some ⟨g, 0, none⟩), .int .i64 n] W fun e W' => TakePost Rd B g (.iface ty pv) (bytesP RD n x) F W e W' := by
  have hg := hI.g
  have c2 := hg.2.2.2.1
  by_cases he : x.err = 0
  · by_cases hneg : n < 0
    · have HF : Hid (TakePost Rd B g (.iface ty pv) (bytesP RD n x) F W (.returned (.tuple #[.slice none 0 0, .int .i64 1])) W) := by
        have hb : bytesP RD n x = ([], 1, x) := by unfold bytesP; rw [if_neg (by simp [he]), if_pos hneg]
        rw [hb]
        exact ⟨_, F, rfl, OwnB.nil _ _ _, hI, Upd.refl _ _, fun _ h => .inl h, fun j hj => by cases hj⟩
      rw [he] at c2
      clear hg hI hok L X he
      go_enter Try.func15, Try.ntmps15
      go_wp2_with fail
      go_ret2
      exact HF.out
    · obtain ⟨k, rfl⟩ : ∃ k : Nat, n = k := ⟨n.toNat, by omega⟩
      have HT := hide (take_any L X W g x F C l k (by omega) hI hok he hC hl hB)
      have HOK := hide (take_ok X k x C l hok he)
      have hlim := hok.lim he
      have HBP : Hid (bytesP RD k x = if (takeP RD k x).2.1 ≠ 0 then ([], (takeP RD k x).2.1, (takeP RD k x).2.2.ends (takeP RD k x).2.1) else ((takeP RD k x).1, 0, (takeP RD k x).2.2.goes k)) := hide (by unfold bytesP; rw [if_neg (by simp [he]), if_neg hneg, Int.toNat_natCast])
      have HX := hide X
      rw [he] at c2
      clear hg hI hok L X he
      generalize takeP RD k x = q at *
      obtain ⟨bs, er, x'⟩ := q
      simp only at HBP
      go_enter Try.func15, Try.ntmps15
      go_wp2_with fail
      refine HT.out.mono ?_
      rintro e w1 ⟨v, F', rfl, ho1, hi1, hu1, hf1, hd1⟩
      simp only at ho1 hi1
      have hr1 := ho1.slice
      have HO1 := hide ho1
      have HD1 := hide hd1
      obtain ⟨a1, c1, rfl, hn1, hc1, _⟩ := ho1.sliceN rfl
      have hg1 := hi1.g
      have d0 := hg1.2.2.1
      have d2 := hg1.2.2.2.1
      have f2 := hg1.2.2.2.2.1
      have f0 := hg1.2.2.2.2.2
      by_cases e0 : er = 0
      · subst e0
        rw [if_neg (by simp)] at HBP
        have hok1 := HOK.out.ok rfl
        have hat : x'.at' + k ≤ 9223372036854775807 := by have h1 := HOK.out.at1; simp only at h1 hok1; omega
        have HF : Hid (TakePost Rd B g (.iface ty pv) (bytesP RD k x) F W (.returned (.tuple #[.slice a1 bs.length c1, .int .i64 0])) (w1.setCell ⟨g, 0, none⟩ (.int .i64 ((x'.at' : Int) + (k : Int))))) := by
          rw [HBP.out]
          obtain ⟨q1, q2⟩ := hi1.setAt (HX.out.R 1 (by omega) (by omega)).upd k ((x'.at' : Int) + (k : Int)) rfl
          have hu : Upd (fun j => j = g) w1 (w1.setCell ⟨g, 0, none⟩ (.int .i64 ((x'.at' : Int) + (k : Int)))) := (Upd.refl _ _).set1 0 _
          exact ⟨_, F', rfl, ho1.upd hu (fun j hj e => by subst e; exact (hd1 j hj).1 hg1.1), q1, hu1.then q2 (fun j hj e => (hf1 j e).elim id (fun h => by omega)), hf1, hd1⟩
        clear HBP HT hi1 ho1 hu1 hf1 hd1 hr1 hok1 hg1 hn1
        go_wp2_with fail
        go_ret2
        exact HF.out
      · rw [if_pos e0] at HBP
        have e0' : (er != 0) = true := by simp [e0]
        have HE := hide (end_any g er (.int .i64 x'.err) w1 d2 f2)
        have HF : Hid (TakePost Rd B g (.iface ty pv) (bytesP RD k x) F W (.returned (.tuple #[.slice none 0 0, .int .i64 er])) (w1.setCell ⟨g, 2, none⟩ (.int .i64 er))) := by
          rw [HBP.out]
          obtain ⟨q1, q2⟩ := hi1.setErr (HX.out.R 1 (by omega) (by omega)).upd er
          exact ⟨_, F', rfl, OwnB.nil _ _ _, q1, hu1.then q2 (fun j hj e => (hf1 j e).elim id (fun h => by omega)), hf1, fun j hj => by cases hj⟩
        clear HBP HT hi1 ho1 hu1 hf1 hd1 hr1 hg1 hn1
        go_wp2_with (first
          | (go_at_call 37; refine HE.out.mono ?_; rintro e w2 ⟨rfl, rfl⟩)
          | fail)
        go_ret2
        exact HF.out
  · have he' : (x.err != 0) = true := by simp [he]
    have HF : Hid (∀ k, TakePost Rd B g (.iface ty pv) (bytesP RD n x) F W (.returned (.tuple #[.slice none 0 0, .int .i64 x.err])) (W.drewN k)) := hide fun k => by
      have hb : bytesP RD n x = ([], x.err, x) := by unfold bytesP; rw [if_pos he]
      rw [hb]
      exact ⟨_, F, rfl, OwnB.nil _ _ _, hI.still X k, (((Still.refl W).drewN k).upd Noth).noth, fun _ h => .inl h, fun j hj => by cases hj⟩
    clear hg hI hok L X
    go_enter Try.func15, Try.ntmps15
    go_wp2_with fail
    go_quiet (fail)
    go_wp2_with fail
    go_ret2
    exact HF.out _

set_option maxRecDepth 100000 in
set_option maxHeartbeats 1600000 in
theorem inend_any {σ : Type} {RD : Nat → σ → Int × Int × List Int × σ} {cnt m vol : σ → Nat} {f : FuncId} {recv : Value} {B : Nat} {Rd : World → σ → (Nat → Prop) → Prop} {ty : TypeId} {pv : Value} (L : Leads "Read" ty pv f recv) (X : RFam RD cnt m vol f recv B Rd)
    (W : World) (g : Nat) (x : InS σ) (F : Nat → Prop) (C l : Nat) (hI : IsIn Rd B g (.iface ty pv) W x F) (hok : InOk cnt m vol C l x) (hC : C ≤ 4611686018427387000) (hB : B ≤ W.heap.size) :
    Calls Try.prog 18 #[.pointer (some ⟨g, 0, none⟩)] W fun e W' => BytePost Rd B g (.iface ty pv) (.bool (endP RD x).1) (endP RD x).2.1 (endP RD x).2.2 F W e W' := by
  have hg := hI.g
  have c2 := hg.2.2.2.1
  by_cases he : x.err = 0
  · have HSAME : Hid (endP RD x = (false, 0, x) → BytePost Rd B g (.iface ty pv) (.bool (endP RD x).1) (endP RD x).2.1 (endP RD x).2.2 F W (.returned (.tuple #[.bool false, .int .i64 0])) W) := hide fun h => by
      rw [h]
      exact ⟨F, rfl, hI, Upd.refl _ _, fun _ h => .inl h⟩
    obtain ⟨hv, M, hi, hr, ho, hMg, hBg, hd, hF⟩ := hI
    have c5 := (InC.c hi).2.2.2.2.2.1
    have f5 := (InC.c hi).2.2.2.2.2.2 5
    obtain ⟨lh, hlh⟩ : ∃ lh, x.held.length = lh := ⟨_, rfl⟩
    have ho' := ho
    obtain ⟨ah, ch, rfl, _, _, _⟩ := ho'.sliceN hlh
    rw [he] at c2
    by_cases hh : x.held = []
    · have hlh0 : lh = 0 := by rw [← hlh, hh]; rfl
      subst hlh0
      have HFA := hide (fill_any L X.R X.vol W g x.s M x.at' x.i x.err x.left (.slice ah 0 ch) (.slice none 0 0) [] 1 (by omega) (by simp) hB hi hr hMg hBg (hok.i16 he) (OwnB.nil _ _ _) (fun j hj => by cases hj) (by have := hok.pot he; omega) (by omega))
      have HE : Hid (endP RD x = if (fillA RD 1 [] x.s x.i).2.1 = 41 then (true, 0, ⟨(fillA RD 1 [] x.s x.i).2.2.1, x.at', (fillA RD 1 [] x.s x.i).2.2.2, x.err, x.left, x.held⟩) else
  if (fillA RD 1 [] x.s x.i).2.1 ≠ 0 then (false, (fillA RD 1 [] x.s x.i).2.1, ⟨(fillA RD 1 [] x.s x.i).2.2.1, x.at', (fillA RD 1 [] x.s x.i).2.2.2, (fillA RD 1 [] x.s x.i).2.1, x.left, x.held⟩) else
  (false, 0, ⟨(fillA RD 1 [] x.s x.i).2.2.1, x.at', (fillA RD 1 [] x.s x.i).2.2.2, x.err, x.left, (fillA RD 1 [] x.s x.i).1⟩)) := hide (by unfold endP; rw [if_neg (by simp [he]), if_neg (by simp [hh])])
      generalize fillA RD 1 [] x.s x.i = q at *
      obtain ⟨bs, er, s', i'⟩ := q
      simp only at HE
      have HX := hide X
      have HD := hide hd
      have HFF := hide hF
      have HO := hide ho
      have hgl : g < W.heap.size := lt_of_block hi
      have HHE := hide he
      clear HSAME hg hi hr ho ho' hd hF hok L X he hh hlh
      go_enter Try.func18, Try.ntmps18
      go_wp2_with fail
      refine HFA.out.mono ?_
      rintro e w1 ⟨v, M', rfl, ho1, hi1, hr1, hu1, hm1, hd1⟩
      simp only at ho1 hi1 hr1
      have HU1 : Hid (Upd F W w1) := hide (hu1.mono (fun j _ e => e.elim (fun h => (HFF.out j).2 (.inl h)) (fun h => h.elim (fun h => (HFF.out j).2 (.inr (.inl h))) (fun h => by cases h))))
      have hM'g : ¬ M' g := fun e => (hm1 g e).elim hMg (fun h => by omega)
      have hd2 : Hid (∀ j, (Value.slice ah 0 ch).ownBlock = some j → ¬ M' j ∧ j ≠ g) := hide fun j hj => ⟨fun e => (hm1 j e).elim (HD.out j hj).1 (fun h => by have := (HO.out.owns.lt j hj).2; omega), (HD.out j hj).2⟩
      have ho2 : Hid (OwnB w1 B 5 (.slice ah 0 ch) x.held) := hide (HO.out.upd hu1 (fun j hj e => e.elim (HD.out j hj).1 (fun h => h.elim (HD.out j hj).2 (fun h => by cases h))))
      have HM1 := hide hm1
      have HR1 := hide hr1
      have HI1 := hide hi1
      have HIN : Hid (IsIn Rd B g (.iface ty pv) w1 ⟨s', x.at', i', x.err, x.left, x.held⟩ (fun j => M' j ∨ j = g ∨ (Value.slice ah 0 ch).ownBlock = some j)) := hide ⟨_, M', hi1, hr1, ho2.out, hM'g, hBg, hd2.out, fun j => Iff.rfl⟩
      have HSUB : Hid (∀ j, (M' j ∨ j = g ∨ (Value.slice ah 0 ch).ownBlock = some j) → F j ∨ W.heap.size ≤ j) := hide fun j h => h.elim (fun h => (hm1 j h).elim (fun h => .inl ((HFF.out j).2 (.inl h))) .inr) (fun h => .inl ((HFF.out j).2 (.inr h)))
      have HD1 := hide hd1
      have d2 := (InC.c hi1).2.2.1
      have d5 := (InC.c hi1).2.2.2.2.2.1
      have g5 := (InC.c hi1).2.2.2.2.2.2 5
      have g2 := (InC.c hi1).2.2.2.2.2.2 2
      have HO1 := hide ho1
      obtain ⟨a3, c3, rfl, hn3, _, _⟩ := ho1.sliceN rfl
      clear ho1 hi1 hr1 hu1 hm1 hd1 HFA hn3
      by_cases e41 : er = 41
      · subst e41
        rw [if_pos rfl] at HE
        have HF : Hid (BytePost Rd B g (.iface ty pv) (.bool (endP RD x).1) (endP RD x).2.1 (endP RD x).2.2 F W (.returned (.tuple #[.bool true, .int .i64 0])) w1) := by
          rw [HE.out]
          exact ⟨_, rfl, HIN.out, HU1.out, HSUB.out⟩
        go_wp2_with fail
        go_ret2
        exact HF.out
      · rw [if_neg e41] at HE
        by_cases e0 : er = 0
        · subst e0
          rw [if_neg (by simp)] at HE
          have HF : Hid (BytePost Rd B g (.iface ty pv) (.bool (endP RD x).1) (endP RD x).2.1 (endP RD x).2.2 F W (.returned (.tuple #[.bool false, .int .i64 0])) (w1.setCell ⟨g, 5, none⟩ (.slice a3 bs.length c3))) := by
            rw [HE.out]
            have hu : Upd (fun j => j = g) w1 (w1.setCell ⟨g, 5, none⟩ (.slice a3 bs.length c3)) := (Upd.refl _ _).set1 5 _
            refine ⟨fun j => M' j ∨ j = g ∨ (Value.slice a3 bs.length c3).ownBlock = some j, rfl, ⟨_, M', block_setCell HI1.out 5 _, (HX.out.R 1 (by omega) (by omega)).upd HR1.out hu (fun j e => by subst e; exact ⟨hBg, hM'g⟩), HO1.out.upd hu (fun j hj e => (HD1.out j hj).2.1 e), hM'g, hBg, fun j hj => ⟨(HD1.out j hj).1, (HD1.out j hj).2.1⟩, fun j => Iff.rfl⟩, HU1.out.then hu (fun j _ e => (HFF.out j).2 (.inr (.inl e))), ?_⟩
            rintro j (h | h | h)
            · exact HSUB.out j (.inl h)
            · exact HSUB.out j (.inr (.inl h))
            · exact ((HD1.out j h).2.2).elim (fun h => by cases h) .inr
          go_wp2_with fail
          go_ret2
          exact HF.out
        · rw [if_pos e0] at HE
          have e0' : (er != 0) = true := by simp [e0]
          have HEN := hide (end_any g er (.int .i64 x.err) w1 d2 g2)
          have HF : Hid (BytePost Rd B g (.iface ty pv) (.bool (endP RD x).1) (endP RD x).2.1 (endP RD x).2.2 F W (.returned (.tuple #[.bool false, .int .i64 er])) (w1.setCell ⟨g, 2, none⟩ (.int .i64 er))) := by
            rw [HE.out]
            obtain ⟨q1, q2⟩ := HIN.out.setErr (HX.out.R 1 (by omega) (by omega)).upd er
            exact ⟨_, rfl, q1, HU1.out.then q2 (fun j hj e => (HSUB.out j e).elim id (fun h => by omega)), HSUB.out⟩
          go_wp2_with (first
            | (go_at_call 37; refine HEN.out.mono ?_; rintro e w2 ⟨rfl, rfl⟩)
            | fail)
          go_ret2
          exact HF.out
    · have hlp : (0 : Int) < (lh : Int) := by have := List.length_pos_iff.2 hh; omega
      have HF := hide (HSAME.out (by unfold endP; rw [if_neg (by simp [he]), if_pos hh]))
      clear HSAME hg hi hr ho ho' hd hF hok L X he hh hlh
      go_enter Try.func18, Try.ntmps18
      go_wp2_with fail
      go_ret2
      exact HF.out
  · have he' : (x.err != 0) = true := by simp [he]
    have HF : Hid (∀ n, BytePost Rd B g (.iface ty pv) (.bool (endP RD x).1) (endP RD x).2.1 (endP RD x).2.2 F W (.returned (.tuple #[.bool false, .int .i64 x.err])) (W.drewN n)) := hide fun n => by
      have hb : endP RD x = (false, x.err, x) := by unfold endP; rw [if_pos he]
      rw [hb]
      exact ⟨F, rfl, hI.still X n, (((Still.refl W).drewN n).upd Noth).noth, fun _ h => .inl h⟩
    clear hg hI hok L X
    go_enter Try.func18, Try.ntmps18
    go_wp2_with fail
    go_quiet (fail)
    go_wp2_with fail
    go_ret2
    exact HF.out _

end Go.Proofs.Ytjcanghffhpncaa
