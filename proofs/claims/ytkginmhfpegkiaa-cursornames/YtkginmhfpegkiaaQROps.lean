/- The document's In: Bytes, Byte, End. -/
import Derived.Test.YtkginmhfpegkiaaQRFill
namespace Go.Proofs.Ytkginmhfpegkiaa
open Go.RowKit

def IsRIn {σ : Type} (Rd : World → σ → (Nat → Prop) → Prop) (B g g2 most : Nat) (W : World) (x : InS σ) (F : Nat → Prop) : Prop :=
  ∃ hv hs i M, RInC W g g2 most x.at' x.err hv i ∧ Rd W x.s M ∧ OwnB W B 5 hv hs ∧ ¬ M g ∧ B ≤ g ∧ (∀ j, hv.ownBlock = some j → ¬ M j ∧ j ≠ g) ∧ (x.err = 0 → i = x.i ∧ hs = x.held ∧ most = x.at' + x.left) ∧ ∀ j, F j ↔ (M j ∨ j = g ∨ hv.ownBlock = some j)

def RTakePost {σ : Type} (Rd : World → σ → (Nat → Prop) → Prop) (B g g2 most : Nat) (q : List Int × Int × InS σ) (F : Nat → Prop) (W : World) (e : Ending) (W' : World) : Prop :=
  ∃ v F', e = .returned (.tuple #[v, .int .i64 q.2.1]) ∧ OwnB W' B 5 v q.1 ∧ IsRIn Rd B g g2 most W' q.2.2 F' ∧ Upd F W W' ∧ (∀ j, F' j → F j ∨ W.heap.size ≤ j) ∧ ∀ j, v.ownBlock = some j → ¬ F' j ∧ (F j ∨ W.heap.size ≤ j)
def RBytePost {σ : Type} (Rd : World → σ → (Nat → Prop) → Prop) (B g g2 most : Nat) (v : Value) (ee : Int) (x : InS σ) (F : Nat → Prop) (W : World) (e : Ending) (W' : World) : Prop :=
  ∃ F', e = .returned (.tuple #[v, .int .i64 ee]) ∧ IsRIn Rd B g g2 most W' x F' ∧ Upd F W W' ∧ (∀ j, F' j → F j ∨ W.heap.size ≤ j)

section
variable {σ : Type} {RD : Nat → σ → Int × Int × List Int × σ} {cnt m vol : σ → Nat} {B g g2 most : Nat} {Rd : World → σ → (Nat → Prop) → Prop} {W W' : World} {x : InS σ} {F S : Nat → Prop}
theorem IsRIn.at0 (h : IsRIn Rd B g g2 most W x F) : F g ∧ g < W.heap.size ∧ W.cell? ⟨g, 1, none⟩ = some (.int .i64 (most : Int)) ∧ W.cell? ⟨g, 2, none⟩ = some (.int .i64 (x.at' : Int)) ∧ W.cell? ⟨g, 3, none⟩ = some (.int .i64 x.err) ∧ (∀ j, W.frozen? ⟨g, j, none⟩ = false) ∧ (x.err = 0 → most = x.at' + x.left) := by
  obtain ⟨hv, hs, i, M, hi, hr, ho, hMg, hBg, hd, he, hF⟩ := h
  exact ⟨(hF g).2 (.inr (.inl rfl)), lt_of_block hi, (RInC.c hi).2.1, (RInC.c hi).2.2.1, (RInC.c hi).2.2.2.1, (RInC.c hi).2.2.2.2.2.2, fun h => (he h).2.2⟩
theorem IsRIn.upd {f : FuncId} {recv : Value} (X : RFam RD cnt m vol f recv B Rd) (h : IsRIn Rd B g g2 most W x F) (hu : Upd S W W') (hs : ∀ j, S j → B ≤ j ∧ ¬ F j) : IsRIn Rd B g g2 most W' x F := by
  obtain ⟨hv, hs', i, M, hi, hr, ho, hMg, hBg, hd, he, hF⟩ := h
  exact ⟨hv, hs', i, M, hi.upd hu (fun e => (hs g e).2 ((hF g).2 (.inr (.inl rfl)))), (X.R 1 (by omega) (by omega)).upd hr hu (fun j e => ⟨(hs j e).1, fun h => (hs j e).2 ((hF j).2 (.inl h))⟩), ho.upd hu (fun j hj e => (hs j e).2 ((hF j).2 (.inr (.inr hj)))), hMg, hBg, hd, he, hF⟩
theorem IsRIn.still {f : FuncId} {recv : Value} (X : RFam RD cnt m vol f recv B Rd) (h : IsRIn Rd B g g2 most W x F) (n : Nat) : IsRIn Rd B g g2 most (W.drewN n) x F :=
  h.upd X (((Still.refl W).drewN n).upd Noth) (fun _ e => e.elim)
/-- It ends by an error, and stands anywhere. -/
theorem IsRIn.setErr {f : FuncId} {recv : Value} (X : RFam RD cnt m vol f recv B Rd) (h : IsRIn Rd B g g2 most W x F) (e : Int) (he : e ≠ 0) : IsRIn Rd B g g2 most (W.setCell ⟨g, 3, none⟩ (.int .i64 e)) (x.ends e) F ∧ Upd F W (W.setCell ⟨g, 3, none⟩ (.int .i64 e)) := by
  obtain ⟨hv, hs, i, M, hi, hr, ho, hMg, hBg, hd, _, hF⟩ := h
  have hu : Upd (fun j => j = g) W (W.setCell ⟨g, 3, none⟩ (.int .i64 e)) := (Upd.refl _ _).set1 3 _
  exact ⟨⟨hv, hs, i, M, block_setCell hi 3 _, (X.R 1 (by omega) (by omega)).upd hr hu (fun j e => by subst e; exact ⟨hBg, hMg⟩), ho.upd hu (fun j hj e => (hd j hj).2 e), hMg, hBg, hd, fun h => absurd h he, hF⟩, hu.mono (fun j _ e => (hF j).2 (.inr (.inl e)))⟩
theorem IsRIn.setAt {f : FuncId} {recv : Value} (X : RFam RD cnt m vol f recv B Rd) (h : IsRIn Rd B g g2 most W x F) (n : Nat) (y : InS σ) (hy : y.s = x.s ∧ y.err = x.err ∧ y.at' = n) (hy2 : y.err = 0 → y.i = x.i ∧ y.held = x.held ∧ most = y.at' + y.left) : IsRIn Rd B g g2 most (W.setCell ⟨g, 2, none⟩ (.int .i64 (n : Int))) y F ∧ Upd F W (W.setCell ⟨g, 2, none⟩ (.int .i64 (n : Int))) := by
  obtain ⟨hv, hs, i, M, hi, hr, ho, hMg, hBg, hd, he, hF⟩ := h
  have hu : Upd (fun j => j = g) W (W.setCell ⟨g, 2, none⟩ (.int .i64 (n : Int))) := (Upd.refl _ _).set1 2 _
  refine ⟨⟨hv, hs, i, M, ?_, ?_, ho.upd hu (fun j hj e => (hd j hj).2 e), hMg, hBg, hd, fun h => ?_, hF⟩, hu.mono (fun j _ e => (hF j).2 (.inr (.inl e)))⟩
  · rw [hy.2.1, hy.2.2]; exact block_setCell hi 2 _
  · rw [hy.1]; exact (X.R 1 (by omega) (by omega)).upd hr hu (fun j e => by subst e; exact ⟨hBg, hMg⟩)
  · have h1 := he (by rw [← hy.2.1]; exact h)
    have h2 := hy2 h
    exact ⟨h1.1.trans h2.1.symm, h1.2.1.trans h2.2.1.symm, h2.2.2⟩
end

set_option maxRecDepth 100000 in
set_option maxHeartbeats 1600000 in
theorem rbytes_any {σ : Type} {RD : Nat → σ → Int × Int × List Int × σ} {cnt m vol : σ → Nat} {B g2 : Nat} {Rd : World → σ → (Nat → Prop) → Prop} (X : RFam RD cnt m vol 66 (.pointer (some ⟨g2, 0, none⟩)) B Rd)
    (W : World) (g most : Nat) (x : InS σ) (F : Nat → Prop) (C l : Nat) (n : Int) (hn : n ≤ 9223372036854775807) (hI : IsRIn Rd B g g2 most W x F) (hok : InOk cnt m vol C l x) (hC : C ≤ 4611686018427387000) (hml : most ≤ 9223372036854775807) (hB : B ≤ W.heap.size) :
    Calls Try.prog 43 #[.pointer (some ⟨g, 0, none⟩), .int .i64 n] W fun e W' => RTakePost Rd B g g2 most (bytesP RD n x) F W e W' := by
  have hg := hI.at0
  have c1 := hg.2.2.1
  have c2 := hg.2.2.2.1
  have c3 := hg.2.2.2.2.1
  have f3 := hg.2.2.2.2.2.1 3
  by_cases he : x.err = 0
  · have hmo := hg.2.2.2.2.2.2 he
    rw [he] at c3
    by_cases hneg : n < 0
    · have HF : Hid (RTakePost Rd B g g2 most (bytesP RD n x) F W (.returned (.tuple #[.slice none 0 0, .int .i64 1])) W) := by
        have hb : bytesP RD n x = ([], 1, x) := by unfold bytesP; rw [if_neg (by simp [he]), if_pos hneg]
        rw [hb]
        exact ⟨_, F, rfl, OwnB.nil _ _ _, hI, Upd.refl _ _, fun _ h => .inl h, fun j hj => by cases hj⟩
      clear hg hI hok X he hmo
      go_enter Try.func43, Try.ntmps43
      go_wp2_with fail
      go_ret2
      exact HF.out
    · obtain ⟨k, rfl⟩ : ∃ k : Nat, n = k := ⟨n.toNat, by omega⟩
      have HBP : Hid (bytesP RD k x = if (takeP RD k x).2.1 ≠ 0 then ([], (takeP RD k x).2.1, (takeP RD k x).2.2.ends (takeP RD k x).2.1) else ((takeP RD k x).1, 0, (takeP RD k x).2.2.goes k)) := hide (by unfold bytesP; rw [if_neg (by simp [he]), if_neg hneg, Int.toNat_natCast])
      by_cases hlt : x.left < k
      · have HF : Hid (∀ n1 n2, RTakePost Rd B g g2 most (bytesP RD k x) F W (.returned (.tuple #[.slice none 0 0, .int .i64 42])) (((W.drewN n1).setCell ⟨g, 3, none⟩ (.int .i64 42)).drewN n2)) := hide fun n1 n2 => by
          have h1 : takeP RD k x = ([], 42, x) := by unfold takeP; rw [if_pos hlt]
          rw [HBP.out, h1, if_pos (by simp)]
          obtain ⟨q1, q2⟩ := (hI.still X n1).setErr X 42 (by decide)
          exact ⟨_, F, rfl, OwnB.nil _ _ _, q1.still X n2, ((((Still.refl W).drewN n1).upd Noth).noth.trans q2).trans (((Still.refl _).drewN n2).upd Noth).noth, fun _ h => .inl h, fun j hj => by cases hj⟩
        have hlti : (most : Int) - (x.at' : Int) < (k : Int) := by omega
        have hmi : x.at' ≤ most := by omega
        clear hg hI hok X he hmo HBP hlt
        go_enter Try.func43, Try.ntmps43
        go_wp2_with fail
        go_quiet (fail)
        go_wp2_with fail
        go_quiet (fail)
        go_wp2_with fail
        go_ret2
        exact HF.out _ _
      · have hlti : ¬ (most : Int) - (x.at' : Int) < (k : Int) := by omega
        have hmi : x.at' ≤ most := by omega
        by_cases hk0 : k = 0
        · subst hk0
          have HF : Hid (∀ n1, RTakePost Rd B g g2 most (bytesP RD (0 : Nat) x) F W (.returned (.tuple #[.slice none 0 0, .int .i64 0])) (W.drewN n1)) := hide fun n1 => by
            have h1 : takeP RD 0 x = ([], 0, x) := by unfold takeP; rw [if_neg hlt, if_pos rfl]
            rw [HBP.out, h1, if_neg (by simp)]
            exact ⟨_, F, rfl, OwnB.nil _ _ _, hI.still X n1, (((Still.refl W).drewN n1).upd Noth).noth, fun _ h => .inl h, fun j hj => by cases hj⟩
          clear hg hI hok X he hmo HBP hlt
          go_enter Try.func43, Try.ntmps43
          go_wp2_with fail
          go_quiet (fail)
          go_wp2_with fail
          go_ret2
          exact HF.out _
        · have hTK : takeP RD k x = ((fillA RD k x.held x.s x.i).1, (fillA RD k x.held x.s x.i).2.1, ⟨(fillA RD k x.held x.s x.i).2.2.1, x.at', (fillA RD k x.held x.s x.i).2.2.2, x.err, x.left - k, []⟩) := by unfold takeP; rw [if_neg hlt, if_neg hk0]
          rw [hTK] at HBP
          obtain ⟨hv, hs, i, M, hi, hr, ho, hMg, hBg, hd, hx0, hF⟩ := hI
          obtain ⟨rfl, rfl, _⟩ := hx0 he
          have hi16 := hok.i16 he
          have hpot := hok.pot he
          have hvo := hok.vo he
          have hh1 := hok.held1
          have HW : Hid (∀ n1, Calls Try.prog 55 #[.pointer (some ⟨g, 0, none⟩), .int .i64 (k : Int)] (W.drewN n1) fun e W' => RFillPost Rd B g g2 most x.at' x.err (fillA RD k x.held x.s x.i) M hv.ownBlock (W.drewN n1) e W') := hide fun n1 => by
            have hu : Upd Noth W (W.drewN n1) := ((Still.refl W).drewN n1).upd Noth
            exact want_any X (W.drewN n1) g x.s M most x.at' x.i x.err hv x.held k (by omega) (by omega) (Nat.le_trans hB hu.size) (hi.upd hu (fun e => e)) ((X.R 1 (by omega) (by omega)).upd hr hu (fun _ e => e.elim)) hMg hBg hi16 (ho.upd hu (fun _ _ e => e)) hd (by omega) (by omega)
          have HFO := hide (X.fill k x.held x.s x.i hi16 (by omega))
          have hk0i : ¬ (k : Int) = 0 := by omega
          have hgl : g < W.heap.size := lt_of_block hi
          have HFF := hide hF
          have HX := hide X
          have HER := hide he
          clear hg hi hr ho hd hF hok X he hTK hx0 hlt hneg
          generalize fillA RD k x.held x.s x.i = q at *
          obtain ⟨bs, er, s', i'⟩ := q
          simp only at HBP
          go_enter Try.func43, Try.ntmps43
          go_wp2_with fail
          go_quiet (fail)
          go_wp2_with fail
          refine (HW.out _).mono ?_
          rintro e w1 ⟨v, vs, M', rfl, ho1, hb1, hi1, hr1, hu1, hm1, hd1⟩
          simp only at hi1 hr1 hb1
          have hu1' : Upd F W w1 := ((((Still.refl W).drewN _).upd Noth).noth).then hu1 (fun j _ e => (HFF.out j).2 e)
          have hsz1 : W.heap.size ≤ w1.heap.size := hu1'.size
          have hM'g : ¬ M' g := fun e => (hm1 g e).elim hMg (fun h => by simp at h; omega)
          have HSUB : Hid (∀ j, (M' j ∨ j = g) → F j ∨ W.heap.size ≤ j) := hide fun j h => h.elim (fun h => (hm1 j h).elim (fun h => .inl ((HFF.out j).2 (.inl h))) (fun h => .inr (by simpa using h))) (fun h => .inl ((HFF.out j).2 (.inr (.inl h))))
          have HIN : Hid (∀ y : InS σ, y.s = s' → y.at' = x.at' → y.err = x.err → (y.err = 0 → i' = y.i ∧ [] = y.held ∧ most = y.at' + y.left) → IsRIn Rd B g g2 most w1 y (fun j => M' j ∨ j = g)) := hide fun y h1 h2 h3 h4 => ⟨.slice none 0 0, [], i', M', by rw [h2, h3]; exact hi1, by rw [h1]; exact hr1, OwnB.nil _ _ _, hM'g, hBg, (fun j hj => by cases hj), h4, fun j => ⟨fun h => h.elim .inl (fun h => .inr (.inl h)), fun h => h.elim .inl (fun h => h.elim .inr (fun h => by cases h))⟩⟩
          have d2 := (RInC.c hi1).2.2.1
          have d3 := (RInC.c hi1).2.2.2.1
          have g2' := (RInC.c hi1).2.2.2.2.2.2 2
          have g3' := (RInC.c hi1).2.2.2.2.2.2 3
          have HU1 := hide hu1'
          have HO1 := hide ho1
          have HB1 := hide hb1
          have HD1 : Hid (∀ j, v.ownBlock = some j → ¬ (M' j ∨ j = g) ∧ (F j ∨ W.heap.size ≤ j)) := hide fun j hj => ⟨fun e => e.elim (hd1 j hj).1 (hd1 j hj).2.1, (hd1 j hj).2.2.elim (fun h => .inl ((HFF.out j).2 (.inr (.inr h)))) (fun h => .inr (by simpa using h))⟩
          obtain ⟨a3, c3, rfl, hn3, _, _⟩ := ho1.sliceN rfl
          clear ho1 hb1 hi1 hr1 hu1 hu1' hm1 hd1 HW hn3
          by_cases e0 : er = 0
          · subst e0
            rw [if_neg (by simp)] at HBP
            have hfull := HFO.out.full rfl
            obtain rfl : vs = bs := HB1.out rfl
            have hati : x.at' + k ≤ 9223372036854775807 := by omega
            have HF : Hid (RTakePost Rd B g g2 most (bytesP RD k x) F W (.returned (.tuple #[.slice a3 vs.length c3, .int .i64 0])) (w1.setCell ⟨g, 2, none⟩ (.int .i64 ((x.at' : Int) + (k : Int))))) := by
              rw [HBP.out]
              obtain ⟨q1, q2⟩ := IsRIn.setAt HX.out (HIN.out ⟨s', x.at', i', x.err, x.left, []⟩ rfl rfl rfl (fun _ => ⟨rfl, rfl, hmo⟩)) (x.at' + k) ⟨s', x.at' + k, i', x.err, x.left - k, []⟩ ⟨rfl, rfl, rfl⟩ (fun _ => ⟨rfl, rfl, by simp only; omega⟩)
              rw [show ((x.at' + k : Nat) : Int) = (x.at' : Int) + (k : Int) from by omega] at q1 q2
              have hu : Upd (fun j => j = g) w1 (w1.setCell ⟨g, 2, none⟩ (.int .i64 ((x.at' : Int) + (k : Int)))) := (Upd.refl _ _).set1 2 _
              exact ⟨_, _, rfl, HO1.out.upd hu (fun j hj e => (HD1.out j hj).1 (.inr e)), q1, HU1.out.then q2 (fun j hj e => (HSUB.out j e).elim id (fun h => by omega)), HSUB.out, HD1.out⟩
            clear HBP hfull
            go_wp2_with fail
            go_ret2
            exact HF.out
          · rw [if_pos e0] at HBP
            have e0' : (er != 0) = true := by simp [e0]
            have HF : Hid (RTakePost Rd B g g2 most (bytesP RD k x) F W (.returned (.tuple #[.slice none 0 0, .int .i64 er])) (w1.setCell ⟨g, 3, none⟩ (.int .i64 er))) := by
              rw [HBP.out]
              obtain ⟨q1, q2⟩ := IsRIn.setErr HX.out (HIN.out ⟨s', x.at', i', x.err, x.left, []⟩ rfl rfl rfl (fun _ => ⟨rfl, rfl, hmo⟩)) er e0
              obtain ⟨hv', hs', i2, M2, z1, z2, z3, z4, z5, z6, z7, z8⟩ := q1
              exact ⟨_, _, rfl, OwnB.nil _ _ _, ⟨hv', hs', i2, M2, z1, z2, z3, z4, z5, z6, fun h => absurd h e0, z8⟩, HU1.out.then q2 (fun j hj e => (HSUB.out j e).elim id (fun h => by omega)), HSUB.out, fun j hj => by cases hj⟩
            clear HBP
            go_wp2_with fail
            go_ret2
            exact HF.out
  · have he' : (x.err != 0) = true := by simp [he]
    have HF : Hid (∀ k, RTakePost Rd B g g2 most (bytesP RD n x) F W (.returned (.tuple #[.slice none 0 0, .int .i64 x.err])) (W.drewN k)) := hide fun k => by
      have hb : bytesP RD n x = ([], x.err, x) := by unfold bytesP; rw [if_pos he]
      rw [hb]
      exact ⟨_, F, rfl, OwnB.nil _ _ _, hI.still X k, (((Still.refl W).drewN k).upd Noth).noth, fun _ h => .inl h, fun j hj => by cases hj⟩
    clear hg hI hok X
    go_enter Try.func43, Try.ntmps43
    go_wp2_with fail
    go_quiet (fail)
    go_wp2_with fail
    go_ret2
    exact HF.out _

end Go.Proofs.Ytkginmhfpegkiaa
