/- The document's Out: Flush. -/
import Derived.Test.YtjcanghffhpncaaG28
import Derived.Test.YtjcanghffhpncaaG18
import Derived.Test.YtjcanghffhpncaaG16
import Derived.Test.YtjcanghffhpncaaG21
namespace Go.Proofs.Ytjcanghffhpncaa
open Go.RowKit

def rcellN (W : World) (g k : Nat) : Nat := match W.cell? ⟨g, k, none⟩ with
  | some (.int _ x) => x.toNat
  | _ => 0
def routM (W : World) (g : Nat) : Nat := if cellI W g 3 = 0 then 17 * slenW W g 1 + (16 - rcellN W g 4) + 1 else 0
theorem IsROut.m {τ : Type} {Wd : World → τ → (Nat → Prop) → Prop} {B g g2 : Nat} {W : World} {x : OutS τ} {F : Nat → Prop} (h : IsROut Wd B g g2 W x F) : routM W g = if x.err = 0 then 17 * x.b.length + (16 - x.i) + 1 else 0 := by
  obtain ⟨wv, off, i, M, hi, hr, ho, hMg, hBg, hd, he, hF⟩ := h
  obtain ⟨a, c, rfl, _⟩ := ho.slice rfl
  unfold routM cellI slenW rcellN
  rw [(ROutC.c hi).2.1, (ROutC.c hi).2.2.2.1, (ROutC.c hi).2.2.2.2.1]
  by_cases h0 : x.err = 0
  · simp [slen, h0, he h0]
  · simp [h0]

structure RFL {τ : Type} (wf : τ → List Int → Int × Int × τ) (cnt sz : τ → Nat) (Wd : World → τ → (Nat → Prop) → Prop) (B g g2 : Nat) (C Z : Nat) (res : OutS τ) (F0 : Nat → Prop) (W W' : World) (x : OutS τ) (F : Nat → Prop) (fu : Nat) : Prop where
  isout : IsROut Wd B g g2 W' x F
  ok : OutOk cnt sz C Z x
  eq : res = flushF wf fu x
  fuel : x.err = 0 → 17 * x.b.length + (16 - x.i) ≤ fu
  upd : Upd F0 W W'
  sub : ∀ j, F j → F0 j ∨ W.heap.size ≤ j

set_option maxRecDepth 100000 in
set_option maxHeartbeats 1600000 in
theorem rflush_any {τ : Type} {wf : τ → List Int → Int × Int × τ} {cnt sz : τ → Nat} {B g2 : Nat} {Wd : World → τ → (Nat → Prop) → Prop} (T : Writer wf cnt sz 58 (.pointer (some ⟨g2, 0, none⟩)) B Wd)
    (W : World) (g : Nat) (x0 : OutS τ) (F0 : Nat → Prop) (C Z : Nat) (hI : IsROut Wd B g g2 W x0 F0) (hok : OutOk cnt sz C Z x0) (hC : C ≤ 4611686018427387000) (hZ : Z ≤ 140737488355328) (hB : B ≤ W.heap.size) :
    Calls Try.prog 49 #[.pointer (some ⟨g, 0, none⟩)] W fun e W' => ROutPost Wd B g g2 (.int .i64 (flushA wf x0).err) (flushA wf x0) F0 W e W' := by
  obtain ⟨res, hres⟩ : ∃ res, res = flushA wf x0 := ⟨_, rfl⟩
  rw [← hres]
  have H0 : Hid (RFL wf cnt sz Wd B g g2 C Z res F0 W W x0 F0 (17 * x0.b.length + 16)) := hide ⟨hI, hok, hres, fun _ => by omega, Upd.refl _ _, fun _ h => .inl h⟩
  have HT := hide T
  clear hI hok T hres
  go_enter Try.func49, Try.ntmps49
  go_wp2_with fail
  go_loopw [] (fun wr => ∃ fu, ∃ (x : OutS τ) (F : Nat → Prop), RFL wf cnt sz Wd B g g2 C Z res F0 W wr x F fu) (fun wr => routM wr g)
  case atStart => exact ⟨_, _, _, H0.out⟩
  case round =>
    clear H0
    obtain ⟨fu, x, F, hI⟩ := hrel
    have HI := hide hI
    have h0 := hI.isout.at0
    obtain ⟨aw, cw, c4⟩ := h0.2.2.2.2
    have c2 := h0.2.2.2.1
    have hz := hI.upd.size
    clear hI
    by_cases hx : x.err ≠ 0 ∨ x.b = []
    · have hF : ROutPost Wd B g g2 (.int .i64 res.err) res F0 W (.returned (.int .i64 x.err)) wr := by
        have hr : res = x := by rw [HI.out.eq, flush_done hx]
        rw [hr]
        exact ⟨F, rfl, HI.out.isout, HI.out.upd, HI.out.sub⟩
      have HF := hide hF
      clear hF h0
      by_cases hb : x.b = []
      · have hl0 : x.b.length = 0 := by rw [hb]; rfl
        rw [hl0] at c4
        clear hx hb hl0
        go_wp2_with fail
        go_ret
        exact HF.out
      · have he : x.err ≠ 0 := hx.resolve_right hb
        have he' : (x.err == 0) = false := by simp [he]
        have hlp : (0 : Int) < (x.b.length : Int) := by have := List.length_pos_iff.2 hb; omega
        clear hx hb he
        go_wp2_with fail
        go_ret
        exact HF.out
    · have he : x.err = 0 := Classical.byContradiction fun e => hx (.inl e)
      have hb : x.b ≠ [] := fun e => hx (.inr e)
      have hlp : (0 : Int) < (x.b.length : Int) := by have := List.length_pos_iff.2 hb; omega
      have HP := hide (rpush_any HT.out wr g x F C Z HI.out.isout HI.out.ok hC hZ (by omega))
      have HOK := hide (push_ok HT.out x C Z HI.out.ok)
      have HST := hide (flush_step (wf := wf) (fu := fu) (x := x) (by have := HI.out.fuel he; have := List.length_pos_iff.2 hb; omega) hx)
      have hmi : routM wr g = 17 * x.b.length + (16 - x.i) + 1 := by rw [HI.out.isout.m, if_pos he]
      rw [he] at c2
      have HHE := hide he
      have HHB := hide hb
      clear h0 hx he hb
      generalize pushP wf x = q at *
      obtain ⟨n, er, y⟩ := q
      simp only at HOK HST HP
      go_wp2_with fail
      refine HP.out.mono ?_
      rintro e w2 ⟨F', rfl, hi2, hu2, hs2⟩
      have HN : Hid (RFL wf cnt sz Wd B g g2 C Z res F0 W w2 y F' (fu - 1)) := hide ⟨hi2, HOK.out.1, by rw [HI.out.eq, HST.out], fun h => by have := HOK.out.2 HHE.out HHB.out h; have := HI.out.fuel HHE.out; omega, HI.out.upd.then hu2 (fun j hj e => (HI.out.sub j e).elim id (fun h => by omega)), fun j hj => (hs2 j hj).elim (fun h => HI.out.sub j h) (fun h => .inr (by omega))⟩
      have hme := hi2.m
      have hdec := HOK.out.2 HHE.out HHB.out
      have HLT : Hid (routM w2 g < routM wr g) := hide (by
        rw [hme, hmi]
        by_cases h : y.err = 0
        · rw [if_pos h]; have := hdec h; omega
        · rw [if_neg h]; omega)
      clear hdec
      clear hi2 hu2 hs2 HP hme hmi
      go_wp2_with fail
      go_roundw
      case rel => exact ⟨_, _, _, HN.out⟩
      case measure => exact HLT.out

end Go.Proofs.Ytjcanghffhpncaa

namespace Go.Proofs.Ytjcanghffhpncaa
open Go.RowKit

/-- What is known of a filling. -/
structure FillOk {σ : Type} (cnt m vol : σ → Nat) (n : Nat) (b : List Int) (s : σ) (i : Nat) (q : List Int × Int × σ × Nat) : Prop where
  full : q.2.1 = 0 → q.1.length = n ∧ q.2.2.2 < 16
  none : q.2.1 ≠ 0 → q.1 = []
  b8 : B8 b → B8 q.1
  pot : cnt q.2.2.1 + 17 * m q.2.2.1 + (16 - q.2.2.2) ≤ cnt s + 17 * m s + (16 - i) + 17
  vol : q.1.length + vol q.2.2.1 ≤ b.length + vol s
  i16 : q.2.2.2 ≤ 16

theorem b8_nil : B8 [] := by intro x hx; cases hx
theorem B8.app {a b : List Int} (ha : B8 a) (hb : B8 b) : B8 (a ++ b) := by
  intro x hx
  rcases List.mem_append.1 hx with h | h
  · exact ha x h
  · exact hb x h
theorem fill_ok {σ : Type} {RD : Nat → σ → Int × Int × List Int × σ} {cnt m vol : σ → Nat} (n : Nat) (H : ∀ k s i, 1 ≤ k → k ≤ 4096 → AskOk cnt m vol k s i (ask1 RD k s i)) : ∀ (fu : Nat) (b : List Int) (s : σ) (i : Nat), i < 16 → b.length ≤ n → 17 * (n - b.length) + (16 - i) ≤ fu → FillOk cnt m vol n b s i (fillF RD n fu b s i)
  | 0, b, s, i, hi, hb, hf => absurd hf (by omega)
  | fu + 1, b, s, i, hi, hb, hf => by
    by_cases hn : n ≤ b.length
    · rw [fillF, if_pos hn]
      exact ⟨fun _ => ⟨by simp only; omega, hi⟩, fun h => absurd rfl h, fun h => h, by simp only; omega, Nat.le_refl _, by simp only; omega⟩
    · have hA := H (min (n - b.length) 4096) s i (by omega) (by omega)
      rw [fill_step _ rfl (Nat.succ_pos _) hn]
      generalize ask1 RD (min (n - b.length) 4096) s i = q at *
      obtain ⟨bt, er, s', i'⟩ := q
      have h1 := hA.len
      have h2 := hA.cnt1
      have h3 := hA.vol
      have h4 := hA.mle
      have h5 := hA.i16 hi
      simp only at h1 h2 h3 h4 h5 ⊢
      by_cases hx : n ≤ b.length + bt.length
      · rw [if_pos hx]
        have hne : bt ≠ [] := fun e => by rw [e] at hx; simp at hx; omega
        have h6 := hA.i0 hne
        simp only at h6
        exact ⟨fun _ => ⟨by simp only [List.length_append]; omega, by simp only; omega⟩, fun h => absurd rfl h, fun h => h.app hA.b8, by simp only; omega, by simp only [List.length_append]; omega, by simp only; omega⟩
      · rw [if_neg hx]
        by_cases e31 : er = 31
        · rw [if_pos e31]
          exact ⟨fun h => absurd h (by simp), fun _ => rfl, fun _ => b8_nil, by simp only; omega, by simp only [List.length_nil]; omega, by simp only; omega⟩
        · rw [if_neg e31]
          by_cases e0 : er = 0
          · rw [if_neg (by simp [e0])]
            have g1 := hA.ok e0 hi
            have g2 := hA.pot e0 hi
            have g3 := hA.pot1 e0
            simp only at g1 g2 g3
            have hstep : (bt.length = 0 ∧ i' = i + 1) ∨ (0 < bt.length ∧ i' = 0 ∧ m s' + 1 ≤ m s) := by
              by_cases hb0 : bt = []
              · exact .inl ⟨by rw [hb0]; rfl, g2 hb0⟩
              · exact .inr ⟨List.length_pos_iff.2 hb0, (g3 hb0).2, (g3 hb0).1⟩
            have hF := fill_ok n H fu (b ++ bt) s' i' g1 (by rw [List.length_append]; omega) (by rw [List.length_append]; omega)
            have q1 := hF.pot
            have q2 := hF.vol
            rw [List.length_append] at q2
            show FillOk cnt m vol n b s i (fillF RD n fu (b ++ bt) s' i')
            exact ⟨hF.full, hF.none, fun h => hF.b8 (h.app hA.b8), by omega, by omega, hF.i16⟩
          · rw [if_pos e0]
            exact ⟨fun h => absurd h e0, fun _ => rfl, fun _ => b8_nil, by simp only; omega, by simp only [List.length_nil]; omega, by simp only; omega⟩

/-- Readers for whatever number of bytes, behind one interface. -/
structure RFam {σ : Type} (RD : Nat → σ → Int × Int × List Int × σ) (cnt m vol : σ → Nat) (f : FuncId) (recv : Value) (B : Nat) (Rd : World → σ → (Nat → Prop) → Prop) : Prop where
  R : ∀ k, 1 ≤ k → k ≤ 4096 → Reader k (RD k) cnt m f recv B Rd
  vol : ∀ k s, 1 ≤ k → k ≤ 4096 → (RD k s).2.2.1.length + vol (RD k s).2.2.2 ≤ vol s

theorem RFam.fill {σ : Type} {RD : Nat → σ → Int × Int × List Int × σ} {cnt m vol : σ → Nat} {f : FuncId} {recv : Value} {B : Nat} {Rd : World → σ → (Nat → Prop) → Prop} (X : RFam RD cnt m vol f recv B Rd) (n : Nat) (b : List Int) (s : σ) (i : Nat) (hi : i < 16) (hb : b.length ≤ n) : FillOk cnt m vol n b s i (fillA RD n b s i) :=
  fill_ok n (fun k s i h1 h2 => ask_ok (X.R k h1 h2) (fun s => X.vol k s h1 h2) s i) _ b s i hi hb (Nat.le_refl _)

/-- An In's state: its reader's, where it stands, how many calls running gave nothing, its error, what is left of the bound, what it holds. -/
structure InS (σ : Type) where
  s : σ
  at' : Nat
  i : Nat
  err : Int
  left : Nat
  held : List Int

/-- What is known of an In between two calls: C bounds the calls to come, L the bound. -/
structure InOk {σ : Type} (cnt m vol : σ → Nat) (C L : Nat) (x : InS σ) : Prop where
  held1 : x.held.length ≤ 1
  b8 : B8 x.held
  i16 : x.err = 0 → x.i < 16
  pot : x.err = 0 → cnt x.s + 17 * m x.s + (16 - x.i) ≤ C
  lim : x.err = 0 → x.at' + x.left = L
  vo : x.err = 0 → min x.left (x.held.length + vol x.s) ≤ 140737488355328
  atl : x.at' ≤ L

/-- take: the bytes, the error, the state. -/
def takeP {σ : Type} (RD : Nat → σ → Int × Int × List Int × σ) (n : Nat) (x : InS σ) : List Int × Int × InS σ :=
  if x.left < n then ([], 42, x) else if n = 0 then ([], 0, x) else
  ((fillA RD n x.held x.s x.i).1, (fillA RD n x.held x.s x.i).2.1, ⟨(fillA RD n x.held x.s x.i).2.2.1, x.at', (fillA RD n x.held x.s x.i).2.2.2, x.err, x.left - n, []⟩)

def IsIn {σ : Type} (Rd : World → σ → (Nat → Prop) → Prop) (B g : Nat) (r : Value) (W : World) (x : InS σ) (F : Nat → Prop) : Prop :=
  ∃ hv M, InC W g x.at' x.i x.err r x.left hv ∧ Rd W x.s M ∧ OwnB W B 5 hv x.held ∧ ¬ M g ∧ B ≤ g ∧ (∀ j, hv.ownBlock = some j → ¬ M j ∧ j ≠ g) ∧ ∀ j, F j ↔ (M j ∨ j = g ∨ hv.ownBlock = some j)

def TakePost {σ : Type} (Rd : World → σ → (Nat → Prop) → Prop) (B g : Nat) (r : Value) (q : List Int × Int × InS σ) (F : Nat → Prop) (W : World) (e : Ending) (W' : World) : Prop :=
  ∃ v F', e = .returned (.tuple #[v, .int .i64 q.2.1]) ∧ OwnB W' B 5 v q.1 ∧ IsIn Rd B g r W' q.2.2 F' ∧ Upd F W W' ∧ (∀ j, F' j → F j ∨ W.heap.size ≤ j) ∧ ∀ j, v.ownBlock = some j → ¬ F' j ∧ (F j ∨ W.heap.size ≤ j)

theorem own_nil_held {W : World} {B : Nat} {v : Value} (h : OwnB W B 5 v []) : v = .slice none 0 0 ∨ ∃ g cap, v = .slice (some ⟨g, 0, none⟩) 0 cap := by
  rcases h with ⟨h, _⟩ | ⟨g, cap, cur, h, _⟩
  · exact .inl h
  · exact .inr ⟨g, cap, h⟩

set_option maxRecDepth 100000 in
set_option maxHeartbeats 1600000 in
theorem take_any {σ : Type} {RD : Nat → σ → Int × Int × List Int × σ} {cnt m vol : σ → Nat} {f : FuncId} {recv : Value} {B : Nat} {Rd : World → σ → (Nat → Prop) → Prop} {ty : TypeId} {pv : Value} (L : Leads "Read" ty pv f recv) (X : RFam RD cnt m vol f recv B Rd)
    (W : World) (g : Nat) (x : InS σ) (F : Nat → Prop) (C l : Nat) (n : Nat) (hn : n ≤ 9223372036854775807) (hI : IsIn Rd B g (.iface ty pv) W x F) (hok : InOk cnt m vol C l x) (he : x.err = 0) (hC : C ≤ 4611686018427387000) (hl : l ≤ 9223372036854775807) (hB : B ≤ W.heap.size) :
    Calls Try.prog 35 #[.pointer (some ⟨g, 0, none⟩), .int .i64 (n : Int)] W fun e W' => TakePost Rd B g (.iface ty pv) (takeP RD n x) F W e W' := by
  obtain ⟨s, at', i, err, left, held⟩ := x
  simp only at he
  subst he
  obtain ⟨hv, M, hi, hr, ho, hMg, hBg, hd, hF⟩ := hI
  simp only at hi hr ho
  have c4 := (InC.c hi).2.2.2.2.1
  have c5 := (InC.c hi).2.2.2.2.2.1
  have f4 := (InC.c hi).2.2.2.2.2.2 4
  have f5 := (InC.c hi).2.2.2.2.2.2 5
  have hlim := hok.lim rfl
  simp only at hlim
  have HI := hide hi
  have HSAME : Hid (∀ ee, takeP RD n ⟨s, at', i, 0, left, held⟩ = ([], ee, ⟨s, at', i, 0, left, held⟩) → TakePost Rd B g (.iface ty pv) (takeP RD n ⟨s, at', i, 0, left, held⟩) F W (.returned (.tuple #[.slice none 0 0, .int .i64 ee])) W) := hide fun ee h => by
    rw [h]
    exact ⟨.slice none 0 0, F, rfl, OwnB.nil _ _ _, ⟨hv, M, hi, hr, ho, hMg, hBg, hd, hF⟩, Upd.refl _ _, fun _ h => .inl h, fun j hj => by cases hj⟩
  by_cases hlt : left < n
  · have HF := hide (HSAME.out 42 (by simp [takeP, hlt]))
    have hlti : (left : Int) < (n : Int) := by omega
    clear HSAME hi hr ho hd hF hok
    go_enter Try.func35, Try.ntmps35
    go_wp2_with fail
    go_ret2
    exact HF.out
  · have hlti : ¬ (left : Int) < (n : Int) := by omega
    by_cases hn0 : n = 0
    · subst hn0
      have HF := hide (HSAME.out 0 (by simp [takeP]))
      clear HSAME hi hr ho hd hF hok hlt
      go_enter Try.func35, Try.ntmps35
      go_wp2_with fail
      go_ret2
      exact HF.out
    · have hn0i : ¬ (n : Int) = 0 := by omega
      have hsub : ((left - n : Nat) : Int) = (left : Int) - (n : Int) := by omega
      have hi1 : InC ((W.setCell ⟨g, 5, none⟩ (.slice none 0 0)).setCell ⟨g, 4, none⟩ (.int .i64 ((left : Int) - (n : Int)))) g at' i 0 (.iface ty pv) (left - n) (.slice none 0 0) := by
        unfold InC
        rw [hsub]
        exact block_setCell (block_setCell hi 5 _) 4 _
      have hu1 : Upd (fun j => j = g) W ((W.setCell ⟨g, 5, none⟩ (.slice none 0 0)).setCell ⟨g, 4, none⟩ (.int .i64 ((left : Int) - (n : Int)))) := ((Upd.refl _ _).set1 5 _).trans ((Upd.refl _ _).set1 4 _)
      have hvo := hok.vo rfl
      have hh1 := hok.held1
      simp only at hvo hh1
      have HFA := hide (fill_any L X.R X.vol ((W.setCell ⟨g, 5, none⟩ (.slice none 0 0)).setCell ⟨g, 4, none⟩ (.int .i64 ((left : Int) - (n : Int)))) g s M at' i 0 (left - n) (.slice none 0 0) hv held n hn (by omega) (Nat.le_trans hB hu1.size) hi1 ((X.R 1 (by omega) (by omega)).upd hr hu1 (fun j e => by subst e; exact ⟨hBg, hMg⟩)) hMg hBg (hok.i16 rfl) (ho.upd hu1 (fun j hj e => (hd j hj).2 e)) hd (by have := hok.pot rfl; simp only at this; omega) (by omega))
      have HTP : Hid (takeP RD n ⟨s, at', i, 0, left, held⟩ = ((fillA RD n held s i).1, (fillA RD n held s i).2.1, ⟨(fillA RD n held s i).2.2.1, at', (fillA RD n held s i).2.2.2, 0, left - n, []⟩)) := hide (by simp [takeP, hlt, hn0])
      have hgl : g < W.heap.size := lt_of_block hi
      have hol := hide (ho.owns.lt)
      obtain ⟨ah, ch, rfl, _, _, _⟩ := ho.sliceN rfl
      have HU1 := hide hu1
      have HD := hide hd
      have HFF := hide hF
      clear HSAME hi hr ho hd hF hok hi1 hu1 hsub
      go_enter Try.func35, Try.ntmps35
      go_wp2_with fail
      refine HFA.out.mono ?_
      rintro e w1 ⟨v, M', rfl, ho1, hi1, hr1, hu1, hm1, hd1⟩
      have hz1 := HU1.out.size
      have HF : Hid (TakePost Rd B g (.iface ty pv) (takeP RD n ⟨s, at', i, 0, left, held⟩) F W (.returned (.tuple #[v, .int .i64 (fillA RD n held s i).2.1])) w1) := by
        rw [HTP.out]
        have hM'g : ¬ M' g := fun e => (hm1 g e).elim hMg (fun h => by omega)
        refine ⟨v, fun j => M' j ∨ j = g, rfl, ho1, ⟨.slice none 0 0, M', hi1, hr1, OwnB.nil _ _ _, hM'g, hBg, (fun j hj => by cases hj), fun j => ⟨fun h => h.elim .inl (fun h => .inr (.inl h)), fun h => h.elim .inl (fun h => h.elim .inr (fun h => by cases h))⟩⟩, ?_, ?_, ?_⟩
        · exact (HU1.out.mono (fun j _ e => (HFF.out j).2 (.inr (.inl e)))).then hu1 (fun j _ e => (HFF.out j).2 e)
        · rintro j (h | h)
          · exact (hm1 j h).elim (fun h => .inl ((HFF.out j).2 (.inl h))) (fun h => .inr (by omega))
          · exact .inl ((HFF.out j).2 (.inr (.inl h)))
        · intro j hj
          obtain ⟨h1, h2, h3⟩ := hd1 j hj
          exact ⟨fun e => e.elim h1 h2, h3.elim (fun h => .inl ((HFF.out j).2 (.inr (.inr h)))) (fun h => .inr (by omega))⟩
      obtain ⟨a3, c3, rfl, _, _, _⟩ := ho1.sliceN rfl
      clear ho1 hi1 hr1 hu1 hm1 hd1 HFA
      go_wp2_with fail
      go_ret2
      exact HF.out

end Go.Proofs.Ytjcanghffhpncaa

namespace Go.Proofs.Ytjcanghffhpncaa
open Go.RowKit

def InS.ends {σ : Type} (x : InS σ) (e : Int) : InS σ := ⟨x.s, x.at', x.i, e, x.left, x.held⟩
def InS.goes {σ : Type} (x : InS σ) (n : Nat) : InS σ := ⟨x.s, x.at' + n, x.i, x.err, x.left, x.held⟩
def byteP {σ : Type} (RD : Nat → σ → Int × Int × List Int × σ) (x : InS σ) : Int × Int × InS σ :=
  if x.err ≠ 0 then (0, x.err, x) else
  if (takeP RD 1 x).2.1 ≠ 0 then (0, (takeP RD 1 x).2.1, (takeP RD 1 x).2.2.ends (takeP RD 1 x).2.1) else ((takeP RD 1 x).1.getD 0 0, 0, (takeP RD 1 x).2.2.goes 1)
def bytesP {σ : Type} (RD : Nat → σ → Int × Int × List Int × σ) (n : Int) (x : InS σ) : List Int × Int × InS σ :=
  if x.err ≠ 0 then ([], x.err, x) else if n < 0 then ([], 1, x) else
  if (takeP RD n.toNat x).2.1 ≠ 0 then ([], (takeP RD n.toNat x).2.1, (takeP RD n.toNat x).2.2.ends (takeP RD n.toNat x).2.1) else ((takeP RD n.toNat x).1, 0, (takeP RD n.toNat x).2.2.goes n.toNat)
def endP {σ : Type} (RD : Nat → σ → Int × Int × List Int × σ) (x : InS σ) : Bool × Int × InS σ :=
  if x.err ≠ 0 then (false, x.err, x) else if x.held ≠ [] then (false, 0, x) else
  if (fillA RD 1 [] x.s x.i).2.1 = 41 then (true, 0, ⟨(fillA RD 1 [] x.s x.i).2.2.1, x.at', (fillA RD 1 [] x.s x.i).2.2.2, x.err, x.left, x.held⟩) else
  if (fillA RD 1 [] x.s x.i).2.1 ≠ 0 then (false, (fillA RD 1 [] x.s x.i).2.1, ⟨(fillA RD 1 [] x.s x.i).2.2.1, x.at', (fillA RD 1 [] x.s x.i).2.2.2, (fillA RD 1 [] x.s x.i).2.1, x.left, x.held⟩) else
  (false, 0, ⟨(fillA RD 1 [] x.s x.i).2.2.1, x.at', (fillA RD 1 [] x.s x.i).2.2.2, x.err, x.left, (fillA RD 1 [] x.s x.i).1⟩)

/-- What is known behind take. -/
structure TakeOk {σ : Type} (cnt m vol : σ → Nat) (C l n : Nat) (x : InS σ) (q : List Int × Int × InS σ) : Prop where
  ok : q.2.1 = 0 → q.1.length = n ∧ B8 q.1 ∧ q.2.2.i < 16 ∧ n ≤ x.left ∧ q.2.2.left = x.left - n
  none : q.2.1 ≠ 0 → q.1 = []
  at1 : q.2.2.at' = x.at'
  err1 : q.2.2.err = x.err
  held1 : q.2.2.held.length ≤ 1
  b8 : B8 q.2.2.held
  pot : cnt q.2.2.s + 17 * m q.2.2.s + (16 - q.2.2.i) ≤ C + 17
  vo : min q.2.2.left (q.2.2.held.length + vol q.2.2.s) ≤ 140737488355328

theorem take_ok {σ : Type} {RD : Nat → σ → Int × Int × List Int × σ} {cnt m vol : σ → Nat} {f : FuncId} {recv : Value} {B : Nat} {Rd : World → σ → (Nat → Prop) → Prop} (X : RFam RD cnt m vol f recv B Rd) (n : Nat) (x : InS σ) (C l : Nat) (hok : InOk cnt m vol C l x) (he : x.err = 0) : TakeOk cnt m vol C l n x (takeP RD n x) := by
  obtain ⟨s, at', i, err, left, held⟩ := x
  simp only at he
  subst he
  have h1 := hok.held1
  have h2 := hok.b8
  have h3 := hok.i16 rfl
  have h4 := hok.pot rfl
  have h5 := hok.vo rfl
  simp only at h1 h2 h3 h4 h5
  unfold takeP
  simp only
  by_cases hlt : left < n
  · rw [if_pos hlt]
    exact ⟨fun h => absurd h (by simp), fun _ => rfl, rfl, rfl, h1, h2, by simp only; omega, h5⟩
  · rw [if_neg hlt]
    by_cases hn0 : n = 0
    · rw [if_pos hn0]
      exact ⟨fun _ => ⟨hn0.symm, b8_nil, h3, by simp only; omega, by simp only; omega⟩, fun h => absurd rfl h, rfl, rfl, h1, h2, by simp only; omega, h5⟩
    · rw [if_neg hn0]
      have hF := X.fill n held s i h3 (by omega)
      have k1 := hF.pot
      have k2 := hF.vol
      exact ⟨fun h => ⟨(hF.full h).1, hF.b8 h2, (hF.full h).2, by simp only; omega, rfl⟩, hF.none, rfl, rfl, by simp, b8_nil, by simp only; omega, by simp only [List.length_nil]; omega⟩

def BytePost {σ : Type} (Rd : World → σ → (Nat → Prop) → Prop) (B g : Nat) (r v : Value) (ee : Int) (x : InS σ) (F : Nat → Prop) (W : World) (e : Ending) (W' : World) : Prop :=
  ∃ F', e = .returned (.tuple #[v, .int .i64 ee]) ∧ IsIn Rd B g r W' x F' ∧ Upd F W W' ∧ (∀ j, F' j → F j ∨ W.heap.size ≤ j)

theorem IsIn.g {σ : Type} {Rd : World → σ → (Nat → Prop) → Prop} {B g : Nat} {r : Value} {W : World} {x : InS σ} {F : Nat → Prop} (h : IsIn Rd B g r W x F) : F g ∧ g < W.heap.size ∧ W.cell? ⟨g, 0, none⟩ = some (.int .i64 (x.at' : Int)) ∧ W.cell? ⟨g, 2, none⟩ = some (.int .i64 x.err) ∧ W.frozen? ⟨g, 2, none⟩ = false ∧ W.frozen? ⟨g, 0, none⟩ = false := by
  obtain ⟨hv, M, hi, hr, ho, hMg, hBg, hd, hF⟩ := h
  exact ⟨(hF g).2 (.inr (.inl rfl)), lt_of_block hi, (InC.c hi).1, (InC.c hi).2.2.1, (InC.c hi).2.2.2.2.2.2 2, (InC.c hi).2.2.2.2.2.2 0⟩
/-- A cell of its own is set: its error, or where it stands. -/
theorem IsIn.setErr {σ : Type} {Rd : World → σ → (Nat → Prop) → Prop} {B g : Nat} {r : Value} {W : World} {x : InS σ} {F : Nat → Prop} (hup : ∀ {W W' : World} {s : σ} {M S : Nat → Prop}, Rd W s M → Upd S W W' → (∀ i, S i → B ≤ i ∧ ¬ M i) → Rd W' s M) (h : IsIn Rd B g r W x F) (e : Int) : IsIn Rd B g r (W.setCell ⟨g, 2, none⟩ (.int .i64 e)) (x.ends e) F ∧ Upd F W (W.setCell ⟨g, 2, none⟩ (.int .i64 e)) := by
  obtain ⟨hv, M, hi, hr, ho, hMg, hBg, hd, hF⟩ := h
  have hu : Upd (fun j => j = g) W (W.setCell ⟨g, 2, none⟩ (.int .i64 e)) := (Upd.refl _ _).set1 2 _
  exact ⟨⟨hv, M, block_setCell hi 2 _, hup hr hu (fun j e => by subst e; exact ⟨hBg, hMg⟩), ho.upd hu (fun j hj e => (hd j hj).2 e), hMg, hBg, hd, hF⟩, hu.mono (fun j _ e => (hF j).2 (.inr (.inl e)))⟩
theorem IsIn.setAt {σ : Type} {Rd : World → σ → (Nat → Prop) → Prop} {B g : Nat} {r : Value} {W : World} {x : InS σ} {F : Nat → Prop} (hup : ∀ {W W' : World} {s : σ} {M S : Nat → Prop}, Rd W s M → Upd S W W' → (∀ i, S i → B ≤ i ∧ ¬ M i) → Rd W' s M) (h : IsIn Rd B g r W x F) (n : Nat) (z : Int) (hz : z = (x.at' : Int) + (n : Int)) : IsIn Rd B g r (W.setCell ⟨g, 0, none⟩ (.int .i64 z)) (x.goes n) F ∧ Upd F W (W.setCell ⟨g, 0, none⟩ (.int .i64 z)) := by
  obtain ⟨hv, M, hi, hr, ho, hMg, hBg, hd, hF⟩ := h
  have hu : Upd (fun j => j = g) W (W.setCell ⟨g, 0, none⟩ (.int .i64 z)) := (Upd.refl _ _).set1 0 _
  refine ⟨⟨hv, M, ?_, hup hr hu (fun j e => by subst e; exact ⟨hBg, hMg⟩), ho.upd hu (fun j hj e => (hd j hj).2 e), hMg, hBg, hd, hF⟩, hu.mono (fun j _ e => (hF j).2 (.inr (.inl e)))⟩
  subst hz
  have e1 : ((x.at' + n : Nat) : Int) = (x.at' : Int) + (n : Int) := by omega
  unfold InC InS.goes
  rw [e1]
  exact block_setCell hi 0 _

set_option maxRecDepth 100000 in
set_option maxHeartbeats 1600000 in
theorem byte_any {σ : Type} {RD : Nat → σ → Int × Int × List Int × σ} {cnt m vol : σ → Nat} {f : FuncId} {recv : Value} {B : Nat} {Rd : World → σ → (Nat → Prop) → Prop} {ty : TypeId} {pv : Value} (L : Leads "Read" ty pv f recv) (X : RFam RD cnt m vol f recv B Rd)
    (W : World) (g : Nat) (x : InS σ) (F : Nat → Prop) (C l : Nat) (hI : IsIn Rd B g (.iface ty pv) W x F) (hok : InOk cnt m vol C l x) (hC : C ≤ 4611686018427387000) (hl : l ≤ 9223372036854775807) (hB : B ≤ W.heap.size) :
    Calls Try.prog 17 #[.pointer (some ⟨g, 0, none⟩)] W fun e W' => BytePost Rd B g (.iface ty pv) (.int .u8 (byteP RD x).1) (byteP RD x).2.1 (byteP RD x).2.2 F W e W' := by
  have hg := hI.g
  have c2 := hg.2.2.2.1
  by_cases he : x.err = 0
  · have HT := hide (take_any L X W g x F C l 1 (by omega) hI hok he hC hl hB)
    have HOK := hide (take_ok X 1 x C l hok he)
    have hlim := hok.lim he
    have HBP : Hid (byteP RD x = if (takeP RD 1 x).2.1 ≠ 0 then (0, (takeP RD 1 x).2.1, (takeP RD 1 x).2.2.ends (takeP RD 1 x).2.1) else ((takeP RD 1 x).1.getD 0 0, 0, (takeP RD 1 x).2.2.goes 1)) := hide (by unfold byteP; rw [if_neg (by simp [he])])
    have HX := hide X
    rw [he] at c2
    clear hg hI hok L X he
    generalize takeP RD 1 x = q at *
    obtain ⟨bs, er, x'⟩ := q
    simp only at HBP
    go_enter Try.func17, Try.ntmps17
    go_wp2_with fail
    refine HT.out.mono ?_
    rintro e w1 ⟨v, F', rfl, ho1, hi1, hu1, hf1, hd1⟩
    simp only at ho1 hi1
    obtain ⟨lb, hlb⟩ : ∃ lb, bs.length = lb := ⟨_, rfl⟩
    have hr1 := ho1.slice
    obtain ⟨a1, c1, rfl, hn1, hc1, _⟩ := ho1.sliceN hlb
    have hrow := ho1.row
    have hg1 := hi1.g
    have d0 := hg1.2.2.1
    have d2 := hg1.2.2.2.1
    have f2 := hg1.2.2.2.2.1
    have f0 := hg1.2.2.2.2.2
    replace hlb := hide hlb
    have HI1 := hide hi1
    have HU1 := hide hu1
    have HF1 := hide hf1
    by_cases e0 : er = 0
    · subst e0
      rw [if_neg (by simp)] at HBP
      have hok1 := HOK.out.ok rfl
      obtain rfl : lb = 1 := by rw [← hlb.out]; exact hok1.1
      obtain ⟨b, o, ha, hcell⟩ := hrow 0 (by rw [hlb.out]; omega)
      subst ha
      have hat : x'.at' + 1 ≤ 9223372036854775807 := by have h1 := HOK.out.at1; simp only at h1 hok1; omega
      have hcell2 : (w1.setCell ⟨g, 0, none⟩ (.int .i64 ((x'.at' : Int) + 1))).cell? ⟨b, o, none⟩ = some (.int .u8 (bs.getD 0 0)) := by
        have hne : b ≠ g := fun e => by
          subst e
          have h1 := OwnB.bo ho1
          have h2 : (Value.slice (some ⟨b, o, none⟩) 1 c1).ownBlock = some b := by rw [← h1]; rfl
          exact (hd1 b h2).1 hg1.1
        have hu : Upd (fun j => j = g) w1 (w1.setCell ⟨g, 0, none⟩ (.int .i64 ((x'.at' : Int) + 1))) := (Upd.refl _ _).set1 0 _
        exact hu.cell (p := ⟨b, o, none⟩) hcell hne
      have HF : Hid (BytePost Rd B g (.iface ty pv) (.int .u8 (byteP RD x).1) (byteP RD x).2.1 (byteP RD x).2.2 F W (.returned (.tuple #[.int .u8 (bs.getD 0 0), .int .i64 0])) (w1.setCell ⟨g, 0, none⟩ (.int .i64 ((x'.at' : Int) + 1)))) := by
        rw [HBP.out]
        obtain ⟨q1, q2⟩ := hi1.setAt (HX.out.R 1 (by omega) (by omega)).upd 1 ((x'.at' : Int) + 1) rfl
        exact ⟨F', rfl, q1, hu1.then q2 (fun j hj e => (hf1 j e).elim id (fun h => by omega)), hf1⟩
      clear HBP HT hi1 ho1 hu1 hf1 hd1 hr1 hrow hcell hok1 hg1
      go_wp2_with fail
      go_ret2
      exact HF.out
    · rw [if_pos e0] at HBP
      have e0' : (er != 0) = true := by simp [e0]
      have HE := hide (end_any g er (.int .i64 x'.err) w1 d2 f2)
      have HF : Hid (BytePost Rd B g (.iface ty pv) (.int .u8 (byteP RD x).1) (byteP RD x).2.1 (byteP RD x).2.2 F W (.returned (.tuple #[.int .u8 0, .int .i64 er])) (w1.setCell ⟨g, 2, none⟩ (.int .i64 er))) := by
        rw [HBP.out]
        obtain ⟨q1, q2⟩ := hi1.setErr (HX.out.R 1 (by omega) (by omega)).upd er
        exact ⟨F', rfl, q1, hu1.then q2 (fun j hj e => (hf1 j e).elim id (fun h => by omega)), hf1⟩
      clear HBP HT hi1 ho1 hu1 hf1 hd1 hr1 hrow hg1
      go_wp2_with (first
        | (go_at_call 37; refine HE.out.mono ?_; rintro e w2 ⟨rfl, rfl⟩)
        | fail)
      go_ret2
      exact HF.out
  · have he' : (x.err != 0) = true := by simp [he]
    have HF : Hid (∀ n, BytePost Rd B g (.iface ty pv) (.int .u8 (byteP RD x).1) (byteP RD x).2.1 (byteP RD x).2.2 F W (.returned (.tuple #[.int .u8 0, .int .i64 x.err])) (W.drewN n)) := hide fun n => by
      have hb : byteP RD x = (0, x.err, x) := by unfold byteP; rw [if_pos he]
      rw [hb]
      obtain ⟨hv, M, hi, hr, ho, hMg, hBg, hd, hF⟩ := hI
      have hu : Upd Noth W (W.drewN n) := ((Still.refl W).drewN n).upd Noth
      exact ⟨F, rfl, ⟨hv, M, hi, (X.R 1 (by omega) (by omega)).upd hr hu (fun _ e => e.elim), ho.upd hu (fun _ _ e => e), hMg, hBg, hd, hF⟩, hu.noth, fun _ h => .inl h⟩
    clear hg hI hok L X
    go_enter Try.func17, Try.ntmps17
    go_wp2_with fail
    go_quiet (fail)
    go_wp2_with fail
    go_ret2
    exact HF.out _

end Go.Proofs.Ytjcanghffhpncaa

namespace Go.Proofs.Ytjcanghffhpncaa
open Go.RowKit

/-- A call that does nothing, drawing aside. -/
theorem IsIn.still {σ : Type} {RD : Nat → σ → Int × Int × List Int × σ} {cnt m vol : σ → Nat} {f : FuncId} {recv : Value} {B : Nat} {Rd : World → σ → (Nat → Prop) → Prop} (X : RFam RD cnt m vol f recv B Rd) {g : Nat} {r : Value} {W : World} {x : InS σ} {F : Nat → Prop} (h : IsIn Rd B g r W x F) (n : Nat) : IsIn Rd B g r (W.drewN n) x F := by
  obtain ⟨hv, M, hi, hr, ho, hMg, hBg, hd, hF⟩ := h
  have hu : Upd Noth W (W.drewN n) := ((Still.refl W).drewN n).upd Noth
  exact ⟨hv, M, hi, (X.R 1 (by omega) (by omega)).upd hr hu (fun _ e => e.elim), ho.upd hu (fun _ _ e => e), hMg, hBg, hd, hF⟩
theorem IsIn.upd {σ : Type} {RD : Nat → σ → Int × Int × List Int × σ} {cnt m vol : σ → Nat} {f : FuncId} {recv : Value} {B : Nat} {Rd : World → σ → (Nat → Prop) → Prop} (X : RFam RD cnt m vol f recv B Rd) {g : Nat} {r : Value} {W W' : World} {x : InS σ} {F S : Nat → Prop} (h : IsIn Rd B g r W x F) (hu : Upd S W W') (hs : ∀ j, S j → B ≤ j ∧ ¬ F j) : IsIn Rd B g r W' x F := by
  obtain ⟨hv, M, hi, hr, ho, hMg, hBg, hd, hF⟩ := h
  exact ⟨hv, M, hi.upd hu (fun e => (hs g e).2 ((hF g).2 (.inr (.inl rfl)))), (X.R 1 (by omega) (by omega)).upd hr hu (fun j e => ⟨(hs j e).1, fun h => (hs j e).2 ((hF j).2 (.inl h))⟩), ho.upd hu (fun j hj e => (hs j e).2 ((hF j).2 (.inr (.inr hj)))), hMg, hBg, hd, hF⟩

set_option maxRecDepth 100000 in
set_option maxHeartbeats 1600000 in
theorem bytes_any {σ : Type} {RD : Nat → σ → Int × Int × List Int × σ} {cnt m vol : σ → Nat} {f : FuncId} {recv : Value} {B : Nat} {Rd : World → σ → (Nat → Prop) → Prop} {ty : TypeId} {pv : Value} (L : Leads "Read" ty pv f recv) (X : RFam RD cnt m vol f recv B Rd)
    (W : World) (g : Nat) (x : InS σ) (F : Nat → Prop) (C l : Nat) (n : Int) (hn : n ≤ 9223372036854775807) (hI : IsIn Rd B g (.iface ty pv) W x F) (hok : InOk cnt m vol C l x) (hC : C ≤ 4611686018427387000) (hl : l ≤ 9223372036854775807) (hB : B ≤ W.heap.size) :
    Calls Try.prog 15 #[.pointer (some ⟨g, 0, none⟩), .int .i64 n] W fun e W' => TakePost Rd B g (.iface ty pv) (bytesP RD n x) F W e W' := by
  have hg := hI.g
  have c2 := hg.2.2.2.1
  by_cases he : x.err = 0
  · by_cases hneg : n < 0
    · have HF : Hid (TakePost Rd B g (.iface ty pv) (bytesP RD n x) F W (.returned (.tuple #[.slice none 0 0, .int .i64 1])) W) := by
        have hb : bytesP RD n x = ([], 1, x) := by unfold bytesP; rw [if_neg (by simp [he]), if_pos hneg]
        rw [hb]
        exact ⟨_, F, rfl, OwnB.nil _ _ _, hI, Upd.refl _ _, fun _ h => .inl h, fun j hj => by cases hj⟩
      rw [he] at c2
      clear hg hI hok L X he
      go_enter Try.func15, Try.ntmps15
      go_wp2_with fail
      go_ret2
      exact HF.out
    · obtain ⟨k, rfl⟩ : ∃ k : Nat, n = k := ⟨n.toNat, by omega⟩
      have HT := hide (take_any L X W g x F C l k (by omega) hI hok he hC hl hB)
      have HOK := hide (take_ok X k x C l hok he)
      have hlim := hok.lim he
      have HBP : Hid (bytesP RD k x = if (takeP RD k x).2.1 ≠ 0 then ([], (takeP RD k x).2.1, (takeP RD k x).2.2.ends (takeP RD k x).2.1) else ((takeP RD k x).1, 0, (takeP RD k x).2.2.goes k)) := hide (by unfold bytesP; rw [if_neg (by simp [he]), if_neg hneg, Int.toNat_natCast])
      have HX := hide X
      rw [he] at c2
      clear hg hI hok L X he
      generalize takeP RD k x = q at *
      obtain ⟨bs, er, x'⟩ := q
      simp only at HBP
      go_enter Try.func15, Try.ntmps15
      go_wp2_with fail
      refine HT.out.mono ?_
      rintro e w1 ⟨v, F', rfl, ho1, hi1, hu1, hf1, hd1⟩
      simp only at ho1 hi1
      have hr1 := ho1.slice
      have HO1 := hide ho1
      have HD1 := hide hd1
      obtain ⟨a1, c1, rfl, hn1, hc1, _⟩ := ho1.sliceN rfl
      have hg1 := hi1.g
      have d0 := hg1.2.2.1
      have d2 := hg1.2.2.2.1
      have f2 := hg1.2.2.2.2.1
      have f0 := hg1.2.2.2.2.2
      by_cases e0 : er = 0
      · subst e0
        rw [if_neg (by simp)] at HBP
        have hok1 := HOK.out.ok rfl
        have hat : x'.at' + k ≤ 9223372036854775807 := by have h1 := HOK.out.at1; simp only at h1 hok1; omega
        have HF : Hid (TakePost Rd B g (.iface ty pv) (bytesP RD k x) F W (.returned (.tuple #[.slice a1 bs.length c1, .int .i64 0])) (w1.setCell ⟨g, 0, none⟩ (.int .i64 ((x'.at' : Int) + (k : Int))))) := by
          rw [HBP.out]
          obtain ⟨q1, q2⟩ := hi1.setAt (HX.out.R 1 (by omega) (by omega)).upd k ((x'.at' : Int) + (k : Int)) rfl
          have hu : Upd (fun j => j = g) w1 (w1.setCell ⟨g, 0, none⟩ (.int .i64 ((x'.at' : Int) + (k : Int)))) := (Upd.refl _ _).set1 0 _
          exact ⟨_, F', rfl, ho1.upd hu (fun j hj e => by subst e; exact (hd1 j hj).1 hg1.1), q1, hu1.then q2 (fun j hj e => (hf1 j e).elim id (fun h => by omega)), hf1, hd1⟩
        clear HBP HT hi1 ho1 hu1 hf1 hd1 hr1 hok1 hg1 hn1
        go_wp2_with fail
        go_ret2
        exact HF.out
      · rw [if_pos e0] at HBP
        have e0' : (er != 0) = true := by simp [e0]
        have HE := hide (end_any g er (.int .i64 x'.err) w1 d2 f2)
        have HF : Hid (TakePost Rd B g (.iface ty pv) (bytesP RD k x) F W (.returned (.tuple #[.slice none 0 0, .int .i64 er])) (w1.setCell ⟨g, 2, none⟩ (.int .i64 er))) := by
          rw [HBP.out]
          obtain ⟨q1, q2⟩ := hi1.setErr (HX.out.R 1 (by omega) (by omega)).upd er
          exact ⟨_, F', rfl, OwnB.nil _ _ _, q1, hu1.then q2 (fun j hj e => (hf1 j e).elim id (fun h => by omega)), hf1, fun j hj => by cases hj⟩
        clear HBP HT hi1 ho1 hu1 hf1 hd1 hr1 hg1 hn1
        go_wp2_with (first
          | (go_at_call 37; refine HE.out.mono ?_; rintro e w2 ⟨rfl, rfl⟩)
          | fail)
        go_ret2
        exact HF.out
  · have he' : (x.err != 0) = true := by simp [he]
    have HF : Hid (∀ k, TakePost Rd B g (.iface ty pv) (bytesP RD n x) F W (.returned (.tuple #[.slice none 0 0, .int .i64 x.err])) (W.drewN k)) := hide fun k => by
      have hb : bytesP RD n x = ([], x.err, x) := by unfold bytesP; rw [if_pos he]
      rw [hb]
      exact ⟨_, F, rfl, OwnB.nil _ _ _, hI.still X k, (((Still.refl W).drewN k).upd Noth).noth, fun _ h => .inl h, fun j hj => by cases hj⟩
    clear hg hI hok L X
    go_enter Try.func15, Try.ntmps15
    go_wp2_with fail
    go_quiet (fail)
    go_wp2_with fail
    go_ret2
    exact HF.out _

set_option maxRecDepth 100000 in
set_option maxHeartbeats 1600000 in
theorem inend_any {σ : Type} {RD : Nat → σ → Int × Int × List Int × σ} {cnt m vol : σ → Nat} {f : FuncId} {recv : Value} {B : Nat} {Rd : World → σ → (Nat → Prop) → Prop} {ty : TypeId} {pv : Value} (L : Leads "Read" ty pv f recv) (X : RFam RD cnt m vol f recv B Rd)
    (W : World) (g : Nat) (x : InS σ) (F : Nat → Prop) (C l : Nat) (hI : IsIn Rd B g (.iface ty pv) W x F) (hok : InOk cnt m vol C l x) (hC : C ≤ 4611686018427387000) (hB : B ≤ W.heap.size) :
    Calls Try.prog 18 #[.pointer (some ⟨g, 0, none⟩)] W fun e W' => BytePost Rd B g (.iface ty pv) (.bool (endP RD x).1) (endP RD x).2.1 (endP RD x).2.2 F W e W' := by
  have hg := hI.g
  have c2 := hg.2.2.2.1
  by_cases he : x.err = 0
  · have HSAME : Hid (endP RD x = (false, 0, x) → BytePost Rd B g (.iface ty pv) (.bool (endP RD x).1) (endP RD x).2.1 (endP RD x).2.2 F W (.returned (.tuple #[.bool false, .int .i64 0])) W) := hide fun h => by
      rw [h]
      exact ⟨F, rfl, hI, Upd.refl _ _, fun _ h => .inl h⟩
    obtain ⟨hv, M, hi, hr, ho, hMg, hBg, hd, hF⟩ := hI
    have c5 := (InC.c hi).2.2.2.2.2.1
    have f5 := (InC.c hi).2.2.2.2.2.2 5
    obtain ⟨lh, hlh⟩ : ∃ lh, x.held.length = lh := ⟨_, rfl⟩
    have ho' := ho
    obtain ⟨ah, ch, rfl, _, _, _⟩ := ho'.sliceN hlh
    rw [he] at c2
    by_cases hh : x.held = []
    · have hlh0 : lh = 0 := by rw [← hlh, hh]; rfl
      subst hlh0
      have HFA := hide (fill_any L X.R X.vol W g x.s M x.at' x.i x.err x.left (.slice ah 0 ch) (.slice none 0 0) [] 1 (by omega) (by simp) hB hi hr hMg hBg (hok.i16 he) (OwnB.nil _ _ _) (fun j hj => by cases hj) (by have := hok.pot he; omega) (by omega))
      have HE : Hid (endP RD x = if (fillA RD 1 [] x.s x.i).2.1 = 41 then (true, 0, ⟨(fillA RD 1 [] x.s x.i).2.2.1, x.at', (fillA RD 1 [] x.s x.i).2.2.2, x.err, x.left, x.held⟩) else
  if (fillA RD 1 [] x.s x.i).2.1 ≠ 0 then (false, (fillA RD 1 [] x.s x.i).2.1, ⟨(fillA RD 1 [] x.s x.i).2.2.1, x.at', (fillA RD 1 [] x.s x.i).2.2.2, (fillA RD 1 [] x.s x.i).2.1, x.left, x.held⟩) else
  (false, 0, ⟨(fillA RD 1 [] x.s x.i).2.2.1, x.at', (fillA RD 1 [] x.s x.i).2.2.2, x.err, x.left, (fillA RD 1 [] x.s x.i).1⟩)) := hide (by unfold endP; rw [if_neg (by simp [he]), if_neg (by simp [hh])])
      generalize fillA RD 1 [] x.s x.i = q at *
      obtain ⟨bs, er, s', i'⟩ := q
      simp only at HE
      have HX := hide X
      have HD := hide hd
      have HFF := hide hF
      have HO := hide ho
      have hgl : g < W.heap.size := lt_of_block hi
      have HHE := hide he
      clear HSAME hg hi hr ho ho' hd hF hok L X he hh hlh
      go_enter Try.func18, Try.ntmps18
      go_wp2_with fail
      refine HFA.out.mono ?_
      rintro e w1 ⟨v, M', rfl, ho1, hi1, hr1, hu1, hm1, hd1⟩
      simp only at ho1 hi1 hr1
      have HU1 : Hid (Upd F W w1) := hide (hu1.mono (fun j _ e => e.elim (fun h => (HFF.out j).2 (.inl h)) (fun h => h.elim (fun h => (HFF.out j).2 (.inr (.inl h))) (fun h => by cases h))))
      have hM'g : ¬ M' g := fun e => (hm1 g e).elim hMg (fun h => by omega)
      have hd2 : Hid (∀ j, (Value.slice ah 0 ch).ownBlock = some j → ¬ M' j ∧ j ≠ g) := hide fun j hj => ⟨fun e => (hm1 j e).elim (HD.out j hj).1 (fun h => by have := (HO.out.owns.lt j hj).2; omega), (HD.out j hj).2⟩
      have ho2 : Hid (OwnB w1 B 5 (.slice ah 0 ch) x.held) := hide (HO.out.upd hu1 (fun j hj e => e.elim (HD.out j hj).1 (fun h => h.elim (HD.out j hj).2 (fun h => by cases h))))
      have HM1 := hide hm1
      have HR1 := hide hr1
      have HI1 := hide hi1
      have HIN : Hid (IsIn Rd B g (.iface ty pv) w1 ⟨s', x.at', i', x.err, x.left, x.held⟩ (fun j => M' j ∨ j = g ∨ (Value.slice ah 0 ch).ownBlock = some j)) := hide ⟨_, M', hi1, hr1, ho2.out, hM'g, hBg, hd2.out, fun j => Iff.rfl⟩
      have HSUB : Hid (∀ j, (M' j ∨ j = g ∨ (Value.slice ah 0 ch).ownBlock = some j) → F j ∨ W.heap.size ≤ j) := hide fun j h => h.elim (fun h => (hm1 j h).elim (fun h => .inl ((HFF.out j).2 (.inl h))) .inr) (fun h => .inl ((HFF.out j).2 (.inr h)))
      have HD1 := hide hd1
      have d2 := (InC.c hi1).2.2.1
      have d5 := (InC.c hi1).2.2.2.2.2.1
      have g5 := (InC.c hi1).2.2.2.2.2.2 5
      have g2 := (InC.c hi1).2.2.2.2.2.2 2
      have HO1 := hide ho1
      obtain ⟨a3, c3, rfl, hn3, _, _⟩ := ho1.sliceN rfl
      clear ho1 hi1 hr1 hu1 hm1 hd1 HFA hn3
      by_cases e41 : er = 41
      · subst e41
        rw [if_pos rfl] at HE
        have HF : Hid (BytePost Rd B g (.iface ty pv) (.bool (endP RD x).1) (endP RD x).2.1 (endP RD x).2.2 F W (.returned (.tuple #[.bool true, .int .i64 0])) w1) := by
          rw [HE.out]
          exact ⟨_, rfl, HIN.out, HU1.out, HSUB.out⟩
        go_wp2_with fail
        go_ret2
        exact HF.out
      · rw [if_neg e41] at HE
        by_cases e0 : er = 0
        · subst e0
          rw [if_neg (by simp)] at HE
          have HF : Hid (BytePost Rd B g (.iface ty pv) (.bool (endP RD x).1) (endP RD x).2.1 (endP RD x).2.2 F W (.returned (.tuple #[.bool false, .int .i64 0])) (w1.setCell ⟨g, 5, none⟩ (.slice a3 bs.length c3))) := by
            rw [HE.out]
            have hu : Upd (fun j => j = g) w1 (w1.setCell ⟨g, 5, none⟩ (.slice a3 bs.length c3)) := (Upd.refl _ _).set1 5 _
            refine ⟨fun j => M' j ∨ j = g ∨ (Value.slice a3 bs.length c3).ownBlock = some j, rfl, ⟨_, M', block_setCell HI1.out 5 _, (HX.out.R 1 (by omega) (by omega)).upd HR1.out hu (fun j e => by subst e; exact ⟨hBg, hM'g⟩), HO1.out.upd hu (fun j hj e => (HD1.out j hj).2.1 e), hM'g, hBg, fun j hj => ⟨(HD1.out j hj).1, (HD1.out j hj).2.1⟩, fun j => Iff.rfl⟩, HU1.out.then hu (fun j _ e => (HFF.out j).2 (.inr (.inl e))), ?_⟩
            rintro j (h | h | h)
            · exact HSUB.out j (.inl h)
            · exact HSUB.out j (.inr (.inl h))
            · exact ((HD1.out j h).2.2).elim (fun h => by cases h) .inr
          go_wp2_with fail
          go_ret2
          exact HF.out
        · rw [if_pos e0] at HE
          have e0' : (er != 0) = true := by simp [e0]
          have HEN := hide (end_any g er (.int .i64 x.err) w1 d2 g2)
          have HF : Hid (BytePost Rd B g (.iface ty pv) (.bool (endP RD x).1) (endP RD x).2.1 (endP RD x).2.2 F W (.returned (.tuple #[.bool false, .int .i64 er])) (w1.setCell ⟨g, 2, none⟩ (.int .i64 er))) := by
            rw [HE.out]
            obtain ⟨q1, q2⟩ := HIN.out.setErr (HX.out.R 1 (by omega) (by omega)).upd er
            exact ⟨_, rfl, q1, HU1.out.then q2 (fun j hj e => (HSUB.out j e).elim id (fun h => by omega)), HSUB.out⟩
          go_wp2_with (first
            | (go_at_call 37; refine HEN.out.mono ?_; rintro e w2 ⟨rfl, rfl⟩)
            | fail)
          go_ret2
          exact HF.out
    · have hlp : (0 : Int) < (lh : Int) := by have := List.length_pos_iff.2 hh; omega
      have HF := hide (HSAME.out (by unfold endP; rw [if_neg (by simp [he]), if_pos hh]))
      clear HSAME hg hi hr ho ho' hd hF hok L X he hh hlh
      go_enter Try.func18, Try.ntmps18
      go_wp2_with fail
      go_ret2
      exact HF.out
  · have he' : (x.err != 0) = true := by simp [he]
    have HF : Hid (∀ n, BytePost Rd B g (.iface ty pv) (.bool (endP RD x).1) (endP RD x).2.1 (endP RD x).2.2 F W (.returned (.tuple #[.bool false, .int .i64 x.err])) (W.drewN n)) := hide fun n => by
      have hb : endP RD x = (false, x.err, x) := by unfold endP; rw [if_pos he]
      rw [hb]
      exact ⟨F, rfl, hI.still X n, (((Still.refl W).drewN n).upd Noth).noth, fun _ h => .inl h⟩
    clear hg hI hok L X
    go_enter Try.func18, Try.ntmps18
    go_wp2_with fail
    go_quiet (fail)
    go_wp2_with fail
    go_ret2
    exact HF.out _

end Go.Proofs.Ytjcanghffhpncaa

namespace Go.Proofs.Ytjcanghffhpncaa
open Go.RowKit

/-- The document's In, its cells. -/
def RInC (W : World) (g g2 most at' : Nat) (err : Int) (hv : Value) (i : Nat) : Prop :=
  W.heap[g]? = some (.cells #[.pointer (some ⟨g2, 0, none⟩), .int .i64 (most : Int), .int .i64 (at' : Int), .int .i64 err, hv, .int .i64 (i : Int)] 62 (0, 0))
theorem RInC.c {W : World} {g g2 most at' i : Nat} {err : Int} {hv : Value} (h : RInC W g g2 most at' err hv i) :
    W.cell? ⟨g, 0, none⟩ = some (.pointer (some ⟨g2, 0, none⟩)) ∧ W.cell? ⟨g, 1, none⟩ = some (.int .i64 (most : Int)) ∧ W.cell? ⟨g, 2, none⟩ = some (.int .i64 (at' : Int)) ∧ W.cell? ⟨g, 3, none⟩ = some (.int .i64 err) ∧ W.cell? ⟨g, 4, none⟩ = some hv ∧ W.cell? ⟨g, 5, none⟩ = some (.int .i64 (i : Int)) ∧ ∀ j, W.frozen? ⟨g, j, none⟩ = false :=
  ⟨blk_cell h rfl, blk_cell h rfl, blk_cell h rfl, blk_cell h rfl, blk_cell h rfl, blk_cell h rfl, fun j => frozen_blk h j⟩
theorem RInC.upd {W W' : World} {S : Nat → Prop} {g g2 most at' i : Nat} {err : Int} {hv : Value} (h : RInC W g g2 most at' err hv i) (hu : Upd S W W') (hs : ¬ S g) : RInC W' g g2 most at' err hv i := hu.heap h hs

/-- As ask1, the sixteenth idle call not told. -/
def rask1 {σ : Type} (RD : Nat → σ → Int × Int × List Int × σ) (k : Nat) (s : σ) (i : Nat) : List Int × Int × σ × Nat :=
  if (RD k s).1 < 0 ∨ (k : Int) < (RD k s).1 then ([], 34, (RD k s).2.2.2, i)
  else ((RD k s).2.2.1, (RD k s).2.1, (RD k s).2.2.2, idleOf i (RD k s).1.toNat (RD k s).2.1)
theorem rask_ask {σ : Type} {RD : Nat → σ → Int × Int × List Int × σ} {k : Nat} {s : σ} {i : Nat} (hi : i < 16) : (ask1 RD k s i).1 = (rask1 RD k s i).1 ∧ (ask1 RD k s i).2.2 = (rask1 RD k s i).2.2 ∧ (ask1 RD k s i).2.1 = if (rask1 RD k s i).2.2.2 = 16 then 33 else (rask1 RD k s i).2.1 := by
  unfold ask1 rask1
  by_cases hb : (RD k s).1 < 0 ∨ (k : Int) < (RD k s).1
  · rw [if_pos hb, if_pos hb]
    refine ⟨rfl, rfl, ?_⟩
    simp only
    rw [if_neg (by omega)]
  · rw [if_neg hb, if_neg hb]
    exact ⟨rfl, rfl, rfl⟩
theorem rask_16 {σ : Type} {RD : Nat → σ → Int × Int × List Int × σ} {k : Nat} {s : σ} {i : Nat} (hi : i < 16) (h : (rask1 RD k s i).2.2.2 = 16) : (rask1 RD k s i).2.1 = 0 := by
  unfold rask1 at *
  by_cases hb : (RD k s).1 < 0 ∨ (k : Int) < (RD k s).1
  · rw [if_pos hb] at *
    simp only at h
    omega
  · rw [if_neg hb] at *
    simp only [idleOf] at h ⊢
    split at h
    · omega
    · rename_i hq
      exact Classical.byContradiction fun e => hq (.inr e)

def RAskP {σ : Type} (Rd : World → σ → (Nat → Prop) → Prop) (g g2 most at' : Nat) (err : Int) (hv : Value) (q : List Int × Int × σ × Nat) (M : Nat → Prop) (W : World) (e : Ending) (W' : World) : Prop :=
  ∃ v M', e = .returned (.tuple #[v, .int .i64 q.2.1]) ∧ OwnB W' W.heap.size 5 v q.1 ∧ RInC W' g g2 most at' err hv q.2.2.2 ∧ Rd W' q.2.2.1 M' ∧ Upd (fun j => M j ∨ j = g) W W' ∧ (∀ j, M' j → M j ∨ W.heap.size ≤ j) ∧ ∀ j, v.ownBlock = some j → ¬ M' j

set_option maxRecDepth 100000 in
set_option maxHeartbeats 1600000 in
theorem rask_any {σ : Type} {RD : Nat → σ → Int × Int × List Int × σ} {cnt m : σ → Nat} {B g2 : Nat} {Rd : World → σ → (Nat → Prop) → Prop}
    (W : World) (g : Nat) (s : σ) (M : Nat → Prop) (n k most at' i : Nat) (err : Int) (hv : Value) (hk : k = min n 4096) (hn : n ≤ 9223372036854775807) (R : Reader k (RD k) cnt m 66 (.pointer (some ⟨g2, 0, none⟩)) B Rd) (h0 : 1 ≤ k) (hB : B ≤ W.heap.size) (hI : RInC W g g2 most at' err hv i) (hR : Rd W s M) (hMg : ¬ M g) (hBg : B ≤ g) (hi : i < 16) (hc : cnt s < 4611686018427387904) :
    Calls Try.prog 61 #[.pointer (some ⟨g, 0, none⟩), .int .i64 (n : Int)] W fun e W' => RAskP Rd g g2 most at' err hv (rask1 RD k s i) M W e W' := by
  have h1 : k ≤ 4096 := by omega
  have hmk := run_zeros k (by omega)
  have hlt := R.lt hR
  have hu0 : Upd Noth W (W.alloc (.cells (zeros k).toArray 5)) := (Upd.refl _ _).alloc _
  have hgl : g < W.heap.size := lt_of_block hI
  have HRC := hide (R.read (W.alloc (.cells (zeros k).toArray 5)) s M W.heap.size (zeros k) (R.upd hR hu0 (fun i e => e.elim)) hc ⟨fun _ => rfl, heap_alloc_new W _, by rw [zeros_len]; exact Nat.le_refl _⟩ (zeros_bytes k) (fun e => by have := hlt _ e; omega) hB)
  have hI0 := RInC.upd hI hu0 (fun e => e)
  have c0 := (RInC.c hI0).1
  have HFIT := hide (R.fit s)
  have HI0 := hide hI0
  have HRR := hide R
  replace hk := hide hk
  clear hlt hR hu0 R hI0 hI
  go_enter Try.func61, Try.ntmps61
  go_upto_region 2 with fail
  rw [show (if (4096 : Int) < (n : Int) then (4096 : Int) else (n : Int)) = (k : Int) from by have := hk.out; split <;> omega]
  all_goals (
    go_wp2_with fail
    refine HRC.out.mono ?_
    rintro e w1 ⟨M1, rfl, hr1, hroom1, hu1, hm1, hn1⟩
    have hI1 := RInC.upd HI0.out hu1 (fun e => e.elim hMg (fun e => by omega))
    replace hr1 := hide hr1
    have hub : Upd M W w1 := ⟨hu1.os, hu1.tape, hu1.output, Nat.le_trans (by simp) hu1.size, fun k hk hs => (hu1.block k (by simp; omega) (fun e => e.elim hs (fun e => by omega))).trans (Below.heap_alloc _ _ _ hk)⟩
    have hsz1 : W.heap.size < w1.heap.size := by have := hu1.size; simp at this; omega
    have HM1 : Hid (∀ j, M1 j → M j ∨ W.heap.size ≤ j) := hide (fun j hj => (hm1 j hj).imp id (fun h => by simp at h; omega))
    have hM1g : ¬ M1 g := fun e => (HM1.out g e).elim hMg (fun h => by omega)
    have HROOM := hide hroom1
    have HI1 := hide hI1
    have c5 := (RInC.c hI1).2.2.2.2.2.1
    have f5 := (RInC.c hI1).2.2.2.2.2.2 5
    replace hub := hide hub
    replace hn1 := hide hn1
    clear hu1 hm1 hroom1 HRC c0 HI0 hmk hI1
    have HAK : Hid (rask1 RD k s i = if (RD k s).1 < 0 ∨ (k : Int) < (RD k s).1 then ([], 34, (RD k s).2.2.2, i)
      else ((RD k s).2.2.1, (RD k s).2.1, (RD k s).2.2.2, idleOf i (RD k s).1.toNat (RD k s).2.1)) := rfl
    generalize RD k s = q at *
    obtain ⟨x, er, bs, s'⟩ := q
    simp only at HAK HFIT HROOM hr1
    by_cases hbad : x < 0 ∨ (k : Int) < x
    · rw [if_pos hbad] at HAK
      have HF : Hid (RAskP Rd g g2 most at' err hv (rask1 RD k s i) M W (.returned (.tuple #[.slice none 0 0, .int .i64 34])) w1) := by
        rw [HAK.out]
        exact ⟨.slice none 0 0, M1, rfl, OwnB.nil _ _ _, HI1.out, hr1.out, hub.out.mono (fun _ _ h => .inl h), HM1.out, fun j hj => by cases hj⟩
      rcases hbad with hneg | hbig
      · go_wp2_with fail
        go_ret2
        exact HF.out
      · have hneg : ¬ x < 0 := by omega
        go_wp2_with fail
        go_ret2
        exact HF.out
    · rw [if_neg hbad] at HAK
      obtain ⟨x, rfl⟩ : ∃ y : Nat, x = y := ⟨x.toNat, by omega⟩
      have hbl : bs.length = x := by have := HFIT.out (by omega) (by omega); simpa using this
      rw [Int.toNat_natCast] at HAK
      have HF : Hid (∀ w2, Upd (fun j => j = g) w1 w2 → RInC w2 g g2 most at' err hv (idleOf i x er) → RAskP Rd g g2 most at' err hv (rask1 RD k s i) M W (.returned (.tuple #[.slice (some ⟨W.heap.size, 0, none⟩) x k, .int .i64 er])) w2) := hide fun w2 hu2 hi2 => by
        rw [HAK.out]
        have ho : OwnB w1 W.heap.size 5 (.slice (some ⟨W.heap.size, 0, none⟩) bs.length k) bs := room_own h1 HROOM.out (by omega) (Nat.le_refl _)
        rw [hbl] at ho
        refine ⟨_, M1, rfl, ho.upd hu2 (fun j hj e => ?_), hi2, HRR.out.upd hr1.out hu2 (fun j e => by subst e; exact ⟨hBg, hM1g⟩), (hub.out.mono (fun _ _ h => .inl h)).trans (hu2.mono (fun _ _ h => .inr h)), HM1.out, fun j hj e => ?_⟩
        · have hj' : W.heap.size = j := by cases hj; rfl
          omega
        · cases hj; exact hn1.out e
      have HB0 : Hid (idleOf i x er = 0 → RAskP Rd g g2 most at' err hv (rask1 RD k s i) M W (.returned (.tuple #[.slice (some ⟨W.heap.size, 0, none⟩) x k, .int .i64 er])) ((w1.setCell ⟨g, 5, none⟩ (.int .i64 ((i : Int) + 1))).setCell ⟨g, 5, none⟩ (.int .i64 0))) := hide fun h => HF.out _ (((Upd.refl _ _).set1 5 _).trans ((Upd.refl _ _).set1 5 _)) (by
        rw [h]
        have h2 := block_setCell (block_setCell HI1.out 5 (.int .i64 ((i : Int) + 1))) 5 (.int .i64 0)
        unfold RInC
        rw [h2]
        simp)
      have HB1 : Hid (idleOf i x er = i + 1 → RAskP Rd g g2 most at' err hv (rask1 RD k s i) M W (.returned (.tuple #[.slice (some ⟨W.heap.size, 0, none⟩) x k, .int .i64 er])) (w1.setCell ⟨g, 5, none⟩ (.int .i64 ((i : Int) + 1)))) := hide fun h => HF.out _ ((Upd.refl _ _).set1 5 _) (by
        rw [h]
        exact block_setCell HI1.out 5 _)
      have hk1 : ¬ (x : Int) < 0 := by omega
      have hk2 : ¬ (k : Int) < (x : Int) := by omega
      have hk3 : (0 : Int) ≤ (x : Int) := by omega
      have hk4 : (x : Int) ≤ (k : Int) := by omega
      clear hbad HFIT HF
      by_cases hx : 0 < x
      · have hx' : (0 : Int) < (x : Int) := by omega
        have HQ := hide (HB0.out (by simp [idleOf, hx]))
        clear HB0 HB1
        go_wp2_with fail
        go_ret2
        exact HQ.out
      · have hx' : ¬ (0 : Int) < (x : Int) := by omega
        by_cases he : er = 0
        · subst he
          have HQ := hide (HB1.out (by simp [idleOf, hx]))
          clear HB0 HB1
          go_wp2_with fail
          go_ret2
          exact HQ.out
        · have he' : (er != 0) = true := by simp [he]
          have HQ := hide (HB0.out (by simp [idleOf, he]))
          clear HB0 HB1
          go_wp2_with fail
          go_ret2
          exact HQ.out)

end Go.Proofs.Ytjcanghffhpncaa

namespace Go.Proofs.Ytjcanghffhpncaa
open Go.RowKit

def RFillPost {σ : Type} (Rd : World → σ → (Nat → Prop) → Prop) (B g g2 most at' : Nat) (err : Int) (res : List Int × Int × σ × Nat) (M : Nat → Prop) (bo : Option Nat) (W : World) (e : Ending) (W' : World) : Prop :=
  ∃ v vs M', e = .returned (.tuple #[v, .int .i64 res.2.1]) ∧ OwnB W' B 5 v vs ∧ (res.2.1 = 0 → vs = res.1) ∧ RInC W' g g2 most at' err (.slice none 0 0) res.2.2.2 ∧ Rd W' res.2.2.1 M' ∧ Upd (fun j => M j ∨ j = g ∨ bo = some j) W W' ∧ (∀ j, M' j → M j ∨ W.heap.size ≤ j) ∧ ∀ j, v.ownBlock = some j → ¬ M' j ∧ j ≠ g ∧ (bo = some j ∨ W.heap.size ≤ j)

/-- At the head of a round. -/
structure RFI {σ : Type} (RD : Nat → σ → Int × Int × List Int × σ) (cnt m vol : σ → Nat) (Rd : World → σ → (Nat → Prop) → Prop) (B g g2 most at' : Nat) (err : Int) (res : List Int × Int × σ × Nat) (M0 : Nat → Prop) (bo : Option Nat) (n : Nat) (W : World) (v : Value) (W' : World) (bs : List Int) (s : σ) (i fu : Nat) (M : Nat → Prop) : Prop where
  own : OwnB W' B 5 v bs
  blk : RInC W' g g2 most at' err (.slice none 0 0) i
  rd : Rd W' s M
  upd : Upd (fun j => M0 j ∨ j = g ∨ bo = some j) W W'
  msub : ∀ j, M j → M0 j ∨ W.heap.size ≤ j
  dis : ∀ j, v.ownBlock = some j → ¬ M j ∧ j ≠ g ∧ (bo = some j ∨ W.heap.size ≤ j)
  mg : ¬ M g
  i16 : i < 16
  lenle : bs.length ≤ n
  fuel : 17 * (n - bs.length) + (16 - i) ≤ fu
  eq : res = fillF RD n fu bs s i
  cn : cnt s + 17 * m s + (16 - i) ≤ 4611686018427387000
  vo : min n (bs.length + vol s) ≤ 140737488355328

set_option maxRecDepth 100000 in
set_option maxHeartbeats 3200000 in
theorem want_any {σ : Type} {RD : Nat → σ → Int × Int × List Int × σ} {cnt m vol : σ → Nat} {B g2 : Nat} {Rd : World → σ → (Nat → Prop) → Prop} (X : RFam RD cnt m vol 66 (.pointer (some ⟨g2, 0, none⟩)) B Rd)
    (W : World) (g : Nat) (s0 : σ) (M0 : Nat → Prop) (most at' i0 : Nat) (err : Int) (v0 : Value) (b0 : List Int) (n : Nat) (hn : n ≤ 9223372036854775807) (hbn : b0.length ≤ n) (hB : B ≤ W.heap.size) (hI : RInC W g g2 most at' err v0 i0) (hR : Rd W s0 M0) (hMg : ¬ M0 g) (hBg : B ≤ g) (hi : i0 < 16)
    (ho : OwnB W B 5 v0 b0) (hd : ∀ j, v0.ownBlock = some j → ¬ M0 j ∧ j ≠ g) (hc : cnt s0 + 17 * m s0 + (16 - i0) ≤ 4611686018427387000) (hvo : min n (b0.length + vol s0) ≤ 140737488355328) :
    Calls Try.prog 55 #[.pointer (some ⟨g, 0, none⟩), .int .i64 (n : Int)] W fun e W' => RFillPost Rd B g g2 most at' err (fillA RD n b0 s0 i0) M0 v0.ownBlock W e W' := by
  obtain ⟨i0', hi0, hz0, hz1, hz2⟩ := info_parts' infoByte'
  obtain ⟨res, hres⟩ : ∃ res, res = fillA RD n b0 s0 i0 := ⟨_, rfl⟩
  have hu0 : Upd (fun j => j = g) W (W.setCell ⟨g, 4, none⟩ (.slice none 0 0)) := (Upd.refl _ _).set1 4 _
  have H0 : Hid (RFI RD cnt m vol Rd B g g2 most at' err res M0 v0.ownBlock n W v0 (W.setCell ⟨g, 4, none⟩ (.slice none 0 0)) b0 s0 i0 (17 * (n - b0.length) + (16 - i0)) M0) := hide ⟨ho.upd hu0 (fun j hj e => (hd j hj).2 e), block_setCell hI 4 _, (X.R 1 (by omega) (by omega)).upd hR hu0 (fun j e => by subst e; exact ⟨hBg, hMg⟩), hu0.mono (fun j _ e => .inr (.inl e)), fun _ h => .inl h, fun j hj => ⟨(hd j hj).1, (hd j hj).2, .inl hj⟩, hMg, hi, hbn, Nat.le_refl _, hres, hc, hvo⟩
  rw [← hres]
  have HX := hide X
  have hgl : g < W.heap.size := lt_of_block hI
  have c4 := (RInC.c hI).2.2.2.2.1
  have f4 := (RInC.c hI).2.2.2.2.2.2 4
  obtain ⟨a0, c0, rfl, _, _, _⟩ := ho.sliceN rfl
  generalize hbo : (Value.slice a0 b0.length c0).ownBlock = bo at *
  replace hbo := hide hbo
  clear hR X hI ho hd hc hvo hres hMg hu0
  go_enter Try.func55, Try.ntmps55
  go_wp2_with fail
  go_loopw [6, 7, 8] (fun v _ _ wr => ∃ (bs : List Int) (s : σ) (i fu : Nat) (M : Nat → Prop), Hid (RFI RD cnt m vol Rd B g g2 most at' err res M0 bo n W v wr bs s i fu M)) (fun v _ _ wr => 17 * (n - slen v) + (16 - cellN wr g 5))
  case atStart => exact ⟨_, _, _, _, _, H0⟩
  case round =>
    clear H0
    obtain ⟨bs, s, i, fu, M, HI⟩ := hrel
    obtain ⟨l, hl⟩ : ∃ l, bs.length = l := ⟨_, rfl⟩
    obtain ⟨a1, c1, rfl, hn1, hc1, hq1⟩ := HI.out.own.sliceN hl
    have hln : l ≤ n := by have := HI.out.lenle; omega
    replace hn1 := hide hn1
    replace hq1 := hide hq1
    replace hl := hide hl
    by_cases hlt : l < n
    · obtain ⟨k, hk⟩ : ∃ k, k = min (n - l) 4096 := ⟨_, rfl⟩
      have hk1 : 1 ≤ k := by omega
      have hk2 : k ≤ 4096 := by omega
      have hkl : l + k ≤ n := by omega
      have HA := hide (rask_any wr g s M (n - l) k most at' i err (.slice none 0 0) hk (by omega) (HX.out.R k hk1 hk2) hk1 (Nat.le_trans hB HI.out.upd.size) HI.out.blk HI.out.rd HI.out.mg hBg HI.out.i16 (by have := HI.out.cn; omega))
      have HOK := hide (ask_ok (HX.out.R k hk1 hk2) (fun s => HX.out.vol k s hk1 hk2) s i)
      have HST := hide (fun q hq => fill_step (RD := RD) (n := n) (fu := fu) (b := bs) (s := s) (i := i) q hq (by have := HI.out.fuel; have := hl.out; omega) (by have := hl.out; omega))
      rw [hl.out, ← hk] at HST
      have HST' := hide (HST.out _ rfl)
      have HRA := hide (rask_ask (RD := RD) (k := k) (s := s) (i := i) HI.out.i16)
      have HR16 := hide (rask_16 (RD := RD) (k := k) (s := s) (i := i) HI.out.i16)
      clear HST
      have hlti : (l : Int) < (n : Int) := by omega
      have hsub : ((n - l : Nat) : Int) = (n : Int) - (l : Int) := by omega
      rw [hsub] at HA
      replace hk := hide hk
      clear hsub
      generalize ask1 RD k s i = q0 at *
      generalize rask1 RD k s i = q at *
      obtain ⟨bt, er0, s', i'⟩ := q0
      obtain ⟨bt2, er, s2, i2⟩ := q
      simp only at HST' HRA HR16
      obtain ⟨rfl, hs2, he2⟩ := HRA.out
      obtain ⟨rfl, rfl⟩ : s' = s2 ∧ i' = i2 := ⟨congrArg Prod.fst hs2, congrArg Prod.snd hs2⟩
      have HE2 := hide he2
      clear HRA hs2 he2
      go_wp2_with fail
      refine HA.out.mono ?_
      rintro e w1 ⟨v1, M1, rfl, ho1, hi1, hr1, hu1, hm1, hd1⟩
      simp only at ho1 hi1 hr1
      obtain ⟨x, hx⟩ : ∃ x, bt.length = x := ⟨_, rfl⟩
      obtain ⟨a2, c2, rfl, hn2, hc2, hq2⟩ := ho1.sliceN hx
      have hgw : g < wr.heap.size := lt_of_block HI.out.blk
      have hxk : x ≤ k := by have := HOK.out.len; simp only at this; omega
      have HR2 := hide ho1.row
      have HO1 := hide (HI.out.own.upd hu1 (fun j hj e => e.elim (HI.out.dis j hj).1 (HI.out.dis j hj).2.1))
      have hM1g : ¬ M1 g := fun e => (hm1 g e).elim HI.out.mg (fun h => by omega)
      have hz1w : wr.heap.size ≤ w1.heap.size := hu1.size
      have hzW : W.heap.size ≤ wr.heap.size := HI.out.upd.size
      have HU1 : Hid (Upd (fun j => M0 j ∨ j = g ∨ bo = some j) W w1) := hide (HI.out.upd.then hu1 (fun j hj e => e.elim (fun e => (HI.out.msub j e).elim .inl (fun h => by omega)) (fun e => .inr (.inl e))))
      have HM1 : Hid (∀ j, M1 j → M0 j ∨ W.heap.size ≤ j) := hide (fun j hj => (hm1 j hj).elim (fun h => HI.out.msub j h) (fun h => .inr (by omega)))
      have hn2' := hide hn2
      have hxb : l + x ≤ 140737488355328 := by
        have h1 := HI.out.vo
        have h2 := HOK.out.vol
        have h3 := hl.out
        simp only at h2
        omega
      have HDV : Hid (∀ j, (Value.slice a1 l c1).ownBlock = some j → ¬ M1 j) := hide (fun j hj e => (hm1 j e).elim (HI.out.dis j hj).1 (fun h => by have := (hq1.out j hj).2; omega))
      have HI1 := hide hi1
      have HR1 := hide hr1
      have HBO := hide (OwnB.bo HO1.out)
      replace hx := hide hx
      have HFIN : Hid (∀ v2 w2, OwnO w2 B 5 0 v2 (bs ++ bt) → w1.grownBy w2 (Value.blk (.slice a1 l c1)) → (∀ j, Value.blk v2 = some j → Value.blk (.slice a1 l c1) = some j ∨ w1.heap.size ≤ j) →
          OwnB w2 B 5 v2 (bs ++ bt) ∧ RInC w2 g g2 most at' err (.slice none 0 0) i' ∧ Rd w2 s' M1 ∧ Upd (fun j => M0 j ∨ j = g ∨ bo = some j) W w2 ∧ ∀ j, v2.ownBlock = some j → ¬ M1 j ∧ j ≠ g ∧ (bo = some j ∨ W.heap.size ≤ j)) := hide fun v2 w2 ho2 hg2 hk2 => by
        have hB2 := ho2.toB
        have hu2 : Upd (fun j => (Value.slice a1 l c1).ownBlock = some j) w1 w2 := Upd.of_grown hg2 (fun j hj _ => by rw [← HBO.out]; exact hj)
        have hM1lt := (HX.out.R 1 (by omega) (by omega)).lt HR1.out
        refine ⟨hB2, HI1.out.upd hu2 (fun e => (HI.out.dis g e).2.1 rfl), (HX.out.R 1 (by omega) (by omega)).upd HR1.out hu2 (fun j hj => ⟨(hq1.out j hj).1, HDV.out j hj⟩), HU1.out.then hu2 (fun j hj e => (HI.out.dis j e).2.2.elim (fun h => .inr (.inr h)) (fun h => by omega)), fun j hj => ?_⟩
        rw [← OwnB.bo hB2] at hj
        rcases hk2 j hj with h | h
        · rw [HBO.out] at h
          exact ⟨HDV.out j h, (HI.out.dis j h).2.1, (HI.out.dis j h).2.2⟩
        · exact ⟨fun e => by have := hM1lt j e; omega, by omega, .inr (by omega)⟩
      clear HA ho1 hi1 hr1 hu1 hm1 hd1 hn2 hq2
      have hlx : Hid ((bs ++ bt).length = l + x) := hide (by rw [List.length_append, hl.out, hx.out])
      rw [hx.out] at HST'
      have HEQ := hide (HI.out.eq.trans HST'.out)
      clear HST'
      have HPOST : Hid (∀ v2 w2 ee, res.2.2 = (s', i') → res.2.1 = ee → (ee = 0 → bs ++ bt = res.1) → OwnB w2 B 5 v2 (bs ++ bt) ∧ RInC w2 g g2 most at' err (.slice none 0 0) i' ∧ Rd w2 s' M1 ∧ Upd (fun j => M0 j ∨ j = g ∨ bo = some j) W w2 ∧ (∀ j, v2.ownBlock = some j → ¬ M1 j ∧ j ≠ g ∧ (bo = some j ∨ W.heap.size ≤ j)) → RFillPost Rd B g g2 most at' err res M0 bo W (.returned (.tuple #[v2, .int .i64 ee])) w2) := hide fun v2 w2 ee hr he hb ⟨q1, q2, q3, q4, q5⟩ => by
        subst he
        exact ⟨v2, _, M1, rfl, q1, hb, by rw [hr]; exact q2, by rw [hr]; exact q3, q4, HM1.out, q5⟩
      by_cases hfull : l + x = n
      · rw [if_pos (by omega)] at HEQ
        have hfi : (n : Int) ≤ ((l + x : Nat) : Int) := by omega
        have hxp : ¬ (x : Int) = 0 := by omega
        have hxq : ¬ x = 0 := by omega
        have HFU := hide hfull
        clear hfull
        by_cases e34 : er = 34
        · subst e34
          go_wp2_with (first
            | (at_builtin; refine append_o rfl (.tmp 29) (.tmp 30) 23 rfl B 5 i0' Try.underlying23 hi0 hz0 hz1 hz2 0 (.slice a1 l c1) bs rfl HO1.out.toO a2 x c2 bt rfl hx.out hn2'.out HR2.out (by have := hl.out; omega) (Nat.le_trans hB (Nat.le_trans hzW hz1w)) ?_; intro v2 w2 off2 hoff ho2 hg2 hk2; have HF2 := hide (HFIN.out v2 w2 (by rw [hoff rfl] at ho2; exact ho2) hg2 hk2); have d5 := (RInC.c HF2.out.2.1).2.2.2.2.2.1; clear HFIN hoff ho2 hg2 hk2; obtain ⟨a3, c3, rfl, hn3, hc3, hq3⟩ := HF2.out.1.sliceN hlx.out; replace hn3 := hide hn3; replace hq3 := hide hq3)
            | fail)
          go_ret2
          exact HPOST.out _ w2 0 (by rw [HEQ.out]) (by rw [HEQ.out]) (fun _ => by rw [HEQ.out]) HF2.out
        · have e34i : ¬ er = 34 := e34
          go_wp2_with (first
            | (at_builtin; refine append_o rfl (.tmp 29) (.tmp 30) 23 rfl B 5 i0' Try.underlying23 hi0 hz0 hz1 hz2 0 (.slice a1 l c1) bs rfl HO1.out.toO a2 x c2 bt rfl hx.out hn2'.out HR2.out (by have := hl.out; omega) (Nat.le_trans hB (Nat.le_trans hzW hz1w)) ?_; intro v2 w2 off2 hoff ho2 hg2 hk2; have HF2 := hide (HFIN.out v2 w2 (by rw [hoff rfl] at ho2; exact ho2) hg2 hk2); have d5 := (RInC.c HF2.out.2.1).2.2.2.2.2.1; clear HFIN hoff ho2 hg2 hk2; obtain ⟨a3, c3, rfl, hn3, hc3, hq3⟩ := HF2.out.1.sliceN hlx.out; replace hn3 := hide hn3; replace hq3 := hide hq3)
            | fail)
          go_ret2
          exact HPOST.out _ w2 0 (by rw [HEQ.out]) (by rw [HEQ.out]) (fun _ => by rw [HEQ.out]) HF2.out
      · have hfi : ¬ (n : Int) ≤ ((l + x : Nat) : Int) := by omega
        rw [if_neg (by omega)] at HEQ
        by_cases e16 : i' = 16
        · have her := HR16.out e16
          subst her
          have h33 := HE2.out
          rw [if_pos e16] at h33
          subst h33
          subst e16
          rw [if_neg (by decide), if_pos (by decide)] at HEQ
          clear HE2 HR16
          go_wp2_with (first
            | (at_builtin; refine append_o rfl (.tmp 29) (.tmp 30) 23 rfl B 5 i0' Try.underlying23 hi0 hz0 hz1 hz2 0 (.slice a1 l c1) bs rfl HO1.out.toO a2 x c2 bt rfl hx.out hn2'.out HR2.out (by have := hl.out; omega) (Nat.le_trans hB (Nat.le_trans hzW hz1w)) ?_; intro v2 w2 off2 hoff ho2 hg2 hk2; have HF2 := hide (HFIN.out v2 w2 (by rw [hoff rfl] at ho2; exact ho2) hg2 hk2); have d5 := (RInC.c HF2.out.2.1).2.2.2.2.2.1; clear HFIN hoff ho2 hg2 hk2; obtain ⟨a3, c3, rfl, hn3, hc3, hq3⟩ := HF2.out.1.sliceN hlx.out; replace hn3 := hide hn3; replace hq3 := hide hq3)
            | fail)
          go_ret2
          exact HPOST.out _ w2 33 (by rw [HEQ.out]) (by rw [HEQ.out]) (fun h => absurd h (by decide)) HF2.out
        · have h33 := HE2.out
          rw [if_neg e16] at h33
          subst h33
          have e16i : ¬ (i' : Int) = 16 := by omega
          clear HE2 HR16
          by_cases e31 : er0 = 31
          · subst e31
            rw [if_pos rfl] at HEQ
            go_wp2_with (first
              | (at_builtin; refine append_o rfl (.tmp 29) (.tmp 30) 23 rfl B 5 i0' Try.underlying23 hi0 hz0 hz1 hz2 0 (.slice a1 l c1) bs rfl HO1.out.toO a2 x c2 bt rfl hx.out hn2'.out HR2.out (by have := hl.out; omega) (Nat.le_trans hB (Nat.le_trans hzW hz1w)) ?_; intro v2 w2 off2 hoff ho2 hg2 hk2; have HF2 := hide (HFIN.out v2 w2 (by rw [hoff rfl] at ho2; exact ho2) hg2 hk2); have d5 := (RInC.c HF2.out.2.1).2.2.2.2.2.1; clear HFIN hoff ho2 hg2 hk2; obtain ⟨a3, c3, rfl, hn3, hc3, hq3⟩ := HF2.out.1.sliceN hlx.out; replace hn3 := hide hn3; replace hq3 := hide hq3)
              | fail)
            go_ret2
            exact HPOST.out _ w2 41 (by rw [HEQ.out]) (by rw [HEQ.out]) (fun h => absurd h (by decide)) HF2.out
          · rw [if_neg e31] at HEQ
            by_cases e0 : er0 = 0
            · subst e0
              rw [if_neg (by simp)] at HEQ
              go_wp2_with (first
                | (at_builtin; refine append_o rfl (.tmp 29) (.tmp 30) 23 rfl B 5 i0' Try.underlying23 hi0 hz0 hz1 hz2 0 (.slice a1 l c1) bs rfl HO1.out.toO a2 x c2 bt rfl hx.out hn2'.out HR2.out (by have := hl.out; omega) (Nat.le_trans hB (Nat.le_trans hzW hz1w)) ?_; intro v2 w2 off2 hoff ho2 hg2 hk2; have HF2 := hide (HFIN.out v2 w2 (by rw [hoff rfl] at ho2; exact ho2) hg2 hk2); have d5 := (RInC.c HF2.out.2.1).2.2.2.2.2.1; clear HFIN hoff ho2 hg2 hk2; obtain ⟨a3, c3, rfl, hn3, hc3, hq3⟩ := HF2.out.1.sliceN hlx.out; replace hn3 := hide hn3; replace hq3 := hide hq3)
                | fail)
              have hok := HOK.out
              have hi' : i' < 16 := hok.ok rfl HI.out.i16
              have hfu := HI.out.fuel
              have hcn := HI.out.cn
              have hvo := HI.out.vo
              have hi16 := HI.out.i16
              have k1 := hok.cnt1
              have k2 := hok.vol
              have k3 := hok.mle
              have k4 := hok.pot rfl hi16
              have k5 := hok.pot1 rfl
              have hxo := hx.out
              have hlo := hl.out
              simp only at k1 k2 k3 k4 k5
              have hstep : (x = 0 ∧ i' = i + 1) ∨ (0 < x ∧ i' = 0 ∧ m s' + 1 ≤ m s) := by
                by_cases hb : bt = []
                · exact .inl ⟨by rw [← hxo, hb]; rfl, k4 hb⟩
                · exact .inr ⟨by rw [← hxo]; exact List.length_pos_iff.2 hb, (k5 hb).2, (k5 hb).1⟩
              have HN : Hid (RFI RD cnt m vol Rd B g g2 most at' err res M0 bo n W (.slice a3 (l + x) c3) w2 (bs ++ bt) s' i' (fu - 1) M1) := hide ⟨HF2.out.1, HF2.out.2.1, HF2.out.2.2.1, HF2.out.2.2.2.1, HM1.out, HF2.out.2.2.2.2, hM1g, hi', by rw [hlx.out]; omega, by rw [hlx.out]; omega, HEQ.out, by omega, by rw [hlx.out]; omega⟩
              have hmi : cellN w2 g 5 = i' := by unfold cellN; rw [(RInC.c HF2.out.2.1).2.2.2.2.2.1]; simp
              have hmi0 : cellN wr g 5 = i := by unfold cellN; rw [(RInC.c HI.out.blk).2.2.2.2.2.1]; simp
              go_roundw
              case rel => exact ⟨_, _, _, _, _, HN⟩
              case measure => rw [hmi, hmi0]; simp only [slen]; omega
            · rw [if_pos e0] at HEQ
              have e0' : (er0 != 0) = true := by simp [e0]
              by_cases e34 : er0 = 34
              · subst e34
                by_cases hx0 : x = 0
                · have hx0i : (x : Int) = 0 := by omega
                  clear hx0
                  go_wp2_with (first
                    | (at_builtin; refine append_o rfl (.tmp 29) (.tmp 30) 23 rfl B 5 i0' Try.underlying23 hi0 hz0 hz1 hz2 0 (.slice a1 l c1) bs rfl HO1.out.toO a2 x c2 bt rfl hx.out hn2'.out HR2.out (by have := hl.out; omega) (Nat.le_trans hB (Nat.le_trans hzW hz1w)) ?_; intro v2 w2 off2 hoff ho2 hg2 hk2; have HF2 := hide (HFIN.out v2 w2 (by rw [hoff rfl] at ho2; exact ho2) hg2 hk2); have d5 := (RInC.c HF2.out.2.1).2.2.2.2.2.1; clear HFIN hoff ho2 hg2 hk2; obtain ⟨a3, c3, rfl, hn3, hc3, hq3⟩ := HF2.out.1.sliceN hlx.out; replace hn3 := hide hn3; replace hq3 := hide hq3)
                    | fail)
                  go_ret2
                  exact HPOST.out _ w2 _ (by rw [HEQ.out]) (by rw [HEQ.out]) (fun h => absurd h e0) HF2.out
                · have hx0i : ¬ (x : Int) = 0 := by omega
                  go_wp2_with (first
                    | (at_builtin; refine append_o rfl (.tmp 29) (.tmp 30) 23 rfl B 5 i0' Try.underlying23 hi0 hz0 hz1 hz2 0 (.slice a1 l c1) bs rfl HO1.out.toO a2 x c2 bt rfl hx.out hn2'.out HR2.out (by have := hl.out; omega) (Nat.le_trans hB (Nat.le_trans hzW hz1w)) ?_; intro v2 w2 off2 hoff ho2 hg2 hk2; have HF2 := hide (HFIN.out v2 w2 (by rw [hoff rfl] at ho2; exact ho2) hg2 hk2); have d5 := (RInC.c HF2.out.2.1).2.2.2.2.2.1; clear HFIN hoff ho2 hg2 hk2; obtain ⟨a3, c3, rfl, hn3, hc3, hq3⟩ := HF2.out.1.sliceN hlx.out; replace hn3 := hide hn3; replace hq3 := hide hq3)
                    | fail)
                  go_ret2
                  exact HPOST.out _ w2 _ (by rw [HEQ.out]) (by rw [HEQ.out]) (fun h => absurd h e0) HF2.out
              · have e34i : ¬ er0 = 34 := e34
                go_wp2_with (first
                  | (at_builtin; refine append_o rfl (.tmp 29) (.tmp 30) 23 rfl B 5 i0' Try.underlying23 hi0 hz0 hz1 hz2 0 (.slice a1 l c1) bs rfl HO1.out.toO a2 x c2 bt rfl hx.out hn2'.out HR2.out (by have := hl.out; omega) (Nat.le_trans hB (Nat.le_trans hzW hz1w)) ?_; intro v2 w2 off2 hoff ho2 hg2 hk2; have HF2 := hide (HFIN.out v2 w2 (by rw [hoff rfl] at ho2; exact ho2) hg2 hk2); have d5 := (RInC.c HF2.out.2.1).2.2.2.2.2.1; clear HFIN hoff ho2 hg2 hk2; obtain ⟨a3, c3, rfl, hn3, hc3, hq3⟩ := HF2.out.1.sliceN hlx.out; replace hn3 := hide hn3; replace hq3 := hide hq3)
                  | fail)
                go_ret2
                exact HPOST.out _ w2 _ (by rw [HEQ.out]) (by rw [HEQ.out]) (fun h => absurd h e0) HF2.out
    · obtain rfl : l = n := by omega
      have HPOST : Hid (RFillPost Rd B g g2 most at' err res M0 bo W (.returned (.tuple #[.slice a1 l c1, .int .i64 0])) wr) := by
        rw [HI.out.eq, fill_done (by rw [hl.out]; exact Nat.le_refl _)]
        exact ⟨_, _, M, rfl, HI.out.own, fun _ => rfl, HI.out.blk, HI.out.rd, HI.out.upd, HI.out.msub, HI.out.dis⟩
      go_wp2_with fail
      go_ret2
      exact HPOST.out

end Go.Proofs.Ytjcanghffhpncaa

namespace Go.Proofs.Ytjcanghffhpncaa
open Go.RowKit

def IsRIn {σ : Type} (Rd : World → σ → (Nat → Prop) → Prop) (B g g2 most : Nat) (W : World) (x : InS σ) (F : Nat → Prop) : Prop :=
  ∃ hv hs i M, RInC W g g2 most x.at' x.err hv i ∧ Rd W x.s M ∧ OwnB W B 5 hv hs ∧ ¬ M g ∧ B ≤ g ∧ (∀ j, hv.ownBlock = some j → ¬ M j ∧ j ≠ g) ∧ (x.err = 0 → i = x.i ∧ hs = x.held ∧ most = x.at' + x.left) ∧ ∀ j, F j ↔ (M j ∨ j = g ∨ hv.ownBlock = some j)

def RTakePost {σ : Type} (Rd : World → σ → (Nat → Prop) → Prop) (B g g2 most : Nat) (q : List Int × Int × InS σ) (F : Nat → Prop) (W : World) (e : Ending) (W' : World) : Prop :=
  ∃ v F', e = .returned (.tuple #[v, .int .i64 q.2.1]) ∧ OwnB W' B 5 v q.1 ∧ IsRIn Rd B g g2 most W' q.2.2 F' ∧ Upd F W W' ∧ (∀ j, F' j → F j ∨ W.heap.size ≤ j) ∧ ∀ j, v.ownBlock = some j → ¬ F' j ∧ (F j ∨ W.heap.size ≤ j)
def RBytePost {σ : Type} (Rd : World → σ → (Nat → Prop) → Prop) (B g g2 most : Nat) (v : Value) (ee : Int) (x : InS σ) (F : Nat → Prop) (W : World) (e : Ending) (W' : World) : Prop :=
  ∃ F', e = .returned (.tuple #[v, .int .i64 ee]) ∧ IsRIn Rd B g g2 most W' x F' ∧ Upd F W W' ∧ (∀ j, F' j → F j ∨ W.heap.size ≤ j)

section
variable {σ : Type} {RD : Nat → σ → Int × Int × List Int × σ} {cnt m vol : σ → Nat} {B g g2 most : Nat} {Rd : World → σ → (Nat → Prop) → Prop} {W W' : World} {x : InS σ} {F S : Nat → Prop}
theorem IsRIn.at0 (h : IsRIn Rd B g g2 most W x F) : F g ∧ g < W.heap.size ∧ W.cell? ⟨g, 1, none⟩ = some (.int .i64 (most : Int)) ∧ W.cell? ⟨g, 2, none⟩ = some (.int .i64 (x.at' : Int)) ∧ W.cell? ⟨g, 3, none⟩ = some (.int .i64 x.err) ∧ (∀ j, W.frozen? ⟨g, j, none⟩ = false) ∧ (x.err = 0 → most = x.at' + x.left) := by
  obtain ⟨hv, hs, i, M, hi, hr, ho, hMg, hBg, hd, he, hF⟩ := h
  exact ⟨(hF g).2 (.inr (.inl rfl)), lt_of_block hi, (RInC.c hi).2.1, (RInC.c hi).2.2.1, (RInC.c hi).2.2.2.1, (RInC.c hi).2.2.2.2.2.2, fun h => (he h).2.2⟩
theorem IsRIn.upd {f : FuncId} {recv : Value} (X : RFam RD cnt m vol f recv B Rd) (h : IsRIn Rd B g g2 most W x F) (hu : Upd S W W') (hs : ∀ j, S j → B ≤ j ∧ ¬ F j) : IsRIn Rd B g g2 most W' x F := by
  obtain ⟨hv, hs', i, M, hi, hr, ho, hMg, hBg, hd, he, hF⟩ := h
  exact ⟨hv, hs', i, M, hi.upd hu (fun e => (hs g e).2 ((hF g).2 (.inr (.inl rfl)))), (X.R 1 (by omega) (by omega)).upd hr hu (fun j e => ⟨(hs j e).1, fun h => (hs j e).2 ((hF j).2 (.inl h))⟩), ho.upd hu (fun j hj e => (hs j e).2 ((hF j).2 (.inr (.inr hj)))), hMg, hBg, hd, he, hF⟩
theorem IsRIn.still {f : FuncId} {recv : Value} (X : RFam RD cnt m vol f recv B Rd) (h : IsRIn Rd B g g2 most W x F) (n : Nat) : IsRIn Rd B g g2 most (W.drewN n) x F :=
  h.upd X (((Still.refl W).drewN n).upd Noth) (fun _ e => e.elim)
/-- It ends by an error, and stands anywhere. -/
theorem IsRIn.setErr {f : FuncId} {recv : Value} (X : RFam RD cnt m vol f recv B Rd) (h : IsRIn Rd B g g2 most W x F) (e : Int) (he : e ≠ 0) : IsRIn Rd B g g2 most (W.setCell ⟨g, 3, none⟩ (.int .i64 e)) (x.ends e) F ∧ Upd F W (W.setCell ⟨g, 3, none⟩ (.int .i64 e)) := by
  obtain ⟨hv, hs, i, M, hi, hr, ho, hMg, hBg, hd, _, hF⟩ := h
  have hu : Upd (fun j => j = g) W (W.setCell ⟨g, 3, none⟩ (.int .i64 e)) := (Upd.refl _ _).set1 3 _
  exact ⟨⟨hv, hs, i, M, block_setCell hi 3 _, (X.R 1 (by omega) (by omega)).upd hr hu (fun j e => by subst e; exact ⟨hBg, hMg⟩), ho.upd hu (fun j hj e => (hd j hj).2 e), hMg, hBg, hd, fun h => absurd h he, hF⟩, hu.mono (fun j _ e => (hF j).2 (.inr (.inl e)))⟩
theorem IsRIn.setAt {f : FuncId} {recv : Value} (X : RFam RD cnt m vol f recv B Rd) (h : IsRIn Rd B g g2 most W x F) (n : Nat) (y : InS σ) (hy : y.s = x.s ∧ y.err = x.err ∧ y.at' = n) (hy2 : y.err = 0 → y.i = x.i ∧ y.held = x.held ∧ most = y.at' + y.left) : IsRIn Rd B g g2 most (W.setCell ⟨g, 2, none⟩ (.int .i64 (n : Int))) y F ∧ Upd F W (W.setCell ⟨g, 2, none⟩ (.int .i64 (n : Int))) := by
  obtain ⟨hv, hs, i, M, hi, hr, ho, hMg, hBg, hd, he, hF⟩ := h
  have hu : Upd (fun j => j = g) W (W.setCell ⟨g, 2, none⟩ (.int .i64 (n : Int))) := (Upd.refl _ _).set1 2 _
  refine ⟨⟨hv, hs, i, M, ?_, ?_, ho.upd hu (fun j hj e => (hd j hj).2 e), hMg, hBg, hd, fun h => ?_, hF⟩, hu.mono (fun j _ e => (hF j).2 (.inr (.inl e)))⟩
  · rw [hy.2.1, hy.2.2]; exact block_setCell hi 2 _
  · rw [hy.1]; exact (X.R 1 (by omega) (by omega)).upd hr hu (fun j e => by subst e; exact ⟨hBg, hMg⟩)
  · have h1 := he (by rw [← hy.2.1]; exact h)
    have h2 := hy2 h
    exact ⟨h1.1.trans h2.1.symm, h1.2.1.trans h2.2.1.symm, h2.2.2⟩
end

set_option maxRecDepth 100000 in
set_option maxHeartbeats 1600000 in
theorem rbytes_any {σ : Type} {RD : Nat → σ → Int × Int × List Int × σ} {cnt m vol : σ → Nat} {B g2 : Nat} {Rd : World → σ → (Nat → Prop) → Prop} (X : RFam RD cnt m vol 66 (.pointer (some ⟨g2, 0, none⟩)) B Rd)
    (W : World) (g most : Nat) (x : InS σ) (F : Nat → Prop) (C l : Nat) (n : Int) (hn : n ≤ 9223372036854775807) (hI : IsRIn Rd B g g2 most W x F) (hok : InOk cnt m vol C l x) (hC : C ≤ 4611686018427387000) (hml : most ≤ 9223372036854775807) (hB : B ≤ W.heap.size) :
    Calls Try.prog 43 #[.pointer (some ⟨g, 0, none⟩), .int .i64 n] W fun e W' => RTakePost Rd B g g2 most (bytesP RD n x) F W e W' := by
  have hg := hI.at0
  have c1 := hg.2.2.1
  have c2 := hg.2.2.2.1
  have c3 := hg.2.2.2.2.1
  have f3 := hg.2.2.2.2.2.1 3
  by_cases he : x.err = 0
  · have hmo := hg.2.2.2.2.2.2 he
    rw [he] at c3
    by_cases hneg : n < 0
    · have HF : Hid (RTakePost Rd B g g2 most (bytesP RD n x) F W (.returned (.tuple #[.slice none 0 0, .int .i64 1])) W) := by
        have hb : bytesP RD n x = ([], 1, x) := by unfold bytesP; rw [if_neg (by simp [he]), if_pos hneg]
        rw [hb]
        exact ⟨_, F, rfl, OwnB.nil _ _ _, hI, Upd.refl _ _, fun _ h => .inl h, fun j hj => by cases hj⟩
      clear hg hI hok X he hmo
      go_enter Try.func43, Try.ntmps43
      go_wp2_with fail
      go_ret2
      exact HF.out
    · obtain ⟨k, rfl⟩ : ∃ k : Nat, n = k := ⟨n.toNat, by omega⟩
      have HBP : Hid (bytesP RD k x = if (takeP RD k x).2.1 ≠ 0 then ([], (takeP RD k x).2.1, (takeP RD k x).2.2.ends (takeP RD k x).2.1) else ((takeP RD k x).1, 0, (takeP RD k x).2.2.goes k)) := hide (by unfold bytesP; rw [if_neg (by simp [he]), if_neg hneg, Int.toNat_natCast])
      by_cases hlt : x.left < k
      · have HF : Hid (∀ n1 n2, RTakePost Rd B g g2 most (bytesP RD k x) F W (.returned (.tuple #[.slice none 0 0, .int .i64 42])) (((W.drewN n1).setCell ⟨g, 3, none⟩ (.int .i64 42)).drewN n2)) := hide fun n1 n2 => by
          have h1 : takeP RD k x = ([], 42, x) := by unfold takeP; rw [if_pos hlt]
          rw [HBP.out, h1, if_pos (by simp)]
          obtain ⟨q1, q2⟩ := (hI.still X n1).setErr X 42 (by decide)
          exact ⟨_, F, rfl, OwnB.nil _ _ _, q1.still X n2, ((((Still.refl W).drewN n1).upd Noth).noth.trans q2).trans (((Still.refl _).drewN n2).upd Noth).noth, fun _ h => .inl h, fun j hj => by cases hj⟩
        have hlti : (most : Int) - (x.at' : Int) < (k : Int) := by omega
        have hmi : x.at' ≤ most := by omega
        clear hg hI hok X he hmo HBP hlt
        go_enter Try.func43, Try.ntmps43
        go_wp2_with fail
        go_quiet (fail)
        go_wp2_with fail
        go_quiet (fail)
        go_wp2_with fail
        go_ret2
        exact HF.out _ _
      · have hlti : ¬ (most : Int) - (x.at' : Int) < (k : Int) := by omega
        have hmi : x.at' ≤ most := by omega
        by_cases hk0 : k = 0
        · subst hk0
          have HF : Hid (∀ n1, RTakePost Rd B g g2 most (bytesP RD (0 : Nat) x) F W (.returned (.tuple #[.slice none 0 0, .int .i64 0])) (W.drewN n1)) := hide fun n1 => by
            have h1 : takeP RD 0 x = ([], 0, x) := by unfold takeP; rw [if_neg hlt, if_pos rfl]
            rw [HBP.out, h1, if_neg (by simp)]
            exact ⟨_, F, rfl, OwnB.nil _ _ _, hI.still X n1, (((Still.refl W).drewN n1).upd Noth).noth, fun _ h => .inl h, fun j hj => by cases hj⟩
          clear hg hI hok X he hmo HBP hlt
          go_enter Try.func43, Try.ntmps43
          go_wp2_with fail
          go_quiet (fail)
          go_wp2_with fail
          go_ret2
          exact HF.out _
        · have hTK : takeP RD k x = ((fillA RD k x.held x.s x.i).1, (fillA RD k x.held x.s x.i).2.1, ⟨(fillA RD k x.held x.s x.i).2.2.1, x.at', (fillA RD k x.held x.s x.i).2.2.2, x.err, x.left - k, []⟩) := by unfold takeP; rw [if_neg hlt, if_neg hk0]
          rw [hTK] at HBP
          obtain ⟨hv, hs, i, M, hi, hr, ho, hMg, hBg, hd, hx0, hF⟩ := hI
          obtain ⟨rfl, rfl, _⟩ := hx0 he
          have hi16 := hok.i16 he
          have hpot := hok.pot he
          have hvo := hok.vo he
          have hh1 := hok.held1
          have HW : Hid (∀ n1, Calls Try.prog 55 #[.pointer (some ⟨g, 0, none⟩), .int .i64 (k : Int)] (W.drewN n1) fun e W' => RFillPost Rd B g g2 most x.at' x.err (fillA RD k x.held x.s x.i) M hv.ownBlock (W.drewN n1) e W') := hide fun n1 => by
            have hu : Upd Noth W (W.drewN n1) := ((Still.refl W).drewN n1).upd Noth
            exact want_any X (W.drewN n1) g x.s M most x.at' x.i x.err hv x.held k (by omega) (by omega) (Nat.le_trans hB hu.size) (hi.upd hu (fun e => e)) ((X.R 1 (by omega) (by omega)).upd hr hu (fun _ e => e.elim)) hMg hBg hi16 (ho.upd hu (fun _ _ e => e)) hd (by omega) (by omega)
          have HFO := hide (X.fill k x.held x.s x.i hi16 (by omega))
          have hk0i : ¬ (k : Int) = 0 := by omega
          have hgl : g < W.heap.size := lt_of_block hi
          have HFF := hide hF
          have HX := hide X
          have HER := hide he
          clear hg hi hr ho hd hF hok X he hTK hx0 hlt hneg
          generalize fillA RD k x.held x.s x.i = q at *
          obtain ⟨bs, er, s', i'⟩ := q
          simp only at HBP
          go_enter Try.func43, Try.ntmps43
          go_wp2_with fail
          go_quiet (fail)
          go_wp2_with fail
          refine (HW.out _).mono ?_
          rintro e w1 ⟨v, vs, M', rfl, ho1, hb1, hi1, hr1, hu1, hm1, hd1⟩
          simp only at hi1 hr1 hb1
          have hu1' : Upd F W w1 := ((((Still.refl W).drewN _).upd Noth).noth).then hu1 (fun j _ e => (HFF.out j).2 e)
          have hsz1 : W.heap.size ≤ w1.heap.size := hu1'.size
          have hM'g : ¬ M' g := fun e => (hm1 g e).elim hMg (fun h => by simp at h; omega)
          have HSUB : Hid (∀ j, (M' j ∨ j = g) → F j ∨ W.heap.size ≤ j) := hide fun j h => h.elim (fun h => (hm1 j h).elim (fun h => .inl ((HFF.out j).2 (.inl h))) (fun h => .inr (by simpa using h))) (fun h => .inl ((HFF.out j).2 (.inr (.inl h))))
          have HIN : Hid (∀ y : InS σ, y.s = s' → y.at' = x.at' → y.err = x.err → (y.err = 0 → i' = y.i ∧ [] = y.held ∧ most = y.at' + y.left) → IsRIn Rd B g g2 most w1 y (fun j => M' j ∨ j = g)) := hide fun y h1 h2 h3 h4 => ⟨.slice none 0 0, [], i', M', by rw [h2, h3]; exact hi1, by rw [h1]; exact hr1, OwnB.nil _ _ _, hM'g, hBg, (fun j hj => by cases hj), h4, fun j => ⟨fun h => h.elim .inl (fun h => .inr (.inl h)), fun h => h.elim .inl (fun h => h.elim .inr (fun h => by cases h))⟩⟩
          have d2 := (RInC.c hi1).2.2.1
          have d3 := (RInC.c hi1).2.2.2.1
          have g2' := (RInC.c hi1).2.2.2.2.2.2 2
          have g3' := (RInC.c hi1).2.2.2.2.2.2 3
          have HU1 := hide hu1'
          have HO1 := hide ho1
          have HB1 := hide hb1
          have HD1 : Hid (∀ j, v.ownBlock = some j → ¬ (M' j ∨ j = g) ∧ (F j ∨ W.heap.size ≤ j)) := hide fun j hj => ⟨fun e => e.elim (hd1 j hj).1 (hd1 j hj).2.1, (hd1 j hj).2.2.elim (fun h => .inl ((HFF.out j).2 (.inr (.inr h)))) (fun h => .inr (by simpa using h))⟩
          obtain ⟨a3, c3, rfl, hn3, _, _⟩ := ho1.sliceN rfl
          clear ho1 hb1 hi1 hr1 hu1 hu1' hm1 hd1 HW hn3
          by_cases e0 : er = 0
          · subst e0
            rw [if_neg (by simp)] at HBP
            have hfull := HFO.out.full rfl
            obtain rfl : vs = bs := HB1.out rfl
            have hati : x.at' + k ≤ 9223372036854775807 := by omega
            have HF : Hid (RTakePost Rd B g g2 most (bytesP RD k x) F W (.returned (.tuple #[.slice a3 vs.length c3, .int .i64 0])) (w1.setCell ⟨g, 2, none⟩ (.int .i64 ((x.at' : Int) + (k : Int))))) := by
              rw [HBP.out]
              obtain ⟨q1, q2⟩ := IsRIn.setAt HX.out (HIN.out ⟨s', x.at', i', x.err, x.left, []⟩ rfl rfl rfl (fun _ => ⟨rfl, rfl, hmo⟩)) (x.at' + k) ⟨s', x.at' + k, i', x.err, x.left - k, []⟩ ⟨rfl, rfl, rfl⟩ (fun _ => ⟨rfl, rfl, by simp only; omega⟩)
              rw [show ((x.at' + k : Nat) : Int) = (x.at' : Int) + (k : Int) from by omega] at q1 q2
              have hu : Upd (fun j => j = g) w1 (w1.setCell ⟨g, 2, none⟩ (.int .i64 ((x.at' : Int) + (k : Int)))) := (Upd.refl _ _).set1 2 _
              exact ⟨_, _, rfl, HO1.out.upd hu (fun j hj e => (HD1.out j hj).1 (.inr e)), q1, HU1.out.then q2 (fun j hj e => (HSUB.out j e).elim id (fun h => by omega)), HSUB.out, HD1.out⟩
            clear HBP hfull
            go_wp2_with fail
            go_ret2
            exact HF.out
          · rw [if_pos e0] at HBP
            have e0' : (er != 0) = true := by simp [e0]
            have HF : Hid (RTakePost Rd B g g2 most (bytesP RD k x) F W (.returned (.tuple #[.slice none 0 0, .int .i64 er])) (w1.setCell ⟨g, 3, none⟩ (.int .i64 er))) := by
              rw [HBP.out]
              obtain ⟨q1, q2⟩ := IsRIn.setErr HX.out (HIN.out ⟨s', x.at', i', x.err, x.left, []⟩ rfl rfl rfl (fun _ => ⟨rfl, rfl, hmo⟩)) er e0
              obtain ⟨hv', hs', i2, M2, z1, z2, z3, z4, z5, z6, z7, z8⟩ := q1
              exact ⟨_, _, rfl, OwnB.nil _ _ _, ⟨hv', hs', i2, M2, z1, z2, z3, z4, z5, z6, fun h => absurd h e0, z8⟩, HU1.out.then q2 (fun j hj e => (HSUB.out j e).elim id (fun h => by omega)), HSUB.out, fun j hj => by cases hj⟩
            clear HBP
            go_wp2_with fail
            go_ret2
            exact HF.out
  · have he' : (x.err != 0) = true := by simp [he]
    have HF : Hid (∀ k, RTakePost Rd B g g2 most (bytesP RD n x) F W (.returned (.tuple #[.slice none 0 0, .int .i64 x.err])) (W.drewN k)) := hide fun k => by
      have hb : bytesP RD n x = ([], x.err, x) := by unfold bytesP; rw [if_pos he]
      rw [hb]
      exact ⟨_, F, rfl, OwnB.nil _ _ _, hI.still X k, (((Still.refl W).drewN k).upd Noth).noth, fun _ h => .inl h, fun j hj => by cases hj⟩
    clear hg hI hok X
    go_enter Try.func43, Try.ntmps43
    go_wp2_with fail
    go_quiet (fail)
    go_wp2_with fail
    go_ret2
    exact HF.out _

end Go.Proofs.Ytjcanghffhpncaa

namespace Go.Proofs.Ytjcanghffhpncaa
open Go.RowKit

theorem byte_bytes {σ : Type} {RD : Nat → σ → Int × Int × List Int × σ} (x : InS σ) : byteP RD x = if (bytesP RD 1 x).2.1 ≠ 0 then (0, (bytesP RD 1 x).2.1, (bytesP RD 1 x).2.2) else ((bytesP RD 1 x).1.getD 0 0, 0, (bytesP RD 1 x).2.2) := by
  unfold byteP bytesP
  by_cases he : x.err ≠ 0
  · rw [if_pos he, if_pos he, if_pos he]
  · rw [if_neg he, if_neg he, if_neg (show ¬ (1 : Int) < 0 by decide), show (1 : Int).toNat = 1 from rfl]
    by_cases h : (takeP RD 1 x).2.1 ≠ 0
    · rw [if_pos h, if_pos h, if_pos h]
    · rw [if_neg h, if_neg h, if_neg (by simp)]
theorem bytes1_len {σ : Type} {RD : Nat → σ → Int × Int × List Int × σ} {cnt m vol : σ → Nat} {f : FuncId} {recv : Value} {B : Nat} {Rd : World → σ → (Nat → Prop) → Prop} (X : RFam RD cnt m vol f recv B Rd) (x : InS σ) (C l : Nat) (hok : InOk cnt m vol C l x) (h : (bytesP RD 1 x).2.1 = 0) : (bytesP RD 1 x).1.length = 1 := by
  unfold bytesP at *
  by_cases he : x.err ≠ 0
  · rw [if_pos he] at h
    exact absurd h he
  · rw [if_neg he, if_neg (show ¬ (1 : Int) < 0 by decide), show (1 : Int).toNat = 1 from rfl] at *
    by_cases h2 : (takeP RD 1 x).2.1 ≠ 0
    · rw [if_pos h2] at h
      exact absurd h h2
    · rw [if_neg h2]
      exact ((take_ok X 1 x C l hok (by simpa using he)).ok (by simpa using h2)).1

set_option maxRecDepth 100000 in
set_option maxHeartbeats 1600000 in
theorem rbyte_any {σ : Type} {RD : Nat → σ → Int × Int × List Int × σ} {cnt m vol : σ → Nat} {B g2 : Nat} {Rd : World → σ → (Nat → Prop) → Prop} (X : RFam RD cnt m vol 66 (.pointer (some ⟨g2, 0, none⟩)) B Rd)
    (W : World) (g most : Nat) (x : InS σ) (F : Nat → Prop) (C l : Nat) (hI : IsRIn Rd B g g2 most W x F) (hok : InOk cnt m vol C l x) (hC : C ≤ 4611686018427387000) (hml : most ≤ 9223372036854775807) (hB : B ≤ W.heap.size) :
    Calls Try.prog 42 #[.pointer (some ⟨g, 0, none⟩)] W fun e W' => RBytePost Rd B g g2 most (.int .u8 (byteP RD x).1) (byteP RD x).2.1 (byteP RD x).2.2 F W e W' := by
  have HB := hide (rbytes_any X W g most x F C l 1 (by omega) hI hok hC hml hB)
  have HE := hide (byte_bytes (RD := RD) x)
  have HL := hide (bytes1_len X x C l hok)
  clear hI hok X
  generalize bytesP RD 1 x = q at *
  obtain ⟨bs, er, x'⟩ := q
  simp only at HE HL
  go_enter Try.func42, Try.ntmps42
  go_wp2_with fail
  refine HB.out.mono ?_
  rintro e w1 ⟨v, F', rfl, ho1, hi1, hu1, hf1, hd1⟩
  simp only at ho1 hi1
  have HF : Hid (∀ z, (byteP RD x).1 = z → RBytePost Rd B g g2 most (.int .u8 (byteP RD x).1) (byteP RD x).2.1 (byteP RD x).2.2 F W (.returned (.tuple #[.int .u8 z, .int .i64 er])) w1) := hide fun z hz => by
    subst hz
    have h1 : (byteP RD x).2 = (er, x') := by
      rw [HE.out]
      by_cases h : er ≠ 0
      · rw [if_pos h]
      · rw [if_neg h]
        have : er = 0 := by simpa using h
        rw [this]
    exact ⟨F', by rw [h1], by rw [h1]; exact hi1, hu1, hf1⟩
  by_cases e0 : er = 0
  · subst e0
    have hl1 := HL.out rfl
    obtain ⟨a1, c1, rfl, _, _, _⟩ := ho1.sliceN hl1
    obtain ⟨b, o, ha, hcell⟩ := ho1.row 0 (by rw [hl1]; omega)
    subst ha
    rw [if_neg (by simp)] at HE
    simp only [Nat.add_zero] at hcell
    have HF' := hide (HF.out (bs.getD 0 0) (by rw [HE.out]))
    clear HE HB ho1 hi1 hu1 hf1 hd1 hl1 HL HF
    go_wp2_with fail
    go_ret2
    exact HF'.out
  · rw [if_pos e0] at HE
    have HF' := hide (HF.out 0 (by rw [HE.out]))
    have e0' : (er != 0) = true := by simp [e0]
    obtain ⟨a1, c1, rfl, _, _, _⟩ := ho1.sliceN rfl
    clear HE HB ho1 hi1 hu1 hf1 hd1 HL HF
    go_wp2_with fail
    go_ret2
    exact HF'.out

set_option maxRecDepth 100000 in
set_option maxHeartbeats 1600000 in
theorem rinend_any {σ : Type} {RD : Nat → σ → Int × Int × List Int × σ} {cnt m vol : σ → Nat} {B g2 : Nat} {Rd : World → σ → (Nat → Prop) → Prop} (X : RFam RD cnt m vol 66 (.pointer (some ⟨g2, 0, none⟩)) B Rd)
    (W : World) (g most : Nat) (x : InS σ) (F : Nat → Prop) (C l : Nat) (hI : IsRIn Rd B g g2 most W x F) (hok : InOk cnt m vol C l x) (hC : C ≤ 4611686018427387000) (hB : B ≤ W.heap.size) :
    Calls Try.prog 46 #[.pointer (some ⟨g, 0, none⟩)] W fun e W' => RBytePost Rd B g g2 most (.bool (endP RD x).1) (endP RD x).2.1 (endP RD x).2.2 F W e W' := by
  have hg := hI.at0
  have c3 := hg.2.2.2.2.1
  by_cases he : x.err = 0
  · have HSAME : Hid (endP RD x = (false, 0, x) → RBytePost Rd B g g2 most (.bool (endP RD x).1) (endP RD x).2.1 (endP RD x).2.2 F W (.returned (.tuple #[.bool false, .int .i64 0])) W) := hide fun h => by
      rw [h]
      exact ⟨F, rfl, hI, Upd.refl _ _, fun _ h => .inl h⟩
    have hmo := hg.2.2.2.2.2.2 he
    obtain ⟨hv, hs, i, M, hi, hr, ho, hMg, hBg, hd, hx0, hF⟩ := hI
    obtain ⟨rfl, rfl, _⟩ := hx0 he
    have c4 := (RInC.c hi).2.2.2.2.1
    obtain ⟨lh, hlh⟩ : ∃ lh, x.held.length = lh := ⟨_, rfl⟩
    have ho' := ho
    obtain ⟨ah, ch, rfl, _, _, _⟩ := ho'.sliceN hlh
    rw [he] at c3
    by_cases hh : x.held = []
    · have hlh0 : lh = 0 := by rw [← hlh, hh]; rfl
      subst hlh0
      rw [hh] at ho
      have HFA := hide (want_any X W g x.s M most x.at' x.i x.err (.slice ah 0 ch) [] 1 (by omega) (by simp) hB hi hr hMg hBg (hok.i16 he) ho hd (by have := hok.pot he; omega) (by omega))
      have HE : Hid (endP RD x = if (fillA RD 1 [] x.s x.i).2.1 = 41 then (true, 0, ⟨(fillA RD 1 [] x.s x.i).2.2.1, x.at', (fillA RD 1 [] x.s x.i).2.2.2, x.err, x.left, x.held⟩) else
  if (fillA RD 1 [] x.s x.i).2.1 ≠ 0 then (false, (fillA RD 1 [] x.s x.i).2.1, ⟨(fillA RD 1 [] x.s x.i).2.2.1, x.at', (fillA RD 1 [] x.s x.i).2.2.2, (fillA RD 1 [] x.s x.i).2.1, x.left, x.held⟩) else
  (false, 0, ⟨(fillA RD 1 [] x.s x.i).2.2.1, x.at', (fillA RD 1 [] x.s x.i).2.2.2, x.err, x.left, (fillA RD 1 [] x.s x.i).1⟩)) := hide (by unfold endP; rw [if_neg (by simp [he]), if_neg (by simp [hh])])
      have HHD : Hid (x.held = []) := hide hh
      generalize fillA RD 1 [] x.s x.i = q at *
      obtain ⟨bs, er, s', i'⟩ := q
      simp only at HE
      have HX := hide X
      have HFF := hide hF
      have hgl : g < W.heap.size := lt_of_block hi
      have HHE := hide he
      have HMO := hide hmo
      clear HSAME hg hi hr ho ho' hd hF hok X he hh hlh hx0 hmo
      go_enter Try.func46, Try.ntmps46
      go_wp2_with fail
      refine HFA.out.mono ?_
      rintro e w1 ⟨v, vs, M', rfl, ho1, hb1, hi1, hr1, hu1, hm1, hd1⟩
      simp only at hb1 hi1 hr1
      have HU1 : Hid (Upd F W w1) := hide (hu1.mono (fun j _ e => (HFF.out j).2 e))
      have hM'g : ¬ M' g := fun e => (hm1 g e).elim hMg (fun h => by omega)
      have HSUB : Hid (∀ j, (M' j ∨ j = g) → F j ∨ W.heap.size ≤ j) := hide fun j h => h.elim (fun h => (hm1 j h).elim (fun h => .inl ((HFF.out j).2 (.inl h))) .inr) (fun h => .inl ((HFF.out j).2 (.inr (.inl h))))
      have HIN : Hid (IsRIn Rd B g g2 most w1 ⟨s', x.at', i', x.err, x.left, x.held⟩ (fun j => M' j ∨ j = g)) := hide ⟨.slice none 0 0, [], i', M', hi1, hr1, OwnB.nil _ _ _, hM'g, hBg, (fun j hj => by cases hj), fun _ => ⟨rfl, HHD.out.symm, HMO.out⟩, fun j => ⟨fun h => h.elim .inl (fun h => .inr (.inl h)), fun h => h.elim .inl (fun h => h.elim .inr (fun h => by cases h))⟩⟩
      have HR1 := hide hr1
      have HI1 := hide hi1
      have HD1 := hide hd1
      have HB1 := hide hb1
      have d3 := (RInC.c hi1).2.2.2.1
      have d4 := (RInC.c hi1).2.2.2.2.1
      have g3 := (RInC.c hi1).2.2.2.2.2.2 3
      have g4 := (RInC.c hi1).2.2.2.2.2.2 4
      have HO1 := hide ho1
      obtain ⟨a3, c3', rfl, hn3, _, _⟩ := ho1.sliceN rfl
      clear ho1 hb1 hi1 hr1 hu1 hm1 hd1 HFA hn3
      by_cases e41 : er = 41
      · subst e41
        rw [if_pos rfl] at HE
        have HF : Hid (RBytePost Rd B g g2 most (.bool (endP RD x).1) (endP RD x).2.1 (endP RD x).2.2 F W (.returned (.tuple #[.bool true, .int .i64 0])) w1) := by
          rw [HE.out]
          exact ⟨_, rfl, HIN.out, HU1.out, HSUB.out⟩
        go_wp2_with fail
        go_ret2
        exact HF.out
      · rw [if_neg e41] at HE
        by_cases e0 : er = 0
        · subst e0
          rw [if_neg (by simp)] at HE
          obtain rfl : vs = bs := HB1.out rfl
          have HF : Hid (RBytePost Rd B g g2 most (.bool (endP RD x).1) (endP RD x).2.1 (endP RD x).2.2 F W (.returned (.tuple #[.bool false, .int .i64 0])) (w1.setCell ⟨g, 4, none⟩ (.slice a3 vs.length c3'))) := by
            rw [HE.out]
            have hu : Upd (fun j => j = g) w1 (w1.setCell ⟨g, 4, none⟩ (.slice a3 vs.length c3')) := (Upd.refl _ _).set1 4 _
            refine ⟨fun j => M' j ∨ j = g ∨ (Value.slice a3 vs.length c3').ownBlock = some j, rfl, ⟨_, _, i', M', block_setCell HI1.out 4 _, (HX.out.R 1 (by omega) (by omega)).upd HR1.out hu (fun j e => by subst e; exact ⟨hBg, hM'g⟩), HO1.out.upd hu (fun j hj e => (HD1.out j hj).2.1 e), hM'g, hBg, fun j hj => ⟨(HD1.out j hj).1, (HD1.out j hj).2.1⟩, fun _ => ⟨rfl, rfl, HMO.out⟩, fun j => Iff.rfl⟩, HU1.out.then hu (fun j _ e => (HFF.out j).2 (.inr (.inl e))), ?_⟩
            rintro j (h | h | h)
            · exact HSUB.out j (.inl h)
            · exact HSUB.out j (.inr h)
            · exact ((HD1.out j h).2.2).elim (fun h => .inl ((HFF.out j).2 (.inr (.inr h)))) .inr
          go_wp2_with fail
          go_ret2
          exact HF.out
        · rw [if_pos e0] at HE
          have e0' : (er != 0) = true := by simp [e0]
          have HF : Hid (RBytePost Rd B g g2 most (.bool (endP RD x).1) (endP RD x).2.1 (endP RD x).2.2 F W (.returned (.tuple #[.bool false, .int .i64 er])) (w1.setCell ⟨g, 3, none⟩ (.int .i64 er))) := by
            rw [HE.out]
            obtain ⟨q1, q2⟩ := HIN.out.setErr HX.out er e0
            exact ⟨_, rfl, q1, HU1.out.then q2 (fun j hj e => (HSUB.out j e).elim id (fun h => by omega)), HSUB.out⟩
          go_wp2_with fail
          go_ret2
          exact HF.out
    · have hlp : (0 : Int) < (lh : Int) := by have := List.length_pos_iff.2 hh; omega
      have HF := hide (HSAME.out (by unfold endP; rw [if_neg (by simp [he]), if_pos hh]))
      clear HSAME hg hi hr ho ho' hd hF hok X he hh hlh hmo hx0
      go_enter Try.func46, Try.ntmps46
      go_wp2_with fail
      go_ret2
      exact HF.out
  · have he' : (x.err != 0) = true := by simp [he]
    have HF : Hid (∀ n, RBytePost Rd B g g2 most (.bool (endP RD x).1) (endP RD x).2.1 (endP RD x).2.2 F W (.returned (.tuple #[.bool false, .int .i64 x.err])) (W.drewN n)) := hide fun n => by
      have hb : endP RD x = (false, x.err, x) := by unfold endP; rw [if_pos he]
      rw [hb]
      exact ⟨F, rfl, hI.still X n, (((Still.refl W).drewN n).upd Noth).noth, fun _ h => .inl h⟩
    clear hg hI hok X
    go_enter Try.func46, Try.ntmps46
    go_wp2_with fail
    go_quiet (fail)
    go_wp2_with fail
    go_ret2
    exact HF.out _

end Go.Proofs.Ytjcanghffhpncaa
