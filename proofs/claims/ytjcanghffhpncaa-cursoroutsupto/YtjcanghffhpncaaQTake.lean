/- An In as a whole: what its calls tell, as functions of its state; and take. -/
import Derived.Test.YtjcanghffhpncaaQFill
namespace Go.Proofs.Ytjcanghffhpncaa
open Go.RowKit

/-- What is known of a filling. -/
structure FillOk {σ : Type} (cnt m vol : σ → Nat) (n : Nat) (b : List Int) (s : σ) (i : Nat) (q : List Int × Int × σ × Nat) : Prop where
  full : q.2.1 = 0 → q.1.length = n ∧ q.2.2.2 < 16
  none : q.2.1 ≠ 0 → q.1 = []
  b8 : B8 b → B8 q.1
  pot : cnt q.2.2.1 + 17 * m q.2.2.1 + (16 - q.2.2.2) ≤ cnt s + 17 * m s + (16 - i) + 17
  vol : q.1.length + vol q.2.2.1 ≤ b.length + vol s
  i16 : q.2.2.2 ≤ 16

theorem b8_nil : B8 [] := by intro x hx; cases hx
theorem B8.app {a b : List Int} (ha : B8 a) (hb : B8 b) : B8 (a ++ b) := by
  intro x hx
  rcases List.mem_append.1 hx with h | h
  · exact ha x h
  · exact hb x h
theorem fill_ok {σ : Type} {RD : Nat → σ → Int × Int × List Int × σ} {cnt m vol : σ → Nat} (n : Nat) (H : ∀ k s i, 1 ≤ k → k ≤ 4096 → AskOk cnt m vol k s i (ask1 RD k s i)) : ∀ (fu : Nat) (b : List Int) (s : σ) (i : Nat), i < 16 → b.length ≤ n → 17 * (n - b.length) + (16 - i) ≤ fu → FillOk cnt m vol n b s i (fillF RD n fu b s i)
  | 0, b, s, i, hi, hb, hf => absurd hf (by omega)
  | fu + 1, b, s, i, hi, hb, hf => by
    by_cases hn : n ≤ b.length
    · rw [fillF, if_pos hn]
      exact ⟨fun _ => ⟨by simp only; omega, hi⟩, fun h => absurd rfl h, fun h => h, by simp only; omega, Nat.le_refl _, by simp only; omega⟩
    · have hA := H (min (n - b.length) 4096) s i (by omega) (by omega)
      rw [fill_step _ rfl (Nat.succ_pos _) hn]
      generalize ask1 RD (min (n - b.length) 4096) s i = q at *
      obtain ⟨bt, er, s', i'⟩ := q
      have h1 := hA.len
      have h2 := hA.cnt1
      have h3 := hA.vol
      have h4 := hA.mle
      have h5 := hA.i16 hi
      simp only at h1 h2 h3 h4 h5 ⊢
      by_cases hx : n ≤ b.length + bt.length
      · rw [if_pos hx]
        have hne : bt ≠ [] := fun e => by rw [e] at hx; simp at hx; omega
        have h6 := hA.i0 hne
        simp only at h6
        exact ⟨fun _ => ⟨by simp only [List.length_append]; omega, by simp only; omega⟩, fun h => absurd rfl h, fun h => h.app hA.b8, by simp only; omega, by simp only [List.length_append]; omega, by simp only; omega⟩
      · rw [if_neg hx]
        by_cases e31 : er = 31
        · rw [if_pos e31]
          exact ⟨fun h => absurd h (by simp), fun _ => rfl, fun _ => b8_nil, by simp only; omega, by simp only [List.length_nil]; omega, by simp only; omega⟩
        · rw [if_neg e31]
          by_cases e0 : er = 0
          · rw [if_neg (by simp [e0])]
            have g1 := hA.ok e0 hi
            have g2 := hA.pot e0 hi
            have g3 := hA.pot1 e0
            simp only at g1 g2 g3
            have hstep : (bt.length = 0 ∧ i' = i + 1) ∨ (0 < bt.length ∧ i' = 0 ∧ m s' + 1 ≤ m s) := by
              by_cases hb0 : bt = []
              · exact .inl ⟨by rw [hb0]; rfl, g2 hb0⟩
              · exact .inr ⟨List.length_pos_iff.2 hb0, (g3 hb0).2, (g3 hb0).1⟩
            have hF := fill_ok n H fu (b ++ bt) s' i' g1 (by rw [List.length_append]; omega) (by rw [List.length_append]; omega)
            have q1 := hF.pot
            have q2 := hF.vol
            rw [List.length_append] at q2
            show FillOk cnt m vol n b s i (fillF RD n fu (b ++ bt) s' i')
            exact ⟨hF.full, hF.none, fun h => hF.b8 (h.app hA.b8), by omega, by omega, hF.i16⟩
          · rw [if_pos e0]
            exact ⟨fun h => absurd h e0, fun _ => rfl, fun _ => b8_nil, by simp only; omega, by simp only [List.length_nil]; omega, by simp only; omega⟩

/-- Readers for whatever number of bytes, behind one interface. -/
structure RFam {σ : Type} (RD : Nat → σ → Int × Int × List Int × σ) (cnt m vol : σ → Nat) (f : FuncId) (recv : Value) (B : Nat) (Rd : World → σ → (Nat → Prop) → Prop) : Prop where
  R : ∀ k, 1 ≤ k → k ≤ 4096 → Reader k (RD k) cnt m f recv B Rd
  vol : ∀ k s, 1 ≤ k → k ≤ 4096 → (RD k s).2.2.1.length + vol (RD k s).2.2.2 ≤ vol s

theorem RFam.fill {σ : Type} {RD : Nat → σ → Int × Int × List Int × σ} {cnt m vol : σ → Nat} {f : FuncId} {recv : Value} {B : Nat} {Rd : World → σ → (Nat → Prop) → Prop} (X : RFam RD cnt m vol f recv B Rd) (n : Nat) (b : List Int) (s : σ) (i : Nat) (hi : i < 16) (hb : b.length ≤ n) : FillOk cnt m vol n b s i (fillA RD n b s i) :=
  fill_ok n (fun k s i h1 h2 => ask_ok (X.R k h1 h2) (fun s => X.vol k s h1 h2) s i) _ b s i hi hb (Nat.le_refl _)

/-- An In's state: its reader's, where it stands, how many calls running gave nothing, its error, what is left of the bound, what it holds. -/
structure InS (σ : Type) where
  s : σ
  at' : Nat
  i : Nat
  err : Int
  left : Nat
  held : List Int

/-- What is known of an In between two calls: C bounds the calls to come, L the bound. -/
structure InOk {σ : Type} (cnt m vol : σ → Nat) (C L : Nat) (x : InS σ) : Prop where
  held1 : x.held.length ≤ 1
  b8 : B8 x.held
  i16 : x.err = 0 → x.i < 16
  pot : x.err = 0 → cnt x.s + 17 * m x.s + (16 - x.i) ≤ C
  lim : x.err = 0 → x.at' + x.left = L
  vo : x.err = 0 → min x.left (x.held.length + vol x.s) ≤ 140737488355328
  atl : x.at' ≤ L

/-- take: the bytes, the error, the state. -/
def takeP {σ : Type} (RD : Nat → σ → Int × Int × List Int × σ) (n : Nat) (x : InS σ) : List Int × Int × InS σ :=
  if x.left < n then ([], 42, x) else if n = 0 then ([], 0, x) else
  ((fillA RD n x.held x.s x.i).1, (fillA RD n x.held x.s x.i).2.1, ⟨(fillA RD n x.held x.s x.i).2.2.1, x.at', (fillA RD n x.held x.s x.i).2.2.2, x.err, x.left - n, []⟩)

def IsIn {σ : Type} (Rd : World → σ → (Nat → Prop) → Prop) (B g : Nat) (r : Value) (W : World) (x : InS σ) (F : Nat → Prop) : Prop :=
  ∃ hv M, InC W g x.at' x.i x.err r x.left hv ∧ Rd W x.s M ∧ OwnB W B 5 hv x.held ∧ ¬ M g ∧ B ≤ g ∧ (∀ j, hv.ownBlock = some j → ¬ M j ∧ j ≠ g) ∧ ∀ j, F j ↔ (M j ∨ j = g ∨ hv.ownBlock = some j)

def TakePost {σ : Type} (Rd : World → σ → (Nat → Prop) → Prop) (B g : Nat) (r : Value) (q : List Int × Int × InS σ) (F : Nat → Prop) (W : World) (e : Ending) (W' : World) : Prop :=
  ∃ v F', e = .returned (.tuple #[v, .int .i64 q.2.1]) ∧ OwnB W' B 5 v q.1 ∧ IsIn Rd B g r W' q.2.2 F' ∧ Upd F W W' ∧ (∀ j, F' j → F j ∨ W.heap.size ≤ j) ∧ ∀ j, v.ownBlock = some j → ¬ F' j ∧ (F j ∨ W.heap.size ≤ j)

theorem own_nil_held {W : World} {B : Nat} {v : Value} (h : OwnB W B 5 v []) : v = .slice none 0 0 ∨ ∃ g cap, v = .slice (some ⟨g, 0, none⟩) 0 cap := by
  rcases h with ⟨h, _⟩ | ⟨g, cap, cur, h, _⟩
  · exact .inl h
  · exact .inr ⟨g, cap, h⟩

set_option maxRecDepth 100000 in
set_option maxHeartbeats 1600000 in
theorem take_any {σ : Type} {RD : Nat → σ → Int × Int × List Int × σ} {cnt m vol : σ → Nat} {f : FuncId} {recv : Value} {B : Nat} {Rd : World → σ → (Nat → Prop) → Prop} {ty : TypeId} {pv : Value} (L : Leads "Read" ty pv f recv) (X : RFam RD cnt m vol f recv B Rd)
    (W : World) (g : Nat) (x : InS σ) (F : Nat → Prop) (C l : Nat) (n : Nat) (hn : n ≤ 9223372036854775807) (hI : IsIn Rd B g (.iface ty pv) W x F) (hok : InOk cnt m vol C l x) (he : x.err = 0) (hC : C ≤ 4611686018427387000) (hl : l ≤ 9223372036854775807) (hB : B ≤ W.heap.size) :
    Calls Try.prog 35 #[.pointer (some ⟨g, 0, none⟩), .int .i64 (n : Int)] W fun e W' => TakePost Rd B g (.iface ty pv) (takeP RD n x) F W e W' := by
  obtain ⟨s, at', i, err, left, held⟩ := x
  simp only at he
  subst he
  obtain ⟨hv, M, hi, hr, ho, hMg, hBg, hd, hF⟩ := hI
  simp only at hi hr ho
  have c4 := (InC.c hi).2.2.2.2.1
  have c5 := (InC.c hi).2.2.2.2.2.1
  have f4 := (InC.c hi).2.2.2.2.2.2 4
  have f5 := (InC.c hi).2.2.2.2.2.2 5
  have hlim := hok.lim rfl
  simp only at hlim
  have HI := hide hi
  have HSAME : Hid (∀ ee, takeP RD n ⟨s, at', i, 0, left, held⟩ = ([], ee, ⟨s, at', i, 0, left, held⟩) → TakePost Rd B g (.iface ty pv) (takeP RD n ⟨s, at', i, 0, left, held⟩) F W (.returned (.tuple #[.slice none 0 0, .int .i64 ee])) W) := hide fun ee h => by
    rw [h]
    exact ⟨.slice none 0 0, F, rfl, OwnB.nil _ _ _, ⟨hv, M, hi, hr, ho, hMg, hBg, hd, hF⟩, Upd.refl _ _, fun _ h => .inl h, fun j hj => by cases hj⟩
  by_cases hlt : left < n
  · have HF := hide (HSAME.out 42 (by simp [takeP, hlt]))
    have hlti : (left : Int) < (n : Int) := by omega
    clear HSAME hi hr ho hd hF hok
    go_enter Try.func35, Try.ntmps35
    go_wp2_with fail
    go_ret2
    exact HF.out
  · have hlti : ¬ (left : Int) < (n : Int) := by omega
    by_cases hn0 : n = 0
    · subst hn0
      have HF := hide (HSAME.out 0 (by simp [takeP]))
      clear HSAME hi hr ho hd hF hok hlt
      go_enter Try.func35, Try.ntmps35
      go_wp2_with fail
      go_ret2
      exact HF.out
    · have hn0i : ¬ (n : Int) = 0 := by omega
      have hsub : ((left - n : Nat) : Int) = (left : Int) - (n : Int) := by omega
      have hi1 : InC ((W.setCell ⟨g, 5, none⟩ (.slice none 0 0)).setCell ⟨g, 4, none⟩ (.int .i64 ((left : Int) - (n : Int)))) g at' i 0 (.iface ty pv) (left - n) (.slice none 0 0) := by
        unfold InC
        rw [hsub]
        exact block_setCell (block_setCell hi 5 _) 4 _
      have hu1 : Upd (fun j => j = g) W ((W.setCell ⟨g, 5, none⟩ (.slice none 0 0)).setCell ⟨g, 4, none⟩ (.int .i64 ((left : Int) - (n : Int)))) := ((Upd.refl _ _).set1 5 _).trans ((Upd.refl _ _).set1 4 _)
      have hvo := hok.vo rfl
      have hh1 := hok.held1
      simp only at hvo hh1
      have HFA := hide (fill_any L X.R X.vol ((W.setCell ⟨g, 5, none⟩ (.slice none 0 0)).setCell ⟨g, 4, none⟩ (.int .i64 ((left : Int) - (n : Int)))) g s M at' i 0 (left - n) (.slice none 0 0) hv held n hn (by omega) (Nat.le_trans hB hu1.size) hi1 ((X.R 1 (by omega) (by omega)).upd hr hu1 (fun j e => by subst e; exact ⟨hBg, hMg⟩)) hMg hBg (hok.i16 rfl) (ho.upd hu1 (fun j hj e => (hd j hj).2 e)) hd (by have := hok.pot rfl; simp only at this; omega) (by omega))
      have HTP : Hid (takeP RD n ⟨s, at', i, 0, left, held⟩ = ((fillA RD n held s i).1, (fillA RD n held s i).2.1, ⟨(fillA RD n held s i).2.2.1, at', (fillA RD n held s i).2.2.2, 0, left - n, []⟩)) := hide (by simp [takeP, hlt, hn0])
      have hgl : g < W.heap.size := lt_of_block hi
      have hol := hide (ho.owns.lt)
      obtain ⟨ah, ch, rfl, _, _, _⟩ := ho.sliceN rfl
      have HU1 := hide hu1
      have HD := hide hd
      have HFF := hide hF
      clear HSAME hi hr ho hd hF hok hi1 hu1 hsub
      go_enter Try.func35, Try.ntmps35
      go_wp2_with fail
      refine HFA.out.mono ?_
      rintro e w1 ⟨v, M', rfl, ho1, hi1, hr1, hu1, hm1, hd1⟩
      have hz1 := HU1.out.size
      have HF : Hid (TakePost Rd B g (.iface ty pv) (takeP RD n ⟨s, at', i, 0, left, held⟩) F W (.returned (.tuple #[v, .int .i64 (fillA RD n held s i).2.1])) w1) := by
        rw [HTP.out]
        have hM'g : ¬ M' g := fun e => (hm1 g e).elim hMg (fun h => by omega)
        refine ⟨v, fun j => M' j ∨ j = g, rfl, ho1, ⟨.slice none 0 0, M', hi1, hr1, OwnB.nil _ _ _, hM'g, hBg, (fun j hj => by cases hj), fun j => ⟨fun h => h.elim .inl (fun h => .inr (.inl h)), fun h => h.elim .inl (fun h => h.elim .inr (fun h => by cases h))⟩⟩, ?_, ?_, ?_⟩
        · exact (HU1.out.mono (fun j _ e => (HFF.out j).2 (.inr (.inl e)))).then hu1 (fun j _ e => (HFF.out j).2 e)
        · rintro j (h | h)
          · exact (hm1 j h).elim (fun h => .inl ((HFF.out j).2 (.inl h))) (fun h => .inr (by omega))
          · exact .inl ((HFF.out j).2 (.inr (.inl h)))
        · intro j hj
          obtain ⟨h1, h2, h3⟩ := hd1 j hj
          exact ⟨fun e => e.elim h1 h2, h3.elim (fun h => .inl ((HFF.out j).2 (.inr (.inr h)))) (fun h => .inr (by omega))⟩
      obtain ⟨a3, c3, rfl, _, _, _⟩ := ho1.sliceN rfl
      clear ho1 hi1 hr1 hu1 hm1 hd1 HFA
      go_wp2_with fail
      go_ret2
      exact HF.out

end Go.Proofs.Ytjcanghffhpncaa
