/- The document's Out: Flush. -/
import Derived.Test.YteindoemdonagaaG25
import Derived.Test.YteindoemdonagaaG21
import Derived.Test.YteindoemdonagaaG19
import Derived.Test.YteindoemdonagaaG24
namespace Go.Proofs.Yteindoemdonagaa
open Go.RowKit

def rcellN (W : World) (g k : Nat) : Nat := match W.cell? ⟨g, k, none⟩ with
  | some (.int _ x) => x.toNat
  | _ => 0
def routM (W : World) (g : Nat) : Nat := if cellI W g 3 = 0 then 17 * slenW W g 1 + (16 - rcellN W g 4) + 1 else 0
end Go.Proofs.Yteindoemdonagaa

namespace Go.Proofs.Yteindoemdonagaa
open Go.RowKit

/-- What is known of a filling. -/
structure FillOk {σ : Type} (cnt m vol : σ → Nat) (n : Nat) (b : List Int) (s : σ) (i : Nat) (q : List Int × Int × σ × Nat) : Prop where
  full : q.2.1 = 0 → q.1.length = n ∧ q.2.2.2 < 16
  none : q.2.1 ≠ 0 → q.1 = []
  b8 : B8 b → B8 q.1
  pot : cnt q.2.2.1 + 17 * m q.2.2.1 + (16 - q.2.2.2) ≤ cnt s + 17 * m s + (16 - i) + 17
  vol : q.1.length + vol q.2.2.1 ≤ b.length + vol s
  i16 : q.2.2.2 ≤ 16

theorem b8_nil : B8 [] := by intro x hx; cases hx
theorem B8.app {a b : List Int} (ha : B8 a) (hb : B8 b) : B8 (a ++ b) := by
  intro x hx
  rcases List.mem_append.1 hx with h | h
  · exact ha x h
  · exact hb x h
theorem fill_ok {σ : Type} {RD : Nat → σ → Int × Int × List Int × σ} {cnt m vol : σ → Nat} (n : Nat) (H : ∀ k s i, 1 ≤ k → k ≤ 4096 → AskOk cnt m vol k s i (ask1 RD k s i)) : ∀ (fu : Nat) (b : List Int) (s : σ) (i : Nat), i < 16 → b.length ≤ n → 17 * (n - b.length) + (16 - i) ≤ fu → FillOk cnt m vol n b s i (fillF RD n fu b s i)
  | 0, b, s, i, hi, hb, hf => absurd hf (by omega)
  | fu + 1, b, s, i, hi, hb, hf => by
    by_cases hn : n ≤ b.length
    · rw [fillF, if_pos hn]
      exact ⟨fun _ => ⟨by simp only; omega, hi⟩, fun h => absurd rfl h, fun h => h, by simp only; omega, Nat.le_refl _, by simp only; omega⟩
    · have hA := H (min (n - b.length) 4096) s i (by omega) (by omega)
      rw [fill_step _ rfl (Nat.succ_pos _) hn]
      generalize ask1 RD (min (n - b.length) 4096) s i = q at *
      obtain ⟨bt, er, s', i'⟩ := q
      have h1 := hA.len
      have h2 := hA.cnt1
      have h3 := hA.vol
      have h4 := hA.mle
      have h5 := hA.i16 hi
      simp only at h1 h2 h3 h4 h5 ⊢
      by_cases hx : n ≤ b.length + bt.length
      · rw [if_pos hx]
        have hne : bt ≠ [] := fun e => by rw [e] at hx; simp at hx; omega
        have h6 := hA.i0 hne
        simp only at h6
        exact ⟨fun _ => ⟨by simp only [List.length_append]; omega, by simp only; omega⟩, fun h => absurd rfl h, fun h => h.app hA.b8, by simp only; omega, by simp only [List.length_append]; omega, by simp only; omega⟩
      · rw [if_neg hx]
        by_cases e31 : er = 31
        · rw [if_pos e31]
          exact ⟨fun h => absurd h (by simp), fun _ => rfl, fun _ => b8_nil, by simp only; omega, by simp only [List.length_nil]; omega, by simp only; omega⟩
        · rw [if_neg e31]
          by_cases e0 : er = 0
          · rw [if_neg (by simp [e0])]
            have g1 := hA.ok e0 hi
            have g2 := hA.pot e0 hi
            have g3 := hA.pot1 e0
            simp only at g1 g2 g3
            have hstep : (bt.length = 0 ∧ i' = i + 1) ∨ (0 < bt.length ∧ i' = 0 ∧ m s' + 1 ≤ m s) := by
              by_cases hb0 : bt = []
              · exact .inl ⟨by rw [hb0]; rfl, g2 hb0⟩
              · exact .inr ⟨List.length_pos_iff.2 hb0, (g3 hb0).2, (g3 hb0).1⟩
            have hF := fill_ok n H fu (b ++ bt) s' i' g1 (by rw [List.length_append]; omega) (by rw [List.length_append]; omega)
            have q1 := hF.pot
            have q2 := hF.vol
            rw [List.length_append] at q2
            show FillOk cnt m vol n b s i (fillF RD n fu (b ++ bt) s' i')
            exact ⟨hF.full, hF.none, fun h => hF.b8 (h.app hA.b8), by omega, by omega, hF.i16⟩
          · rw [if_pos e0]
            exact ⟨fun h => absurd h e0, fun _ => rfl, fun _ => b8_nil, by simp only; omega, by simp only [List.length_nil]; omega, by simp only; omega⟩

/-- Readers for whatever number of bytes, behind one interface. -/
structure RFam {σ : Type} (RD : Nat → σ → Int × Int × List Int × σ) (cnt m vol : σ → Nat) (f : FuncId) (recv : Value) (B : Nat) (Rd : World → σ → (Nat → Prop) → Prop) : Prop where
  R : ∀ k, 1 ≤ k → k ≤ 4096 → Reader k (RD k) cnt m f recv B Rd
  vol : ∀ k s, 1 ≤ k → k ≤ 4096 → (RD k s).2.2.1.length + vol (RD k s).2.2.2 ≤ vol s

theorem RFam.fill {σ : Type} {RD : Nat → σ → Int × Int × List Int × σ} {cnt m vol : σ → Nat} {f : FuncId} {recv : Value} {B : Nat} {Rd : World → σ → (Nat → Prop) → Prop} (X : RFam RD cnt m vol f recv B Rd) (n : Nat) (b : List Int) (s : σ) (i : Nat) (hi : i < 16) (hb : b.length ≤ n) : FillOk cnt m vol n b s i (fillA RD n b s i) :=
  fill_ok n (fun k s i h1 h2 => ask_ok (X.R k h1 h2) (fun s => X.vol k s h1 h2) s i) _ b s i hi hb (Nat.le_refl _)

/-- An In's state: its reader's, where it stands, how many calls running gave nothing, its error, what is left of the bound, what it holds. -/
structure InS (σ : Type) where
  s : σ
  at' : Nat
  i : Nat
  err : Int
  left : Nat
  held : List Int

/-- What is known of an In between two calls: C bounds the calls to come, L the bound. -/
structure InOk {σ : Type} (cnt m vol : σ → Nat) (C L : Nat) (x : InS σ) : Prop where
  held1 : x.held.length ≤ 1
  b8 : B8 x.held
  i16 : x.err = 0 → x.i < 16
  pot : x.err = 0 → cnt x.s + 17 * m x.s + (16 - x.i) ≤ C
  lim : x.err = 0 → x.at' + x.left = L
  vo : x.err = 0 → min x.left (x.held.length + vol x.s) ≤ 140737488355328
  atl : x.at' ≤ L

/-- take: the bytes, the error, the state. -/
def takeP {σ : Type} (RD : Nat → σ → Int × Int × List Int × σ) (n : Nat) (x : InS σ) : List Int × Int × InS σ :=
  if x.left < n then ([], 42, x) else if n = 0 then ([], 0, x) else
  ((fillA RD n x.held x.s x.i).1, (fillA RD n x.held x.s x.i).2.1, ⟨(fillA RD n x.held x.s x.i).2.2.1, x.at', (fillA RD n x.held x.s x.i).2.2.2, x.err, x.left - n, []⟩)

def IsIn {σ : Type} (Rd : World → σ → (Nat → Prop) → Prop) (B g : Nat) (r : Value) (W : World) (x : InS σ) (F : Nat → Prop) : Prop :=
  ∃ hv M, InC W g x.at' x.i x.err r x.left hv ∧ Rd W x.s M ∧ OwnB W B 5 hv x.held ∧ ¬ M g ∧ B ≤ g ∧ (∀ j, hv.ownBlock = some j → ¬ M j ∧ j ≠ g) ∧ ∀ j, F j ↔ (M j ∨ j = g ∨ hv.ownBlock = some j)

def TakePost {σ : Type} (Rd : World → σ → (Nat → Prop) → Prop) (B g : Nat) (r : Value) (q : List Int × Int × InS σ) (F : Nat → Prop) (W : World) (e : Ending) (W' : World) : Prop :=
  ∃ v F', e = .returned (.tuple #[v, .int .i64 q.2.1]) ∧ OwnB W' B 5 v q.1 ∧ IsIn Rd B g r W' q.2.2 F' ∧ Upd F W W' ∧ (∀ j, F' j → F j ∨ W.heap.size ≤ j) ∧ ∀ j, v.ownBlock = some j → ¬ F' j ∧ (F j ∨ W.heap.size ≤ j)

theorem own_nil_held {W : World} {B : Nat} {v : Value} (h : OwnB W B 5 v []) : v = .slice none 0 0 ∨ ∃ g cap, v = .slice (some ⟨g, 0, none⟩) 0 cap := by
  rcases h with ⟨h, _⟩ | ⟨g, cap, cur, h, _⟩
  · exact .inl h
  · exact .inr ⟨g, cap, h⟩

set_option maxRecDepth 100000 in
set_option maxHeartbeats 1600000 in
theorem take_any {σ : Type} {RD : Nat → σ → Int × Int × List Int × σ} {cnt m vol : σ → Nat} {f : FuncId} {recv : Value} {B : Nat} {Rd : World → σ → (Nat → Prop) → Prop} {ty : TypeId} {pv : Value} (L : Leads "Read" ty pv f recv) (X : RFam RD cnt m vol f recv B Rd)
    (W : World) (g : Nat) (x : InS σ) (F : Nat → Prop) (C l : Nat) (n : Nat) (hn : n ≤ 9223372036854775807) (hI : IsIn Rd B g (.iface ty pv) W x F) (hok : InOk cnt m vol C l x) (he : x.err = 0) (hC : C ≤ 4611686018427387000) (hl : l ≤ 9223372036854775807) (hB : B ≤ W.heap.size) :
    Calls Try.prog 23 #[.pointer (some ⟨g, 0, none⟩), .int .i64 (n : Int)] W fun e W' => TakePost Rd B g (.iface ty pv) (takeP RD n x) F W e W' := by
  obtain ⟨s, at', i, err, left, held⟩ := x
  simp only at he
  subst he
  obtain ⟨hv, M, hi, hr, ho, hMg, hBg, hd, hF⟩ := hI
  simp only at hi hr ho
  have c4 := (InC.c hi).2.2.2.2.1
  have c5 := (InC.c hi).2.2.2.2.2.1
  have f4 := (InC.c hi).2.2.2.2.2.2 4
  have f5 := (InC.c hi).2.2.2.2.2.2 5
  have hlim := hok.lim rfl
  simp only at hlim
  have HI := hide hi
  have HSAME : Hid (∀ ee, takeP RD n ⟨s, at', i, 0, left, held⟩ = ([], ee, ⟨s, at', i, 0, left, held⟩) → TakePost Rd B g (.iface ty pv) (takeP RD n ⟨s, at', i, 0, left, held⟩) F W (.returned (.tuple #[.slice none 0 0, .int .i64 ee])) W) := hide fun ee h => by
    rw [h]
    exact ⟨.slice none 0 0, F, rfl, OwnB.nil _ _ _, ⟨hv, M, hi, hr, ho, hMg, hBg, hd, hF⟩, Upd.refl _ _, fun _ h => .inl h, fun j hj => by cases hj⟩
  by_cases hlt : left < n
  · have HF := hide (HSAME.out 42 (by simp [takeP, hlt]))
    have hlti : (left : Int) < (n : Int) := by omega
    clear HSAME hi hr ho hd hF hok
    go_enter Try.func23, Try.ntmps23
    go_wp2_with fail
    go_ret2
    exact HF.out
  · have hlti : ¬ (left : Int) < (n : Int) := by omega
    by_cases hn0 : n = 0
    · subst hn0
      have HF := hide (HSAME.out 0 (by simp [takeP]))
      clear HSAME hi hr ho hd hF hok hlt
      go_enter Try.func23, Try.ntmps23
      go_wp2_with fail
      go_ret2
      exact HF.out
    · have hn0i : ¬ (n : Int) = 0 := by omega
      have hsub : ((left - n : Nat) : Int) = (left : Int) - (n : Int) := by omega
      have hi1 : InC ((W.setCell ⟨g, 5, none⟩ (.slice none 0 0)).setCell ⟨g, 4, none⟩ (.int .i64 ((left : Int) - (n : Int)))) g at' i 0 (.iface ty pv) (left - n) (.slice none 0 0) := by
        unfold InC
        rw [hsub]
        exact block_setCell (block_setCell hi 5 _) 4 _
      have hu1 : Upd (fun j => j = g) W ((W.setCell ⟨g, 5, none⟩ (.slice none 0 0)).setCell ⟨g, 4, none⟩ (.int .i64 ((left : Int) - (n : Int)))) := ((Upd.refl _ _).set1 5 _).trans ((Upd.refl _ _).set1 4 _)
      have hvo := hok.vo rfl
      have hh1 := hok.held1
      simp only at hvo hh1
      have HFA := hide (fill_any L X.R X.vol ((W.setCell ⟨g, 5, none⟩ (.slice none 0 0)).setCell ⟨g, 4, none⟩ (.int .i64 ((left : Int) - (n : Int)))) g s M at' i 0 (left - n) (.slice none 0 0) hv held n hn (by omega) (Nat.le_trans hB hu1.size) hi1 ((X.R 1 (by omega) (by omega)).upd hr hu1 (fun j e => by subst e; exact ⟨hBg, hMg⟩)) hMg hBg (hok.i16 rfl) (ho.upd hu1 (fun j hj e => (hd j hj).2 e)) hd (by have := hok.pot rfl; simp only at this; omega) (by omega))
      have HTP : Hid (takeP RD n ⟨s, at', i, 0, left, held⟩ = ((fillA RD n held s i).1, (fillA RD n held s i).2.1, ⟨(fillA RD n held s i).2.2.1, at', (fillA RD n held s i).2.2.2, 0, left - n, []⟩)) := hide (by simp [takeP, hlt, hn0])
      have hgl : g < W.heap.size := lt_of_block hi
      have hol := hide (ho.owns.lt)
      obtain ⟨ah, ch, rfl, _, _, _⟩ := ho.sliceN rfl
      have HU1 := hide hu1
      have HD := hide hd
      have HFF := hide hF
      clear HSAME hi hr ho hd hF hok hi1 hu1 hsub
      go_enter Try.func23, Try.ntmps23
      go_wp2_with fail
      refine HFA.out.mono ?_
      rintro e w1 ⟨v, M', rfl, ho1, hi1, hr1, hu1, hm1, hd1⟩
      have hz1 := HU1.out.size
      have HF : Hid (TakePost Rd B g (.iface ty pv) (takeP RD n ⟨s, at', i, 0, left, held⟩) F W (.returned (.tuple #[v, .int .i64 (fillA RD n held s i).2.1])) w1) := by
        rw [HTP.out]
        have hM'g : ¬ M' g := fun e => (hm1 g e).elim hMg (fun h => by omega)
        refine ⟨v, fun j => M' j ∨ j = g, rfl, ho1, ⟨.slice none 0 0, M', hi1, hr1, OwnB.nil _ _ _, hM'g, hBg, (fun j hj => by cases hj), fun j => ⟨fun h => h.elim .inl (fun h => .inr (.inl h)), fun h => h.elim .inl (fun h => h.elim .inr (fun h => by cases h))⟩⟩, ?_, ?_, ?_⟩
        · exact (HU1.out.mono (fun j _ e => (HFF.out j).2 (.inr (.inl e)))).then hu1 (fun j _ e => (HFF.out j).2 e)
        · rintro j (h | h)
          · exact (hm1 j h).elim (fun h => .inl ((HFF.out j).2 (.inl h))) (fun h => .inr (by omega))
          · exact .inl ((HFF.out j).2 (.inr (.inl h)))
        · intro j hj
          obtain ⟨h1, h2, h3⟩ := hd1 j hj
          exact ⟨fun e => e.elim h1 h2, h3.elim (fun h => .inl ((HFF.out j).2 (.inr (.inr h)))) (fun h => .inr (by omega))⟩
      obtain ⟨a3, c3, rfl, _, _, _⟩ := ho1.sliceN rfl
      clear ho1 hi1 hr1 hu1 hm1 hd1 HFA
      go_wp2_with fail
      go_ret2
      exact HF.out

end Go.Proofs.Yteindoemdonagaa

namespace Go.Proofs.Yteindoemdonagaa
open Go.RowKit

def InS.ends {σ : Type} (x : InS σ) (e : Int) : InS σ := ⟨x.s, x.at', x.i, e, x.left, x.held⟩
def InS.goes {σ : Type} (x : InS σ) (n : Nat) : InS σ := ⟨x.s, x.at' + n, x.i, x.err, x.left, x.held⟩
def byteP {σ : Type} (RD : Nat → σ → Int × Int × List Int × σ) (x : InS σ) : Int × Int × InS σ :=
  if x.err ≠ 0 then (0, x.err, x) else
  if (takeP RD 1 x).2.1 ≠ 0 then (0, (takeP RD 1 x).2.1, (takeP RD 1 x).2.2.ends (takeP RD 1 x).2.1) else ((takeP RD 1 x).1.getD 0 0, 0, (takeP RD 1 x).2.2.goes 1)
def bytesP {σ : Type} (RD : Nat → σ → Int × Int × List Int × σ) (n : Int) (x : InS σ) : List Int × Int × InS σ :=
  if x.err ≠ 0 then ([], x.err, x) else if n < 0 then ([], 1, x) else
  if (takeP RD n.toNat x).2.1 ≠ 0 then ([], (takeP RD n.toNat x).2.1, (takeP RD n.toNat x).2.2.ends (takeP RD n.toNat x).2.1) else ((takeP RD n.toNat x).1, 0, (takeP RD n.toNat x).2.2.goes n.toNat)
def endP {σ : Type} (RD : Nat → σ → Int × Int × List Int × σ) (x : InS σ) : Bool × Int × InS σ :=
  if x.err ≠ 0 then (false, x.err, x) else if x.held ≠ [] then (false, 0, x) else
  if (fillA RD 1 [] x.s x.i).2.1 = 41 then (true, 0, ⟨(fillA RD 1 [] x.s x.i).2.2.1, x.at', (fillA RD 1 [] x.s x.i).2.2.2, x.err, x.left, x.held⟩) else
  if (fillA RD 1 [] x.s x.i).2.1 ≠ 0 then (false, (fillA RD 1 [] x.s x.i).2.1, ⟨(fillA RD 1 [] x.s x.i).2.2.1, x.at', (fillA RD 1 [] x.s x.i).2.2.2, (fillA RD 1 [] x.s x.i).2.1, x.left, x.held⟩) else
  (false, 0, ⟨(fillA RD 1 [] x.s x.i).2.2.1, x.at', (fillA RD 1 [] x.s x.i).2.2.2, x.err, x.left, (fillA RD 1 [] x.s x.i).1⟩)

/-- What is known behind take. -/
structure TakeOk {σ : Type} (cnt m vol : σ → Nat) (C l n : Nat) (x : InS σ) (q : List Int × Int × InS σ) : Prop where
  ok : q.2.1 = 0 → q.1.length = n ∧ B8 q.1 ∧ q.2.2.i < 16 ∧ n ≤ x.left ∧ q.2.2.left = x.left - n
  none : q.2.1 ≠ 0 → q.1 = []
  at1 : q.2.2.at' = x.at'
  err1 : q.2.2.err = x.err
  held1 : q.2.2.held.length ≤ 1
  b8 : B8 q.2.2.held
  pot : cnt q.2.2.s + 17 * m q.2.2.s + (16 - q.2.2.i) ≤ C + 17
  vo : min q.2.2.left (q.2.2.held.length + vol q.2.2.s) ≤ 140737488355328

theorem take_ok {σ : Type} {RD : Nat → σ → Int × Int × List Int × σ} {cnt m vol : σ → Nat} {f : FuncId} {recv : Value} {B : Nat} {Rd : World → σ → (Nat → Prop) → Prop} (X : RFam RD cnt m vol f recv B Rd) (n : Nat) (x : InS σ) (C l : Nat) (hok : InOk cnt m vol C l x) (he : x.err = 0) : TakeOk cnt m vol C l n x (takeP RD n x) := by
  obtain ⟨s, at', i, err, left, held⟩ := x
  simp only at he
  subst he
  have h1 := hok.held1
  have h2 := hok.b8
  have h3 := hok.i16 rfl
  have h4 := hok.pot rfl
  have h5 := hok.vo rfl
  simp only at h1 h2 h3 h4 h5
  unfold takeP
  simp only
  by_cases hlt : left < n
  · rw [if_pos hlt]
    exact ⟨fun h => absurd h (by simp), fun _ => rfl, rfl, rfl, h1, h2, by simp only; omega, h5⟩
  · rw [if_neg hlt]
    by_cases hn0 : n = 0
    · rw [if_pos hn0]
      exact ⟨fun _ => ⟨hn0.symm, b8_nil, h3, by simp only; omega, by simp only; omega⟩, fun h => absurd rfl h, rfl, rfl, h1, h2, by simp only; omega, h5⟩
    · rw [if_neg hn0]
      have hF := X.fill n held s i h3 (by omega)
      have k1 := hF.pot
      have k2 := hF.vol
      exact ⟨fun h => ⟨(hF.full h).1, hF.b8 h2, (hF.full h).2, by simp only; omega, rfl⟩, hF.none, rfl, rfl, by simp, b8_nil, by simp only; omega, by simp only [List.length_nil]; omega⟩

def BytePost {σ : Type} (Rd : World → σ → (Nat → Prop) → Prop) (B g : Nat) (r v : Value) (ee : Int) (x : InS σ) (F : Nat → Prop) (W : World) (e : Ending) (W' : World) : Prop :=
  ∃ F', e = .returned (.tuple #[v, .int .i64 ee]) ∧ IsIn Rd B g r W' x F' ∧ Upd F W W' ∧ (∀ j, F' j → F j ∨ W.heap.size ≤ j)

theorem IsIn.g {σ : Type} {Rd : World → σ → (Nat → Prop) → Prop} {B g : Nat} {r : Value} {W : World} {x : InS σ} {F : Nat → Prop} (h : IsIn Rd B g r W x F) : F g ∧ g < W.heap.size ∧ W.cell? ⟨g, 0, none⟩ = some (.int .i64 (x.at' : Int)) ∧ W.cell? ⟨g, 2, none⟩ = some (.int .i64 x.err) ∧ W.frozen? ⟨g, 2, none⟩ = false ∧ W.frozen? ⟨g, 0, none⟩ = false := by
  obtain ⟨hv, M, hi, hr, ho, hMg, hBg, hd, hF⟩ := h
  exact ⟨(hF g).2 (.inr (.inl rfl)), lt_of_block hi, (InC.c hi).1, (InC.c hi).2.2.1, (InC.c hi).2.2.2.2.2.2 2, (InC.c hi).2.2.2.2.2.2 0⟩
/-- A cell of its own is set: its error, or where it stands. -/
theorem IsIn.setErr {σ : Type} {Rd : World → σ → (Nat → Prop) → Prop} {B g : Nat} {r : Value} {W : World} {x : InS σ} {F : Nat → Prop} (hup : ∀ {W W' : World} {s : σ} {M S : Nat → Prop}, Rd W s M → Upd S W W' → (∀ i, S i → B ≤ i ∧ ¬ M i) → Rd W' s M) (h : IsIn Rd B g r W x F) (e : Int) : IsIn Rd B g r (W.setCell ⟨g, 2, none⟩ (.int .i64 e)) (x.ends e) F ∧ Upd F W (W.setCell ⟨g, 2, none⟩ (.int .i64 e)) := by
  obtain ⟨hv, M, hi, hr, ho, hMg, hBg, hd, hF⟩ := h
  have hu : Upd (fun j => j = g) W (W.setCell ⟨g, 2, none⟩ (.int .i64 e)) := (Upd.refl _ _).set1 2 _
  exact ⟨⟨hv, M, block_setCell hi 2 _, hup hr hu (fun j e => by subst e; exact ⟨hBg, hMg⟩), ho.upd hu (fun j hj e => (hd j hj).2 e), hMg, hBg, hd, hF⟩, hu.mono (fun j _ e => (hF j).2 (.inr (.inl e)))⟩
theorem IsIn.setAt {σ : Type} {Rd : World → σ → (Nat → Prop) → Prop} {B g : Nat} {r : Value} {W : World} {x : InS σ} {F : Nat → Prop} (hup : ∀ {W W' : World} {s : σ} {M S : Nat → Prop}, Rd W s M → Upd S W W' → (∀ i, S i → B ≤ i ∧ ¬ M i) → Rd W' s M) (h : IsIn Rd B g r W x F) (n : Nat) (z : Int) (hz : z = (x.at' : Int) + (n : Int)) : IsIn Rd B g r (W.setCell ⟨g, 0, none⟩ (.int .i64 z)) (x.goes n) F ∧ Upd F W (W.setCell ⟨g, 0, none⟩ (.int .i64 z)) := by
  obtain ⟨hv, M, hi, hr, ho, hMg, hBg, hd, hF⟩ := h
  have hu : Upd (fun j => j = g) W (W.setCell ⟨g, 0, none⟩ (.int .i64 z)) := (Upd.refl _ _).set1 0 _
  refine ⟨⟨hv, M, ?_, hup hr hu (fun j e => by subst e; exact ⟨hBg, hMg⟩), ho.upd hu (fun j hj e => (hd j hj).2 e), hMg, hBg, hd, hF⟩, hu.mono (fun j _ e => (hF j).2 (.inr (.inl e)))⟩
  subst hz
  have e1 : ((x.at' + n : Nat) : Int) = (x.at' : Int) + (n : Int) := by omega
  unfold InC InS.goes
  rw [e1]
  exact block_setCell hi 0 _

end Go.Proofs.Yteindoemdonagaa

namespace Go.Proofs.Yteindoemdonagaa
open Go.RowKit

/-- A call that does nothing, drawing aside. -/
theorem IsIn.still {σ : Type} {RD : Nat → σ → Int × Int × List Int × σ} {cnt m vol : σ → Nat} {f : FuncId} {recv : Value} {B : Nat} {Rd : World → σ → (Nat → Prop) → Prop} (X : RFam RD cnt m vol f recv B Rd) {g : Nat} {r : Value} {W : World} {x : InS σ} {F : Nat → Prop} (h : IsIn Rd B g r W x F) (n : Nat) : IsIn Rd B g r (W.drewN n) x F := by
  obtain ⟨hv, M, hi, hr, ho, hMg, hBg, hd, hF⟩ := h
  have hu : Upd Noth W (W.drewN n) := ((Still.refl W).drewN n).upd Noth
  exact ⟨hv, M, hi, (X.R 1 (by omega) (by omega)).upd hr hu (fun _ e => e.elim), ho.upd hu (fun _ _ e => e), hMg, hBg, hd, hF⟩
theorem IsIn.upd {σ : Type} {RD : Nat → σ → Int × Int × List Int × σ} {cnt m vol : σ → Nat} {f : FuncId} {recv : Value} {B : Nat} {Rd : World → σ → (Nat → Prop) → Prop} (X : RFam RD cnt m vol f recv B Rd) {g : Nat} {r : Value} {W W' : World} {x : InS σ} {F S : Nat → Prop} (h : IsIn Rd B g r W x F) (hu : Upd S W W') (hs : ∀ j, S j → B ≤ j ∧ ¬ F j) : IsIn Rd B g r W' x F := by
  obtain ⟨hv, M, hi, hr, ho, hMg, hBg, hd, hF⟩ := h
  exact ⟨hv, M, hi.upd hu (fun e => (hs g e).2 ((hF g).2 (.inr (.inl rfl)))), (X.R 1 (by omega) (by omega)).upd hr hu (fun j e => ⟨(hs j e).1, fun h => (hs j e).2 ((hF j).2 (.inl h))⟩), ho.upd hu (fun j hj e => (hs j e).2 ((hF j).2 (.inr (.inr hj)))), hMg, hBg, hd, hF⟩

set_option maxRecDepth 100000 in
set_option maxHeartbeats 1600000 in
theorem bytes_any {σ : Type} {RD : Nat → σ → Int × Int × List Int × σ} {cnt m vol : σ → Nat} {f : FuncId} {recv : Value} {B : Nat} {Rd : World → σ → (Nat → Prop) → Prop} {ty : TypeId} {pv : Value} (L : Leads "Read" ty pv f recv) (X : RFam RD cnt m vol f recv B Rd)
    (W : World) (g : Nat) (x : InS σ) (F : Nat → Prop) (C l : Nat) (n : Int) (hn : n ≤ 9223372036854775807) (hI : IsIn Rd B g (.iface ty pv) W x F) (hok : InOk cnt m vol C l x) (hC : C ≤ 4611686018427387000) (hl : l ≤ 9223372036854775807) (hB : B ≤ W.heap.size) :
    Calls Try.prog 15 #[.pointer (some ⟨g, 0, none⟩), .int .i64 n] W fun e W' => TakePost Rd B g (.iface ty pv) (bytesP RD n x) F W e W' := by
  have hg := hI.g
  have c2 := hg.2.2.2.1
  by_cases he : x.err = 0
  · by_cases hneg : n < 0
    · have HF : Hid (TakePost Rd B g (.iface ty pv) (bytesP RD n x) F W (.returned (.tuple #[.slice none 0 0, .int .i64 1])) W) := by
        have hb : bytesP RD n x = ([], 1, x) := by unfold bytesP; rw [if_neg (by simp [he]), if_pos hneg]
        rw [hb]
        exact ⟨_, F, rfl, OwnB.nil _ _ _, hI, Upd.refl _ _, fun _ h => .inl h, fun j hj => by cases hj⟩
      rw [he] at c2
      clear hg hI hok L X he
      go_enter Try.func15, Try.ntmps15
      go_wp2_with fail
      go_ret2
      exact HF.out
    · obtain ⟨k, rfl⟩ : ∃ k : Nat, n = k := ⟨n.toNat, by omega⟩
      have HT := hide (take_any L X W g x F C l k (by omega) hI hok he hC hl hB)
      have HOK := hide (take_ok X k x C l hok he)
      have hlim := hok.lim he
      have HBP : Hid (bytesP RD k x = if (takeP RD k x).2.1 ≠ 0 then ([], (takeP RD k x).2.1, (takeP RD k x).2.2.ends (takeP RD k x).2.1) else ((takeP RD k x).1, 0, (takeP RD k x).2.2.goes k)) := hide (by unfold bytesP; rw [if_neg (by simp [he]), if_neg hneg, Int.toNat_natCast])
      have HX := hide X
      rw [he] at c2
      clear hg hI hok L X he
      generalize takeP RD k x = q at *
      obtain ⟨bs, er, x'⟩ := q
      simp only at HBP
      go_enter Try.func15, Try.ntmps15
      go_wp2_with fail
      refine HT.out.mono ?_
      rintro e w1 ⟨v, F', rfl, ho1, hi1, hu1, hf1, hd1⟩
      simp only at ho1 hi1
      have hr1 := ho1.slice
      have HO1 := hide ho1
      have HD1 := hide hd1
      obtain ⟨a1, c1, rfl, hn1, hc1, _⟩ := ho1.sliceN rfl
      have hg1 := hi1.g
      have d0 := hg1.2.2.1
      have d2 := hg1.2.2.2.1
      have f2 := hg1.2.2.2.2.1
      have f0 := hg1.2.2.2.2.2
      by_cases e0 : er = 0
      · subst e0
        rw [if_neg (by simp)] at HBP
        have hok1 := HOK.out.ok rfl
        have hat : x'.at' + k ≤ 9223372036854775807 := by have h1 := HOK.out.at1; simp only at h1 hok1; omega
        have HF : Hid (TakePost Rd B g (.iface ty pv) (bytesP RD k x) F W (.returned (.tuple #[.slice a1 bs.length c1, .int .i64 0])) (w1.setCell ⟨g, 0, none⟩ (.int .i64 ((x'.at' : Int) + (k : Int))))) := by
          rw [HBP.out]
          obtain ⟨q1, q2⟩ := hi1.setAt (HX.out.R 1 (by omega) (by omega)).upd k ((x'.at' : Int) + (k : Int)) rfl
          have hu : Upd (fun j => j = g) w1 (w1.setCell ⟨g, 0, none⟩ (.int .i64 ((x'.at' : Int) + (k : Int)))) := (Upd.refl _ _).set1 0 _
          exact ⟨_, F', rfl, ho1.upd hu (fun j hj e => by subst e; exact (hd1 j hj).1 hg1.1), q1, hu1.then q2 (fun j hj e => (hf1 j e).elim id (fun h => by omega)), hf1, hd1⟩
        clear HBP HT hi1 ho1 hu1 hf1 hd1 hr1 hok1 hg1 hn1
        go_wp2_with fail
        go_ret2
        exact HF.out
      · rw [if_pos e0] at HBP
        have e0' : (er != 0) = true := by simp [e0]
        have HE := hide (end_any g er (.int .i64 x'.err) w1 d2 f2)
        have HF : Hid (TakePost Rd B g (.iface ty pv) (bytesP RD k x) F W (.returned (.tuple #[.slice none 0 0, .int .i64 er])) (w1.setCell ⟨g, 2, none⟩ (.int .i64 er))) := by
          rw [HBP.out]
          obtain ⟨q1, q2⟩ := hi1.setErr (HX.out.R 1 (by omega) (by omega)).upd er
          exact ⟨_, F', rfl, OwnB.nil _ _ _, q1, hu1.then q2 (fun j hj e => (hf1 j e).elim id (fun h => by omega)), hf1, fun j hj => by cases hj⟩
        clear HBP HT hi1 ho1 hu1 hf1 hd1 hr1 hg1 hn1
        go_wp2_with (first
          | (go_at_call 24; refine HE.out.mono ?_; rintro e w2 ⟨rfl, rfl⟩)
          | fail)
        go_ret2
        exact HF.out
  · have he' : (x.err != 0) = true := by simp [he]
    have HF : Hid (∀ k, TakePost Rd B g (.iface ty pv) (bytesP RD n x) F W (.returned (.tuple #[.slice none 0 0, .int .i64 x.err])) (W.drewN k)) := hide fun k => by
      have hb : bytesP RD n x = ([], x.err, x) := by unfold bytesP; rw [if_pos he]
      rw [hb]
      exact ⟨_, F, rfl, OwnB.nil _ _ _, hI.still X k, (((Still.refl W).drewN k).upd Noth).noth, fun _ h => .inl h, fun j hj => by cases hj⟩
    clear hg hI hok L X
    go_enter Try.func15, Try.ntmps15
    go_wp2_with fail
    go_quiet (fail)
    go_wp2_with fail
    go_ret2
    exact HF.out _

set_option maxRecDepth 100000 in
set_option maxHeartbeats 1600000 in
theorem inend_any {σ : Type} {RD : Nat → σ → Int × Int × List Int × σ} {cnt m vol : σ → Nat} {f : FuncId} {recv : Value} {B : Nat} {Rd : World → σ → (Nat → Prop) → Prop} {ty : TypeId} {pv : Value} (L : Leads "Read" ty pv f recv) (X : RFam RD cnt m vol f recv B Rd)
    (W : World) (g : Nat) (x : InS σ) (F : Nat → Prop) (C l : Nat) (hI : IsIn Rd B g (.iface ty pv) W x F) (hok : InOk cnt m vol C l x) (hC : C ≤ 4611686018427387000) (hB : B ≤ W.heap.size) :
    Calls Try.prog 18 #[.pointer (some ⟨g, 0, none⟩)] W fun e W' => BytePost Rd B g (.iface ty pv) (.bool (endP RD x).1) (endP RD x).2.1 (endP RD x).2.2 F W e W' := by
  have hg := hI.g
  have c2 := hg.2.2.2.1
  by_cases he : x.err = 0
  · have HSAME : Hid (endP RD x = (false, 0, x) → BytePost Rd B g (.iface ty pv) (.bool (endP RD x).1) (endP RD x).2.1 (endP RD x).2.2 F W (.returned (.tuple #[.bool false, .int .i64 0])) W) := hide fun h => by
      rw [h]
      exact ⟨F, rfl, hI, Upd.refl _ _, fun _ h => .inl h⟩
    obtain ⟨hv, M, hi, hr, ho, hMg, hBg, hd, hF⟩ := hI
    have c5 := (InC.c hi).2.2.2.2.2.1
    have f5 := (InC.c hi).2.2.2.2.2.2 5
    obtain ⟨lh, hlh⟩ : ∃ lh, x.held.length = lh := ⟨_, rfl⟩
    have ho' := ho
    obtain ⟨ah, ch, rfl, _, _, _⟩ := ho'.sliceN hlh
    rw [he] at c2
    by_cases hh : x.held = []
    · have hlh0 : lh = 0 := by rw [← hlh, hh]; rfl
      subst hlh0
      have HFA := hide (fill_any L X.R X.vol W g x.s M x.at' x.i x.err x.left (.slice ah 0 ch) (.slice none 0 0) [] 1 (by omega) (by simp) hB hi hr hMg hBg (hok.i16 he) (OwnB.nil _ _ _) (fun j hj => by cases hj) (by have := hok.pot he; omega) (by omega))
      have HE : Hid (endP RD x = if (fillA RD 1 [] x.s x.i).2.1 = 41 then (true, 0, ⟨(fillA RD 1 [] x.s x.i).2.2.1, x.at', (fillA RD 1 [] x.s x.i).2.2.2, x.err, x.left, x.held⟩) else
  if (fillA RD 1 [] x.s x.i).2.1 ≠ 0 then (false, (fillA RD 1 [] x.s x.i).2.1, ⟨(fillA RD 1 [] x.s x.i).2.2.1, x.at', (fillA RD 1 [] x.s x.i).2.2.2, (fillA RD 1 [] x.s x.i).2.1, x.left, x.held⟩) else
  (false, 0, ⟨(fillA RD 1 [] x.s x.i).2.2.1, x.at', (fillA RD 1 [] x.s x.i).2.2.2, x.err, x.left, (fillA RD 1 [] x.s x.i).1⟩)) := hide (by unfold endP; rw [if_neg (by simp [he]), if_neg (by simp [hh])])
      generalize fillA RD 1 [] x.s x.i = q at *
      obtain ⟨bs, er, s', i'⟩ := q
      simp only at HE
      have HX := hide X
      have HD := hide hd
      have HFF := hide hF
      have HO := hide ho
      have hgl : g < W.heap.size := lt_of_block hi
      have HHE := hide he
      clear HSAME hg hi hr ho ho' hd hF hok L X he hh hlh
      go_enter Try.func18, Try.ntmps18
      go_wp2_with fail
      refine HFA.out.mono ?_
      rintro e w1 ⟨v, M', rfl, ho1, hi1, hr1, hu1, hm1, hd1⟩
      simp only at ho1 hi1 hr1
      have HU1 : Hid (Upd F W w1) := hide (hu1.mono (fun j _ e => e.elim (fun h => (HFF.out j).2 (.inl h)) (fun h => h.elim (fun h => (HFF.out j).2 (.inr (.inl h))) (fun h => by cases h))))
      have hM'g : ¬ M' g := fun e => (hm1 g e).elim hMg (fun h => by omega)
      have hd2 : Hid (∀ j, (Value.slice ah 0 ch).ownBlock = some j → ¬ M' j ∧ j ≠ g) := hide fun j hj => ⟨fun e => (hm1 j e).elim (HD.out j hj).1 (fun h => by have := (HO.out.owns.lt j hj).2; omega), (HD.out j hj).2⟩
      have ho2 : Hid (OwnB w1 B 5 (.slice ah 0 ch) x.held) := hide (HO.out.upd hu1 (fun j hj e => e.elim (HD.out j hj).1 (fun h => h.elim (HD.out j hj).2 (fun h => by cases h))))
      have HM1 := hide hm1
      have HR1 := hide hr1
      have HI1 := hide hi1
      have HIN : Hid (IsIn Rd B g (.iface ty pv) w1 ⟨s', x.at', i', x.err, x.left, x.held⟩ (fun j => M' j ∨ j = g ∨ (Value.slice ah 0 ch).ownBlock = some j)) := hide ⟨_, M', hi1, hr1, ho2.out, hM'g, hBg, hd2.out, fun j => Iff.rfl⟩
      have HSUB : Hid (∀ j, (M' j ∨ j = g ∨ (Value.slice ah 0 ch).ownBlock = some j) → F j ∨ W.heap.size ≤ j) := hide fun j h => h.elim (fun h => (hm1 j h).elim (fun h => .inl ((HFF.out j).2 (.inl h))) .inr) (fun h => .inl ((HFF.out j).2 (.inr h)))
      have HD1 := hide hd1
      have d2 := (InC.c hi1).2.2.1
      have d5 := (InC.c hi1).2.2.2.2.2.1
      have g5 := (InC.c hi1).2.2.2.2.2.2 5
      have g2 := (InC.c hi1).2.2.2.2.2.2 2
      have HO1 := hide ho1
      obtain ⟨a3, c3, rfl, hn3, _, _⟩ := ho1.sliceN rfl
      clear ho1 hi1 hr1 hu1 hm1 hd1 HFA hn3
      by_cases e41 : er = 41
      · subst e41
        rw [if_pos rfl] at HE
        have HF : Hid (BytePost Rd B g (.iface ty pv) (.bool (endP RD x).1) (endP RD x).2.1 (endP RD x).2.2 F W (.returned (.tuple #[.bool true, .int .i64 0])) w1) := by
          rw [HE.out]
          exact ⟨_, rfl, HIN.out, HU1.out, HSUB.out⟩
        go_wp2_with fail
        go_ret2
        exact HF.out
      · rw [if_neg e41] at HE
        by_cases e0 : er = 0
        · subst e0
          rw [if_neg (by simp)] at HE
          have HF : Hid (BytePost Rd B g (.iface ty pv) (.bool (endP RD x).1) (endP RD x).2.1 (endP RD x).2.2 F W (.returned (.tuple #[.bool false, .int .i64 0])) (w1.setCell ⟨g, 5, none⟩ (.slice a3 bs.length c3))) := by
            rw [HE.out]
            have hu : Upd (fun j => j = g) w1 (w1.setCell ⟨g, 5, none⟩ (.slice a3 bs.length c3)) := (Upd.refl _ _).set1 5 _
            refine ⟨fun j => M' j ∨ j = g ∨ (Value.slice a3 bs.length c3).ownBlock = some j, rfl, ⟨_, M', block_setCell HI1.out 5 _, (HX.out.R 1 (by omega) (by omega)).upd HR1.out hu (fun j e => by subst e; exact ⟨hBg, hM'g⟩), HO1.out.upd hu (fun j hj e => (HD1.out j hj).2.1 e), hM'g, hBg, fun j hj => ⟨(HD1.out j hj).1, (HD1.out j hj).2.1⟩, fun j => Iff.rfl⟩, HU1.out.then hu (fun j _ e => (HFF.out j).2 (.inr (.inl e))), ?_⟩
            rintro j (h | h | h)
            · exact HSUB.out j (.inl h)
            · exact HSUB.out j (.inr (.inl h))
            · exact ((HD1.out j h).2.2).elim (fun h => by cases h) .inr
          go_wp2_with fail
          go_ret2
          exact HF.out
        · rw [if_pos e0] at HE
          have e0' : (er != 0) = true := by simp [e0]
          have HEN := hide (end_any g er (.int .i64 x.err) w1 d2 g2)
          have HF : Hid (BytePost Rd B g (.iface ty pv) (.bool (endP RD x).1) (endP RD x).2.1 (endP RD x).2.2 F W (.returned (.tuple #[.bool false, .int .i64 er])) (w1.setCell ⟨g, 2, none⟩ (.int .i64 er))) := by
            rw [HE.out]
            obtain ⟨q1, q2⟩ := HIN.out.setErr (HX.out.R 1 (by omega) (by omega)).upd er
            exact ⟨_, rfl, q1, HU1.out.then q2 (fun j hj e => (HSUB.out j e).elim id (fun h => by omega)), HSUB.out⟩
          go_wp2_with (first
            | (go_at_call 24; refine HEN.out.mono ?_; rintro e w2 ⟨rfl, rfl⟩)
            | fail)
          go_ret2
          exact HF.out
    · have hlp : (0 : Int) < (lh : Int) := by have := List.length_pos_iff.2 hh; omega
      have HF := hide (HSAME.out (by unfold endP; rw [if_neg (by simp [he]), if_pos hh]))
      clear HSAME hg hi hr ho ho' hd hF hok L X he hh hlh
      go_enter Try.func18, Try.ntmps18
      go_wp2_with fail
      go_ret2
      exact HF.out
  · have he' : (x.err != 0) = true := by simp [he]
    have HF : Hid (∀ n, BytePost Rd B g (.iface ty pv) (.bool (endP RD x).1) (endP RD x).2.1 (endP RD x).2.2 F W (.returned (.tuple #[.bool false, .int .i64 x.err])) (W.drewN n)) := hide fun n => by
      have hb : endP RD x = (false, x.err, x) := by unfold endP; rw [if_pos he]
      rw [hb]
      exact ⟨F, rfl, hI.still X n, (((Still.refl W).drewN n).upd Noth).noth, fun _ h => .inl h⟩
    clear hg hI hok L X
    go_enter Try.func18, Try.ntmps18
    go_wp2_with fail
    go_quiet (fail)
    go_wp2_with fail
    go_ret2
    exact HF.out _

end Go.Proofs.Yteindoemdonagaa

namespace Go.Proofs.Yteindoemdonagaa
open Go.RowKit

/-- As ask1, the sixteenth idle call not told. -/
def rask1 {σ : Type} (RD : Nat → σ → Int × Int × List Int × σ) (k : Nat) (s : σ) (i : Nat) : List Int × Int × σ × Nat :=
  if (RD k s).1 < 0 ∨ (k : Int) < (RD k s).1 then ([], 34, (RD k s).2.2.2, i)
  else ((RD k s).2.2.1, (RD k s).2.1, (RD k s).2.2.2, idleOf i (RD k s).1.toNat (RD k s).2.1)
theorem rask_ask {σ : Type} {RD : Nat → σ → Int × Int × List Int × σ} {k : Nat} {s : σ} {i : Nat} (hi : i < 16) : (ask1 RD k s i).1 = (rask1 RD k s i).1 ∧ (ask1 RD k s i).2.2 = (rask1 RD k s i).2.2 ∧ (ask1 RD k s i).2.1 = if (rask1 RD k s i).2.2.2 = 16 then 33 else (rask1 RD k s i).2.1 := by
  unfold ask1 rask1
  by_cases hb : (RD k s).1 < 0 ∨ (k : Int) < (RD k s).1
  · rw [if_pos hb, if_pos hb]
    refine ⟨rfl, rfl, ?_⟩
    simp only
    rw [if_neg (by omega)]
  · rw [if_neg hb, if_neg hb]
    exact ⟨rfl, rfl, rfl⟩
theorem rask_16 {σ : Type} {RD : Nat → σ → Int × Int × List Int × σ} {k : Nat} {s : σ} {i : Nat} (hi : i < 16) (h : (rask1 RD k s i).2.2.2 = 16) : (rask1 RD k s i).2.1 = 0 := by
  unfold rask1 at *
  by_cases hb : (RD k s).1 < 0 ∨ (k : Int) < (RD k s).1
  · rw [if_pos hb] at *
    simp only at h
    omega
  · rw [if_neg hb] at *
    simp only [idleOf] at h ⊢
    split at h
    · omega
    · rename_i hq
      exact Classical.byContradiction fun e => hq (.inr e)

end Go.Proofs.Yteindoemdonagaa

namespace Go.Proofs.Yteindoemdonagaa
open Go.RowKit

end Go.Proofs.Yteindoemdonagaa

namespace Go.Proofs.Yteindoemdonagaa
open Go.RowKit

section
variable {σ : Type} {RD : Nat → σ → Int × Int × List Int × σ} {cnt m vol : σ → Nat} {B g g2 most : Nat} {Rd : World → σ → (Nat → Prop) → Prop} {W W' : World} {x : InS σ} {F S : Nat → Prop}
end

end Go.Proofs.Yteindoemdonagaa

namespace Go.Proofs.Yteindoemdonagaa
open Go.RowKit

theorem byte_bytes {σ : Type} {RD : Nat → σ → Int × Int × List Int × σ} (x : InS σ) : byteP RD x = if (bytesP RD 1 x).2.1 ≠ 0 then (0, (bytesP RD 1 x).2.1, (bytesP RD 1 x).2.2) else ((bytesP RD 1 x).1.getD 0 0, 0, (bytesP RD 1 x).2.2) := by
  unfold byteP bytesP
  by_cases he : x.err ≠ 0
  · rw [if_pos he, if_pos he, if_pos he]
  · rw [if_neg he, if_neg he, if_neg (show ¬ (1 : Int) < 0 by decide), show (1 : Int).toNat = 1 from rfl]
    by_cases h : (takeP RD 1 x).2.1 ≠ 0
    · rw [if_pos h, if_pos h, if_pos h]
    · rw [if_neg h, if_neg h, if_neg (by simp)]
theorem bytes1_len {σ : Type} {RD : Nat → σ → Int × Int × List Int × σ} {cnt m vol : σ → Nat} {f : FuncId} {recv : Value} {B : Nat} {Rd : World → σ → (Nat → Prop) → Prop} (X : RFam RD cnt m vol f recv B Rd) (x : InS σ) (C l : Nat) (hok : InOk cnt m vol C l x) (h : (bytesP RD 1 x).2.1 = 0) : (bytesP RD 1 x).1.length = 1 := by
  unfold bytesP at *
  by_cases he : x.err ≠ 0
  · rw [if_pos he] at h
    exact absurd h he
  · rw [if_neg he, if_neg (show ¬ (1 : Int) < 0 by decide), show (1 : Int).toNat = 1 from rfl] at *
    by_cases h2 : (takeP RD 1 x).2.1 ≠ 0
    · rw [if_pos h2] at h
      exact absurd h h2
    · rw [if_neg h2]
      exact ((take_ok X 1 x C l hok (by simpa using he)).ok (by simpa using h2)).1

end Go.Proofs.Yteindoemdonagaa
