/- An In over a source reads no byte but those that were asked for: as numbers. -/
import Derived.Test.YteindoemdonagaaG29
import Derived.Test.YteindoemdonagaaG28
namespace Go.Proofs.Yteindoemdonagaa
open Go.RowKit

section
variable {zs gs : List Int} {fail : Int} {eager : Bool}
/-- What a source's call tells, for an In. -/
theorem src_ask (k : Nat) (s : Nat × Nat) (i : Nat) : (ask1 (fun k => srcRd zs gs fail eager k) k s i).2.2.1.2 = s.2 + (ask1 (fun k => srcRd zs gs fail eager k) k s i).1.length ∧ (s.2 ≤ zs.length → (ask1 (fun k => srcRd zs gs fail eager k) k s i).2.2.1.2 ≤ zs.length) ∧ ((ask1 (fun k => srcRd zs gs fail eager k) k s i).1 = [] → 1 ≤ k → s.2 ≤ zs.length → (ask1 (fun k => srcRd zs gs fail eager k) k s i).2.1 = 31 → s.2 = zs.length) ∧ (ask1 (fun k => srcRd zs gs fail eager k) k s i).2.1 ≠ 41 := by
  have h1 := srcN_le zs gs fail (s.1 + 1) s.2 k
  have hnb : ¬ ((srcRd zs gs fail eager k s).1 < 0 ∨ (k : Int) < (srcRd zs gs fail eager k s).1) := by simp only [srcRd]; omega
  unfold ask1
  rw [if_neg hnb]
  simp only [srcRd, List.length_take, List.length_drop, Int.toNat_natCast]
  refine ⟨by omega, fun _ => by omega, fun hb hk hs he => ?_, ?_⟩
  · have hn0 : srcN zs gs fail (s.1 + 1) s.2 k = 0 := by
      have := congrArg List.length hb
      simp only [List.length_take, List.length_drop, List.length_nil] at this
      omega
    rw [hn0] at he
    unfold toldOf at he
    split at he
    · omega
    · unfold srcErr at he
      split at he
      · omega
      · split at he
        · assumption
        · split at he
          · omega
          · omega
  · unfold toldOf srcErr
    repeat (first | decide | split)
theorem src_fill (n : Nat) : ∀ (fu : Nat) (b : List Int) (s : Nat × Nat) (i : Nat), s.2 ≤ zs.length → (fillF (fun k => srcRd zs gs fail eager k) n fu b s i).2.2.1.2 ≤ zs.length ∧ ((fillF (fun k => srcRd zs gs fail eager k) n fu b s i).2.1 = 0 → (fillF (fun k => srcRd zs gs fail eager k) n fu b s i).2.2.1.2 + b.length = s.2 + (fillF (fun k => srcRd zs gs fail eager k) n fu b s i).1.length)
  | 0, b, s, i, hs => ⟨hs, fun _ => rfl⟩
  | fu + 1, b, s, i, hs => by
    by_cases hn : n ≤ b.length
    · rw [fillF, if_pos hn]; exact ⟨hs, fun _ => rfl⟩
    · have hA := src_ask (zs := zs) (gs := gs) (fail := fail) (eager := eager) (min (n - b.length) 4096) s i
      rw [fill_step _ rfl (Nat.succ_pos _) hn]
      generalize ask1 (fun k => srcRd zs gs fail eager k) (min (n - b.length) 4096) s i = q at *
      have h2 := hA.2.1 hs
      have h1 := hA.1
      split
      · exact ⟨h2, fun _ => by simp only [List.length_append]; omega⟩
      · split
        · exact ⟨h2, fun h => absurd h (by simp)⟩
        · split
          · rename_i h; exact ⟨h2, fun h' => absurd h' h⟩
          · have ih := src_fill n fu (b ++ q.1) q.2.2.1 q.2.2.2 h2
            refine ⟨ih.1, fun h => ?_⟩
            have h3 := ih.2 h
            rw [List.length_append] at h3
            show (fillF (fun k => srcRd zs gs fail eager k) n fu (b ++ q.1) q.2.2.1 q.2.2.2).2.2.1.2 + b.length = s.2 + (fillF (fun k => srcRd zs gs fail eager k) n fu (b ++ q.1) q.2.2.1 q.2.2.2).1.length
            omega
/-- One byte is asked for, and none comes: nothing is read; and if there is nothing more, nothing is left. -/
theorem src_one : ∀ (fu : Nat) (s : Nat × Nat) (i : Nat), s.2 ≤ zs.length → (fillF (fun k => srcRd zs gs fail eager k) 1 fu [] s i).2.1 ≠ 0 → (fillF (fun k => srcRd zs gs fail eager k) 1 fu [] s i).2.2.1.2 = s.2 ∧ ((fillF (fun k => srcRd zs gs fail eager k) 1 fu [] s i).2.1 = 41 → s.2 = zs.length)
  | 0, s, i, hs => fun h => absurd rfl h
  | fu + 1, s, i, hs => by
    have hA := src_ask (zs := zs) (gs := gs) (fail := fail) (eager := eager) (min (1 - 0) 4096) s i
    rw [fill_step (b := []) _ rfl (Nat.succ_pos _) (by simp)]
    simp only [List.length_nil] at *
    generalize ask1 (fun k => srcRd zs gs fail eager k) (min (1 - 0) 4096) s i = q at *
    by_cases hx : 1 ≤ 0 + q.1.length
    · rw [if_pos hx]; exact fun h => absurd rfl h
    · rw [if_neg hx]
      have hb : q.1 = [] := List.eq_nil_of_length_eq_zero (by omega)
      have h1 := hA.1
      rw [hb] at h1
      simp only [List.length_nil, Nat.add_zero] at h1
      by_cases e31 : q.2.1 = 31
      · rw [if_pos e31]
        exact fun _ => ⟨h1, fun _ => hA.2.2.1 hb (by decide) hs e31⟩
      · rw [if_neg e31]
        by_cases e0 : q.2.1 ≠ 0
        · rw [if_pos e0]
          exact fun _ => ⟨h1, fun h => absurd h hA.2.2.2⟩
        · rw [if_neg e0]
          intro h
          rw [hb] at h ⊢
          have ih := src_one fu q.2.2.1 q.2.2.2 (by omega) h
          exact ⟨ih.1.trans h1, fun h' => h1 ▸ ih.2 h'⟩

/-- Where it stands. -/
def Pos (zs : List Int) (x : InS (Nat × Nat)) : Prop := x.s.2 ≤ zs.length ∧ (x.err = 0 → x.at' + x.held.length = x.s.2)
abbrev SR (zs gs : List Int) (fail : Int) (eager : Bool) : Nat → Nat × Nat → Int × Int × List Int × (Nat × Nat) := fun k => srcRd zs gs fail eager k

theorem take_pos (n : Nat) (x : InS (Nat × Nat)) (he : x.err = 0) (hp : Pos zs x) : (takeP (SR zs gs fail eager) n x).2.2.s.2 ≤ zs.length ∧ ((takeP (SR zs gs fail eager) n x).2.1 = 0 → x.at' + (takeP (SR zs gs fail eager) n x).1.length + (takeP (SR zs gs fail eager) n x).2.2.held.length = (takeP (SR zs gs fail eager) n x).2.2.s.2 ∧ (0 < n → (takeP (SR zs gs fail eager) n x).2.2.held = []) ∧ (n = 0 → (takeP (SR zs gs fail eager) n x).2.2.held = x.held)) := by
  unfold takeP
  have h0 := hp.2 he
  split
  · exact ⟨hp.1, fun h => absurd h (by simp)⟩
  · split
    · rename_i hn; exact ⟨hp.1, fun _ => ⟨by simp only [List.length_nil]; omega, fun h => absurd h (by omega), fun _ => rfl⟩⟩
    · have hF := src_fill (zs := zs) (gs := gs) (fail := fail) (eager := eager) n (17 * (n - x.held.length) + (16 - x.i)) x.held x.s x.i hp.1
      have e1 : fillF (fun k => srcRd zs gs fail eager k) n (17 * (n - x.held.length) + (16 - x.i)) x.held x.s x.i = fillA (SR zs gs fail eager) n x.held x.s x.i := rfl
      rw [e1] at hF
      generalize fillA (SR zs gs fail eager) n x.held x.s x.i = q at *
      refine ⟨hF.1, fun h => ⟨?_, fun _ => rfl, fun h => by omega⟩⟩
      have h3 := hF.2 h
      simp only [List.length_nil]
      omega
end

theorem take_goes0 {σ : Type} {RD : Nat → σ → Int × Int × List Int × σ} (n k : Nat) (x : InS σ) : takeP RD n (x.goes k) = ((takeP RD n x).1, (takeP RD n x).2.1, (takeP RD n x).2.2.goes k) := by
  unfold takeP InS.goes
  simp only
  split
  · rfl
  · split <;> rfl
/-- What is known behind what is asked, if it went on till then. -/
structure Tight (zs : List Int) (x y : InS (Nat × Nat)) : Prop where
  pos : Pos zs y
  at1 : x.at' ≤ y.at'

section
variable {zs gs : List Int} {fail : Int} {eager : Bool} {B g : Nat} {M0 : Nat → Prop}
theorem bytes_tight (hz8 : B8 zs) (n : Int) (x : InS (Nat × Nat)) (C l : Nat) (hx : InOk Prod.fst (fun s : Nat × Nat => zs.length - s.2) (fun s : Nat × Nat => zs.length - s.2) C l x) (he : x.err = 0) (hp : Pos zs x) : Tight zs x (bytesP (SR zs gs fail eager) n x).2.2 ∧ ((bytesP (SR zs gs fail eager) n x).2.2.err = 0 → (bytesP (SR zs gs fail eager) n x).2.2.held = if 0 < n then [] else x.held) := by
  unfold bytesP
  rw [if_neg (by simp [he])]
  by_cases hn : n < 0
  · rw [if_pos hn]
    exact ⟨⟨hp, Nat.le_refl _⟩, fun _ => by rw [if_neg (by omega)]⟩
  · rw [if_neg hn]
    have hT := take_ok (src_fam zs gs fail eager 0 0 (fun _ => False) hz8) n.toNat x C l hx he
    have hP := take_pos (gs := gs) (fail := fail) (eager := eager) n.toNat x he hp
    have hT' : TakeOk Prod.fst (fun s : Nat × Nat => zs.length - s.2) (fun s : Nat × Nat => zs.length - s.2) C l n.toNat x (takeP (SR zs gs fail eager) n.toNat x) := hT
    clear hT
    generalize takeP (SR zs gs fail eager) n.toNat x = q at *
    by_cases h : q.2.1 ≠ 0
    · rw [if_pos h]
      exact ⟨⟨⟨hP.1, fun h' => absurd h' h⟩, by simp only [InS.ends]; rw [hT'.at1]; exact Nat.le_refl _⟩, fun h' => absurd h' h⟩
    · rw [if_neg h]
      have h0 : q.2.1 = 0 := by simpa using h
      have hl := (hT'.ok h0).1
      have ha := hT'.at1
      refine ⟨⟨⟨hP.1, fun _ => ?_⟩, by simp only [InS.goes]; omega⟩, fun _ => ?_⟩
      · have := (hP.2 h0).1
        simp only [InS.goes]
        omega
      · simp only [InS.goes]
        by_cases hn0 : 0 < n
        · rw [if_pos hn0]; exact (hP.2 h0).2.1 (by omega)
        · rw [if_neg hn0]; exact (hP.2 h0).2.2 (by omega)
theorem byte_tight (hz8 : B8 zs) (x : InS (Nat × Nat)) (C l : Nat) (hx : InOk Prod.fst (fun s : Nat × Nat => zs.length - s.2) (fun s : Nat × Nat => zs.length - s.2) C l x) (he : x.err = 0) (hp : Pos zs x) : Tight zs x (byteP (SR zs gs fail eager) x).2.2 ∧ ((byteP (SR zs gs fail eager) x).2.2.err = 0 → (byteP (SR zs gs fail eager) x).2.2.held = []) := by
  unfold byteP
  rw [if_neg (by simp [he])]
  have hT' : TakeOk Prod.fst (fun s : Nat × Nat => zs.length - s.2) (fun s : Nat × Nat => zs.length - s.2) C l 1 x (takeP (SR zs gs fail eager) 1 x) := take_ok (src_fam zs gs fail eager 0 0 (fun _ => False) hz8) 1 x C l hx he
  have hP := take_pos (gs := gs) (fail := fail) (eager := eager) 1 x he hp
  generalize takeP (SR zs gs fail eager) 1 x = q at *
  by_cases h : q.2.1 ≠ 0
  · rw [if_pos h]
    exact ⟨⟨⟨hP.1, fun h' => absurd h' h⟩, by simp only [InS.ends]; rw [hT'.at1]; exact Nat.le_refl _⟩, fun h' => absurd h' h⟩
  · rw [if_neg h]
    have h0 : q.2.1 = 0 := by simpa using h
    have hl := (hT'.ok h0).1
    have ha := hT'.at1
    refine ⟨⟨⟨hP.1, fun _ => ?_⟩, by simp only [InS.goes]; omega⟩, fun _ => (hP.2 h0).2.1 (by omega)⟩
    have := (hP.2 h0).1
    simp only [InS.goes]
    omega
theorem numF_tight (hz8 : B8 zs) : ∀ (fu : Nat) (ys : List Int) (x : InS (Nat × Nat)) (C l a0 : Nat), fu + ys.length = 10 → ys.length ≤ 9 → x.err = 0 → InOk Prod.fst (fun s : Nat × Nat => zs.length - s.2) (fun s : Nat × Nat => zs.length - s.2) C l x → x.s.2 ≤ zs.length → x.at' + ys.length + x.held.length = x.s.2 → a0 ≤ x.at' →
    (Pos zs (numF (SR zs gs fail eager) fu ys x).2.2 ∧ a0 ≤ (numF (SR zs gs fail eager) fu ys x).2.2.at') ∧ ((numF (SR zs gs fail eager) fu ys x).2.2.err = 0 → (numF (SR zs gs fail eager) fu ys x).2.2.held = [])
  | 0, ys, x, C, l, a0, h1, h2, he, hx, hs, hk, ha => absurd h1 (by omega)
  | fu + 1, ys, x, C, l, a0, h1, h2, he, hx, hs, hk, ha => by
    have hT : TakeOk Prod.fst (fun s : Nat × Nat => zs.length - s.2) (fun s : Nat × Nat => zs.length - s.2) C l 1 x (takeP (SR zs gs fail eager) 1 x) := take_ok (src_fam zs gs fail eager 0 0 (fun _ => False) hz8) 1 x C l hx he
    have hP := take_pos (gs := gs) (fail := fail) (eager := eager) 1 (x.goes ys.length) he ⟨hs, fun _ => hk⟩
    rw [take_goes0] at hP
    rw [num_step _ rfl (Nat.succ_pos _)]
    generalize takeP (SR zs gs fail eager) 1 x = q at *
    simp only [InS.goes] at hP
    have hat := hT.at1
    by_cases h0 : q.2.1 ≠ 0
    · rw [if_pos h0]
      exact ⟨⟨⟨hP.1, fun h' => absurd h' h0⟩, by simp only [InS.ends]; omega⟩, fun h' => absurd h' h0⟩
    · rw [if_neg h0]
      have h0' : q.2.1 = 0 := by simpa using h0
      have hl := (hT.ok h0').1
      have hp2 := hP.2 h0'
      by_cases hf : faultOf ys.length (q.1.getD 0 0) ≠ 0
      · rw [if_pos hf]
        exact ⟨⟨⟨hP.1, fun h' => absurd h' hf⟩, by simp only [InS.ends]; omega⟩, fun h' => absurd h' hf⟩
      · rw [if_neg hf]
        by_cases hc : q.1.getD 0 0 < 128
        · rw [if_pos hc]
          refine ⟨⟨⟨hP.1, fun _ => ?_⟩, by simp only [InS.goes]; omega⟩, fun _ => hp2.2.1 (by omega)⟩
          simp only [InS.goes]
          omega
        · rw [if_neg hc]
          have hz : ys.length ≠ 9 := fun e => hf (by
            rw [e]
            unfold faultOf
            rw [if_pos ⟨rfl, by omega⟩]
            decide)
          exact numF_tight hz8 fu (ys ++ [q.1.getD 0 0]) q.2.2 (C + 17) (l - 1) a0 (by simp; omega) (by simp; omega) (by rw [hT.err1]; exact he) (hT.inOk hx he h0') hP.1 (by simp only [List.length_append, List.length_singleton]; omega) (by omega)
theorem num_tight (hz8 : B8 zs) (x : InS (Nat × Nat)) (C l : Nat) (hx : InOk Prod.fst (fun s : Nat × Nat => zs.length - s.2) (fun s : Nat × Nat => zs.length - s.2) C l x) (he : x.err = 0) (hp : Pos zs x) : Tight zs x (numP (SR zs gs fail eager) x).2.2 ∧ ((numP (SR zs gs fail eager) x).2.2.err = 0 → (numP (SR zs gs fail eager) x).2.2.held = []) := by
  unfold numP
  rw [if_neg (by simp [he])]
  have h := numF_tight (gs := gs) (fail := fail) (eager := eager) hz8 10 [] x C l x.at' (by simp) (by simp) he hx hp.1 (by have := hp.2 he; simpa using this) (Nat.le_refl _)
  exact ⟨⟨h.1.1, h.1.2⟩, h.2⟩
theorem end_tight (hz8 : B8 zs) (x : InS (Nat × Nat)) (C l : Nat) (hx : InOk Prod.fst (fun s : Nat × Nat => zs.length - s.2) (fun s : Nat × Nat => zs.length - s.2) C l x) (he : x.err = 0) (hp : Pos zs x) : Tight zs x (endP (SR zs gs fail eager) x).2.2 ∧ ((endP (SR zs gs fail eager) x).1 = true → (endP (SR zs gs fail eager) x).2.2.s.2 = zs.length ∧ (endP (SR zs gs fail eager) x).2.1 = 0 ∧ (endP (SR zs gs fail eager) x).2.2.held = x.held) ∧ ((endP (SR zs gs fail eager) x).1 = false → (endP (SR zs gs fail eager) x).2.1 = 0 → (endP (SR zs gs fail eager) x).2.2.held.length = 1) ∧ ((endP (SR zs gs fail eager) x).2.1 ≠ 0 → (endP (SR zs gs fail eager) x).2.2.err ≠ 0) := by
  unfold endP
  rw [if_neg (by simp [he])]
  have h0 := hp.2 he
  by_cases hh : x.held ≠ []
  · rw [if_pos hh]
    exact ⟨⟨hp, Nat.le_refl _⟩, fun h => absurd h (by simp), fun _ _ => by have := hx.held1; have := List.length_pos_iff.2 hh; simp only; omega, fun h => absurd rfl h⟩
  · rw [if_neg hh]
    have hh' : x.held = [] := by simpa using hh
    rw [hh'] at h0
    simp only [List.length_nil, Nat.add_zero] at h0
    have hF := src_fill (zs := zs) (gs := gs) (fail := fail) (eager := eager) 1 (17 * (1 - 0) + (16 - x.i)) [] x.s x.i hp.1
    have hO := src_one (zs := zs) (gs := gs) (fail := fail) (eager := eager) (17 * (1 - 0) + (16 - x.i)) x.s x.i hp.1
    have hK : FillOk Prod.fst (fun s : Nat × Nat => zs.length - s.2) (fun s : Nat × Nat => zs.length - s.2) 1 [] x.s x.i (fillA (SR zs gs fail eager) 1 [] x.s x.i) := (src_fam zs gs fail eager 0 0 (fun _ => False) hz8).fill 1 [] x.s x.i (hx.i16 he) (by simp)
    have e1 : fillF (fun k => srcRd zs gs fail eager k) 1 (17 * (1 - 0) + (16 - x.i)) [] x.s x.i = fillA (SR zs gs fail eager) 1 [] x.s x.i := rfl
    rw [e1] at hF hO
    generalize fillA (SR zs gs fail eager) 1 [] x.s x.i = q at *
    by_cases e41 : q.2.1 = 41
    · rw [if_pos e41]
      have h1 := hO (by rw [e41]; decide)
      exact ⟨⟨⟨hF.1, fun _ => by simp only; rw [hh', h1.1]; simpa using h0⟩, Nat.le_refl _⟩, fun _ => ⟨by rw [h1.1]; exact h1.2 e41, rfl, rfl⟩, fun h => absurd h (by simp), fun h => absurd rfl h⟩
    · rw [if_neg e41]
      by_cases e0 : q.2.1 ≠ 0
      · rw [if_pos e0]
        exact ⟨⟨⟨hF.1, fun h => absurd h e0⟩, Nat.le_refl _⟩, fun h => absurd h (by simp), fun _ h => absurd h e0, fun h => h⟩
      · rw [if_neg e0]
        have e0' : q.2.1 = 0 := by simpa using e0
        have h1 := hF.2 e0'
        have h2 := (hK.full e0').1
        refine ⟨⟨⟨hF.1, fun _ => ?_⟩, Nat.le_refl _⟩, fun h => absurd h (by simp), fun _ _ => h2, fun h => absurd rfl h⟩
        simp only [List.length_nil] at h1 ⊢
        omega
end

end Go.Proofs.Yteindoemdonagaa

namespace Go.Proofs.Yteindoemdonagaa
open Go.RowKit

theorem told_errT {i n : Nat} {er : Int} (h : er ≠ 0) : toldOf (idleOf i n er) er = er := by
  have h0 : idleOf i n er = 0 := by unfold idleOf; rw [if_pos (.inr h)]
  rw [h0]
  unfold toldOf
  rw [if_neg (by omega)]
/-- One call at a source that has enough: bytes that come next, or a fault that may be. -/
theorem ask_src (zs gs : List Int) (fail : Int) (eager : Bool) (k : Nat) (s : Nat × Nat) (i : Nat) (hk : 1 ≤ k) (hs : s.2 < zs.length) (hi : i < 16) (hi1 : i ≤ s.1) (_hi2 : 0 < i → s.1 ≤ gs.length) :
    ((ask1 (SR zs gs fail eager) k s i).1 = (zs.drop s.2).take (ask1 (SR zs gs fail eager) k s i).1.length ∧ (ask1 (SR zs gs fail eager) k s i).1.length ≤ k ∧ (ask1 (SR zs gs fail eager) k s i).2.2.1.2 = s.2 + (ask1 (SR zs gs fail eager) k s i).1.length ∧ (ask1 (SR zs gs fail eager) k s i).2.2.1.1 = s.1 + 1) ∧
    ((ask1 (SR zs gs fail eager) k s i).2.1 = 0 → (ask1 (SR zs gs fail eager) k s i).2.2.2 < 16 ∧ (ask1 (SR zs gs fail eager) k s i).2.2.2 ≤ s.1 + 1 ∧ (0 < (ask1 (SR zs gs fail eager) k s i).2.2.2 → s.1 + 1 ≤ gs.length) ∧ ((ask1 (SR zs gs fail eager) k s i).1 = [] → (ask1 (SR zs gs fail eager) k s i).2.2.2 = i + 1)) ∧
    ((ask1 (SR zs gs fail eager) k s i).2.1 = 31 → s.2 + (ask1 (SR zs gs fail eager) k s i).1.length = zs.length) ∧
    ((ask1 (SR zs gs fail eager) k s i).2.1 ≠ 0 → (ask1 (SR zs gs fail eager) k s i).2.1 ≠ 31 → 1 ≤ fail ∨ 16 ≤ gs.length) ∧
    ((ask1 (SR zs gs fail eager) k s i).1 ≠ [] → (ask1 (SR zs gs fail eager) k s i).2.2.2 = 0) := by
  have hle := srcN_le zs gs fail (s.1 + 1) s.2 k
  obtain ⟨n, hn⟩ : ∃ n, n = srcN zs gs fail (s.1 + 1) s.2 k := ⟨_, rfl⟩
  obtain ⟨er, her⟩ : ∃ er, er = srcErr zs fail eager (s.1 + 1) s.2 n := ⟨_, rfl⟩
  have hq : ask1 (SR zs gs fail eager) k s i = ((zs.drop s.2).take n, toldOf (idleOf i n er) er, (s.1 + 1, s.2 + n), idleOf i n er) := by
    unfold ask1 SR
    simp only [srcRd, ← hn, ← her]
    rw [if_neg (by omega)]
    simp only [Int.toNat_natCast]
  rw [← hn] at hle
  rw [hq]
  simp only
  have hll : ((zs.drop s.2).take n).length = n := by rw [List.length_take, List.length_drop]; omega
  rw [hll]
  have hne : (zs.drop s.2).take n ≠ [] → idleOf i n er = 0 := fun h => by
    have h0 : 0 < n := by have := List.length_pos_iff.2 h; omega
    unfold idleOf
    rw [if_pos (.inl h0)]
  suffices hh : (toldOf (idleOf i n er) er = 0 → idleOf i n er < 16 ∧ idleOf i n er ≤ s.1 + 1 ∧ (0 < idleOf i n er → s.1 + 1 ≤ gs.length) ∧ ((zs.drop s.2).take n = [] → idleOf i n er = i + 1)) ∧ (toldOf (idleOf i n er) er = 31 → s.2 + n = zs.length) ∧ (toldOf (idleOf i n er) er ≠ 0 → toldOf (idleOf i n er) er ≠ 31 → 1 ≤ fail ∨ 16 ≤ gs.length) from ⟨⟨by first | rfl | trivial, hle.2, by first | rfl | trivial, by first | rfl | trivial⟩, hh.1, hh.2.1, hh.2.2, hne⟩
  by_cases hf : failsAt fail (s.1 + 1) = true
  · have hf1 := failsAt_fail hf
    have h32 : er = 32 := by rw [her]; unfold srcErr; rw [if_pos hf]
    rw [h32]
    have ht : toldOf (idleOf i n 32) 32 = 32 := told_errT (by simp)
    rw [ht]
    exact ⟨fun e => by simp at e, fun e => by simp at e, fun _ _ => .inl hf1⟩
  · have hn' : n = min k (mostN gs (s.1 + 1) (zs.length - s.2)) := by rw [hn]; unfold srcN; rw [if_neg hf, if_neg (by omega)]
    have he' : er = if eager = true ∧ s.2 + n = zs.length then 31 else 0 := by rw [her]; unfold srcErr; rw [if_neg hf, if_neg (by omega)]
    have hz : n = 0 → s.1 + 1 ≤ gs.length := fun h0 => by
      rw [h0] at hn'
      unfold mostN at hn'
      split at hn'
      · assumption
      · omega
    by_cases hg : eager = true ∧ s.2 + n = zs.length
    · have h31 : er = 31 := by rw [he', if_pos hg]
      rw [h31]
      have ht : toldOf (idleOf i n 31) 31 = 31 := told_errT (by simp)
      rw [ht]
      exact ⟨fun e => by simp at e, fun _ => hg.2, fun _ e => absurd rfl e⟩
    · have h00 : er = 0 := by rw [he', if_neg hg]
      rw [h00]
      rcases Nat.eq_zero_or_pos n with h0 | h0
      · have := hz h0
        rw [h0, idle_zero]
        refine ⟨fun e => ?_, fun e => ?_, fun e _ => .inr ?_⟩
        · have e' := told_zero.1 e
          exact ⟨by omega, by omega, fun _ => this, fun _ => rfl⟩
        · unfold toldOf at e
          split at e <;> simp at e
        · have h16 : i + 1 = 16 := Classical.byContradiction fun q => e (told_zero.2 q)
          omega
      · rw [idle_pos h0]
        have ht : toldOf 0 0 = 0 := told_zero.2 (by omega)
        rw [ht]
        refine ⟨fun _ => ⟨by omega, by omega, fun e => by omega, fun e => ?_⟩, fun e => by simp at e, fun e => absurd rfl e⟩
        have := congrArg List.length e
        rw [hll] at this
        simp at this
        omega

/-- What is known of an In over a source between two items, if no error was told. -/
structure BT (gs : List Int) (s : Nat × Nat) (i : Nat) : Prop where
  i16 : i < 16
  i1 : i ≤ s.1
  i2 : 0 < i → s.1 ≤ gs.length
set_option maxHeartbeats 1600000 in
/-- n bytes of which b are there already, from a source that has them. -/
theorem fill_src (zs gs : List Int) (fail : Int) (eager : Bool) (n : Nat) : ∀ (fu : Nat) (b : List Int) (s : Nat × Nat) (i : Nat), BT gs s i → n - b.length ≤ zs.length - s.2 → s.2 ≤ zs.length → 17 * (n - b.length) + (16 - i) ≤ fu → b.length ≤ n →
    ((fillF (SR zs gs fail eager) n fu b s i).2.1 = 0 → (fillF (SR zs gs fail eager) n fu b s i).1 = b ++ (zs.drop s.2).take (n - b.length) ∧ (fillF (SR zs gs fail eager) n fu b s i).2.2.1.2 = s.2 + (n - b.length) ∧ BT gs (fillF (SR zs gs fail eager) n fu b s i).2.2.1 (fillF (SR zs gs fail eager) n fu b s i).2.2.2) ∧
    ((fillF (SR zs gs fail eager) n fu b s i).2.1 ≠ 0 → 1 ≤ fail ∨ 16 ≤ gs.length)
  | 0, b, s, i, hB, _, _, hf, _ => by have := hB.i16; omega
  | fu + 1, b, s, i, hB, h1, h2, hf, hbn => by
    by_cases hn : n ≤ b.length
    · rw [fill_done hn]
      have h0 : n - b.length = 0 := by omega
      simp only
      rw [h0]
      exact ⟨fun _ => ⟨by simp, rfl, hB⟩, fun e => absurd rfl e⟩
    · have hA := ask_src zs gs fail eager (min (n - b.length) 4096) s i (by omega) (by omega) hB.i16 hB.i1 hB.i2
      rw [fill_step (fu := fu + 1) _ rfl (Nat.succ_pos fu) hn]
      generalize ask1 (SR zs gs fail eager) (min (n - b.length) 4096) s i = q at *
      obtain ⟨bt, er, ⟨c', k'⟩, i'⟩ := q
      simp only [Nat.add_sub_cancel] at hA ⊢
      obtain ⟨⟨a1, a2, a3, a4⟩, a5, a6, a7, a8⟩ := hA
      subst a3
      subst a4
      by_cases hx : n ≤ b.length + bt.length
      · have hbl : bt.length = n - b.length := by omega
        rw [if_pos hx]
        have h0 := a8 (fun e => by rw [e] at hbl; simp at hbl; omega)
        subst h0
        have hbt : BT gs (s.1 + 1, s.2 + bt.length) 0 := ⟨by omega, Nat.zero_le _, fun e => absurd e (by omega)⟩
        refine ⟨fun _ => ⟨by rw [← hbl, ← a1], by rw [hbl], hbt⟩, fun e => absurd rfl e⟩
      · rw [if_neg hx]
        by_cases e31 : er = 31
        · have := a6 e31
          omega
        · rw [if_neg e31]
          by_cases e0 : er = 0
          · rw [if_neg (by simp [e0])]
            obtain ⟨g1, g2, g3, g4⟩ := a5 e0
            have hfu : 17 * (n - (b ++ bt).length) + (16 - i') ≤ fu := by
              rw [List.length_append]
              by_cases hb0 : bt = []
              · have := g4 hb0
                have := hB.i16
                rw [hb0]
                simp only [List.length_nil]
                omega
              · have := List.length_pos_iff.2 hb0
                omega
            have hF := fill_src zs gs fail eager n fu (b ++ bt) (s.1 + 1, s.2 + bt.length) i' ⟨g1, g2, g3⟩ (by rw [List.length_append]; simp only; omega) (by simp only; omega) hfu (by rw [List.length_append]; omega)
            refine ⟨fun he => ?_, hF.2⟩
            obtain ⟨r1, r2, r3⟩ := hF.1 he
            refine ⟨?_, ?_, r3⟩
            · rw [r1, List.length_append, List.append_assoc]
              congr 1
              simp only
              rw [show n - b.length = bt.length + (n - (b.length + bt.length)) by omega, List.take_add, List.drop_drop, ← a1]
            · rw [r2, List.length_append]
              simp only
              omega
          · rw [if_pos (by simpa using e0)]
            exact ⟨fun e => absurd e e0, fun _ => a7 e0 e31⟩

end Go.Proofs.Yteindoemdonagaa

namespace Go.Proofs.Yteindoemdonagaa
open Go.RowKit

/-- An In over a source, p bytes behind its beginning, nothing held, no error told. -/
structure RT (zs gs : List Int) (p : Nat) (x : InS (Nat × Nat)) : Prop where
  err : x.err = 0
  held : x.held = []
  pos : x.s.2 = p
  left : x.left = zs.length - p
  le : p ≤ zs.length
  bt : BT gs x.s x.i
theorem take_rt {zs gs : List Int} (fail : Int) (eager : Bool) {p : Nat} {x : InS (Nat × Nat)} (h : RT zs gs p x) (n : Nat) (hn : p + n ≤ zs.length) :
    ((takeP (SR zs gs fail eager) n x).2.1 = 0 → (takeP (SR zs gs fail eager) n x).1 = (zs.drop p).take n ∧ RT zs gs (p + n) (takeP (SR zs gs fail eager) n x).2.2 ∧ (takeP (SR zs gs fail eager) n x).2.2.at' = x.at') ∧ ((takeP (SR zs gs fail eager) n x).2.1 ≠ 0 → 1 ≤ fail ∨ 16 ≤ gs.length) := by
  have hl := h.left
  have hp := h.pos
  have hF := fill_src zs gs fail eager n (17 * n + (16 - x.i)) [] x.s x.i h.bt (by simp only [List.length_nil]; omega) (by omega) (by simp only [List.length_nil]; omega) (by simp)
  unfold takeP
  rw [if_neg (by omega)]
  by_cases h0 : n = 0
  · subst h0
    rw [if_pos rfl]
    exact ⟨fun _ => ⟨by simp, h, rfl⟩, fun e => absurd rfl e⟩
  · rw [if_neg h0]
    have hA : fillA (SR zs gs fail eager) n x.held x.s x.i = fillF (SR zs gs fail eager) n (17 * n + (16 - x.i)) [] x.s x.i := by
      unfold fillA
      rw [h.held]
      rfl
    rw [hA]
    simp only [List.length_nil, Nat.sub_zero, List.nil_append] at hF
    refine ⟨fun e => ?_, hF.2⟩
    obtain ⟨r1, r2, r3⟩ := hF.1 e
    exact ⟨by rw [r1, hp], ⟨h.err, rfl, by simp only; rw [r2]; omega, by simp only; omega, hn, r3⟩, rfl⟩
theorem RT.goes {zs gs : List Int} {p k : Nat} {x : InS (Nat × Nat)} (h : RT zs gs p x) : RT zs gs p (x.goes k) := ⟨h.err, h.held, h.pos, h.left, h.le, h.bt⟩
/-- A row of bytes. -/
theorem bytes_rt {zs gs : List Int} (fail : Int) (eager : Bool) {p : Nat} {x : InS (Nat × Nat)} (h : RT zs gs p x) (n : Nat) (hn : p + n ≤ zs.length) (ha : x.at' = p) :
    ((bytesP (SR zs gs fail eager) n x).2.1 = 0 → (bytesP (SR zs gs fail eager) n x).1 = (zs.drop p).take n ∧ RT zs gs (p + n) (bytesP (SR zs gs fail eager) n x).2.2 ∧ (bytesP (SR zs gs fail eager) n x).2.2.at' = p + n) ∧ ((bytesP (SR zs gs fail eager) n x).2.1 ≠ 0 → 1 ≤ fail ∨ 16 ≤ gs.length) := by
  have hT := take_rt fail eager h n hn
  unfold bytesP
  rw [if_neg (by simp [h.err]), if_neg (by omega)]
  simp only [Int.toNat_natCast]
  by_cases e : (takeP (SR zs gs fail eager) n x).2.1 = 0
  · rw [if_neg (by simp [e])]
    obtain ⟨r1, r2, r3⟩ := hT.1 e
    exact ⟨fun _ => ⟨r1, r2.goes, by simp only [InS.goes]; omega⟩, fun e => absurd rfl e⟩
  · rw [if_pos e]
    exact ⟨fun e' => absurd e' e, fun _ => hT.2 e⟩

/-- Bytes that a number is written in. -/
structure NumB (e : List Int) (n : Int) : Prop where
  len : 1 ≤ e.length ∧ e.length ≤ 10
  more : ∀ j, j + 1 < e.length → ¬ e.getD j 0 < 128
  last : e.getD (e.length - 1) 0 < 128
  ok : ∀ j : Nat, j < e.length → faultOf (j : Int) (e.getD j 0) = 0
  val : pre e 0 e.length = n
theorem drop_take1 (zs : List Int) (p : Nat) (h : p < zs.length) : (zs.drop p).take 1 = [zs.getD p 0] := by
  rw [List.drop_eq_getElem_cons h, List.take_succ_cons, List.take_zero]
  simp [List.getD, h]
theorem numF_rt {zs gs : List Int} (fail : Int) (eager : Bool) {p0 : Nat} {e : List Int} {n : Int} (hN : NumB e n) (hz : (zs.drop p0).take e.length = e) (hp : p0 + e.length ≤ zs.length) :
    ∀ (fu j : Nat) (x : InS (Nat × Nat)), j < e.length → fu + j = 10 → RT zs gs (p0 + j) x → x.at' = p0 →
      ((numF (SR zs gs fail eager) fu (e.take j) x).2.1 = 0 → (numF (SR zs gs fail eager) fu (e.take j) x).1 = n ∧ RT zs gs (p0 + e.length) (numF (SR zs gs fail eager) fu (e.take j) x).2.2 ∧ (numF (SR zs gs fail eager) fu (e.take j) x).2.2.at' = p0 + e.length) ∧ ((numF (SR zs gs fail eager) fu (e.take j) x).2.1 ≠ 0 → 1 ≤ fail ∨ 16 ≤ gs.length)
  | 0, j, x, hj, hf, _, _ => by have := hN.len.2; omega
  | fu + 1, j, x, hj, hf, hR, ha => by
    have hT := take_rt fail eager hR 1 (by omega)
    have hlj : (e.take j).length = j := by rw [List.length_take]; omega
    have hge : zs.getD (p0 + j) 0 = e.getD j 0 := by
      have := congrArg (fun l => l.getD j 0) hz
      simp only [List.getD_eq_getElem?_getD] at this ⊢
      rw [← this, List.getElem?_take, if_pos hj, List.getElem?_drop]
    have hsn : e.take j ++ [e.getD j 0] = e.take (j + 1) := by
      rw [List.take_add_one]
      simp [List.getD, hj]
    rw [num_step (fu := fu + 1) _ rfl (Nat.succ_pos fu)]
    by_cases e0 : (takeP (SR zs gs fail eager) 1 x).2.1 = 0
    · rw [if_neg (by simp [e0])]
      obtain ⟨r1, r2, r3⟩ := hT.1 e0
      have hb : (takeP (SR zs gs fail eager) 1 x).1.getD 0 0 = e.getD j 0 := by rw [r1, drop_take1 _ _ (by omega), ← hge]; rfl
      rw [hb, hlj, if_neg (fun q => q (hN.ok j hj)), hsn]
      by_cases hl : j + 1 < e.length
      · rw [if_neg (hN.more j hl)]
        simp only [Nat.add_sub_cancel]
        exact numF_rt fail eager hN hz hp fu (j + 1) _ hl (by omega) r2 (by omega)
      · have hje : j + 1 = e.length := by omega
        have hlast := hN.last
        rw [show e.length - 1 = j by omega] at hlast
        rw [if_pos hlast, hje, List.take_of_length_le (Nat.le_refl _)]
        refine ⟨fun _ => ⟨hN.val, ?_, ?_⟩, fun e => absurd rfl e⟩
        · have := r2.goes (k := e.length)
          rwa [Nat.add_assoc, hje] at this
        · simp only [InS.goes]; omega
    · rw [if_pos e0]
      exact ⟨fun e' => absurd e' e0, fun _ => hT.2 e0⟩
/-- A number. -/
theorem num_rt {zs gs : List Int} (fail : Int) (eager : Bool) {p : Nat} {x : InS (Nat × Nat)} (h : RT zs gs p x) {e : List Int} {n : Int} (hN : NumB e n) (hz : (zs.drop p).take e.length = e) (hp : p + e.length ≤ zs.length) (ha : x.at' = p) :
    ((numP (SR zs gs fail eager) x).2.1 = 0 → (numP (SR zs gs fail eager) x).1 = n ∧ RT zs gs (p + e.length) (numP (SR zs gs fail eager) x).2.2 ∧ (numP (SR zs gs fail eager) x).2.2.at' = p + e.length) ∧ ((numP (SR zs gs fail eager) x).2.1 ≠ 0 → 1 ≤ fail ∨ 16 ≤ gs.length) := by
  unfold numP
  rw [if_neg (by simp [h.err])]
  have := numF_rt fail eager hN hz hp 10 0 x (by have := hN.len.1; omega) (by omega) h ha
  rwa [List.take_zero] at this

/-- The end. -/
theorem end_rt {zs gs : List Int} (fail : Int) (eager : Bool) {x : InS (Nat × Nat)} (h : RT zs gs zs.length x) :
    ((endP (SR zs gs fail eager) x).2.1 = 0 → (endP (SR zs gs fail eager) x).1 = true ∧ (endP (SR zs gs fail eager) x).2.2.at' = x.at') ∧ ((endP (SR zs gs fail eager) x).2.1 ≠ 0 → 1 ≤ fail ∨ 16 ≤ gs.length) := by
  have hi := h.bt.i16
  have hp := h.pos
  have hq : ask1 (SR zs gs fail eager) 1 x.s x.i = if failsAt fail (x.s.1 + 1) = true then ([], 32, (x.s.1 + 1, x.s.2), 0) else ([], 31, (x.s.1 + 1, x.s.2), 0) := by
    unfold ask1 SR
    by_cases hf : failsAt fail (x.s.1 + 1) = true
    · have hn : srcN zs gs fail (x.s.1 + 1) x.s.2 1 = 0 := by unfold srcN; rw [if_pos hf]
      have he : srcErr zs fail eager (x.s.1 + 1) x.s.2 0 = 32 := by unfold srcErr; rw [if_pos hf]
      simp only [srcRd, hn, he]
      rw [if_pos hf, if_neg (by omega), told_errT (by simp)]
      simp [idleOf]
    · have hn : srcN zs gs fail (x.s.1 + 1) x.s.2 1 = 0 := by unfold srcN; rw [if_neg hf, if_pos hp]
      have he : srcErr zs fail eager (x.s.1 + 1) x.s.2 0 = 31 := by unfold srcErr; rw [if_neg hf, if_pos hp]
      simp only [srcRd, hn, he]
      rw [if_neg hf, if_neg (by omega), told_errT (by simp)]
      simp [idleOf]
  unfold endP
  rw [if_neg (by simp [h.err]), if_neg (by simp [h.held])]
  have hA : fillA (SR zs gs fail eager) 1 [] x.s x.i = if failsAt fail (x.s.1 + 1) = true then ([], 32, (x.s.1 + 1, x.s.2), 0) else ([], 41, (x.s.1 + 1, x.s.2), 0) := by
    unfold fillA
    rw [fill_step _ hq (by simp only [List.length_nil]; omega) (by simp)]
    by_cases hf : failsAt fail (x.s.1 + 1) = true
    · simp [hf]
    · simp [hf]
  rw [hA]
  by_cases hf : failsAt fail (x.s.1 + 1) = true
  · simp only [hf, if_true]
    exact ⟨fun e => by simp at e, fun _ => .inl (failsAt_fail hf)⟩
  · simp [hf]

end Go.Proofs.Yteindoemdonagaa
