/- An In over a source reads no byte but those that were asked for: as numbers. -/
import Derived.Test.YtkginmhfpegkiaaQAsk
import Derived.Test.YtkginmhfpegkiaaQOk
namespace Go.Proofs.Ytkginmhfpegkiaa
open Go.RowKit

section
variable {zs gs : List Int} {fail : Int} {eager : Bool}
/-- What a source's call tells, for an In. -/
theorem src_ask (k : Nat) (s : Nat × Nat) (i : Nat) : (ask1 (fun k => srcRd zs gs fail eager k) k s i).2.2.1.2 = s.2 + (ask1 (fun k => srcRd zs gs fail eager k) k s i).1.length ∧ (s.2 ≤ zs.length → (ask1 (fun k => srcRd zs gs fail eager k) k s i).2.2.1.2 ≤ zs.length) ∧ ((ask1 (fun k => srcRd zs gs fail eager k) k s i).1 = [] → 1 ≤ k → s.2 ≤ zs.length → (ask1 (fun k => srcRd zs gs fail eager k) k s i).2.1 = 31 → s.2 = zs.length) ∧ (ask1 (fun k => srcRd zs gs fail eager k) k s i).2.1 ≠ 41 := by
  have h1 := srcN_le zs gs fail (s.1 + 1) s.2 k
  have hnb : ¬ ((srcRd zs gs fail eager k s).1 < 0 ∨ (k : Int) < (srcRd zs gs fail eager k s).1) := by simp only [srcRd]; omega
  unfold ask1
  rw [if_neg hnb]
  simp only [srcRd, List.length_take, List.length_drop, Int.toNat_natCast]
  refine ⟨by omega, fun _ => by omega, fun hb hk hs he => ?_, ?_⟩
  · have hn0 : srcN zs gs fail (s.1 + 1) s.2 k = 0 := by
      have := congrArg List.length hb
      simp only [List.length_take, List.length_drop, List.length_nil] at this
      omega
    rw [hn0] at he
    unfold toldOf at he
    split at he
    · omega
    · unfold srcErr at he
      split at he
      · omega
      · split at he
        · assumption
        · split at he
          · omega
          · omega
  · unfold toldOf srcErr
    repeat (first | decide | split)
theorem src_fill (n : Nat) : ∀ (fu : Nat) (b : List Int) (s : Nat × Nat) (i : Nat), s.2 ≤ zs.length → (fillF (fun k => srcRd zs gs fail eager k) n fu b s i).2.2.1.2 ≤ zs.length ∧ ((fillF (fun k => srcRd zs gs fail eager k) n fu b s i).2.1 = 0 → (fillF (fun k => srcRd zs gs fail eager k) n fu b s i).2.2.1.2 + b.length = s.2 + (fillF (fun k => srcRd zs gs fail eager k) n fu b s i).1.length)
  | 0, b, s, i, hs => ⟨hs, fun _ => rfl⟩
  | fu + 1, b, s, i, hs => by
    by_cases hn : n ≤ b.length
    · rw [fillF, if_pos hn]; exact ⟨hs, fun _ => rfl⟩
    · have hA := src_ask (zs := zs) (gs := gs) (fail := fail) (eager := eager) (min (n - b.length) 4096) s i
      rw [fill_step _ rfl (Nat.succ_pos _) hn]
      generalize ask1 (fun k => srcRd zs gs fail eager k) (min (n - b.length) 4096) s i = q at *
      have h2 := hA.2.1 hs
      have h1 := hA.1
      split
      · exact ⟨h2, fun _ => by simp only [List.length_append]; omega⟩
      · split
        · exact ⟨h2, fun h => absurd h (by simp)⟩
        · split
          · rename_i h; exact ⟨h2, fun h' => absurd h' h⟩
          · have ih := src_fill n fu (b ++ q.1) q.2.2.1 q.2.2.2 h2
            refine ⟨ih.1, fun h => ?_⟩
            have h3 := ih.2 h
            rw [List.length_append] at h3
            show (fillF (fun k => srcRd zs gs fail eager k) n fu (b ++ q.1) q.2.2.1 q.2.2.2).2.2.1.2 + b.length = s.2 + (fillF (fun k => srcRd zs gs fail eager k) n fu (b ++ q.1) q.2.2.1 q.2.2.2).1.length
            omega
/-- One byte is asked for, and none comes: nothing is read; and if there is nothing more, nothing is left. -/
theorem src_one : ∀ (fu : Nat) (s : Nat × Nat) (i : Nat), s.2 ≤ zs.length → (fillF (fun k => srcRd zs gs fail eager k) 1 fu [] s i).2.1 ≠ 0 → (fillF (fun k => srcRd zs gs fail eager k) 1 fu [] s i).2.2.1.2 = s.2 ∧ ((fillF (fun k => srcRd zs gs fail eager k) 1 fu [] s i).2.1 = 41 → s.2 = zs.length)
  | 0, s, i, hs => fun h => absurd rfl h
  | fu + 1, s, i, hs => by
    have hA := src_ask (zs := zs) (gs := gs) (fail := fail) (eager := eager) (min (1 - 0) 4096) s i
    rw [fill_step (b := []) _ rfl (Nat.succ_pos _) (by simp)]
    simp only [List.length_nil] at *
    generalize ask1 (fun k => srcRd zs gs fail eager k) (min (1 - 0) 4096) s i = q at *
    by_cases hx : 1 ≤ 0 + q.1.length
    · rw [if_pos hx]; exact fun h => absurd rfl h
    · rw [if_neg hx]
      have hb : q.1 = [] := List.eq_nil_of_length_eq_zero (by omega)
      have h1 := hA.1
      rw [hb] at h1
      simp only [List.length_nil, Nat.add_zero] at h1
      by_cases e31 : q.2.1 = 31
      · rw [if_pos e31]
        exact fun _ => ⟨h1, fun _ => hA.2.2.1 hb (by decide) hs e31⟩
      · rw [if_neg e31]
        by_cases e0 : q.2.1 ≠ 0
        · rw [if_pos e0]
          exact fun _ => ⟨h1, fun h => absurd h hA.2.2.2⟩
        · rw [if_neg e0]
          intro h
          rw [hb] at h ⊢
          have ih := src_one fu q.2.2.1 q.2.2.2 (by omega) h
          exact ⟨ih.1.trans h1, fun h' => h1 ▸ ih.2 h'⟩

/-- Where it stands. -/
def Pos (zs : List Int) (x : InS (Nat × Nat)) : Prop := x.s.2 ≤ zs.length ∧ (x.err = 0 → x.at' + x.held.length = x.s.2)
abbrev SR (zs gs : List Int) (fail : Int) (eager : Bool) : Nat → Nat × Nat → Int × Int × List Int × (Nat × Nat) := fun k => srcRd zs gs fail eager k

theorem take_pos (n : Nat) (x : InS (Nat × Nat)) (he : x.err = 0) (hp : Pos zs x) : (takeP (SR zs gs fail eager) n x).2.2.s.2 ≤ zs.length ∧ ((takeP (SR zs gs fail eager) n x).2.1 = 0 → x.at' + (takeP (SR zs gs fail eager) n x).1.length + (takeP (SR zs gs fail eager) n x).2.2.held.length = (takeP (SR zs gs fail eager) n x).2.2.s.2 ∧ (0 < n → (takeP (SR zs gs fail eager) n x).2.2.held = []) ∧ (n = 0 → (takeP (SR zs gs fail eager) n x).2.2.held = x.held)) := by
  unfold takeP
  have h0 := hp.2 he
  split
  · exact ⟨hp.1, fun h => absurd h (by simp)⟩
  · split
    · rename_i hn; exact ⟨hp.1, fun _ => ⟨by simp only [List.length_nil]; omega, fun h => absurd h (by omega), fun _ => rfl⟩⟩
    · have hF := src_fill (zs := zs) (gs := gs) (fail := fail) (eager := eager) n (17 * (n - x.held.length) + (16 - x.i)) x.held x.s x.i hp.1
      have e1 : fillF (fun k => srcRd zs gs fail eager k) n (17 * (n - x.held.length) + (16 - x.i)) x.held x.s x.i = fillA (SR zs gs fail eager) n x.held x.s x.i := rfl
      rw [e1] at hF
      generalize fillA (SR zs gs fail eager) n x.held x.s x.i = q at *
      refine ⟨hF.1, fun h => ⟨?_, fun _ => rfl, fun h => by omega⟩⟩
      have h3 := hF.2 h
      simp only [List.length_nil]
      omega
end

theorem take_goes0 {σ : Type} {RD : Nat → σ → Int × Int × List Int × σ} (n k : Nat) (x : InS σ) : takeP RD n (x.goes k) = ((takeP RD n x).1, (takeP RD n x).2.1, (takeP RD n x).2.2.goes k) := by
  unfold takeP InS.goes
  simp only
  split
  · rfl
  · split <;> rfl
/-- What is known behind what is asked, if it went on till then. -/
structure Tight (zs : List Int) (x y : InS (Nat × Nat)) : Prop where
  pos : Pos zs y
  at1 : x.at' ≤ y.at'

section
variable {zs gs : List Int} {fail : Int} {eager : Bool} {B g : Nat} {M0 : Nat → Prop}
theorem bytes_tight (hz8 : B8 zs) (n : Int) (x : InS (Nat × Nat)) (C l : Nat) (hx : InOk Prod.fst (fun s : Nat × Nat => zs.length - s.2) (fun s : Nat × Nat => zs.length - s.2) C l x) (he : x.err = 0) (hp : Pos zs x) : Tight zs x (bytesP (SR zs gs fail eager) n x).2.2 ∧ ((bytesP (SR zs gs fail eager) n x).2.2.err = 0 → (bytesP (SR zs gs fail eager) n x).2.2.held = if 0 < n then [] else x.held) := by
  unfold bytesP
  rw [if_neg (by simp [he])]
  by_cases hn : n < 0
  · rw [if_pos hn]
    exact ⟨⟨hp, Nat.le_refl _⟩, fun _ => by rw [if_neg (by omega)]⟩
  · rw [if_neg hn]
    have hT := take_ok (src_fam zs gs fail eager 0 0 (fun _ => False) hz8) n.toNat x C l hx he
    have hP := take_pos (gs := gs) (fail := fail) (eager := eager) n.toNat x he hp
    have hT' : TakeOk Prod.fst (fun s : Nat × Nat => zs.length - s.2) (fun s : Nat × Nat => zs.length - s.2) C l n.toNat x (takeP (SR zs gs fail eager) n.toNat x) := hT
    clear hT
    generalize takeP (SR zs gs fail eager) n.toNat x = q at *
    by_cases h : q.2.1 ≠ 0
    · rw [if_pos h]
      exact ⟨⟨⟨hP.1, fun h' => absurd h' h⟩, by simp only [InS.ends]; rw [hT'.at1]; exact Nat.le_refl _⟩, fun h' => absurd h' h⟩
    · rw [if_neg h]
      have h0 : q.2.1 = 0 := by simpa using h
      have hl := (hT'.ok h0).1
      have ha := hT'.at1
      refine ⟨⟨⟨hP.1, fun _ => ?_⟩, by simp only [InS.goes]; omega⟩, fun _ => ?_⟩
      · have := (hP.2 h0).1
        simp only [InS.goes]
        omega
      · simp only [InS.goes]
        by_cases hn0 : 0 < n
        · rw [if_pos hn0]; exact (hP.2 h0).2.1 (by omega)
        · rw [if_neg hn0]; exact (hP.2 h0).2.2 (by omega)
theorem byte_tight (hz8 : B8 zs) (x : InS (Nat × Nat)) (C l : Nat) (hx : InOk Prod.fst (fun s : Nat × Nat => zs.length - s.2) (fun s : Nat × Nat => zs.length - s.2) C l x) (he : x.err = 0) (hp : Pos zs x) : Tight zs x (byteP (SR zs gs fail eager) x).2.2 ∧ ((byteP (SR zs gs fail eager) x).2.2.err = 0 → (byteP (SR zs gs fail eager) x).2.2.held = []) := by
  unfold byteP
  rw [if_neg (by simp [he])]
  have hT' : TakeOk Prod.fst (fun s : Nat × Nat => zs.length - s.2) (fun s : Nat × Nat => zs.length - s.2) C l 1 x (takeP (SR zs gs fail eager) 1 x) := take_ok (src_fam zs gs fail eager 0 0 (fun _ => False) hz8) 1 x C l hx he
  have hP := take_pos (gs := gs) (fail := fail) (eager := eager) 1 x he hp
  generalize takeP (SR zs gs fail eager) 1 x = q at *
  by_cases h : q.2.1 ≠ 0
  · rw [if_pos h]
    exact ⟨⟨⟨hP.1, fun h' => absurd h' h⟩, by simp only [InS.ends]; rw [hT'.at1]; exact Nat.le_refl _⟩, fun h' => absurd h' h⟩
  · rw [if_neg h]
    have h0 : q.2.1 = 0 := by simpa using h
    have hl := (hT'.ok h0).1
    have ha := hT'.at1
    refine ⟨⟨⟨hP.1, fun _ => ?_⟩, by simp only [InS.goes]; omega⟩, fun _ => (hP.2 h0).2.1 (by omega)⟩
    have := (hP.2 h0).1
    simp only [InS.goes]
    omega
theorem numF_tight (hz8 : B8 zs) : ∀ (fu : Nat) (ys : List Int) (x : InS (Nat × Nat)) (C l a0 : Nat), fu + ys.length = 10 → ys.length ≤ 9 → x.err = 0 → InOk Prod.fst (fun s : Nat × Nat => zs.length - s.2) (fun s : Nat × Nat => zs.length - s.2) C l x → x.s.2 ≤ zs.length → x.at' + ys.length + x.held.length = x.s.2 → a0 ≤ x.at' →
    (Pos zs (numF (SR zs gs fail eager) fu ys x).2.2 ∧ a0 ≤ (numF (SR zs gs fail eager) fu ys x).2.2.at') ∧ ((numF (SR zs gs fail eager) fu ys x).2.2.err = 0 → (numF (SR zs gs fail eager) fu ys x).2.2.held = [])
  | 0, ys, x, C, l, a0, h1, h2, he, hx, hs, hk, ha => absurd h1 (by omega)
  | fu + 1, ys, x, C, l, a0, h1, h2, he, hx, hs, hk, ha => by
    have hT : TakeOk Prod.fst (fun s : Nat × Nat => zs.length - s.2) (fun s : Nat × Nat => zs.length - s.2) C l 1 x (takeP (SR zs gs fail eager) 1 x) := take_ok (src_fam zs gs fail eager 0 0 (fun _ => False) hz8) 1 x C l hx he
    have hP := take_pos (gs := gs) (fail := fail) (eager := eager) 1 (x.goes ys.length) he ⟨hs, fun _ => hk⟩
    rw [take_goes0] at hP
    rw [num_step _ rfl (Nat.succ_pos _)]
    generalize takeP (SR zs gs fail eager) 1 x = q at *
    simp only [InS.goes] at hP
    have hat := hT.at1
    by_cases h0 : q.2.1 ≠ 0
    · rw [if_pos h0]
      exact ⟨⟨⟨hP.1, fun h' => absurd h' h0⟩, by simp only [InS.ends]; omega⟩, fun h' => absurd h' h0⟩
    · rw [if_neg h0]
      have h0' : q.2.1 = 0 := by simpa using h0
      have hl := (hT.ok h0').1
      have hp2 := hP.2 h0'
      by_cases hf : faultOf ys.length (q.1.getD 0 0) ≠ 0
      · rw [if_pos hf]
        exact ⟨⟨⟨hP.1, fun h' => absurd h' hf⟩, by simp only [InS.ends]; omega⟩, fun h' => absurd h' hf⟩
      · rw [if_neg hf]
        by_cases hc : q.1.getD 0 0 < 128
        · rw [if_pos hc]
          refine ⟨⟨⟨hP.1, fun _ => ?_⟩, by simp only [InS.goes]; omega⟩, fun _ => hp2.2.1 (by omega)⟩
          simp only [InS.goes]
          omega
        · rw [if_neg hc]
          have hz : ys.length ≠ 9 := fun e => hf (by
            rw [e]
            unfold faultOf
            rw [if_pos ⟨rfl, by omega⟩]
            decide)
          exact numF_tight hz8 fu (ys ++ [q.1.getD 0 0]) q.2.2 (C + 17) (l - 1) a0 (by simp; omega) (by simp; omega) (by rw [hT.err1]; exact he) (hT.inOk hx he h0') hP.1 (by simp only [List.length_append, List.length_singleton]; omega) (by omega)
theorem num_tight (hz8 : B8 zs) (x : InS (Nat × Nat)) (C l : Nat) (hx : InOk Prod.fst (fun s : Nat × Nat => zs.length - s.2) (fun s : Nat × Nat => zs.length - s.2) C l x) (he : x.err = 0) (hp : Pos zs x) : Tight zs x (numP (SR zs gs fail eager) x).2.2 ∧ ((numP (SR zs gs fail eager) x).2.2.err = 0 → (numP (SR zs gs fail eager) x).2.2.held = []) := by
  unfold numP
  rw [if_neg (by simp [he])]
  have h := numF_tight (gs := gs) (fail := fail) (eager := eager) hz8 10 [] x C l x.at' (by simp) (by simp) he hx hp.1 (by have := hp.2 he; simpa using this) (Nat.le_refl _)
  exact ⟨⟨h.1.1, h.1.2⟩, h.2⟩
theorem end_tight (hz8 : B8 zs) (x : InS (Nat × Nat)) (C l : Nat) (hx : InOk Prod.fst (fun s : Nat × Nat => zs.length - s.2) (fun s : Nat × Nat => zs.length - s.2) C l x) (he : x.err = 0) (hp : Pos zs x) : Tight zs x (endP (SR zs gs fail eager) x).2.2 ∧ ((endP (SR zs gs fail eager) x).1 = true → (endP (SR zs gs fail eager) x).2.2.s.2 = zs.length ∧ (endP (SR zs gs fail eager) x).2.1 = 0 ∧ (endP (SR zs gs fail eager) x).2.2.held = x.held) ∧ ((endP (SR zs gs fail eager) x).1 = false → (endP (SR zs gs fail eager) x).2.1 = 0 → (endP (SR zs gs fail eager) x).2.2.held.length = 1) ∧ ((endP (SR zs gs fail eager) x).2.1 ≠ 0 → (endP (SR zs gs fail eager) x).2.2.err ≠ 0) := by
  unfold endP
  rw [if_neg (by simp [he])]
  have h0 := hp.2 he
  by_cases hh : x.held ≠ []
  · rw [if_pos hh]
    exact ⟨⟨hp, Nat.le_refl _⟩, fun h => absurd h (by simp), fun _ _ => by have := hx.held1; have := List.length_pos_iff.2 hh; simp only; omega, fun h => absurd rfl h⟩
  · rw [if_neg hh]
    have hh' : x.held = [] := by simpa using hh
    rw [hh'] at h0
    simp only [List.length_nil, Nat.add_zero] at h0
    have hF := src_fill (zs := zs) (gs := gs) (fail := fail) (eager := eager) 1 (17 * (1 - 0) + (16 - x.i)) [] x.s x.i hp.1
    have hO := src_one (zs := zs) (gs := gs) (fail := fail) (eager := eager) (17 * (1 - 0) + (16 - x.i)) x.s x.i hp.1
    have hK : FillOk Prod.fst (fun s : Nat × Nat => zs.length - s.2) (fun s : Nat × Nat => zs.length - s.2) 1 [] x.s x.i (fillA (SR zs gs fail eager) 1 [] x.s x.i) := (src_fam zs gs fail eager 0 0 (fun _ => False) hz8).fill 1 [] x.s x.i (hx.i16 he) (by simp)
    have e1 : fillF (fun k => srcRd zs gs fail eager k) 1 (17 * (1 - 0) + (16 - x.i)) [] x.s x.i = fillA (SR zs gs fail eager) 1 [] x.s x.i := rfl
    rw [e1] at hF hO
    generalize fillA (SR zs gs fail eager) 1 [] x.s x.i = q at *
    by_cases e41 : q.2.1 = 41
    · rw [if_pos e41]
      have h1 := hO (by rw [e41]; decide)
      exact ⟨⟨⟨hF.1, fun _ => by simp only; rw [hh', h1.1]; simpa using h0⟩, Nat.le_refl _⟩, fun _ => ⟨by rw [h1.1]; exact h1.2 e41, rfl, rfl⟩, fun h => absurd h (by simp), fun h => absurd rfl h⟩
    · rw [if_neg e41]
      by_cases e0 : q.2.1 ≠ 0
      · rw [if_pos e0]
        exact ⟨⟨⟨hF.1, fun h => absurd h e0⟩, Nat.le_refl _⟩, fun h => absurd h (by simp), fun _ h => absurd h e0, fun h => h⟩
      · rw [if_neg e0]
        have e0' : q.2.1 = 0 := by simpa using e0
        have h1 := hF.2 e0'
        have h2 := (hK.full e0').1
        refine ⟨⟨⟨hF.1, fun _ => ?_⟩, Nat.le_refl _⟩, fun h => absurd h (by simp), fun _ _ => h2, fun h => absurd rfl h⟩
        simp only [List.length_nil] at h1 ⊢
        omega
end

end Go.Proofs.Ytkginmhfpegkiaa
