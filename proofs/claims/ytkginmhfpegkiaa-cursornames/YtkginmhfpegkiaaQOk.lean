/- What is known of an In behind each call. No program is named here. -/
import Derived.Test.YtkginmhfpegkiaaQNum
namespace Go.Proofs.Ytkginmhfpegkiaa
open Go.RowKit

section
variable {σ : Type} {RD : Nat → σ → Int × Int × List Int × σ} {cnt m vol : σ → Nat} {f : FuncId} {recv : Value} {B : Nat} {Rd : World → σ → (Nat → Prop) → Prop}
theorem InOk.mono {C C' l : Nat} {x : InS σ} (h : InOk cnt m vol C l x) (hC : C ≤ C') : InOk cnt m vol C' l x :=
  ⟨h.held1, h.b8, h.i16, fun e => Nat.le_trans (h.pot e) hC, h.lim, h.vo, h.atl⟩
theorem TakeOk.ended {C l n : Nat} {x : InS σ} {q : List Int × Int × InS σ} (h : TakeOk cnt m vol C l n x q) (hx : InOk cnt m vol C l x) (C' : Nat) (e : Int) (he : e ≠ 0) (L : Nat) (hL : l ≤ L) : InOk cnt m vol C' L (q.2.2.ends e) :=
  ⟨h.held1, h.b8, fun h => absurd h he, fun h => absurd h he, fun h => absurd h he, fun h => absurd h he, by have := hx.atl; have := h.at1; simp only [InS.ends]; omega⟩
theorem TakeOk.gone {C l n : Nat} {x : InS σ} {q : List Int × Int × InS σ} (h : TakeOk cnt m vol C l n x q) (hx : InOk cnt m vol C l x) (he : x.err = 0) (h0 : q.2.1 = 0) (k : Nat) : InOk cnt m vol (C + 17) (l + k) (q.2.2.goes (n + k)) := by
  have h1 := h.inOk hx he h0
  have h2 := (h.ok h0).2.2.2.1
  have h3 := hx.lim he
  have h4 := h.at1
  have h5 := (h.ok h0).2.2.2.2
  exact ⟨h1.held1, h1.b8, h1.i16, h1.pot, fun _ => by simp only [InS.goes]; omega, h1.vo, by simp only [InS.goes]; omega⟩

theorem ask_lt {k : Nat} {s : σ} {i : Nat} (hi : i < 16) (h : (ask1 RD k s i).2.1 ≠ 33) : (ask1 RD k s i).2.2.2 < 16 := by
  unfold ask1 at *
  by_cases hb : (RD k s).1 < 0 ∨ (k : Int) < (RD k s).1
  · rw [if_pos hb]; exact hi
  · rw [if_neg hb] at *
    have h2 : idleOf i (RD k s).1.toNat (RD k s).2.1 ≤ i + 1 := by unfold idleOf; split <;> omega
    have h3 : idleOf i (RD k s).1.toNat (RD k s).2.1 ≠ 16 := fun e => h (by simp only [toldOf]; rw [if_pos e])
    simp only
    omega
theorem fill_lt (n : Nat) (H : ∀ k s i, 1 ≤ k → k ≤ 4096 → AskOk cnt m vol k s i (ask1 RD k s i)) : ∀ (fu : Nat) (b : List Int) (s : σ) (i : Nat), i < 16 → (fillF RD n fu b s i).2.1 ≠ 33 → (fillF RD n fu b s i).2.2.2 < 16
  | 0, b, s, i, hi, _ => hi
  | fu + 1, b, s, i, hi, h => by
    by_cases hn : n ≤ b.length
    · rw [fillF, if_pos hn]; exact hi
    · have hA := H (min (n - b.length) 4096) s i (by omega) (by omega)
      have hL := fun h => ask_lt (RD := RD) (k := min (n - b.length) 4096) (s := s) (i := i) hi h
      rw [fill_step _ rfl (Nat.succ_pos _) hn] at h ⊢
      generalize ask1 RD (min (n - b.length) 4096) s i = q at *
      by_cases hx : n ≤ b.length + q.1.length
      · rw [if_pos hx]
        have hne : q.1 ≠ [] := fun e => by rw [e] at hx; simp at hx; omega
        have := hA.i0 hne
        simp only
        omega
      · rw [if_neg hx] at h ⊢
        by_cases e31 : q.2.1 = 31
        · rw [if_pos e31]; exact hL (by rw [e31]; decide)
        · rw [if_neg e31] at h ⊢
          by_cases e0 : q.2.1 ≠ 0
          · rw [if_pos e0] at h ⊢; exact hL h
          · rw [if_neg e0] at h ⊢
            exact fill_lt n H _ _ _ _ (hL (by rw [show q.2.1 = 0 from by simpa using e0]; decide)) h
theorem RFam.fill41 (X : RFam RD cnt m vol f recv B Rd) (n : Nat) (b : List Int) (s : σ) (i : Nat) (hi : i < 16) (h : (fillA RD n b s i).2.1 = 41) : (fillA RD n b s i).2.2.2 < 16 :=
  fill_lt n (fun k s i h1 h2 => ask_ok (X.R k h1 h2) (fun s => X.vol k s h1 h2) s i) _ b s i hi (by unfold fillA at h; rw [h]; decide)

theorem bytes_ok (X : RFam RD cnt m vol f recv B Rd) (n : Int) (x : InS σ) (C l : Nat) (hx : InOk cnt m vol C l x) : InOk cnt m vol (C + 200) l (bytesP RD n x).2.2 := by
  unfold bytesP
  by_cases he : x.err ≠ 0
  · rw [if_pos he]; exact hx.mono (by omega)
  · rw [if_neg he]
    have he' : x.err = 0 := by simpa using he
    split
    · exact hx.mono (by omega)
    · have hT := take_ok X n.toNat x C l hx he'
      split
      · rename_i h; exact hT.ended hx _ _ h _ (Nat.le_refl _)
      · rename_i h; exact (hT.gone hx he' (by simpa using h) 0).mono (by omega)
theorem byte_ok (X : RFam RD cnt m vol f recv B Rd) (x : InS σ) (C l : Nat) (hx : InOk cnt m vol C l x) : InOk cnt m vol (C + 200) l (byteP RD x).2.2 := by
  unfold byteP
  by_cases he : x.err ≠ 0
  · rw [if_pos he]; exact hx.mono (by omega)
  · rw [if_neg he]
    have he' : x.err = 0 := by simpa using he
    have hT := take_ok X 1 x C l hx he'
    split
    · rename_i h; exact hT.ended hx _ _ h _ (Nat.le_refl _)
    · rename_i h; exact (hT.gone hx he' (by simpa using h) 0).mono (by omega)
theorem numF_ok (X : RFam RD cnt m vol f recv B Rd) : ∀ (fu : Nat) (zs : List Int) (x : InS σ) (C l : Nat), fu + zs.length = 10 → zs.length ≤ 9 → x.err = 0 → InOk cnt m vol C l x → InOk cnt m vol (C + 17 * fu) (l + zs.length) (numF RD fu zs x).2.2
  | 0, zs, x, C, l, h1, h2, he, hx => absurd h1 (by omega)
  | fu + 1, zs, x, C, l, h1, h2, he, hx => by
    have hT := take_ok X 1 x C l hx he
    rw [num_step _ rfl (Nat.succ_pos _)]
    generalize takeP RD 1 x = q at *
    by_cases h0 : q.2.1 ≠ 0
    · rw [if_pos h0]
      exact hT.ended hx _ _ h0 _ (by omega)
    · rw [if_neg h0]
      have h0' : q.2.1 = 0 := by simpa using h0
      by_cases hf : faultOf zs.length (q.1.getD 0 0) ≠ 0
      · rw [if_pos hf]
        exact hT.ended hx _ _ hf _ (by omega)
      · rw [if_neg hf]
        by_cases hc : q.1.getD 0 0 < 128
        · rw [if_pos hc]
          have := hT.gone hx he h0' zs.length
          rw [Nat.add_comm 1] at this
          exact this.mono (by omega)
        · rw [if_neg hc]
          have hz : zs.length ≠ 9 := fun e => hf (by
            rw [e]
            unfold faultOf
            rw [if_pos ⟨rfl, by omega⟩]
            decide)
          have h3 := hT.inOk hx he h0'
          have h4 := (hT.ok h0').2.2.2.1
          have h5 := hx.lim he
          have ih := numF_ok X fu (zs ++ [q.1.getD 0 0]) q.2.2 (C + 17) (l - 1) (by simp; omega) (by simp; omega) (by rw [hT.err1]; exact he) h3
          have e1 : l - 1 + (zs ++ [q.1.getD 0 0]).length = l + zs.length := by simp; omega
          rw [e1] at ih
          exact ih.mono (by omega)
theorem num_ok (X : RFam RD cnt m vol f recv B Rd) (x : InS σ) (C l : Nat) (hx : InOk cnt m vol C l x) : InOk cnt m vol (C + 200) l (numP RD x).2.2 := by
  unfold numP
  by_cases he : x.err ≠ 0
  · rw [if_pos he]; exact hx.mono (by omega)
  · rw [if_neg he]
    exact (numF_ok X 10 [] x C l (by simp) (by simp) (by simpa using he) hx).mono (by omega)
theorem end_ok (X : RFam RD cnt m vol f recv B Rd) (x : InS σ) (C l : Nat) (hx : InOk cnt m vol C l x) : InOk cnt m vol (C + 200) l (endP RD x).2.2 := by
  unfold endP
  by_cases he : x.err ≠ 0
  · rw [if_pos he]; exact hx.mono (by omega)
  · rw [if_neg he]
    have he' : x.err = 0 := by simpa using he
    by_cases hh : x.held ≠ []
    · rw [if_pos hh]; exact hx.mono (by omega)
    · rw [if_neg hh]
      have hh' : x.held = [] := by simpa using hh
      have hF := X.fill 1 [] x.s x.i (hx.i16 he') (by simp)
      have hF41 := X.fill41 1 [] x.s x.i (hx.i16 he')
      have h1 := hF.pot
      have h2 := hF.vol
      have h3 := hx.pot he'
      have h4 := hx.lim he'
      have h5 := hx.vo he'
      have h6 := hx.atl
      rw [hh'] at h5
      simp only [List.length_nil] at h2 h5
      generalize fillA RD 1 [] x.s x.i = q at *
      by_cases e41 : q.2.1 = 41
      · rw [if_pos e41]
        exact ⟨hx.held1, hx.b8, fun _ => hF41 e41, fun _ => by simp only; omega, fun _ => h4, fun _ => by simp only; rw [hh']; simp only [List.length_nil]; omega, h6⟩
      · rw [if_neg e41]
        by_cases e0 : q.2.1 ≠ 0
        · rw [if_pos e0]
          exact ⟨hx.held1, hx.b8, fun h => absurd h e0, fun h => absurd h e0, fun h => absurd h e0, fun h => absurd h e0, h6⟩
        · rw [if_neg e0]
          have e0' : q.2.1 = 0 := by simpa using e0
          have h7 := hF.full e0'
          exact ⟨by simp only; omega, hF.b8 b8_nil, fun _ => h7.2, fun _ => by simp only; omega, fun _ => h4, fun _ => by simp only; omega, h6⟩
end

end Go.Proofs.Ytkginmhfpegkiaa
