/- There and back, as numbers: what is laid and flushed, and read again. -/
import Derived.Test.YteindoemdonagaaG21
namespace Go.Proofs.Yteindoemdonagaa
open Go.RowKit

/-- Of an Out over a sink, whose bytes are all: what was taken, and what waits. -/
structure FT (ts : List Int) (fail : Int) (all : List Int) (x : OutS (Nat × List Int)) : Prop where
  cat : x.t.2 ++ x.b = all
  at0 : x.at' = x.t.2.length
  i16 : x.err = 0 → x.i < 16
  idle : x.err = 0 → x.i ≤ x.t.1 ∧ (0 < x.i → x.t.1 ≤ ts.length)
  bad : x.err ≠ 0 → 1 ≤ fail ∨ 16 ≤ ts.length
theorem idle_pos {i n : Nat} (h : 0 < n) : idleOf i n 0 = 0 := by unfold idleOf; rw [if_pos (.inl h)]
theorem idle_zero {i : Nat} : idleOf i 0 0 = i + 1 := by unfold idleOf; rw [if_neg (by simp)]
theorem told_zero {j : Nat} : toldOf j 0 = 0 ↔ j ≠ 16 := by
  unfold toldOf
  split
  · rename_i h; simp [h]
  · rename_i h; simp [h]
theorem failsAt_fail {fail : Int} {c : Nat} (h : failsAt fail c = true) : 1 ≤ fail := (of_decide_eq_true h).1
theorem take_drop_cat (zs b : List Int) (n : Nat) (h : n ≤ (b.take 4096).length) : zs ++ (b.take 4096).take n ++ b.drop n = zs ++ b := by
  have hn : n ≤ 4096 := by rw [List.length_take] at h; omega
  rw [List.take_take, Nat.min_eq_left hn, List.append_assoc, List.take_append_drop]
theorem push_ft {ts : List Int} {fail : Int} {all : List Int} {x : OutS (Nat × List Int)} (h : FT ts fail all x) : FT ts fail all (pushP (snkWf ts fail) x).2.2 := by
  by_cases hx : x.err ≠ 0 ∨ x.b = []
  · have hp : pushP (snkWf ts fail) x = (0, x.err, x) := by unfold pushP; rw [if_pos hx]
    rw [hp]; exact h
  · have he : x.err = 0 := Classical.byContradiction fun e => hx (.inl e)
    have hb : x.b ≠ [] := fun e => hx (.inr e)
    have hl : 0 < (x.b.take 4096).length := by
      have := List.length_pos_iff.2 hb
      rw [List.length_take]; omega
    have h1 := h.i16 he
    have h2 := h.idle he
    rw [push_step he hb _ rfl]
    unfold snkWf
    split
    · rename_i hf
      have hf1 := failsAt_fail hf
      rw [if_neg (by simp)]
      simp only [Int.toNat_zero, List.drop_zero, Nat.add_zero]
      refine ⟨h.cat, h.at0, fun e => ?_, fun e => ?_, fun _ => .inl hf1⟩
      · simp [idleOf, toldOf] at e
      · simp [idleOf, toldOf] at e
    · have hm := mostN_le ts (x.t.1 + 1) (x.b.take 4096).length
      obtain ⟨n, hn⟩ : ∃ n, n = mostN ts (x.t.1 + 1) (x.b.take 4096).length := ⟨_, rfl⟩
      rw [← hn] at hm ⊢
      have hz : n = 0 → x.t.1 + 1 ≤ ts.length := fun h0 => by
        rw [h0] at hn
        unfold mostN at hn
        split at hn
        · assumption
        · omega
      rw [if_neg (by simp only; omega)]
      simp only [Int.toNat_natCast]
      refine ⟨by simp only; rw [take_drop_cat _ _ _ hm]; exact h.cat, ?_, fun e => ?_, fun e => ?_, fun e => ?_⟩
      · simp only [List.length_append, List.length_take] at hm ⊢
        have := h.at0
        omega
      · have e' := told_zero.1 e
        simp only
        rcases Nat.eq_zero_or_pos n with h0 | h0
        · rw [h0, idle_zero] at e' ⊢
          omega
        · rw [idle_pos h0]
          omega
      · simp only
        rcases Nat.eq_zero_or_pos n with h0 | h0
        · rw [h0, idle_zero]
          have := hz h0
          exact ⟨by omega, fun _ => this⟩
        · rw [idle_pos h0]
          exact ⟨Nat.zero_le _, fun e => by omega⟩
      · rcases Nat.eq_zero_or_pos n with h0 | h0
        · have h16 : x.i + 1 = 16 := Classical.byContradiction fun q => e (told_zero.2 (by rw [h0, idle_zero]; exact q))
          have := hz h0
          exact .inr (by omega)
        · exact absurd (told_zero.2 (by rw [idle_pos h0]; omega)) e
theorem flush_ft {ts : List Int} {fail : Int} {all : List Int} : ∀ (fu : Nat) (x : OutS (Nat × List Int)), FT ts fail all x → FT ts fail all (flushF (snkWf ts fail) fu x)
  | 0, x, h => h
  | fu + 1, x, h => by
    rw [flushF]
    split
    · exact h
    · exact flush_ft fu _ (push_ft h)
/-- A push that tells no error moves bytes, or waits once more. -/
theorem push_less {ts : List Int} {fail : Int} {x : OutS (Nat × List Int)} (he : x.err = 0) (hb : x.b ≠ []) (hi : x.i < 16) (h0 : (pushP (snkWf ts fail) x).2.2.err = 0) :
    17 * (pushP (snkWf ts fail) x).2.2.b.length + (16 - (pushP (snkWf ts fail) x).2.2.i) < 17 * x.b.length + (16 - x.i) := by
  have hl := List.length_pos_iff.2 hb
  rw [push_step he hb _ rfl] at h0 ⊢
  unfold snkWf at h0 ⊢
  split
  · rename_i hf
    rw [if_pos hf, if_neg (by simp)] at h0
    simp [idleOf, toldOf] at h0
  · rename_i hf
    rw [if_neg hf] at h0
    have hm := mostN_le ts (x.t.1 + 1) (x.b.take 4096).length
    generalize mostN ts (x.t.1 + 1) (x.b.take 4096).length = n at *
    rw [if_neg (by simp only; omega)] at h0 ⊢
    simp only [Int.toNat_natCast, List.length_drop] at h0 ⊢
    rw [List.length_take] at hm
    have h0' := told_zero.1 h0
    rcases Nat.eq_zero_or_pos n with hq | hq
    · subst hq
      rw [idle_zero] at h0' ⊢
      omega
    · rw [idle_pos hq]
      omega
theorem flush_end {ts : List Int} {fail : Int} {all : List Int} : ∀ (fu : Nat) (x : OutS (Nat × List Int)), FT ts fail all x → 17 * x.b.length + (16 - x.i) ≤ fu → (flushF (snkWf ts fail) fu x).err = 0 → (flushF (snkWf ts fail) fu x).b = []
  | 0, x, h, hf, he => by
    rw [flushF] at he ⊢
    have := h.i16 he
    omega
  | fu + 1, x, h, hf, he => by
    by_cases hx : x.err ≠ 0 ∨ x.b = []
    · rw [flush_done hx] at he ⊢
      exact hx.resolve_left (fun e => e he)
    · have he0 : x.err = 0 := Classical.byContradiction fun e => hx (.inl e)
      have hb0 : x.b ≠ [] := fun e => hx (.inr e)
      have hfs : flushF (snkWf ts fail) (fu + 1) x = flushF (snkWf ts fail) fu (pushP (snkWf ts fail) x).2.2 := by rw [flushF, if_neg hx]
      rw [hfs] at he ⊢
      by_cases h1 : (pushP (snkWf ts fail) x).2.2.err = 0
      · have := push_less he0 hb0 (h.i16 he0) h1
        exact flush_end fu _ (push_ft h) (by omega) he
      · rw [flush_done (.inl h1)] at he
        exact absurd he h1
/-- What is laid and flushed. -/
theorem trip_flush (ts : List Int) (fail : Int) (all : List Int) :
    FT ts fail all (flushA (snkWf ts fail) ⟨(0, []), all, 0, 0, 0⟩) ∧ ((flushA (snkWf ts fail) ⟨(0, []), all, 0, 0, 0⟩).err = 0 → (flushA (snkWf ts fail) ⟨(0, []), all, 0, 0, 0⟩).b = [] ∧ (flushA (snkWf ts fail) ⟨(0, []), all, 0, 0, 0⟩).t.2 = all) := by
  have h0 : FT ts fail all ⟨(0, []), all, 0, 0, 0⟩ := ⟨rfl, rfl, fun _ => by simp, fun _ => ⟨Nat.le_refl _, fun e => by simp at e⟩, fun e => absurd rfl e⟩
  have h1 := flush_ft (17 * all.length + 16) _ h0
  refine ⟨h1, fun he => ?_⟩
  have h2 := flush_end (17 * all.length + 16) _ h0 (Nat.le_refl _) he
  refine ⟨h2, ?_⟩
  have h3 := h1.cat
  unfold flushA at he ⊢
  simp only at h2 h3 ⊢
  rw [h2, List.append_nil] at h3
  exact h3

end Go.Proofs.Yteindoemdonagaa
