/- foot: Read. -/
import Derived.Test.YtlachimmfjagbaaFRowR
import Derived.Test.YtlachimmfjagbaaFOwnS
import Derived.Test.YtlachimmfjagbaaFCheck
namespace Go.Proofs.Ytlachimmfjagbaa
open Go.RowKit

/-- A list of rows that was read. -/
structure RdL (W : World) (N : Nat) (v : Value) (C : List Spn) : Prop where
  own : OwnS W N v C
  ok : ∀ i (h : i < C.length), OwnB W N 5 C[i].kv C[i].ks
  sep : ∀ i (h : i < C.length) b, C[i].kv.ownBlock = some b → v.ownBlock ≠ some b
  b8 : ∀ i (h : i < C.length), B8 C[i].ks
  gd : Gd (rws C) C.length
  n : C.length ≤ 8388608
theorem RdL.nil (W : World) (N : Nat) : RdL W N (.slice none 0 0) [] :=
  ⟨.inl ⟨rfl, rfl⟩, fun i h => by simp at h, fun i h => by simp at h, fun i h => by simp at h, fun _ h => absurd h (Nat.not_lt_zero _), by simp⟩
theorem RdL.upd {S : Nat → Prop} {W W' : World} {N : Nat} {v : Value} {C : List Spn} (h : RdL W N v C) (hu : Upd S W W') (hs : ∀ i, N ≤ i → i < W.heap.size → ¬ S i) : RdL W' N v C :=
  ⟨h.own.upd hu (fun k hk => hs k (h.own.lt k hk).1 (h.own.lt k hk).2), fun i hi => (h.ok i hi).upd hu (fun k hk => hs k ((h.ok i hi).owns.lt k hk).1 ((h.ok i hi).owns.lt k hk).2), h.sep, h.b8, h.gd, h.n⟩
theorem RdL.below {W W' : World} {N : Nat} {v : Value} {C : List Spn} (h : RdL W N v C) (hb : Below W.heap.size W W') : RdL W' N v C := h.upd (Upd.of_below hb Noth) (fun _ _ _ e => e)
theorem RdL.mono {W : World} {N N' : Nat} {v : Value} {C : List Spn} (h : RdL W N' v C) (hn : N ≤ N') : RdL W N v C :=
  ⟨h.own.mono hn, fun i hi => (h.ok i hi).mono hn, h.sep, h.b8, h.gd, h.n⟩
theorem RdL.sps {W : World} {N : Nat} {v : Value} {C : List Spn} (h : RdL W N v C) : ∃ a b cap, v = .slice a C.length cap ∧ (0 < C.length → a = some ⟨b, 0, none⟩) ∧ Sps W b 0 C := by
  obtain ⟨a, b, cap, h1, h2, h3⟩ := h.own.slice
  refine ⟨a, b, cap, h1, h2, fun i hi => by rw [Nat.zero_add]; exact h3 i hi, fun i hi => ?_⟩
  have o := h.ok i hi
  have g := h.gd.row i hi
  have p := (h.gd.mono (Nat.le_of_lt hi)).pos
  have hn := h.n
  rw [rws_at C i hi] at g
  obtain ⟨g1, _, g3, g4, g5⟩ := g
  obtain ⟨a', c', e1, _, e3, e4⟩ := o.slice
  unfold Spn.kv at e1
  cases e1
  refine ⟨o.row, e3, e4, h.b8 i hi, ?_, ?_, ?_, ?_⟩
  · have : C[i].ks.length ≤ 64 := g1.2
    omega
  · have : C[i].pl = pAt (rws C) i := g3
    unfold I64; omega
  · have : 1 ≤ C[i].ln ∧ C[i].ln ≤ 131072 := g4
    unfold I64; omega
  · have : 1 ≤ C[i].n ∧ C[i].n ≤ 64 := g5
    unfold I64; omega
theorem rws_app (C : List Spn) (c : Spn) : rws (C ++ [c]) = rws C ++ [c.row] := by simp [rws]
/-- A row more. -/
theorem RdL.app {W W' : World} {N : Nat} {v v' : Value} {C : List Spn} {c : Spn} (h : RdL W N v C) (hc : OwnB W N 5 c.kv c.ks) (hcv : ∀ b, c.kv.ownBlock = some b → v.ownBlock ≠ some b) (c8 : B8 c.ks) (hg : flt (kAt (rws C) C.length) (pAt (rws C) C.length) c.row = 0) (hn : C.length + 1 ≤ 8388608) (ho : OwnS W' N v' (C ++ [c])) (hgr : W.grownBy W' v.ownBlock) (hv' : ∀ k, v'.ownBlock = some k → v.ownBlock = some k ∨ W.heap.size ≤ k) : RdL W' N v' (C ++ [c]) := by
  have kp : ∀ {u : Value} {zs : List Int}, OwnB W N 5 u zs → (∀ b, u.ownBlock = some b → v.ownBlock ≠ some b) → OwnB W' N 5 u zs ∧ ∀ b, u.ownBlock = some b → v'.ownBlock ≠ some b := fun hu hs => ⟨hu.kept hgr (fun k hk e => hs k hk e.symm), fun b hb e => by
    rcases hv' b e with q | q
    · exact hs b hb q
    · have := (hu.owns.lt b hb).2; omega⟩
  have hlast : ∀ i, i < (C ++ [c]).length → ¬ i < C.length → i = C.length := fun i hi q => by rw [List.length_append, List.length_singleton] at hi; omega
  refine ⟨ho, fun i hi => ?_, fun i hi => ?_, fun i hi => ?_, ?_, by simp; omega⟩
  · by_cases q : i < C.length
    · rw [List.getElem_append_left q]; exact (kp (h.ok i q) (h.sep i q)).1
    · obtain rfl := hlast i hi q
      simp only [List.getElem_append_right (Nat.le_refl _), Nat.sub_self, List.getElem_cons_zero]
      exact (kp hc hcv).1
  · by_cases q : i < C.length
    · rw [List.getElem_append_left q]; exact (kp (h.ok i q) (h.sep i q)).2
    · obtain rfl := hlast i hi q
      simp only [List.getElem_append_right (Nat.le_refl _), Nat.sub_self, List.getElem_cons_zero]
      exact (kp hc hcv).2
  · by_cases q : i < C.length
    · rw [List.getElem_append_left q]; exact h.b8 i q
    · obtain rfl := hlast i hi q
      simp only [List.getElem_append_right (Nat.le_refl _), Nat.sub_self, List.getElem_cons_zero]
      exact c8
  · have hl := rws_len C
    rw [rws_app]
    have g := h.gd
    rw [← hl] at g hg
    have := Gd.app g hg
    rw [List.length_append, List.length_singleton, hl] at this
    rw [List.length_append, List.length_singleton]
    exact this

/-- What Read answers. -/
def FRdPost (w : World) (zs : List Int) (e : Ending) (w' : World) : Prop :=
  ∃ v C, e = .returned (.tuple #[v, .int .i64 (rdF zs).2.1, .int .i64 ((rdF zs).2.2 : Nat)]) ∧ RdL w' w.heap.size v C ∧ rws C = (rdF zs).1 ∧ Below w.heap.size w w'
theorem rd_err {w w' : World} {zs : List Int} {E : Int} {Q : Nat} (h : rdF zs = ([], E, Q)) (hb : Below w.heap.size w w') : FRdPost w zs (.returned (.tuple #[.slice none 0 0, .int .i64 E, .int .i64 (Q : Int)])) w' :=
  ⟨_, [], by rw [h], RdL.nil _ _, by rw [h]; rfl, hb⟩
/-- Between two rounds of Read. -/
structure RdI (w4 wr : World) (g gt g2 g3 : Nat) (zs : List Int) (v : Value) (C : List Spn) (f p : Nat) : Prop where
  up : Upd (fun b => b = g) w4 wr
  ah : ∃ aa la ca p' q' z pk, Ahd wr g aa la ca p' q' z pk ∧ pk = kAt (rws C) C.length ∧ ((p' + q' : Nat) : Int) = pAt (rws C) C.length
  li : RdL wr w4.heap.size v C
  rd : rdF zs = rdG zs f p (rws C)

end Go.Proofs.Ytlachimmfjagbaa
