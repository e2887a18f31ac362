/- What the law's spoil turns: the node's own blocks alone. -/
import Derived.Test.YtclgimklfejohaaNClone2
namespace Go.Proofs.Ytclgimklfejohaa
open Go.RowKit

theorem isByte_setN {cur : Array Value} (h : ∀ u ∈ cur.toList, IsByte u) (k : Nat) (x : Int) : ∀ u ∈ (cur.setIfInBounds k (.int .u8 x)).toList, IsByte u := by
  intro u hu
  rw [Array.toList_setIfInBounds] at hu
  rcases List.mem_or_eq_of_mem_set hu with h1 | h1
  · exact h u h1
  · exact ⟨x, h1⟩
/-- A text in a block of bytes of one's own. -/
def Bk (W : World) (N M : Nat) (a : Option Addr) (l : Nat) : Prop := l ≤ 140737488355328 ∧ (l = 0 ∨ ∃ g cur, a = some ⟨g, 0, none⟩ ∧ (N ≤ g ∧ g < M) ∧ W.heap[g]? = some (.cells cur 5 (0, 0)) ∧ l ≤ cur.size ∧ ∀ u ∈ cur.toList, IsByte u)
def TBk (W : World) (N M : Nat) (a : Option Addr) (l : Nat) : Prop := l ≤ 140737488355328 ∧ (l = 0 ∨ ∃ g cur, a = some ⟨g, 0, none⟩ ∧ (N ≤ g ∧ g < M) ∧ W.heap[g]? = some (.cells cur 22 (0, 0)) ∧ l ≤ cur.size ∧ ∀ i, i < l → ∃ a' l' c', cur[i]? = some (.slice a' l' c') ∧ Bk W N M a' l')
def IBk (W : World) (N M : Nat) (a : Option Addr) (l : Nat) : Prop := l ≤ 140737488355328 ∧ (l = 0 ∨ ∃ g cur, a = some ⟨g, 0, none⟩ ∧ (N ≤ g ∧ g < M) ∧ W.heap[g]? = some (.cells cur 3 (0, 0)) ∧ l ≤ cur.size ∧ ∀ i, i < l → ∃ x, cur[i]? = some (.int .i64 x))
section
variable {W : World} {N M g k l : Nat} {a : Option Addr} {cur : Array Value} {u : Value} {T : TypeId}
theorem Bk.byte (h : Bk W N M a l) (hg : W.heap[g]? = some (.cells cur 5 (0, 0))) (hb : ∀ u ∈ cur.toList, IsByte u) (x : Int) : Bk (W.setCell ⟨g, k, none⟩ (.int .u8 x)) N M a l := by
  refine ⟨h.1, h.2.imp id ?_⟩
  rintro ⟨g', cur', h1, h2, h4, h5, h6⟩
  by_cases e : g' = g
  · subst e
    rw [hg] at h4
    cases h4
    exact ⟨g', _, h1, h2, block_setCell hg k _, by rw [Array.size_setIfInBounds]; exact h5, isByte_setN hb k x⟩
  · exact ⟨g', cur', h1, h2, (Below.heap_setCell _ _ _ _ e).trans h4, h5, h6⟩
theorem Bk.other (h : Bk W N M a l) (hg : W.heap[g]? = some (.cells cur T (0, 0))) (hT : T ≠ 5) : Bk (W.setCell ⟨g, k, none⟩ u) N M a l := by
  refine ⟨h.1, h.2.imp id ?_⟩
  rintro ⟨g', cur', h1, h2, h4, h5, h6⟩
  have e : g' ≠ g := fun e => by rw [e, hg] at h4; simp only [Option.some.injEq, Obj.cells.injEq] at h4; exact hT h4.2.1
  exact ⟨g', cur', h1, h2, (Below.heap_setCell _ _ _ _ e).trans h4, h5, h6⟩
theorem TBk.byte (h : TBk W N M a l) (hg : W.heap[g]? = some (.cells cur 5 (0, 0))) (hb : ∀ u ∈ cur.toList, IsByte u) (x : Int) : TBk (W.setCell ⟨g, k, none⟩ (.int .u8 x)) N M a l := by
  refine ⟨h.1, h.2.imp id ?_⟩
  rintro ⟨g', cur', h1, h2, h4, h5, h6⟩
  have e : g' ≠ g := fun e => by rw [e, hg] at h4; simp at h4
  refine ⟨g', cur', h1, h2, (Below.heap_setCell _ _ _ _ e).trans h4, h5, fun i hi => ?_⟩
  obtain ⟨a', l', c', q1, q2⟩ := h6 i hi
  exact ⟨a', l', c', q1, q2.byte hg hb x⟩
theorem TBk.nil (h : TBk W N M a l) (hg : W.heap[g]? = some (.cells cur 22 (0, 0))) : TBk (W.setCell ⟨g, k, none⟩ (.slice none 0 0)) N M a l := by
  refine ⟨h.1, h.2.imp id ?_⟩
  rintro ⟨g', cur', h1, h2, h4, h5, h6⟩
  have q : ∀ a' l', Bk W N M a' l' → Bk (W.setCell ⟨g, k, none⟩ (.slice none 0 0)) N M a' l' := fun a' l' h => h.other hg (by decide)
  by_cases e : g' = g
  · subst e
    rw [hg] at h4
    cases h4
    refine ⟨g', _, h1, h2, block_setCell hg k _, by rw [Array.size_setIfInBounds]; exact h5, fun i hi => ?_⟩
    by_cases e : k = i
    · subst e
      exact ⟨none, 0, 0, by rw [Array.getElem?_setIfInBounds_self_of_lt (by omega)], Nat.zero_le _, .inl rfl⟩
    · obtain ⟨a', l', c', q1, q2⟩ := h6 i hi
      exact ⟨a', l', c', by rw [Array.getElem?_setIfInBounds_ne e]; exact q1, q _ _ q2⟩
  · refine ⟨g', cur', h1, h2, (Below.heap_setCell _ _ _ _ e).trans h4, h5, fun i hi => ?_⟩
    obtain ⟨a', l', c', q1, q2⟩ := h6 i hi
    exact ⟨a', l', c', q1, q _ _ q2⟩
theorem TBk.other (h : TBk W N M a l) (hg : W.heap[g]? = some (.cells cur T (0, 0))) (hT : T ≠ 5) (hT2 : T ≠ 22) : TBk (W.setCell ⟨g, k, none⟩ u) N M a l := by
  refine ⟨h.1, h.2.imp id ?_⟩
  rintro ⟨g', cur', h1, h2, h4, h5, h6⟩
  have e : g' ≠ g := fun e => by rw [e, hg] at h4; simp only [Option.some.injEq, Obj.cells.injEq] at h4; exact hT2 h4.2.1
  refine ⟨g', cur', h1, h2, (Below.heap_setCell _ _ _ _ e).trans h4, h5, fun i hi => ?_⟩
  obtain ⟨a', l', c', q1, q2⟩ := h6 i hi
  exact ⟨a', l', c', q1, q2.other hg hT⟩
theorem IBk.int (h : IBk W N M a l) (hg : W.heap[g]? = some (.cells cur 3 (0, 0))) (x : Int) : IBk (W.setCell ⟨g, k, none⟩ (.int .i64 x)) N M a l := by
  refine ⟨h.1, h.2.imp id ?_⟩
  rintro ⟨g', cur', h1, h2, h4, h5, h6⟩
  by_cases e : g' = g
  · subst e
    rw [hg] at h4
    cases h4
    refine ⟨g', _, h1, h2, block_setCell hg k _, by rw [Array.size_setIfInBounds]; exact h5, fun i hi => ?_⟩
    by_cases e : k = i
    · subst e
      exact ⟨x, by rw [Array.getElem?_setIfInBounds_self_of_lt (by omega)]⟩
    · rw [Array.getElem?_setIfInBounds_ne e]; exact h6 i hi
  · exact ⟨g', cur', h1, h2, (Below.heap_setCell _ _ _ _ e).trans h4, h5, h6⟩
theorem IBk.other (h : IBk W N M a l) (hg : W.heap[g]? = some (.cells cur T (0, 0))) (hT : T ≠ 3) : IBk (W.setCell ⟨g, k, none⟩ u) N M a l := by
  refine ⟨h.1, h.2.imp id ?_⟩
  rintro ⟨g', cur', h1, h2, h4, h5, h6⟩
  have e : g' ≠ g := fun e => by rw [e, hg] at h4; simp only [Option.some.injEq, Obj.cells.injEq] at h4; exact hT h4.2.1
  exact ⟨g', cur', h1, h2, (Below.heap_setCell _ _ _ _ e).trans h4, h5, h6⟩
end

/-- While spoil works. -/
structure SpS (w W : World) (N M B : Nat) (lv ri : Int) (ha ka va ca : Option Addr) (hc kc vc cc lh lk lw lc : Nat) : Prop where
  box : W.heap[B]? = some (.cells #[.int .i64 lv, .slice ha lh hc, .int .i64 ri, .slice ka lk kc, .slice va lw vc, .slice ca lc cc] 30 (0, 0))
  h : Bk W N M ha lh
  k : TBk W N M ka lk
  v : TBk W N M va lw
  c : IBk W N M ca lc
  up : Upd (fun b => N ≤ b ∧ b < M) w W
section
variable {w W : World} {N M B : Nat} {lv ri : Int} {ha ka va ca : Option Addr} {hc kc vc cc lh lk lw lc g k : Nat} {cur : Array Value}
theorem SpS.byte (s : SpS w W N M B lv ri ha ka va ca hc kc vc cc lh lk lw lc) (hN : N ≤ g ∧ g < M) (hg : W.heap[g]? = some (.cells cur 5 (0, 0))) (hb : ∀ u ∈ cur.toList, IsByte u) (x : Int) : SpS w (W.setCell ⟨g, k, none⟩ (.int .u8 x)) N M B lv ri ha ka va ca hc kc vc cc lh lk lw lc :=
  ⟨(Below.heap_setCell _ _ _ _ (fun e => by have := s.box; rw [e, hg] at this; simp at this)).trans s.box, s.h.byte hg hb x, s.k.byte hg hb x, s.v.byte hg hb x, s.c.other hg (by decide), s.up.trans ((Upd.refl _ W).setCell _ _ (fun _ => hN))⟩
theorem SpS.nil (s : SpS w W N M B lv ri ha ka va ca hc kc vc cc lh lk lw lc) (hN : N ≤ g ∧ g < M) (hg : W.heap[g]? = some (.cells cur 22 (0, 0))) : SpS w (W.setCell ⟨g, k, none⟩ (.slice none 0 0)) N M B lv ri ha ka va ca hc kc vc cc lh lk lw lc :=
  ⟨(Below.heap_setCell _ _ _ _ (fun e => by have := s.box; rw [e, hg] at this; simp at this)).trans s.box, s.h.other hg (by decide), s.k.nil hg, s.v.nil hg, s.c.other hg (by decide), s.up.trans ((Upd.refl _ W).setCell _ _ (fun _ => hN))⟩
theorem SpS.int (s : SpS w W N M B lv ri ha ka va ca hc kc vc cc lh lk lw lc) (hN : N ≤ g ∧ g < M) (hg : W.heap[g]? = some (.cells cur 3 (0, 0))) (x : Int) : SpS w (W.setCell ⟨g, k, none⟩ (.int .i64 x)) N M B lv ri ha ka va ca hc kc vc cc lh lk lw lc :=
  ⟨(Below.heap_setCell _ _ _ _ (fun e => by have := s.box; rw [e, hg] at this; simp at this)).trans s.box, s.h.other hg (by decide), s.k.other hg (by decide) (by decide), s.v.other hg (by decide) (by decide), s.c.int hg x, s.up.trans ((Upd.refl _ W).setCell _ _ (fun _ => hN))⟩
end
theorem bk_own {W : World} {N : Nat} {x : Tx} (h : OwnB W N 5 x.v x.s) (hz : x.s.length ≤ 140737488351232) : Bk W N W.heap.size x.a x.s.length := by
  refine ⟨by omega, ?_⟩
  rcases h with ⟨_, h2⟩ | ⟨g, c, cur, hv, hN, hh, h1, _, h3, _, h5⟩
  · left; rw [h2]; rfl
  · right
    simp only [Tx.v, Value.slice.injEq] at hv
    exact ⟨g, cur, hv.1, ⟨hN, lt_of_block hh⟩, hh, by omega, h5⟩
theorem tbk_own {W : World} {N : Nat} {t : TL} (h : t.Own W N) (hz : t.L.length * 24 ≤ 140737488352000) : TBk W N W.heap.size t.a t.L.length := by
  refine ⟨by omega, ?_⟩
  have hr := h.row
  rcases hr.2 with ⟨_, h0⟩ | ⟨g, c, cur, hv, hN, hh, h1, _, h3, h4⟩
  · exact .inl h0
  · right
    simp only [TL.v, Value.slice.injEq] at hv
    refine ⟨g, cur, hv.1, ⟨hN, lt_of_block hh⟩, hh, by omega, fun i hi => ?_⟩
    refine ⟨t.L[i].a, t.L[i].s.length, t.L[i].c, ?_, bk_own (h.each _ (List.getElem_mem hi)) (h.b8 _ (List.getElem_mem hi)).2⟩
    have : (cur.toList.take (t.L.length * 1))[i]? = some t.L[i].v := by rw [h4]; simp [hi]
    rw [List.getElem?_take, if_pos (by omega)] at this
    simpa [Tx.v] using this
theorem ibk_own {W : World} {N : Nat} {t : IL} (h : W.ownsRow N 3 1 t.v t.s.length (t.s.map (Value.int .i64))) (hz : t.s.length * 8 ≤ 140737488352000) : IBk W N W.heap.size t.a t.s.length := by
  refine ⟨by omega, ?_⟩
  rcases h.2 with ⟨_, h0⟩ | ⟨g, c, cur, hv, hN, hh, h1, _, h3, h4⟩
  · exact .inl h0
  · right
    simp only [IL.v, Value.slice.injEq] at hv
    refine ⟨g, cur, hv.1, ⟨hN, lt_of_block hh⟩, hh, by omega, fun i hi => ⟨t.s[i], ?_⟩⟩
    have : (cur.toList.take (t.s.length * 1))[i]? = some (.int .i64 t.s[i]) := by rw [h4]; simp [hi]
    rw [List.getElem?_take, if_pos (by omega)] at this
    simpa using this
/-- In another world, where its blocks are as they were. -/
theorem Bk.move {W W' : World} {N M : Nat} {a : Option Addr} {l : Nat} (h : Bk W N M a l) (hb : ∀ b, N ≤ b → b < M → W'.heap[b]? = W.heap[b]?) : Bk W' N M a l := by
  refine ⟨h.1, h.2.imp id ?_⟩
  rintro ⟨g', cur', h1, h2, h4, h5, h6⟩
  exact ⟨g', cur', h1, h2, (hb _ h2.1 h2.2).trans h4, h5, h6⟩
theorem TBk.move {W W' : World} {N M : Nat} {a : Option Addr} {l : Nat} (h : TBk W N M a l) (hb : ∀ b, N ≤ b → b < M → W'.heap[b]? = W.heap[b]?) : TBk W' N M a l := by
  refine ⟨h.1, h.2.imp id ?_⟩
  rintro ⟨g', cur', h1, h2, h4, h5, h6⟩
  refine ⟨g', cur', h1, h2, (hb _ h2.1 h2.2).trans h4, h5, fun i hi => ?_⟩
  obtain ⟨a', l', c', q1, q2⟩ := h6 i hi
  exact ⟨a', l', c', q1, q2.move hb⟩
theorem IBk.move {W W' : World} {N M : Nat} {a : Option Addr} {l : Nat} (h : IBk W N M a l) (hb : ∀ b, N ≤ b → b < M → W'.heap[b]? = W.heap[b]?) : IBk W' N M a l := by
  refine ⟨h.1, h.2.imp id ?_⟩
  rintro ⟨g', cur', h1, h2, h4, h5, h6⟩
  exact ⟨g', cur', h1, h2, (hb _ h2.1 h2.2).trans h4, h5, h6⟩
/-- A node that may be spoiled: all that it has lies in blocks from N to M. -/
structure Spo (W : World) (N M : Nat) (n : Nd) : Prop where
  h : Bk W N M n.hi.a n.hi.s.length
  k : TBk W N M n.ks.a n.ks.L.length
  v : TBk W N M n.vs.a n.vs.L.length
  c : IBk W N M n.cs.a n.cs.s.length
theorem Nd.Own.spo {W : World} {N : Nat} {n : Nd} (h : n.Own W N) : Spo W N W.heap.size n := ⟨bk_own h.h h.hb.2, tbk_own h.k h.kz, tbk_own h.v h.vz, ibk_own h.c h.cz⟩
theorem Spo.move {W W' : World} {N M : Nat} {n : Nd} (h : Spo W N M n) (hb : ∀ b, N ≤ b → b < M → W'.heap[b]? = W.heap[b]?) : Spo W' N M n := ⟨h.h.move hb, h.k.move hb, h.v.move hb, h.c.move hb⟩
theorem Spo.below {W W' : World} {N M : Nat} {n : Nd} (h : Spo W N M n) (hM : M ≤ W.heap.size) (hb : Below W.heap.size W W') : Spo W' N M n := h.move fun b _ h2 => hb.block b (by omega)

end Go.Proofs.Ytclgimklfejohaa
