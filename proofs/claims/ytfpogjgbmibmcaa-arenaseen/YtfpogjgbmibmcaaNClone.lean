/- node: cloneTexts, Clone. -/
import Derived.Test.YtfpogjgbmibmcaaNList
import Derived.Test.YtfpogjgbmibmcaaNFind
namespace Go.Proofs.Ytfpogjgbmibmcaa
open Go.RowKit

/-- A list of texts of one's own: its row, and each text's. -/
structure TL.Own (W : World) (N : Nat) (t : TL) : Prop where
  row : W.ownsRow N 29 1 t.v t.L.length (t.L.map Tx.v)
  each : ∀ x ∈ t.L, OwnB W N 5 x.v x.s
  b8 : ∀ x ∈ t.L, B8 x.s ∧ x.s.length ≤ 140737488351232
theorem ownB_ok {W : World} {N : Nat} {x : Tx} (h : OwnB W N 5 x.v x.s) (h8 : B8 x.s) (hz : x.s.length ≤ 140737488351232) : x.Ok W := by
  obtain ⟨a, c, hv, hr, hn, hlc⟩ := h.slice
  obtain ⟨xa, xc, xs⟩ := x
  simp only [Tx.v, Value.slice.injEq, true_and] at hv
  obtain ⟨rfl, rfl⟩ := hv
  exact ⟨hr, hn, hlc, h8, hz⟩
theorem vok_tl {W : World} {t : TL} (h : VOk W t.a t.c (t.L.map Tx.v)) (hok : ∀ x ∈ t.L, x.Ok W) : t.Ok W := by
  refine ⟨fun i hi => ?_, hok, fun e => by have := h.n e; rw [List.length_map] at this; exact this, by have := h.lc; rwa [List.length_map] at this⟩
  obtain ⟨b, o, ha, hc⟩ := h.r i (by rw [List.length_map]; exact hi)
  exact ⟨b, o, ha, by rw [hc, List.getElem_map]⟩
theorem TL.Ok.vok {W : World} {t : TL} (h : t.Ok W) : VOk W t.a t.c (t.L.map Tx.v) := by
  refine ⟨fun i hi => ?_, fun e => by rw [List.length_map]; exact h.n e, by rw [List.length_map]; exact h.lc⟩
  obtain ⟨b, o, ha, hc⟩ := h.r i (by rwa [List.length_map] at hi)
  exact ⟨b, o, ha, by rw [hc, List.getElem_map]⟩
theorem tx_slices (L : List Tx) : ∀ u ∈ L.map Tx.v, ∃ xa xn xc, u = .slice xa xn xc := by
  intro u hu
  obtain ⟨x, _, rfl⟩ := List.mem_map.1 hu
  exact ⟨_, _, _, rfl⟩
theorem TL.Own.ok {W : World} {N : Nat} {t : TL} (h : t.Own W N) : t.Ok W := by
  obtain ⟨a, c, hv, hok, _⟩ := vok_of_owns h.row
  simp only [TL.v, Value.slice.injEq, true_and] at hv
  obtain ⟨rfl, rfl⟩ := hv
  exact vok_tl hok fun x hx => ownB_ok (h.each x hx) (h.b8 x hx).1 (h.b8 x hx).2
theorem TL.Own.below {W W' : World} {N : Nat} {t : TL} (h : t.Own W N) (hb : Below W.heap.size W W') : t.Own W' N :=
  ⟨owns_below h.row hb, fun x hx => (h.each x hx).below hb, h.b8⟩
theorem TL.Own.mono {W : World} {N M : Nat} {t : TL} (h : t.Own W N) (hb : M ≤ N) : t.Own W M :=
  ⟨owns_mono h.row hb, fun x hx => (h.each x hx).mono hb, h.b8⟩
theorem TL.Own.upd {W W' : World} {N : Nat} {S : Nat → Prop} {t : TL} (h : t.Own W N) (hb : Upd S W W') (hs : ∀ b, N ≤ b → b < W.heap.size → ¬ S b) : t.Own W' N :=
  ⟨owns_upd h.row hb (fun k hk => hs k (h.row.lt k hk).1 (h.row.lt k hk).2), fun x hx => (h.each x hx).upd hb (fun k hk => hs k ((h.each x hx).owns.lt k hk).1 ((h.each x hx).owns.lt k hk).2), h.b8⟩
theorem own_setV {w : World} {base g n cap : Nat} {e : TypeId} {xs : List Value} (h : w.ownsRow base e 1 (.slice (some ⟨g, 0, none⟩) n cap) n xs) (j : Nat) (u : Value) :
    (w.setCell ⟨g, j, none⟩ u).ownsRow base e 1 (.slice (some ⟨g, 0, none⟩) n cap) n (xs.set j u) := by
  refine ⟨by rw [List.length_set]; exact h.1, ?_⟩
  rcases h.2 with ⟨hv, _⟩ | ⟨g', cap', cur, hv, hb, hh, h1, h2, h3, h4⟩
  · cases hv
  · cases hv
    refine .inr ⟨g, cap, cur.setIfInBounds j u, rfl, hb, block_setCell hh j _, h1, h2, by rw [Array.size_setIfInBounds]; exact h3, ?_⟩
    rw [← h4, Array.toList_setIfInBounds, List.take_set]
theorem set_mid {C D : List Tx} {i : Nat} (y x : Tx) (hi : C.length = i) : ((C ++ y :: D).map Tx.v).set i x.v = ((C ++ [x]) ++ D).map Tx.v := by
  subst hi
  rw [List.map_append, List.set_append_right _ _ (by simp)]
  simp
theorem get_mid {C D : List Tx} {i : Nat} (y : Tx) (hi : C.length = i) : ((C ++ y :: D).map Tx.v)[i]? = some y.v := by
  subst hi
  rw [List.map_append, List.getElem?_append_right (by simp)]
  simp
theorem upd_set (S : Nat → Prop) (w : World) (g j : Nat) (u : Value) (h : S g) : Upd S w (w.setCell ⟨g, j, none⟩ u) := (Upd.refl S w).setCell _ _ (fun _ => h)

/-- What cloneTexts gives. -/
def CtPost (w : World) (L : List Tx) (e : Ending) (w' : World) : Prop :=
  ∃ t : TL, e = .returned t.v ∧ t.p = L.map (·.s) ∧ t.Own w' w.heap.size ∧ Below w.heap.size w w'
/-- While it goes on: the first ones are copied. -/
structure CtI (w W : World) (v : Value) (L C : List Tx) : Prop where
  le : C.length ≤ L.length
  row : W.ownsRow w.heap.size 29 1 v L.length ((C ++ L.drop C.length).map Tx.v)
  each : ∀ x ∈ C, OwnB W w.heap.size 5 x.v x.s
  s : C.map (·.s) = (L.take C.length).map (·.s)
  b : Below w.heap.size w W

theorem typ_ne {W : World} {N g : Nat} {cur : Array Value} {x : Tx} (h : OwnB W N 5 x.v x.s) (hg : W.heap[g]? = some (.cells cur 29 (0, 0))) : ∀ k, x.v.ownBlock = some k → k ≠ g := by
  intro k hk e
  subst e
  rcases h with ⟨hv, _⟩ | ⟨g', c', cur', hv, _, hh, _⟩
  · rw [hv] at hk; cases hk
  · rw [hv] at hk
    cases hk
    rw [hh] at hg
    simp at hg

end Go.Proofs.Ytfpogjgbmibmcaa
