/- Texts of one's own. -/
import Derived.Test.YtealejbfloacpaaGreatB32
import Derived.WalkMore
import Derived.Deep.LoopGhost
import Derived.Test.YtealejbfloacpaaGreatB9
namespace Go.Proofs.YtealejbfloacpaaGreat
open Go.RowKit
set_option maxRecDepth 100000
theorem own_tyE {w : World} {N : Nat} {e : TypeId} {size : Nat} {v : Value} {n : Nat} {xs : List Value} (h : w.ownsRow N e size v n xs) {k : Nat} (hk : v.ownBlock = some k) : ∃ cur, w.heap[k]? = some (.cells cur e (0, 0)) ∧ N ≤ k := by
  rcases h.2 with ⟨hv, _⟩ | ⟨g, cap, cur, hv, hb, hh, _⟩
  · rw [hv] at hk; cases hk
  · rw [hv] at hk
    cases hk
    exact ⟨cur, hh, hb⟩
/-- A text of one's own. -/
structure TOwn (W : World) (N : Nat) (t : Tx) : Prop where
  o : OwnB W N 5 t.v t.s
  b : B8 t.s
  z : t.s.length ≤ 140737488351232
theorem TOwn.nil (W : World) (N : Nat) : TOwn W N nilT := ⟨OwnB.nil _ _ _, B8.nil, Nat.zero_le _⟩
theorem TOwn.ok {W : World} {N : Nat} {t : Tx} (h : TOwn W N t) : t.Ok W := ownB_ok h.o h.b h.z
theorem TOwn.below {W W' : World} {N : Nat} {t : Tx} (h : TOwn W N t) (hb : Below W.heap.size W W') : TOwn W' N t := ⟨h.o.below hb, h.b, h.z⟩
theorem TOwn.mono {W : World} {N M : Nat} {t : Tx} (h : TOwn W N t) (hm : M ≤ N) : TOwn W M t := ⟨h.o.mono hm, h.b, h.z⟩
theorem TL.Own.at_ {W : World} {N : Nat} {t : TL} (h : t.Own W N) (i : Nat) : TOwn W N (t.L.getD i nilT) := by
  rcases Nat.lt_or_ge i t.L.length with hi | hi
  · rw [getD_tx hi]
    exact ⟨h.each _ (List.getElem_mem hi), (h.b8 _ (List.getElem_mem hi)).1, (h.b8 _ (List.getElem_mem hi)).2⟩
  · rw [List.getD_eq_getElem?_getD, List.getElem?_eq_none hi]
    exact TOwn.nil _ _
/-- A text of one's own lives on where rows of other types grow. -/
theorem TOwn.upd {S : Nat → Prop} {W W' : World} {N : Nat} {t : Tx} (h : TOwn W N t) (hu : Upd S W W') (hs : ∀ k cur, W.heap[k]? = some (.cells cur 5 (0, 0)) → ¬ S k) : TOwn W' N t :=
  ⟨h.o.upd hu (fun k hk => by
    obtain ⟨cur, hh, _⟩ := own_tyE h.o.owns hk
    exact hs k cur hh), h.b, h.z⟩
/-- Entries of one's own. -/
def EnO (W : World) (N : Nat) (E : List En) : Prop := ∀ x ∈ E, TOwn W N x.1 ∧ TOwn W N x.2
theorem tl_p_getD (t : TL) (i : Nat) : (t.L.getD i nilT).s = t.p.getD i [] := by
  unfold TL.p
  rw [List.getD_eq_getElem?_getD, List.getD_eq_getElem?_getD, List.getElem?_map]
  cases t.L[i]? <;> rfl
/-- What holds while Map goes: the map of what was met at block m; the entries so far. -/
structure MpW (W0 : World) (w : World) (N A m : Nat) (F : Nat → Prop) (s : AS) (met : List Int) (ov : Value) (E : List En) : Prop where
  im : ∃ Em, IM w m Em ∧ Em.map (·.1) = met ∧ ∀ p ∈ Em, ∃ q : Int, p.2 = .int .i64 q
  mt : Met s met
  row : w.ownsRow N 78 2 ov E.length (E.flatMap EnC)
  own : EnO w N E
  nm : N ≤ m
  bel : Below N W0 w
  px : PX w A F s
  lt : ∀ k, F k → k < N
  nw : N ≤ w.heap.size
/-- What Map gives. -/
def MpP (W : World) (R : List (List Int × List Int)) (e : Ending) (w' : World) : Prop := ∃ (E : List En) (v : Value), e = .returned v ∧ w'.ownsRow W.heap.size 78 2 v E.length (E.flatMap EnC) ∧ EnO w' W.heap.size E ∧ E.map enP = R ∧ Below W.heap.size W w'
section
variable {W0 w w' : World} {N A m : Nat} {F : Nat → Prop} {s : AS} {met : List Int} {ov : Value} {E : List En}
theorem MpW.below (h : MpW W0 w N A m F s met ov E) (hb : Below w.heap.size w w') : MpW W0 w' N A m F s met ov E := by
  obtain ⟨Em, h1, h2, h3⟩ := h.im
  exact ⟨⟨Em, h1.below hb, h2, h3⟩, h.mt, owns_blkN h.row (fun k hk => hb.block k (by obtain ⟨c, hh, _⟩ := own_tyE h.row hk; exact lt_of_block hh)), fun x hx => ⟨(h.own x hx).1.below hb, (h.own x hx).2.below hb⟩, h.nm, h.bel.trans (hb.mono h.nw), h.px.below hb, h.lt, Nat.le_trans h.nw hb.size⟩
/-- A number more is met. -/
theorem MpW.meet (h : MpW W0 w N A m F s met ov E) {Em : List (Int × Value)} {id q : Int} (h1 : IM w' m (Em ++ [(id, .int .i64 q)])) (h2 : Em.map (·.1) = met) (h3 : ∀ p ∈ Em, ∃ q : Int, p.2 = .int .i64 q) (hu : Upd (fun k => k = m) w w') (hm : Met s (met ++ [id])) : MpW W0 w' N A m F s (met ++ [id]) ov E := by
  have hmm : ∀ k cur T, w.heap[k]? = some (.cells cur T (0, 0)) → ¬ k = m := fun k cur T hh e => by
    obtain ⟨Em', h4, _⟩ := h.im
    obtain ⟨es, cl, hb, _⟩ := h4.e
    rw [e, hb] at hh
    cases hh
  refine ⟨⟨_, h1, by rw [List.map_append, h2]; rfl, fun p hp => ?_⟩, hm, owns_blkN h.row (fun k hk => ?_), fun x hx => ⟨(h.own x hx).1.upd hu (fun k cur hh => hmm k cur _ hh), (h.own x hx).2.upd hu (fun k cur hh => hmm k cur _ hh)⟩, h.nm, h.bel.trans (hu.below h.nw (fun k hk e => by have := h.nm; omega)), h.px.upd hu (fun k hk e => by have := h.lt k hk; have := h.nm; omega), h.lt, Nat.le_trans h.nw hu.size⟩
  · rcases List.mem_append.1 hp with hp | hp
    · exact h3 p hp
    · rw [List.mem_singleton.1 hp]; exact ⟨q, rfl⟩
  · obtain ⟨c, hh, _⟩ := own_tyE h.row hk
    exact hu.block k (lt_of_block hh) (hmm k _ _ hh)
/-- Entries more. -/
theorem MpW.more (h : MpW W0 w N A m F s met ov E) {E' : List En} {v' : Value} (ho : EnO w N E') (h1 : w'.ownsRow N 78 2 v' (E ++ E').length ((E ++ E').flatMap EnC)) (hg : w.grownBy w' ov.ownBlock) : MpW W0 w' N A m F s met v' (E ++ E') := by
  have hu : Upd (fun k => ov.ownBlock = some k) w w' := Upd.of_grown hg (fun k hk _ => hk)
  have hT : ∀ k cur T, w.heap[k]? = some (.cells cur T (0, 0)) → T ≠ 78 → ¬ ov.ownBlock = some k := fun k cur T hh hT e => by
    obtain ⟨c, h2, _⟩ := own_tyE h.row e
    rw [hh] at h2
    cases h2
    exact hT rfl
  obtain ⟨Em, h2, h3, h4⟩ := h.im
  refine ⟨⟨Em, h2.upd hu (fun e => ?_), h3, h4⟩, h.mt, h1, fun x hx => ?_, h.nm, h.bel.trans (hu.below h.nw (fun k hk e => ?_)), h.px.upd hu (fun k hk e => ?_), h.lt, Nat.le_trans h.nw hu.size⟩
  · obtain ⟨c, h5, _⟩ := own_tyE h.row e
    obtain ⟨es, cl, hb, _⟩ := h2.e
    rw [hb] at h5
    cases h5
  · rcases List.mem_append.1 hx with hx | hx
    · exact ⟨(h.own x hx).1.upd hu (fun k cur hh => hT k cur _ hh (by decide)), (h.own x hx).2.upd hu (fun k cur hh => hT k cur _ hh (by decide))⟩
    · exact ⟨(ho x hx).1.upd hu (fun k cur hh => hT k cur _ hh (by decide)), (ho x hx).2.upd hu (fun k cur hh => hT k cur _ hh (by decide))⟩
  · obtain ⟨c, _, h5⟩ := own_tyE h.row e
    omega
  · obtain ⟨c, _, h5⟩ := own_tyE h.row e
    have := h.lt k hk
    omega
end
end Go.Proofs.YtealejbfloacpaaGreat

namespace Go.Proofs.YtealejbfloacpaaGreat
open Go.RowKit
set_option maxRecDepth 100000
/-- A list of entries that may be read. -/
def EnRd (W : World) (oa : Option Addr) (E : List En) : Prop := ∀ j (h : j < E.length), ∃ g, oa = some ⟨g, 0, none⟩ ∧ W.cell? ⟨g, j * 2, none⟩ = some E[j].1.v ∧ W.cell? ⟨g, j * 2 + 1, none⟩ = some E[j].2.v ∧ E[j].1.Ok W ∧ E[j].2.Ok W
theorem EnRd.below {W Y : World} {oa : Option Addr} {E : List En} (h : EnRd W oa E) (hb : Below W.heap.size W Y) : EnRd Y oa E := fun j hj => by
  obtain ⟨g, h1, h2, h3, h4, h5⟩ := h j hj
  exact ⟨g, h1, (hb.cell (p := ⟨g, j * 2, none⟩) (World.block_lt_of_cell? W ⟨g, j * 2, none⟩ h2)).trans h2, (hb.cell (p := ⟨g, j * 2 + 1, none⟩) (World.block_lt_of_cell? W ⟨g, j * 2 + 1, none⟩ h3)).trans h3, h4.below hb, h5.below hb⟩
theorem EnRd.of {W : World} {N : Nat} {oa : Option Addr} {n oc : Nat} {E : List En} (hrow : W.ownsRow N 78 2 (.slice oa n oc) E.length (E.flatMap EnC)) (hown : EnO W N E) : EnRd W oa E := fun j h => by
  rcases hrow.2 with ⟨q1, q2⟩ | ⟨g, cap, cur, q1, q2, q3, q4, q5, q6, q7⟩
  · omega
  · simp only [Value.slice.injEq] at q1
    have e0 := enC_at E j 0 h (by omega)
    have e1 := enC_at E j 1 h (by omega)
    have cl : ∀ k u, (E.flatMap EnC)[k]? = some u → W.cell? ⟨g, k, none⟩ = some u := fun k u hu => by
      rw [cell_of_row _ _ _ _ _ _ q3, ← Array.getElem?_toList]
      rw [← q7, List.getElem?_take] at hu
      split at hu
      · exact hu
      · cases hu
    have ho := hown E[j] (List.getElem_mem h)
    exact ⟨g, q1.1, cl _ _ e0, cl _ _ e1, ho.1.ok, ho.2.ok⟩
end Go.Proofs.YtealejbfloacpaaGreat
