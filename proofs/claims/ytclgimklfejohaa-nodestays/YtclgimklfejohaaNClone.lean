/- node: cloneTexts, Clone. -/
import Derived.Test.YtclgimklfejohaaNList
import Derived.Test.YtclgimklfejohaaNFind
namespace Go.Proofs.Ytclgimklfejohaa
open Go.RowKit

/-- A list of texts of one's own: its row, and each text's. -/
structure TL.Own (W : World) (N : Nat) (t : TL) : Prop where
  row : W.ownsRow N 22 1 t.v t.L.length (t.L.map Tx.v)
  each : ∀ x ∈ t.L, OwnB W N 5 x.v x.s
  b8 : ∀ x ∈ t.L, B8 x.s ∧ x.s.length ≤ 140737488351232
theorem ownB_ok {W : World} {N : Nat} {x : Tx} (h : OwnB W N 5 x.v x.s) (h8 : B8 x.s) (hz : x.s.length ≤ 140737488351232) : x.Ok W := by
  obtain ⟨a, c, hv, hr, hn, hlc⟩ := h.slice
  obtain ⟨xa, xc, xs⟩ := x
  simp only [Tx.v, Value.slice.injEq, true_and] at hv
  obtain ⟨rfl, rfl⟩ := hv
  exact ⟨hr, hn, hlc, h8, hz⟩
theorem vok_tl {W : World} {t : TL} (h : VOk W t.a t.c (t.L.map Tx.v)) (hok : ∀ x ∈ t.L, x.Ok W) : t.Ok W := by
  refine ⟨fun i hi => ?_, hok, fun e => by have := h.n e; rw [List.length_map] at this; exact this, by have := h.lc; rwa [List.length_map] at this⟩
  obtain ⟨b, o, ha, hc⟩ := h.r i (by rw [List.length_map]; exact hi)
  exact ⟨b, o, ha, by rw [hc, List.getElem_map]⟩
theorem TL.Ok.vok {W : World} {t : TL} (h : t.Ok W) : VOk W t.a t.c (t.L.map Tx.v) := by
  refine ⟨fun i hi => ?_, fun e => by rw [List.length_map]; exact h.n e, by rw [List.length_map]; exact h.lc⟩
  obtain ⟨b, o, ha, hc⟩ := h.r i (by rwa [List.length_map] at hi)
  exact ⟨b, o, ha, by rw [hc, List.getElem_map]⟩
theorem tx_slices (L : List Tx) : ∀ u ∈ L.map Tx.v, ∃ xa xn xc, u = .slice xa xn xc := by
  intro u hu
  obtain ⟨x, _, rfl⟩ := List.mem_map.1 hu
  exact ⟨_, _, _, rfl⟩
theorem TL.Own.ok {W : World} {N : Nat} {t : TL} (h : t.Own W N) : t.Ok W := by
  obtain ⟨a, c, hv, hok, _⟩ := vok_of_owns h.row
  simp only [TL.v, Value.slice.injEq, true_and] at hv
  obtain ⟨rfl, rfl⟩ := hv
  exact vok_tl hok fun x hx => ownB_ok (h.each x hx) (h.b8 x hx).1 (h.b8 x hx).2
theorem TL.Own.below {W W' : World} {N : Nat} {t : TL} (h : t.Own W N) (hb : Below W.heap.size W W') : t.Own W' N :=
  ⟨owns_below h.row hb, fun x hx => (h.each x hx).below hb, h.b8⟩
theorem TL.Own.mono {W : World} {N M : Nat} {t : TL} (h : t.Own W N) (hb : M ≤ N) : t.Own W M :=
  ⟨owns_mono h.row hb, fun x hx => (h.each x hx).mono hb, h.b8⟩
theorem TL.Own.upd {W W' : World} {N : Nat} {S : Nat → Prop} {t : TL} (h : t.Own W N) (hb : Upd S W W') (hs : ∀ b, N ≤ b → b < W.heap.size → ¬ S b) : t.Own W' N :=
  ⟨owns_upd h.row hb (fun k hk => hs k (h.row.lt k hk).1 (h.row.lt k hk).2), fun x hx => (h.each x hx).upd hb (fun k hk => hs k ((h.each x hx).owns.lt k hk).1 ((h.each x hx).owns.lt k hk).2), h.b8⟩
theorem own_setV {w : World} {base g n cap : Nat} {e : TypeId} {xs : List Value} (h : w.ownsRow base e 1 (.slice (some ⟨g, 0, none⟩) n cap) n xs) (j : Nat) (u : Value) :
    (w.setCell ⟨g, j, none⟩ u).ownsRow base e 1 (.slice (some ⟨g, 0, none⟩) n cap) n (xs.set j u) := by
  refine ⟨by rw [List.length_set]; exact h.1, ?_⟩
  rcases h.2 with ⟨hv, _⟩ | ⟨g', cap', cur, hv, hb, hh, h1, h2, h3, h4⟩
  · cases hv
  · cases hv
    refine .inr ⟨g, cap, cur.setIfInBounds j u, rfl, hb, block_setCell hh j _, h1, h2, by rw [Array.size_setIfInBounds]; exact h3, ?_⟩
    rw [← h4, Array.toList_setIfInBounds, List.take_set]
theorem set_mid {C D : List Tx} {i : Nat} (y x : Tx) (hi : C.length = i) : ((C ++ y :: D).map Tx.v).set i x.v = ((C ++ [x]) ++ D).map Tx.v := by
  subst hi
  rw [List.map_append, List.set_append_right _ _ (by simp)]
  simp
theorem get_mid {C D : List Tx} {i : Nat} (y : Tx) (hi : C.length = i) : ((C ++ y :: D).map Tx.v)[i]? = some y.v := by
  subst hi
  rw [List.map_append, List.getElem?_append_right (by simp)]
  simp
theorem upd_set (S : Nat → Prop) (w : World) (g j : Nat) (u : Value) (h : S g) : Upd S w (w.setCell ⟨g, j, none⟩ u) := (Upd.refl S w).setCell _ _ (fun _ => h)

/-- What cloneTexts gives. -/
def CtPost (w : World) (L : List Tx) (e : Ending) (w' : World) : Prop :=
  ∃ t : TL, e = .returned t.v ∧ t.p = L.map (·.s) ∧ t.Own w' w.heap.size ∧ Below w.heap.size w w'
/-- While it goes on: the first ones are copied. -/
structure CtI (w W : World) (v : Value) (L C : List Tx) : Prop where
  le : C.length ≤ L.length
  row : W.ownsRow w.heap.size 22 1 v L.length ((C ++ L.drop C.length).map Tx.v)
  each : ∀ x ∈ C, OwnB W w.heap.size 5 x.v x.s
  s : C.map (·.s) = (L.take C.length).map (·.s)
  b : Below w.heap.size w W

theorem typ_ne {W : World} {N g : Nat} {cur : Array Value} {x : Tx} (h : OwnB W N 5 x.v x.s) (hg : W.heap[g]? = some (.cells cur 22 (0, 0))) : ∀ k, x.v.ownBlock = some k → k ≠ g := by
  intro k hk e
  subst e
  rcases h with ⟨hv, _⟩ | ⟨g', c', cur', hv, _, hh, _⟩
  · rw [hv] at hk; cases hk
  · rw [hv] at hk
    cases hk
    rw [hh] at hg
    simp at hg

set_option maxRecDepth 100000 in
set_option maxHeartbeats 1600000 in
theorem cloneTexts_any (t : TL) (w : World) (ht : t.Ok w) (hm : t.L.length * 24 ≤ 140737488355000) :
    Calls Try.prog 46 #[t.v] w (CtPost w t.L) := by
  obtain ⟨ka, kc, L⟩ := t
  simp only [TL.v] at hm ⊢
  obtain ⟨l, hl⟩ : ∃ l, L.length = l := ⟨_, rfl⟩
  have HCL := hide (clnT_any ka l kc (L.map Tx.v) w (by rw [List.length_map]; exact hl) ht.vok (tx_oneCell L) (by rw [← hl]; omega))
  have HOK : Hid (∀ W, Below w.heap.size w W → ∀ x ∈ L, x.Ok W) := fun W h x hx => (ht.ok x hx).below h
  rw [hl] at hm ⊢
  replace hl := hide hl
  clear ht
  go_enter Try.func46, Try.ntmps46
  go_wp2_with fail
  refine HCL.out.mono ?_
  rintro e w1 ⟨v, rfl, hown, hb1⟩
  obtain ⟨oa, oc, rfl, _, _⟩ := vok_of_owns hown
  rw [List.length_map, hl.out] at hown ⊢
  have H0 : Hid (CtI w w1 (.slice oa l oc) L []) := ⟨Nat.zero_le _, by rw [hl.out]; simpa using hown, fun x hx => (by cases hx), rfl, hb1⟩
  clear hown hb1 HCL
  go_wp2_with fail
  go_loopw [10] (fun q wr => ∃ C : List Tx, q = .int .i64 (C.length : Nat) ∧ Hid (CtI w wr (.slice oa l oc) L C)) (fun q _ => l - (intOf q).toNat)
  case atStart => exact ⟨[], rfl, H0⟩
  case round =>
    clear H0
    obtain ⟨C, rfl, HI⟩ := hrel
    rename World => wr
    have hle := HI.out.le
    rw [hl.out] at hle
    obtain ⟨i, hi⟩ : ∃ i, C.length = i := ⟨_, rfl⟩
    rw [hi] at hle ⊢
    replace hi := hide hi
    by_cases hlt : i < l
    · have j1 : (i : Int) < (l : Int) := by omega
      have hiL : i < L.length := by rw [hl.out]; exact hlt
      have hrow := HI.out.row
      rw [hi.out, List.drop_eq_getElem_cons hiL, hl.out] at hrow
      obtain ⟨g, rfl, hgN, cur, hg, hcs, hcm⟩ : ∃ g, oa = some ⟨g, 0, none⟩ ∧ w.heap.size ≤ g ∧ ∃ cur, wr.heap[g]? = some (.cells cur 22 (0, 0)) ∧ cur.size = oc ∧ oc ≤ maxLen := by
        rcases hrow.2 with ⟨hv, h0⟩ | ⟨g, cap, cur, hv, hb, hh, h1, h2, h3, h4⟩
        · omega
        · cases hv; exact ⟨g, rfl, hb, cur, hh, by omega, h2⟩
      have s0 := hrow.cells (g := g) rfl i L[i].v (get_mid _ hi.out)
      rw [Addr.add_lit, Nat.zero_add] at s0
      have OK := hide (HOK.out wr HI.out.b L[i] (List.getElem_mem hiL))
      obtain ⟨x, hx⟩ : ∃ x, x = L[i] := ⟨_, rfl⟩
      rw [← hx] at s0 OK hrow
      have HRW := hide hrow
      have HX := hide hx
      have HG := hide hg
      unfold Tx.v at s0
      obtain ⟨nk, hnk⟩ : ∃ nk, x.s.length = nk := ⟨_, rfl⟩
      rw [hnk] at s0
      have hlg := lt_of_block hg
      have HBC := hide (bclone_any x.a nk x.c x.s wr hnk (by have := OK.out.z; omega) (by have := OK.out.n; rw [hnk] at this; exact this) OK.out.r)
      replace hnk := hide hnk
      clear hrow hx hg
      go_wp2_with fail
      refine HBC.out.mono ?_
      rintro e w2 ⟨v2, rfl, hv2, hb2⟩
      obtain ⟨na, nc, hve, _, _, _⟩ := hv2.slice
      rw [hnk.out] at hve
      subst hve
      have c2 : w2.cell? ⟨g, i, none⟩ = some (.slice x.a nk x.c) := (hb2.cell (p := ⟨g, i, none⟩) hlg).trans s0
      have g2 : w2.heap[g]? = some (.cells cur 22 (0, 0)) := (hb2.block g hlg).trans HG.out
      have f2 : w2.frozen? ⟨g, i, none⟩ = false := by simp [World.frozen?, g2]
      have G2 := hide g2
      have V2 := hide hv2
      have B2 := hide hb2
      clear s0 g2 hv2 hb2 HBC
      go_wp2_with fail
      have HNEW : Hid (CtI w (w2.setCell ⟨g, i, none⟩ (.slice na nk nc)) (.slice (some ⟨g, 0, none⟩) l oc) L (C ++ [⟨na, nc, x.s⟩])) := by
        have hci := hi.out
        have hnv : (⟨na, nc, x.s⟩ : Tx).v = .slice na nk nc := by simp only [Tx.v, hnk.out]
        have hbw : Below w.heap.size w w2 := HI.out.b.trans (B2.out.mono HI.out.b.size)
        have U : Upd (fun b => b = g) w2 (w2.setCell ⟨g, i, none⟩ (.slice na nk nc)) := upd_set _ _ _ _ _ rfl
        refine ⟨by rw [List.length_append, List.length_singleton, hci]; omega, ?_, ?_, ?_, ?_⟩
        · have h1 := own_setV (owns_below HRW.out B2.out) i (.slice na nk nc)
          have h2 := set_mid (D := L.drop (i + 1)) x ⟨na, nc, x.s⟩ hci
          rw [hnv] at h2
          rw [h2] at h1
          rw [hl.out, List.length_append, List.length_singleton, hci]
          exact h1
        · intro y hy
          rcases List.mem_append.1 hy with hy | hy
          · exact ((HI.out.each y hy).below B2.out).upd U (typ_ne ((HI.out.each y hy).below B2.out) G2.out)
          · obtain rfl : y = ⟨na, nc, x.s⟩ := by simpa using hy
            have h1 : OwnB w2 w.heap.size 5 (⟨na, nc, x.s⟩ : Tx).v x.s := by rw [hnv]; exact V2.out.mono HI.out.b.size
            exact h1.upd U (typ_ne h1 G2.out)
        · rw [List.map_append, HI.out.s, List.length_append, List.length_singleton, hci, take_next hiL, List.map_append, HX.out]
          rfl
        · exact hbw.trans (U.below (by have := hbw.size; omega) (fun k hk e => by omega))
      clear G2 V2 B2 c2 f2
      go_roundw
      case rel => exact ⟨_, by rw [List.length_append, List.length_singleton, hi.out]; go_num, HNEW⟩
      case measure => simp [intOf]; omega
    · have j1 : ¬ (i : Int) < (l : Int) := by omega
      obtain rfl : i = l := by omega
      have HF : Hid (CtPost w L (.returned (.slice oa i oc)) wr) := by
        have hd : L.drop C.length = [] := List.drop_eq_nil_of_le (by rw [hl.out, hi.out]; exact Nat.le_refl _)
        have hs := HI.out.s
        rw [List.take_of_length_le (by rw [hl.out, hi.out]; exact Nat.le_refl _)] at hs
        have hr := HI.out.row
        rw [hd, List.append_nil, hl.out] at hr
        refine ⟨⟨oa, oc, C⟩, by simp only [TL.v, hi.out], hs, ⟨by simp only [TL.v, hi.out]; exact hr, HI.out.each, fun x hx => ?_⟩, HI.out.b⟩
        have : x.s ∈ L.map (·.s) := by rw [← hs]; exact List.mem_map.2 ⟨x, hx, rfl⟩
        obtain ⟨y, hy, hys⟩ := List.mem_map.1 this
        have := HOK.out w (Below.refl _ _) y hy
        rw [← hys]
        exact ⟨this.b8, this.z⟩
      go_wp2_with fail
      go_ret
      exact HF.out

end Go.Proofs.Ytclgimklfejohaa
