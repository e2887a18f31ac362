/- node: cloneTexts, Clone. -/
import Derived.Test.YtpljbgcofmlhbaaGreatG17
import Derived.Test.YtpljbgcofmlhbaaGreatG15
namespace Go.Proofs.YtpljbgcofmlhbaaGreat
open Go.RowKit
set_option maxRecDepth 100000
structure TL.Own (W : World) (N : Nat) (t : TL) : Prop where
 row : W.ownsRow N 28 1 t.v t.L.length (t.L.map Tx.v)
 each : ∀ x ∈ t.L, OwnB W N 5 x.v x.s
 b8 : ∀ x ∈ t.L, B8 x.s ∧ x.s.length ≤ 140737488351232
theorem ownB_ok {W : World} {N : Nat} {x : Tx} (h : OwnB W N 5 x.v x.s) (h8 : B8 x.s) (hz : x.s.length ≤ 140737488351232) : x.Ok W := by
 obtain ⟨a, c, hv, hr, hn, hlc⟩ := h.slice
 obtain ⟨xa, xc, xs⟩ := x
 simp only [Tx.v, Value.slice.injEq, true_and] at hv
 obtain ⟨rfl, rfl⟩ := hv
 exact ⟨hr, hn, hlc, h8, hz⟩
theorem vok_tl {W : World} {t : TL} (h : VOk W t.a t.c (t.L.map Tx.v)) (hok : ∀ x ∈ t.L, x.Ok W) : t.Ok W := by
 refine ⟨fun i hi => ?_, hok, fun e => by have := h.n e; rw [List.length_map] at this; exact this, by have := h.lc; rwa [List.length_map] at this⟩
 obtain ⟨b, o, ha, hc⟩ := h.r i (by rw [List.length_map]; exact hi)
 exact ⟨b, o, ha, by rw [hc, List.getElem_map]⟩
theorem TL.Ok.vok {W : World} {t : TL} (h : t.Ok W) : VOk W t.a t.c (t.L.map Tx.v) := by
 refine ⟨fun i hi => ?_, fun e => by rw [List.length_map]; exact h.n e, by rw [List.length_map]; exact h.lc⟩
 obtain ⟨b, o, ha, hc⟩ := h.r i (by rwa [List.length_map] at hi)
 exact ⟨b, o, ha, by rw [hc, List.getElem_map]⟩
theorem tx_slices (L : List Tx) : ∀ u ∈ L.map Tx.v, ∃ xa xn xc, u = .slice xa xn xc := by
 intro u hu
 obtain ⟨x, _, rfl⟩ := List.mem_map.1 hu
 exact ⟨_, _, _, rfl⟩
theorem TL.Own.ok {W : World} {N : Nat} {t : TL} (h : t.Own W N) : t.Ok W := by
 obtain ⟨a, c, hv, hok, _⟩ := vok_of_owns h.row
 simp only [TL.v, Value.slice.injEq, true_and] at hv
 obtain ⟨rfl, rfl⟩ := hv
 exact vok_tl hok fun x hx => ownB_ok (h.each x hx) (h.b8 x hx).1 (h.b8 x hx).2
theorem TL.Own.below {W W' : World} {N : Nat} {t : TL} (h : t.Own W N) (hb : Below W.heap.size W W') : t.Own W' N :=
 ⟨owns_below h.row hb, fun x hx => (h.each x hx).below hb, h.b8⟩
theorem TL.Own.mono {W : World} {N M : Nat} {t : TL} (h : t.Own W N) (hb : M ≤ N) : t.Own W M :=
 ⟨owns_mono h.row hb, fun x hx => (h.each x hx).mono hb, h.b8⟩
theorem TL.Own.upd {W W' : World} {N : Nat} {S : Nat → Prop} {t : TL} (h : t.Own W N) (hb : Upd S W W') (hs : ∀ b, N ≤ b → b < W.heap.size → ¬ S b) : t.Own W' N :=
 ⟨owns_upd h.row hb (fun k hk => hs k (h.row.lt k hk).1 (h.row.lt k hk).2), fun x hx => (h.each x hx).upd hb (fun k hk => hs k ((h.each x hx).owns.lt k hk).1 ((h.each x hx).owns.lt k hk).2), h.b8⟩
theorem own_setV {w : World} {base g n cap : Nat} {e : TypeId} {xs : List Value} (h : w.ownsRow base e 1 (.slice (some ⟨g, 0, none⟩) n cap) n xs) (j : Nat) (u : Value) :
  (w.setCell ⟨g, j, none⟩ u).ownsRow base e 1 (.slice (some ⟨g, 0, none⟩) n cap) n (xs.set j u) := by
 refine ⟨by rw [List.length_set]; exact h.1, ?_⟩
 rcases h.2 with ⟨hv, _⟩ | ⟨g', cap', cur, hv, hb, hh, h1, h2, h3, h4⟩
 ·cases hv
 ·cases hv
  refine .inr ⟨g, cap, cur.setIfInBounds j u, rfl, hb, block_setCell hh j _, h1, h2, by rw [Array.size_setIfInBounds]; exact h3, ?_⟩
  rw [← h4, Array.toList_setIfInBounds, List.take_set]
theorem set_mid {C D : List Tx} {i : Nat} (y x : Tx) (hi : C.length = i) : ((C ++ y :: D).map Tx.v).set i x.v = ((C ++ [x]) ++ D).map Tx.v := by
 subst hi
 rw [List.map_append, List.set_append_right _ _ (by simp)]
 simp
theorem get_mid {C D : List Tx} {i : Nat} (y : Tx) (hi : C.length = i) : ((C ++ y :: D).map Tx.v)[i]? = some y.v := by
 subst hi
 rw [List.map_append, List.getElem?_append_right (by simp)]
 simp
theorem upd_set (S : Nat → Prop) (w : World) (g j : Nat) (u : Value) (h : S g) : Upd S w (w.setCell ⟨g, j, none⟩ u) := (Upd.refl S w).setCell _ _ (fun _ => h)
def CtPost (w : World) (L : List Tx) (e : Ending) (w' : World) : Prop :=
 ∃ t : TL, e = .returned t.v ∧ t.p = L.map (·.s) ∧ t.Own w' w.heap.size ∧ Below w.heap.size w w'
structure CtI (w W : World) (v : Value) (L C : List Tx) : Prop where
 le : C.length ≤ L.length
 row : W.ownsRow w.heap.size 28 1 v L.length ((C ++ L.drop C.length).map Tx.v)
 each : ∀ x ∈ C, OwnB W w.heap.size 5 x.v x.s
 s : C.map (·.s) = (L.take C.length).map (·.s)
 b : Below w.heap.size w W
theorem typ_ne {W : World} {N g : Nat} {cur : Array Value} {x : Tx} (h : OwnB W N 5 x.v x.s) (hg : W.heap[g]? = some (.cells cur 28 (0, 0))) : ∀ k, x.v.ownBlock = some k → k ≠ g := by
 intro k hk e
 subst e
 rcases h with ⟨hv, _⟩ | ⟨g', c', cur', hv, _, hh, _⟩
 ·rw [hv] at hk; cases hk
 ·rw [hv] at hk
  cases hk
  rw [hh] at hg
  simp at hg
set_option maxRecDepth 100000 in
set_option maxHeartbeats 1600000 in
theorem cloneTexts_any (t : TL) (w : World) (ht : t.Ok w) (hm : t.L.length * 24 ≤ 140737488355000) :
  Calls Tryz.prog 165 #[t.v] w (CtPost w t.L) := by
 obtain ⟨ka, kc, L⟩ := t
 simp only [TL.v] at hm ⊢
 obtain ⟨l, hl⟩ : ∃ l, L.length = l := ⟨_, rfl⟩
 have HCL := hide (clnT_any ka l kc (L.map Tx.v) w (by rw [List.length_map]; exact hl) ht.vok (tx_oneCell L) (by rw [← hl]; omega))
 have HOK : Hid (∀ W, Below w.heap.size w W → ∀ x ∈ L, x.Ok W) := fun W h x hx => (ht.ok x hx).below h
 rw [hl] at hm ⊢
 replace hl := hide hl
 clear ht
 go_enter Tryz.func165, Tryz.ntmps165
 go_wp2_with fail
 refine HCL.out.mono ?_
 rintro e w1 ⟨v, rfl, hown, hb1⟩
 obtain ⟨oa, oc, rfl, _, _⟩ := vok_of_owns hown
 rw [List.length_map, hl.out] at hown ⊢
 have H0 : Hid (CtI w w1 (.slice oa l oc) L []) := ⟨Nat.zero_le _, by rw [hl.out]; simpa using hown, fun x hx => (by cases hx), rfl, hb1⟩
 clear hown hb1 HCL
 go_wp2_with fail
 go_loopw [10] (fun q wr => ∃ C : List Tx, q = .int .i64 (C.length : Nat) ∧ Hid (CtI w wr (.slice oa l oc) L C)) (fun q _ => l - (intOf q).toNat)
 case atStart => exact ⟨[], rfl, H0⟩
 case round =>
  clear H0
  obtain ⟨C, rfl, HI⟩ := hrel
  rename World => wr
  have hle := HI.out.le
  rw [hl.out] at hle
  obtain ⟨i, hi⟩ : ∃ i, C.length = i := ⟨_, rfl⟩
  rw [hi] at hle ⊢
  replace hi := hide hi
  by_cases hlt : i < l
  ·have j1 : (i : Int) < (l : Int) := by omega
   have hiL : i < L.length := by rw [hl.out]; exact hlt
   have hrow := HI.out.row
   rw [hi.out, List.drop_eq_getElem_cons hiL, hl.out] at hrow
   obtain ⟨g, rfl, hgN, cur, hg, hcs, hcm⟩ : ∃ g, oa = some ⟨g, 0, none⟩ ∧ w.heap.size ≤ g ∧ ∃ cur, wr.heap[g]? = some (.cells cur 28 (0, 0)) ∧ cur.size = oc ∧ oc ≤ maxLen := by
    rcases hrow.2 with ⟨hv, h0⟩ | ⟨g, cap, cur, hv, hb, hh, h1, h2, h3, h4⟩
    ·omega
    ·cases hv; exact ⟨g, rfl, hb, cur, hh, by omega, h2⟩
   have s0 := hrow.cells (g := g) rfl i L[i].v (get_mid _ hi.out)
   rw [Addr.add_lit, Nat.zero_add] at s0
   have OK := hide (HOK.out wr HI.out.b L[i] (List.getElem_mem hiL))
   obtain ⟨x, hx⟩ : ∃ x, x = L[i] := ⟨_, rfl⟩
   rw [← hx] at s0 OK hrow
   have HRW := hide hrow
   have HX := hide hx
   have HG := hide hg
   unfold Tx.v at s0
   obtain ⟨nk, hnk⟩ : ∃ nk, x.s.length = nk := ⟨_, rfl⟩
   rw [hnk] at s0
   have hlg := lt_of_block hg
   have HBC := hide (bclone_any x.a nk x.c x.s wr hnk (by have := OK.out.z; omega) (by have := OK.out.n; rw [hnk] at this; exact this) OK.out.r)
   replace hnk := hide hnk
   clear hrow hx hg
   go_wp2_with fail
   refine HBC.out.mono ?_
   rintro e w2 ⟨v2, rfl, hv2, hb2⟩
   obtain ⟨na, nc, hve, _, _, _⟩ := hv2.slice
   rw [hnk.out] at hve
   subst hve
   have c2 : w2.cell? ⟨g, i, none⟩ = some (.slice x.a nk x.c) := (hb2.cell (p := ⟨g, i, none⟩) hlg).trans s0
   have g2 : w2.heap[g]? = some (.cells cur 28 (0, 0)) := (hb2.block g hlg).trans HG.out
   have f2 : w2.frozen? ⟨g, i, none⟩ = false := by simp [World.frozen?, g2]
   have G2 := hide g2
   have V2 := hide hv2
   have B2 := hide hb2
   clear s0 g2 hv2 hb2 HBC
   go_wp2_with fail
   have HNEW : Hid (CtI w (w2.setCell ⟨g, i, none⟩ (.slice na nk nc)) (.slice (some ⟨g, 0, none⟩) l oc) L (C ++ [⟨na, nc, x.s⟩])) := by
    have hci := hi.out
    have hnv : (⟨na, nc, x.s⟩ : Tx).v = .slice na nk nc := by simp only [Tx.v, hnk.out]
    have hbw : Below w.heap.size w w2 := HI.out.b.trans (B2.out.mono HI.out.b.size)
    have U : Upd (fun b => b = g) w2 (w2.setCell ⟨g, i, none⟩ (.slice na nk nc)) := upd_set _ _ _ _ _ rfl
    refine ⟨by rw [List.length_append, List.length_singleton, hci]; omega, ?_, ?_, ?_, ?_⟩
    ·have h1 := own_setV (owns_below HRW.out B2.out) i (.slice na nk nc)
     have h2 := set_mid (D := L.drop (i + 1)) x ⟨na, nc, x.s⟩ hci
     rw [hnv] at h2
     rw [h2] at h1
     rw [hl.out, List.length_append, List.length_singleton, hci]
     exact h1
    ·intro y hy
     rcases List.mem_append.1 hy with hy | hy
     ·exact ((HI.out.each y hy).below B2.out).upd U (typ_ne ((HI.out.each y hy).below B2.out) G2.out)
     ·obtain rfl : y = ⟨na, nc, x.s⟩ := by simpa using hy
      have h1 : OwnB w2 w.heap.size 5 (⟨na, nc, x.s⟩ : Tx).v x.s := by rw [hnv]; exact V2.out.mono HI.out.b.size
      exact h1.upd U (typ_ne h1 G2.out)
    ·rw [List.map_append, HI.out.s, List.length_append, List.length_singleton, hci, take_next hiL, List.map_append, HX.out]
     rfl
    ·exact hbw.trans (U.below (by have := hbw.size; omega) (fun k hk e => by omega))
   clear G2 V2 B2 c2 f2
   go_roundw
   case rel => exact ⟨_, by rw [List.length_append, List.length_singleton, hi.out]; go_num, HNEW⟩
   case measure => simp [intOf]; omega
  ·have j1 : ¬ (i : Int) < (l : Int) := by omega
   obtain rfl : i = l := by omega
   have HF : Hid (CtPost w L (.returned (.slice oa i oc)) wr) := by
    have hd : L.drop C.length = [] := List.drop_eq_nil_of_le (by rw [hl.out, hi.out]; exact Nat.le_refl _)
    have hs := HI.out.s
    rw [List.take_of_length_le (by rw [hl.out, hi.out]; exact Nat.le_refl _)] at hs
    have hr := HI.out.row
    rw [hd, List.append_nil, hl.out] at hr
    refine ⟨⟨oa, oc, C⟩, by simp only [TL.v, hi.out], hs, ⟨by simp only [TL.v, hi.out]; exact hr, HI.out.each, fun x hx => ?_⟩, HI.out.b⟩
    have : x.s ∈ L.map (·.s) := by rw [← hs]; exact List.mem_map.2 ⟨x, hx, rfl⟩
    obtain ⟨y, hy, hys⟩ := List.mem_map.1 this
    have := HOK.out w (Below.refl _ _) y hy
    rw [← hys]
    exact ⟨this.b8, this.z⟩
   go_wp2_with fail
   go_ret
   exact HF.out
end Go.Proofs.YtpljbgcofmlhbaaGreat
namespace Go.Proofs.YtpljbgcofmlhbaaGreat
open Go.RowKit
set_option maxRecDepth 100000
def Six (W : World) (b : Nat) (x0 x1 x2 x3 x4 x5 : Value) : Prop :=
 W.cell? ⟨b, 0, none⟩ = some x0 ∧ W.cell? ⟨b, 1, none⟩ = some x1 ∧ W.cell? ⟨b, 2, none⟩ = some x2 ∧ W.cell? ⟨b, 3, none⟩ = some x3 ∧ W.cell? ⟨b, 4, none⟩ = some x4 ∧ W.cell? ⟨b, 5, none⟩ = some x5
theorem Six.below {W W' : World} {b : Nat} {x0 x1 x2 x3 x4 x5 : Value} (h : Six W b x0 x1 x2 x3 x4 x5) (hb : Below W.heap.size W W') : Six W' b x0 x1 x2 x3 x4 x5 := by
 have hl : b < W.heap.size := World.block_lt_of_cell? W ⟨b, 0, none⟩ h.1
 obtain ⟨h0, h1, h2, h3, h4, h5⟩ := h
 exact ⟨(hb.cell (p := ⟨b, 0, none⟩) hl).trans h0, (hb.cell (p := ⟨b, 1, none⟩) hl).trans h1, (hb.cell (p := ⟨b, 2, none⟩) hl).trans h2, (hb.cell (p := ⟨b, 3, none⟩) hl).trans h3, (hb.cell (p := ⟨b, 4, none⟩) hl).trans h4, (hb.cell (p := ⟨b, 5, none⟩) hl).trans h5⟩
theorem Six.of {W : World} {b : Nat} {T : TypeId} {x0 x1 x2 x3 x4 x5 : Value} (h : W.heap[b]? = some (.cells #[x0, x1, x2, x3, x4, x5] T (0, 0))) : Six W b x0 x1 x2 x3 x4 x5 := by
 refine ⟨?_, ?_, ?_, ?_, ?_, ?_⟩ <;> (rw [cell_of_row _ _ _ _ _ _ h]; rfl)
theorem frozen_of {W : World} {b : Nat} {T : TypeId} {cur : Array Value} (h : W.heap[b]? = some (.cells cur T (0, 0))) (j : Nat) : W.frozen? ⟨b, j, none⟩ = false := by
 simp [World.frozen?, h]
def six6 (W : World) (b : Nat) (x0 x1 x2 x3 x4 x5 : Value) : World := (((((W.setCell ⟨b, 0, none⟩ x0).setCell ⟨b, 1, none⟩ x1).setCell ⟨b, 2, none⟩ x2).setCell ⟨b, 3, none⟩ x3).setCell ⟨b, 4, none⟩ x4).setCell ⟨b, 5, none⟩ x5
theorem six_block {W : World} {b : Nat} {T : TypeId} {a0 a1 a2 a3 a4 a5 : Value} (h : W.heap[b]? = some (.cells #[a0, a1, a2, a3, a4, a5] T (0, 0))) (x0 x1 x2 x3 x4 x5 : Value) :
  (six6 W b x0 x1 x2 x3 x4 x5).heap[b]? = some (.cells #[x0, x1, x2, x3, x4, x5] T (0, 0)) := by
 have := block_setCell (block_setCell (block_setCell (block_setCell (block_setCell (block_setCell h 0 x0) 1 x1) 2 x2) 3 x3) 4 x4) 5 x5
 exact this
theorem six_upd (S : Nat → Prop) (W : World) (b : Nat) (x0 x1 x2 x3 x4 x5 : Value) (h : S b) : Upd S W (six6 W b x0 x1 x2 x3 x4 x5) :=
 ((((((Upd.refl S W).setCell _ _ (fun _ => h)).setCell _ _ (fun _ => h)).setCell _ _ (fun _ => h)).setCell _ _ (fun _ => h)).setCell _ _ (fun _ => h)).setCell _ _ (fun _ => h)
theorem ownsI_upd {S : Nat → Prop} {w w' : World} {base : Nat} {e : TypeId} {v : Value} {n : Nat} {xs : List Value} (h : w.ownsRow base e 1 v n xs) (hb : Upd S w w') (hs : ∀ b, base ≤ b → b < w.heap.size → ¬ S b) : w'.ownsRow base e 1 v n xs :=
 owns_upd h hb (fun k hk => hs k (h.lt k hk).1 (h.lt k hk).2)
theorem ownB_upd' {S : Nat → Prop} {w w' : World} {base : Nat} {v : Value} {zs : List Int} (h : OwnB w base 5 v zs) (hb : Upd S w w') (hs : ∀ b, base ≤ b → b < w.heap.size → ¬ S b) : OwnB w' base 5 v zs :=
 h.upd hb (fun k hk => hs k (h.owns.lt k hk).1 (h.owns.lt k hk).2)
structure Nd.Own (W : World) (N : Nat) (n : Nd) : Prop where
 h : OwnB W N 5 n.hi.v n.hi.s
 hb : B8 n.hi.s ∧ n.hi.s.length ≤ 140737488351232
 k : n.ks.Own W N
 v : n.vs.Own W N
 c : W.ownsRow N 3 1 n.cs.v n.cs.s.length (n.cs.s.map (Value.int .i64))
 kz : n.ks.L.length * 24 ≤ 140737488352000
 vz : n.vs.L.length * 24 ≤ 140737488352000
 cz : n.cs.s.length * 8 ≤ 140737488352000
theorem il_of_owns {W : World} {N : Nat} {t : IL} (h : W.ownsRow N 3 1 t.v t.s.length (t.s.map (Value.int .i64))) : t.Ok W := by
 obtain ⟨a, c, hv, hok, _⟩ := vok_of_owns h
 simp only [IL.v, Value.slice.injEq, true_and] at hv
 obtain ⟨rfl, rfl⟩ := hv
 exact ⟨row_of_owns2 h, fun e => by have := hok.n e; rw [List.length_map] at this; exact this, by have := hok.lc; rwa [List.length_map] at this⟩
theorem IL.Ok.vok {W : World} {t : IL} (h : t.Ok W) : VOk W t.a t.c (t.s.map (Value.int .i64)) := by
 refine ⟨fun i hi => ?_, fun e => by rw [List.length_map]; exact h.n e, by rw [List.length_map]; exact h.lc⟩
 have hi' : i < t.s.length := by rwa [List.length_map] at hi
 obtain ⟨b, o, ha, hc⟩ := h.r i hi'
 exact ⟨b, o, ha, by rw [hc, List.getElem_map]; simp [hi']⟩
theorem vok_il {W : World} {t : IL} (h : VOk W t.a t.c (t.s.map (Value.int .i64))) : t.Ok W := by
 refine ⟨fun i hi => ?_, fun e => by have := h.n e; rw [List.length_map] at this; exact this, by have := h.lc; rwa [List.length_map] at this⟩
 obtain ⟨b, o, ha, hc⟩ := h.r i (by rw [List.length_map]; exact hi)
 exact ⟨b, o, ha, by rw [hc, List.getElem_map]; simp [hi]⟩
theorem Nd.Own.ok {W : World} {N : Nat} {n : Nd} (h : n.Own W N) : n.Ok W := ⟨ownB_ok h.h h.hb.1 h.hb.2, h.k.ok, h.v.ok, il_of_owns h.c, h.kz, h.vz, h.cz⟩
theorem Nd.Own.below {W W' : World} {N : Nat} {n : Nd} (h : n.Own W N) (hb : Below W.heap.size W W') : n.Own W' N := ⟨h.h.below hb, h.hb, h.k.below hb, h.v.below hb, owns_below h.c hb, h.kz, h.vz, h.cz⟩
theorem Nd.Own.mono {W : World} {N M : Nat} {n : Nd} (h : n.Own W N) (hb : M ≤ N) : n.Own W M := ⟨h.h.mono hb, h.hb, h.k.mono hb, h.v.mono hb, owns_mono h.c hb, h.kz, h.vz, h.cz⟩
theorem Nd.Own.upd {W W' : World} {N : Nat} {S : Nat → Prop} {n : Nd} (h : n.Own W N) (hb : Upd S W W') (hs : ∀ b, N ≤ b → b < W.heap.size → ¬ S b) : n.Own W' N :=
 ⟨h.h.upd hb (fun k hk => hs k (h.h.owns.lt k hk).1 (h.h.owns.lt k hk).2), h.hb, h.k.upd hb hs, h.v.upd hb hs, owns_upd h.c hb (fun k hk => hs k (h.c.lt k hk).1 (h.c.lt k hk).2), h.kz, h.vz, h.cz⟩
theorem i_oneCell (zs : List Int) : ∀ u ∈ zs.map (Value.int .i64), u.oneCell' = true := by
 intro u hu
 obtain ⟨x, _, rfl⟩ := List.mem_map.1 hu
 rfl
def ClPost (w : World) (n : Nd) (e : Ending) (w' : World) : Prop :=
 ∃ m : Nd, e = .returned m.v ∧ m.p = n.p ∧ m.Own w' w.heap.size ∧ Below w.heap.size w w'
theorem below_drew {B : Nat} {w w' : World} (h : Below B w w') : Below B w w'.drew := ⟨h.os, h.tape, h.output, h.size, h.block⟩
def CtP (W : World) (L : List Tx) (l : Nat) (e : Ending) (w' : World) : Prop :=
 ∃ a c L', e = .returned (.slice a l c) ∧ L'.map (·.s) = L.map (·.s) ∧ L'.length = l ∧ (⟨a, c, L'⟩ : TL).Own w' W.heap.size ∧ Below W.heap.size W w'
theorem cloneTexts_p (a : Option Addr) (l c : Nat) (L : List Tx) (W : World) (h : (⟨a, c, L⟩ : TL).Ok W) (hl : L.length = l) (hm : l * 24 ≤ 140737488355000) : Calls Tryz.prog 165 #[.slice a l c] W (CtP W L l) := by
 subst hl
 refine (cloneTexts_any ⟨a, c, L⟩ W h hm).mono ?_
 rintro e w' ⟨⟨a', c', L'⟩, rfl, hp, ho, hb⟩
 have hl : L'.length = L.length := by have := congrArg List.length hp; simpa [TL.p] using this
 exact ⟨a', c', L', by simp only [TL.v, hl], hp, hl, ho, hb⟩
set_option maxRecDepth 100000 in
set_option maxHeartbeats 3200000 in
theorem clone_any (n : Nd) (w : World) (hn : n.Ok w) :
  Calls Tryz.prog 143 #[n.v] w (ClPost w n) := by
 obtain ⟨lv, ⟨ha, hc, hs⟩, ri, ⟨ka, kc, K⟩, ⟨va, vc, V⟩, ⟨ca, cc, C⟩⟩ := n
 have HH : Hid (∀ W, Below w.heap.size w W → Calls Tryz.prog 61 #[.slice ha hs.length hc] W fun e w' => ∃ v, e = .returned v ∧ OwnB w' W.heap.size 5 v hs ∧ Below W.heap.size W w') := fun W h => bclone_any ha hs.length hc hs W rfl (by have := hn.h.z; simp only at this; omega) hn.h.n (hn.h.below h).r
 have HK : Hid (∀ W, Below w.heap.size w W → Calls Tryz.prog 165 #[.slice ka K.length kc] W (CtP W K K.length)) := fun W h => cloneTexts_p ka K.length kc K W (hn.k.below h) rfl (by have := hn.kz; simp only at this; omega)
 have HV : Hid (∀ W, Below w.heap.size w W → Calls Tryz.prog 165 #[.slice va V.length vc] W (CtP W V V.length)) := fun W h => cloneTexts_p va V.length vc V W (hn.v.below h) rfl (by have := hn.vz; simp only at this; omega)
 have HC : Hid (∀ W, Below w.heap.size w W → Calls Tryz.prog 166 #[.slice ca C.length cc] W (ClnI W (C.map (Value.int .i64)))) := fun W h => clnI_any ca C.length cc (C.map (Value.int .i64)) W (by simp) (hn.c.below h).vok (i_oneCell C) (by have := hn.cz; simp only at this; omega)
 have hkz := hn.kz
 have hvz := hn.vz
 have hcz := hn.cz
 have HB8 : Hid (B8 hs ∧ hs.length ≤ 140737488351232) := ⟨hn.h.b8, hn.h.z⟩
 clear hn
 simp only at hkz hvz hcz
 have HKZ := hide hkz
 have HVZ := hide hvz
 have HCZ := hide hcz
 simp only [Nd.v, Tx.v, TL.v, IL.v]
 obtain ⟨lh, hlh⟩ : ∃ lh, hs.length = lh := ⟨_, rfl⟩
 obtain ⟨lk, hlk⟩ : ∃ lk, K.length = lk := ⟨_, rfl⟩
 obtain ⟨lw, hlw⟩ : ∃ lw, V.length = lw := ⟨_, rfl⟩
 obtain ⟨lc, hlc⟩ : ∃ lc, C.length = lc := ⟨_, rfl⟩
 rw [hlh] at HH
 rw [hlk] at HK
 rw [hlw] at HV
 rw [hlc] at HC
 rw [hlh, hlk, hlw, hlc]
 replace hlh := hide hlh
 replace hlk := hide hlk
 replace hlw := hide hlw
 replace hlc := hide hlc
 obtain ⟨w0, hw0⟩ : ∃ w0, w0 = w.alloc (.cells #[.int .i64 lv, .slice ha lh hc, .int .i64 ri, .slice ka lk kc, .slice va lw vc, .slice ca lc cc] 36) := ⟨_, rfl⟩
 obtain ⟨w1, hw1⟩ : ∃ w1, w1 = w0.alloc (.cells #[.int .i64 0, .slice none 0 0, .int .i64 0, .slice none 0 0, .slice none 0 0, .slice none 0 0] 36) := ⟨_, rfl⟩
 have z0 : w0.heap.size = w.heap.size + 1 := by rw [hw0]; simp
 have z1 : w1.heap.size = w.heap.size + 2 := by rw [hw1]; simp; omega
 have b0 : Below w.heap.size w w0 := by rw [hw0]; exact (Below.refl _ _).alloc (Nat.le_refl _) _
 have b1 : Below w0.heap.size w0 w1 := by rw [hw1]; exact (Below.refl _ _).alloc (Nat.le_refl _) _
 have B1 : Hid (Below w.heap.size w w1) := b0.trans (b1.mono b0.size)
 have g0 : w0.heap[w.heap.size]? = some (.cells #[.int .i64 lv, .slice ha lh hc, .int .i64 ri, .slice ka lk kc, .slice va lw vc, .slice ca lc cc] 36 (0, 0)) := by rw [hw0]; exact heap_alloc_new w _
 have G1 : Hid (w1.heap[w.heap.size + 1]? = some (.cells #[.int .i64 0, .slice none 0 0, .int .i64 0, .slice none 0 0, .slice none 0 0, .slice none 0 0] 36 (0, 0))) := by show _ = _; rw [← z0, hw1]; exact heap_alloc_new w0 _
 have S1 := hide ((Six.of g0).below b1)
 obtain ⟨c0, c1, c2, c3, c4, c5⟩ := S1.out
 have HW : Hid ((w.alloc (.cells #[.int .i64 lv, .slice ha lh hc, .int .i64 ri, .slice ka lk kc, .slice va lw vc, .slice ca lc cc] 36)).alloc (.cells #[.int .i64 0, .slice none 0 0, .int .i64 0, .slice none 0 0, .slice none 0 0, .slice none 0 0] 36) = w1) := by show _ = _; rw [hw1, hw0]
 have Z1 := hide z1
 clear hw0 hw1 z0 z1 b0 b1 g0
 go_enter Tryz.func143, Tryz.ntmps143
 go_wp2_with fail
 rw [HW.out]
 clear HW
 go_region_held3 (fun W => W.cell? ⟨w.heap.size, 0, none⟩ = some (.int .i64 lv) ∧ W.cell? ⟨w.heap.size, 1, none⟩ = some (.slice ha lh hc) ∧ W.cell? ⟨w.heap.size, 2, none⟩ = some (.int .i64 ri) ∧ W.cell? ⟨w.heap.size, 3, none⟩ = some (.slice ka lk kc) ∧ W.cell? ⟨w.heap.size, 4, none⟩ = some (.slice va lw vc) ∧ W.cell? ⟨w.heap.size, 5, none⟩ = some (.slice ca lc cc)) (go_keep) (first
  | (go_at_call 166; refine (HC.out w4 B4.out).mono ?_; rintro e w5 ⟨v5, rfl, hv5, hb5⟩; obtain ⟨cn, cd, rfl, _⟩ := vok_of_owns hv5; rw [List.length_map, hlc.out] at hv5 ⊢; have V5 := hide hv5; have B45 := hide hb5; have B5 := hide (B4.out.trans (hb5.mono B4.out.size)); obtain ⟨i0, i1, i2, i3, i4, i5⟩ := S4.out.below hb5; have G5 : Hid (w5.heap[w.heap.size + 1]? = some (.cells #[.int .i64 0, .slice none 0 0, .int .i64 0, .slice none 0 0, .slice none 0 0, .slice none 0 0] 36 (0, 0))) := (hb5.block _ (lt_of_block G4.out)).trans G4.out; obtain ⟨y0, y1, y2, y3, y4, y5⟩ := Six.of G5.out; have F5 := fun j => frozen_of G5.out j; clear hv5 hb5)
  | (go_at_call 165; refine (HV.out w3 B3.out).mono ?_; rintro e w4 ⟨vn, vd, V', rfl, hp4, hl4, ho4, hb4⟩; have P4 := hide hp4; have O4 := hide ho4; have L4 := hide hl4; have B34 := hide hb4; have B4 := hide (B3.out.trans (hb4.mono B3.out.size)); have S4 := hide (S3.out.below hb4); obtain ⟨f0, f1, f2, f3, f4, f5⟩ := S4.out; have G4 : Hid (w4.heap[w.heap.size + 1]? = some (.cells #[.int .i64 0, .slice none 0 0, .int .i64 0, .slice none 0 0, .slice none 0 0, .slice none 0 0] 36 (0, 0))) := (hb4.block _ (lt_of_block G3.out)).trans G3.out; clear hp4 ho4 hb4 hl4)
  | (go_at_call 165; refine (HK.out w2 B2.out).mono ?_; rintro e w3 ⟨kn, kd, K', rfl, hp3, hl3, ho3, hb3⟩; have P3 := hide hp3; have O3 := hide ho3; have L3 := hide hl3; have B23 := hide hb3; have B3 := hide (B2.out.trans (hb3.mono B2.out.size)); have S3 := hide (S2.out.below hb3); obtain ⟨e0, e1, e2, e3, e4, e5⟩ := S3.out; have G3 : Hid (w3.heap[w.heap.size + 1]? = some (.cells #[.int .i64 0, .slice none 0 0, .int .i64 0, .slice none 0 0, .slice none 0 0, .slice none 0 0] 36 (0, 0))) := (hb3.block _ (lt_of_block G2.out)).trans G2.out; clear hp3 ho3 hb3 hl3)
  | (go_at_call 61; refine (HH.out w1.drew (below_drew B1.out)).mono ?_; rintro e w2 ⟨v2, rfl, hv2, hb2'⟩; have hb2 : Below w1.heap.size w1 w2 := ⟨hb2'.os, hb2'.tape, hb2'.output, hb2'.size, hb2'.block⟩; obtain ⟨hn', hd', hve, _, _, _⟩ := hv2.slice; rw [hlh.out] at hve; subst hve; have V2 := hide hv2; have B12 := hide hb2; have B2 := hide (B1.out.trans (hb2.mono B1.out.size)); have S2 := hide (S1.out.below hb2); obtain ⟨d0, d1, d2, d3, d4, d5⟩ := S2.out; have G2 : Hid (w2.heap[w.heap.size + 1]? = some (.cells #[.int .i64 0, .slice none 0 0, .int .i64 0, .slice none 0 0, .slice none 0 0, .slice none 0 0] 36 (0, 0))) := (hb2.block _ (lt_of_block G1.out)).trans G1.out; clear hv2 hb2 hb2')
  | fail)
 go_wp2_with fail
 (try simp only [Exit.inBlock, Exit.then])
 clear HH HK HV HC c0 c1 c2 c3 c4 c5 d0 d1 d2 d3 d4 d5 e0 e1 e2 e3 e4 e5 f0 f1 f2 f3 f4 f5
 have hz1 := Z1.out
 have h12 := B12.out.size
 have h23 := B23.out.size
 have h34 := B34.out.size
 have h45 := B45.out.size
 have G6 := six_block G5.out (.int .i64 lv) (.slice hn' lh hd') (.int .i64 ri) (.slice kn lk kd) (.slice vn lw vd) (.slice cn lc cd)
 have U6 : Upd (fun b => b = w.heap.size + 1) w5 (six6 w5 (w.heap.size + 1) (.int .i64 lv) (.slice hn' lh hd') (.int .i64 ri) (.slice kn lk kd) (.slice vn lw vd) (.slice cn lc cd)) := six_upd _ _ _ _ _ _ _ _ _ rfl
 obtain ⟨q0, q1, q2, q3, q4, q5⟩ := Six.of G6
 show bodyPost _ _ _ _ _ (six6 w5 (w.heap.size + 1) (.int .i64 lv) (.slice hn' lh hd') (.int .i64 ri) (.slice kn lk kd) (.slice vn lw vd) (.slice cn lc cd))
 generalize six6 w5 (w.heap.size + 1) (.int .i64 lv) (.slice hn' lh hd') (.int .i64 ri) (.slice kn lk kd) (.slice vn lw vd) (.slice cn lc cd) = w6 at *
 refine bodyPost_ret (v := .agg #[.int .i64 lv, .slice hn' lh hd', .int .i64 ri, .slice kn lk kd, .slice vn lw vd, .slice cn lc cd]) (by simp [results, Tryz.results143, go_sem, q0, q1, q2, q3, q4, q5]) rfl ⟨⟨lv, ⟨hn', hd', hs⟩, ri, ⟨kn, kd, K'⟩, ⟨vn, vd, V'⟩, ⟨cn, cd, C⟩⟩, ?_, ?_, ?_, ?_⟩
 ·simp only [Nd.v, Tx.v, TL.v, IL.v, hlh.out, L3.out, L4.out, hlc.out]
 ·simp only [Nd.p, TL.p]
  rw [show K'.map (·.s) = K.map (·.s) from P3.out, show V'.map (·.s) = V.map (·.s) from P4.out]
 ·have b35 : Below w3.heap.size w3 w5 := B34.out.trans (B45.out.mono B34.out.size)
  have b25 : Below w2.heap.size w2 w5 := B23.out.trans (b35.mono B23.out.size)
  have a2 : OwnB w2 w1.heap.size 5 (.slice hn' lh hd') hs := V2.out
  have far : ∀ N b, w1.heap.size ≤ N → N ≤ b → b < w5.heap.size → ¬ (b = w.heap.size + 1) := fun N b h1 h2 _ h3 => by omega
  refine ⟨?_, HB8.out, ?_, ?_, ?_, by have := HKZ.out; rw [hlk.out] at this; simp only [L3.out]; exact this, by have := HVZ.out; rw [hlw.out] at this; simp only [L4.out]; exact this, HCZ.out⟩
  ·simp only [Tx.v, hlh.out]
   exact (ownB_upd' (a2.below b25) U6 (fun b => far _ b (Nat.le_refl _))).mono (by omega)
  ·exact ((O3.out.below b35).upd U6 (fun b => far _ b h12)).mono (by omega)
  ·exact ((O4.out.below B45.out).upd U6 (fun b => far _ b (by omega))).mono (by omega)
  ·simp only [IL.v, hlc.out]
   exact owns_mono (ownsI_upd V5.out U6 (fun b => far _ b (by omega))) (by omega)
 ·exact B5.out.trans (U6.below (by have := B5.out.size; omega) (fun k hk e => by omega))
end Go.Proofs.YtpljbgcofmlhbaaGreat
namespace Go.Proofs.YtpljbgcofmlhbaaGreat
open Go.RowKit
set_option maxRecDepth 100000
def LiPost (w : World) (t : TypeId) (xs : List Value) (e : Ending) (w' : World) : Prop :=
 ∃ v, e = .returned v ∧ w'.ownsRow w.heap.size t 1 v xs.length xs ∧ Below w.heap.size w w'
set_option maxHeartbeats 800000 in
theorem clistT_any (a : Option Addr) (n c : Nat) (xs : List Value) (w : World) (hl : xs.length = n) (h : VOk w a c xs) (h1 : ∀ u ∈ xs, u.oneCell' = true) (hm : n * 24 ≤ 140737488355000) :
  Calls Tryz.prog 163 #[.slice a n c] w (LiPost w 28 xs) := by
 obtain ⟨i0, hi, hz0, hz1, hz2⟩ := info_parts infoT
 have HV := hide h
 have HL := hide hl
 have HN : Hid (a = none → n = 0 ∧ c = 0) := fun e => by have := h.n e; rw [hl] at this; exact this
 clear h hl
 go_enter Tryz.func163, Tryz.ntmps163
 go_wp2_with (first
  | (at_builtin; refine append_own_any rfl (.const (.slice none 0 0)) (.tmp 3) 31 rfl w.heap.size 28 i0 (.slice none 0 0) 1 24 Tryz.underlying31 hi hz0 hz1 hz2 rfl (by decide) (.slice none 0 0) 0 [] rfl (World.ownsRow_nil _ _ _ _) a n c xs rfl (by rw [HL.out]; omega) HN.out HV.out.r.news h1 (by unfold maxLen; omega) (by omega) (Nat.le_refl _) ?_; intro v4 w4 hown4 hg4; have HO4 := hide hown4; have HG4 := hide hg4; clear hown4 hg4)
  | fail)
 go_ret
 refine ⟨v4, rfl, ?_, (Below.refl _ _).grown HG4.out (Nat.le_refl _) (fun k hk => by cases hk)⟩
 have := HO4.out
 simp only [List.nil_append, Nat.zero_add] at this
 rw [HL.out]; exact this
set_option maxHeartbeats 800000 in
theorem clistI_any (a : Option Addr) (n c : Nat) (xs : List Value) (w : World) (hl : xs.length = n) (h : VOk w a c xs) (h1 : ∀ u ∈ xs, u.oneCell' = true) (hm : n * 8 ≤ 140737488355000) :
  Calls Tryz.prog 137 #[.slice a n c] w (LiPost w 3 xs) := by
 obtain ⟨i0, hi, hz0, hz1, hz2⟩ := info_parts infoI
 have HV := hide h
 have HL := hide hl
 have HN : Hid (a = none → n = 0 ∧ c = 0) := fun e => by have := h.n e; rw [hl] at this; exact this
 clear h hl
 go_enter Tryz.func137, Tryz.ntmps137
 go_wp2_with (first
  | (at_builtin; refine append_own_any rfl (.const (.slice none 0 0)) (.tmp 3) 32 rfl w.heap.size 3 i0 (.int .i64 0) 1 8 Tryz.underlying32 hi hz0 hz1 hz2 rfl (by decide) (.slice none 0 0) 0 [] rfl (World.ownsRow_nil _ _ _ _) a n c xs rfl (by rw [HL.out]; omega) HN.out HV.out.r.news h1 (by unfold maxLen; omega) (by omega) (Nat.le_refl _) ?_; intro v4 w4 hown4 hg4; have HO4 := hide hown4; have HG4 := hide hg4; clear hown4 hg4)
  | fail)
 go_ret
 refine ⟨v4, rfl, ?_, (Below.refl _ _).grown HG4.out (Nat.le_refl _) (fun k hk => by cases hk)⟩
 have := HO4.out
 simp only [List.nil_append, Nat.zero_add] at this
 rw [HL.out]; exact this
set_option maxRecDepth 100000 in
set_option maxHeartbeats 1600000 in
theorem copyTexts_any (t : TL) (w : World) (ht : t.Ok w) (hm : t.L.length * 24 ≤ 140737488355000) :
  Calls Tryz.prog 136 #[t.v] w (CtPost w t.L) := by
 obtain ⟨ka, kc, L⟩ := t
 simp only [TL.v] at hm ⊢
 obtain ⟨l, hl⟩ : ∃ l, L.length = l := ⟨_, rfl⟩
 have HCL := hide (clistT_any ka l kc (L.map Tx.v) w (by rw [List.length_map]; exact hl) ht.vok (tx_oneCell L) (by rw [← hl]; omega))
 have HOK : Hid (∀ W, Below w.heap.size w W → ∀ x ∈ L, x.Ok W) := fun W h x hx => (ht.ok x hx).below h
 rw [hl] at hm ⊢
 replace hl := hide hl
 clear ht
 go_enter Tryz.func136, Tryz.ntmps136
 go_wp2_with fail
 refine HCL.out.mono ?_
 rintro e w1 ⟨v, rfl, hown, hb1⟩
 obtain ⟨oa, oc, rfl, _, _⟩ := vok_of_owns hown
 rw [List.length_map, hl.out] at hown ⊢
 have H0 : Hid (CtI w w1 (.slice oa l oc) L []) := ⟨Nat.zero_le _, by rw [hl.out]; simpa using hown, fun x hx => (by cases hx), rfl, hb1⟩
 clear hown hb1 HCL
 go_wp2_with fail
 go_loopw [10] (fun q wr => ∃ C : List Tx, q = .int .i64 (C.length : Nat) ∧ Hid (CtI w wr (.slice oa l oc) L C)) (fun q _ => l - (intOf q).toNat)
 case atStart => exact ⟨[], rfl, H0⟩
 case round =>
  clear H0
  obtain ⟨C, rfl, HI⟩ := hrel
  rename World => wr
  have hle := HI.out.le
  rw [hl.out] at hle
  obtain ⟨i, hi⟩ : ∃ i, C.length = i := ⟨_, rfl⟩
  rw [hi] at hle ⊢
  replace hi := hide hi
  by_cases hlt : i < l
  ·have j1 : (i : Int) < (l : Int) := by omega
   have hiL : i < L.length := by rw [hl.out]; exact hlt
   have hrow := HI.out.row
   rw [hi.out, List.drop_eq_getElem_cons hiL, hl.out] at hrow
   obtain ⟨g, rfl, hgN, cur, hg, hcs, hcm⟩ : ∃ g, oa = some ⟨g, 0, none⟩ ∧ w.heap.size ≤ g ∧ ∃ cur, wr.heap[g]? = some (.cells cur 28 (0, 0)) ∧ cur.size = oc ∧ oc ≤ maxLen := by
    rcases hrow.2 with ⟨hv, h0⟩ | ⟨g, cap, cur, hv, hb, hh, h1, h2, h3, h4⟩
    ·omega
    ·cases hv; exact ⟨g, rfl, hb, cur, hh, by omega, h2⟩
   have s0 := hrow.cells (g := g) rfl i L[i].v (get_mid _ hi.out)
   rw [Addr.add_lit, Nat.zero_add] at s0
   have OK := hide (HOK.out wr HI.out.b L[i] (List.getElem_mem hiL))
   obtain ⟨x, hx⟩ : ∃ x, x = L[i] := ⟨_, rfl⟩
   rw [← hx] at s0 OK hrow
   have HRW := hide hrow
   have HX := hide hx
   have HG := hide hg
   unfold Tx.v at s0
   obtain ⟨nk, hnk⟩ : ∃ nk, x.s.length = nk := ⟨_, rfl⟩
   rw [hnk] at s0
   have hlg := lt_of_block hg
   have HBC := hide (bclone_any x.a nk x.c x.s wr hnk (by have := OK.out.z; omega) (by have := OK.out.n; rw [hnk] at this; exact this) OK.out.r)
   replace hnk := hide hnk
   clear hrow hx hg
   go_wp2_with fail
   refine HBC.out.mono ?_
   rintro e w2 ⟨v2, rfl, hv2, hb2⟩
   obtain ⟨na, nc, hve, _, _, _⟩ := hv2.slice
   rw [hnk.out] at hve
   subst hve
   have c2 : w2.cell? ⟨g, i, none⟩ = some (.slice x.a nk x.c) := (hb2.cell (p := ⟨g, i, none⟩) hlg).trans s0
   have g2 : w2.heap[g]? = some (.cells cur 28 (0, 0)) := (hb2.block g hlg).trans HG.out
   have f2 : w2.frozen? ⟨g, i, none⟩ = false := by simp [World.frozen?, g2]
   have G2 := hide g2
   have V2 := hide hv2
   have B2 := hide hb2
   clear s0 g2 hv2 hb2 HBC
   go_wp2_with fail
   have HNEW : Hid (CtI w (w2.setCell ⟨g, i, none⟩ (.slice na nk nc)) (.slice (some ⟨g, 0, none⟩) l oc) L (C ++ [⟨na, nc, x.s⟩])) := by
    have hci := hi.out
    have hnv : (⟨na, nc, x.s⟩ : Tx).v = .slice na nk nc := by simp only [Tx.v, hnk.out]
    have hbw : Below w.heap.size w w2 := HI.out.b.trans (B2.out.mono HI.out.b.size)
    have U : Upd (fun b => b = g) w2 (w2.setCell ⟨g, i, none⟩ (.slice na nk nc)) := upd_set _ _ _ _ _ rfl
    refine ⟨by rw [List.length_append, List.length_singleton, hci]; omega, ?_, ?_, ?_, ?_⟩
    ·have h1 := own_setV (owns_below HRW.out B2.out) i (.slice na nk nc)
     have h2 := set_mid (D := L.drop (i + 1)) x ⟨na, nc, x.s⟩ hci
     rw [hnv] at h2
     rw [h2] at h1
     rw [hl.out, List.length_append, List.length_singleton, hci]
     exact h1
    ·intro y hy
     rcases List.mem_append.1 hy with hy | hy
     ·exact ((HI.out.each y hy).below B2.out).upd U (typ_ne ((HI.out.each y hy).below B2.out) G2.out)
     ·obtain rfl : y = ⟨na, nc, x.s⟩ := by simpa using hy
      have h1 : OwnB w2 w.heap.size 5 (⟨na, nc, x.s⟩ : Tx).v x.s := by rw [hnv]; exact V2.out.mono HI.out.b.size
      exact h1.upd U (typ_ne h1 G2.out)
    ·rw [List.map_append, HI.out.s, List.length_append, List.length_singleton, hci, take_next hiL, List.map_append, HX.out]
     rfl
    ·exact hbw.trans (U.below (by have := hbw.size; omega) (fun k hk e => by omega))
   clear G2 V2 B2 c2 f2
   go_roundw
   case rel => exact ⟨_, by rw [List.length_append, List.length_singleton, hi.out]; go_num, HNEW⟩
   case measure => simp [intOf]; omega
  ·have j1 : ¬ (i : Int) < (l : Int) := by omega
   obtain rfl : i = l := by omega
   have HF : Hid (CtPost w L (.returned (.slice oa i oc)) wr) := by
    have hd : L.drop C.length = [] := List.drop_eq_nil_of_le (by rw [hl.out, hi.out]; exact Nat.le_refl _)
    have hs := HI.out.s
    rw [List.take_of_length_le (by rw [hl.out, hi.out]; exact Nat.le_refl _)] at hs
    have hr := HI.out.row
    rw [hd, List.append_nil, hl.out] at hr
    refine ⟨⟨oa, oc, C⟩, by simp only [TL.v, hi.out], hs, ⟨by simp only [TL.v, hi.out]; exact hr, HI.out.each, fun x hx => ?_⟩, HI.out.b⟩
    have : x.s ∈ L.map (·.s) := by rw [← hs]; exact List.mem_map.2 ⟨x, hx, rfl⟩
    obtain ⟨y, hy, hys⟩ := List.mem_map.1 this
    have := HOK.out w (Below.refl _ _) y hy
    rw [← hys]
    exact ⟨this.b8, this.z⟩
   go_wp2_with fail
   go_ret
   exact HF.out
end Go.Proofs.YtpljbgcofmlhbaaGreat
namespace Go.Proofs.YtpljbgcofmlhbaaGreat
open Go.RowKit
set_option maxRecDepth 100000
def Tri (W : World) (b : Nat) (x0 x1 x2 : Value) : Prop := W.cell? ⟨b, 0, none⟩ = some x0 ∧ W.cell? ⟨b, 1, none⟩ = some x1 ∧ W.cell? ⟨b, 2, none⟩ = some x2
theorem Tri.below {W W' : World} {b : Nat} {x0 x1 x2 : Value} (h : Tri W b x0 x1 x2) (hb : Below W.heap.size W W') : Tri W' b x0 x1 x2 := by
 have hl : b < W.heap.size := World.block_lt_of_cell? W ⟨b, 0, none⟩ h.1
 obtain ⟨h0, h1, h2⟩ := h
 exact ⟨(hb.cell (p := ⟨b, 0, none⟩) hl).trans h0, (hb.cell (p := ⟨b, 1, none⟩) hl).trans h1, (hb.cell (p := ⟨b, 2, none⟩) hl).trans h2⟩
theorem Tri.of {W : World} {b : Nat} {T : TypeId} {x0 x1 x2 : Value} (h : W.heap[b]? = some (.cells #[x0, x1, x2] T (0, 0))) : Tri W b x0 x1 x2 := by
 refine ⟨?_, ?_, ?_⟩ <;> (rw [cell_of_row _ _ _ _ _ _ h]; rfl)
def tri3 (W : World) (b : Nat) (x0 x1 x2 : Value) : World := ((W.setCell ⟨b, 0, none⟩ x0).setCell ⟨b, 1, none⟩ x1).setCell ⟨b, 2, none⟩ x2
theorem tri_block {W : World} {b : Nat} {T : TypeId} {a0 a1 a2 : Value} (h : W.heap[b]? = some (.cells #[a0, a1, a2] T (0, 0))) (x0 x1 x2 : Value) : (tri3 W b x0 x1 x2).heap[b]? = some (.cells #[x0, x1, x2] T (0, 0)) := by
 have := block_setCell (block_setCell (block_setCell h 0 x0) 1 x1) 2 x2
 exact this
theorem tri_upd (S : Nat → Prop) (W : World) (b : Nat) (x0 x1 x2 : Value) (h : S b) : Upd S W (tri3 W b x0 x1 x2) :=
 (((Upd.refl S W).setCell _ _ (fun _ => h)).setCell _ _ (fun _ => h)).setCell _ _ (fun _ => h)
def HcPost (w : World) (lv ri : Int) (l : Nat) (hs : List Int) (e : Ending) (w' : World) : Prop :=
 ∃ a c, e = .returned (.agg #[.int .i64 lv, .slice a l c, .int .i64 ri]) ∧ OwnB w' w.heap.size 5 (.slice a l c) hs ∧ Below w.heap.size w w'
set_option maxRecDepth 100000 in
set_option maxHeartbeats 1600000 in
theorem copyHead_any (lv ri : Int) (t : Tx) (w : World) (ht : t.Ok w) :
  Calls Tryz.prog 141 #[.agg #[.int .i64 lv, t.v, .int .i64 ri]] w (HcPost w lv ri t.s.length t.s) := by
 obtain ⟨ha, hc, hs⟩ := t
 have HH : Hid (∀ W, Below w.heap.size w W → Calls Tryz.prog 61 #[.slice ha hs.length hc] W fun e w' => ∃ v, e = .returned v ∧ OwnB w' W.heap.size 5 v hs ∧ Below W.heap.size W w') := fun W h => bclone_any ha hs.length hc hs W rfl (by have := ht.z; simp only at this; omega) ht.n (ht.below h).r
 clear ht
 simp only [Tx.v]
 obtain ⟨lh, hlh⟩ : ∃ lh, hs.length = lh := ⟨_, rfl⟩
 rw [hlh] at HH ⊢
 replace hlh := hide hlh
 obtain ⟨w0, hw0⟩ : ∃ w0, w0 = w.alloc (.cells #[.int .i64 lv, .slice ha lh hc, .int .i64 ri] 30) := ⟨_, rfl⟩
 obtain ⟨w1, hw1⟩ : ∃ w1, w1 = w0.alloc (.cells #[.int .i64 0, .slice none 0 0, .int .i64 0] 30) := ⟨_, rfl⟩
 have z0 : w0.heap.size = w.heap.size + 1 := by rw [hw0]; simp
 have z1 : w1.heap.size = w.heap.size + 2 := by rw [hw1]; simp; omega
 have b0 : Below w.heap.size w w0 := by rw [hw0]; exact (Below.refl _ _).alloc (Nat.le_refl _) _
 have b1 : Below w0.heap.size w0 w1 := by rw [hw1]; exact (Below.refl _ _).alloc (Nat.le_refl _) _
 have B1 : Hid (Below w.heap.size w w1) := b0.trans (b1.mono b0.size)
 have g0 : w0.heap[w.heap.size]? = some (.cells #[.int .i64 lv, .slice ha lh hc, .int .i64 ri] 30 (0, 0)) := by rw [hw0]; exact heap_alloc_new w _
 have G1 : Hid (w1.heap[w.heap.size + 1]? = some (.cells #[.int .i64 0, .slice none 0 0, .int .i64 0] 30 (0, 0))) := by show _ = _; rw [← z0, hw1]; exact heap_alloc_new w0 _
 have S1 := hide ((Tri.of g0).below b1)
 obtain ⟨c0, c1, c2⟩ := S1.out
 have HW : Hid ((w.alloc (.cells #[.int .i64 lv, .slice ha lh hc, .int .i64 ri] 30)).alloc (.cells #[.int .i64 0, .slice none 0 0, .int .i64 0] 30) = w1) := by show _ = _; rw [hw1, hw0]
 have Z1 := hide z1
 clear hw0 hw1 z0 z1 b0 b1 g0
 go_enter Tryz.func141, Tryz.ntmps141
 go_wp2_with fail
 rw [HW.out]
 clear HW
 go_region_held3 (fun W => W.cell? ⟨w.heap.size, 0, none⟩ = some (.int .i64 lv) ∧ W.cell? ⟨w.heap.size, 1, none⟩ = some (.slice ha lh hc) ∧ W.cell? ⟨w.heap.size, 2, none⟩ = some (.int .i64 ri)) (go_keep) (first
  | (go_at_call 61; refine (HH.out w1.drew (below_drew B1.out)).mono ?_; rintro e w2 ⟨v2, rfl, hv2, hb2'⟩; have hb2 : Below w1.heap.size w1 w2 := ⟨hb2'.os, hb2'.tape, hb2'.output, hb2'.size, hb2'.block⟩; obtain ⟨hn', hd', hve, _, _, _⟩ := hv2.slice; rw [hlh.out] at hve; subst hve; have V2 := hide hv2; have B12 := hide hb2; have B2 := hide (B1.out.trans (hb2.mono B1.out.size)); have S2 := hide (S1.out.below hb2); obtain ⟨d0, d1, d2⟩ := S2.out; have G2 : Hid (w2.heap[w.heap.size + 1]? = some (.cells #[.int .i64 0, .slice none 0 0, .int .i64 0] 30 (0, 0))) := (hb2.block _ (lt_of_block G1.out)).trans G1.out; obtain ⟨y0, y1, y2⟩ := Tri.of G2.out; have F5 := fun j => frozen_of G2.out j; clear hv2 hb2 hb2')
  | fail)
 go_wp2_with fail
 (try simp only [Exit.inBlock, Exit.then])
 clear HH c0 c1 c2 d0 d1 d2
 have hz1 := Z1.out
 have h12 := B12.out.size
 have G6 := tri_block G2.out (.int .i64 lv) (.slice hn' lh hd') (.int .i64 ri)
 have U6 : Upd (fun b => b = w.heap.size + 1) w2 (tri3 w2 (w.heap.size + 1) (.int .i64 lv) (.slice hn' lh hd') (.int .i64 ri)) := tri_upd _ _ _ _ _ _ rfl
 obtain ⟨q0, q1, q2⟩ := Tri.of G6
 show bodyPost _ _ _ _ _ (tri3 w2 (w.heap.size + 1) (.int .i64 lv) (.slice hn' lh hd') (.int .i64 ri))
 generalize tri3 w2 (w.heap.size + 1) (.int .i64 lv) (.slice hn' lh hd') (.int .i64 ri) = w6 at *
 refine bodyPost_ret (v := .agg #[.int .i64 lv, .slice hn' lh hd', .int .i64 ri]) (by simp [results, Tryz.results141, go_sem, q0, q1, q2]) rfl ⟨hn', hd', rfl, ?_, ?_⟩
 ·have a2 : OwnB w2 w1.heap.size 5 (.slice hn' lh hd') hs := V2.out
  exact (ownB_upd' a2 U6 (fun b h1 h2 h3 => by omega)).mono (by omega)
 ·exact B2.out.trans (U6.below (by have := B2.out.size; omega) (fun k hk e => by omega))
theorem copyTexts_p (a : Option Addr) (l c : Nat) (L : List Tx) (W : World) (h : (⟨a, c, L⟩ : TL).Ok W) (hl : L.length = l) (hm : l * 24 ≤ 140737488355000) : Calls Tryz.prog 136 #[.slice a l c] W (CtP W L l) := by
 subst hl
 refine (copyTexts_any ⟨a, c, L⟩ W h hm).mono ?_
 rintro e w' ⟨⟨a', c', L'⟩, rfl, hp, ho, hb⟩
 have hp' : L'.map (·.s) = L.map (·.s) := hp
 have hll : L'.length = L.length := by have := congrArg List.length hp'; simpa using this
 exact ⟨a', c', L', by simp only [TL.v, hll], hp', hll, ho, hb⟩
def BcPost (w : World) (lk lw lc : Nat) (K V : List Tx) (C : List Int) (e : Ending) (w' : World) : Prop :=
 ∃ kn kd K' vn vd V' cn cd, e = .returned (.agg #[.slice kn lk kd, .slice vn lw vd, .slice cn lc cd]) ∧ K'.map (·.s) = K.map (·.s) ∧ V'.map (·.s) = V.map (·.s) ∧ K'.length = lk ∧ V'.length = lw ∧
  (⟨kn, kd, K'⟩ : TL).Own w' w.heap.size ∧ (⟨vn, vd, V'⟩ : TL).Own w' w.heap.size ∧ w'.ownsRow w.heap.size 3 1 (.slice cn lc cd) lc (C.map (Value.int .i64)) ∧ Below w.heap.size w w'
set_option maxRecDepth 100000 in
set_option maxHeartbeats 3200000 in
theorem copyBody_any (k v : TL) (c : IL) (w : World) (hk : k.Ok w) (hv : v.Ok w) (hc : c.Ok w) (kz : k.L.length * 24 ≤ 140737488352000) (vz : v.L.length * 24 ≤ 140737488352000) (cz : c.s.length * 8 ≤ 140737488352000) :
  Calls Tryz.prog 91 #[.agg #[k.v, v.v, c.v]] w (BcPost w k.L.length v.L.length c.s.length k.L v.L c.s) := by
 obtain ⟨ka, kc, K⟩ := k
 obtain ⟨va, vc, V⟩ := v
 obtain ⟨ca, cc, C⟩ := c
 simp only at kz vz cz
 have HK : Hid (∀ W, Below w.heap.size w W → Calls Tryz.prog 136 #[.slice ka K.length kc] W (CtP W K K.length)) := fun W h => copyTexts_p ka K.length kc K W (hk.below h) rfl (by omega)
 have HV : Hid (∀ W, Below w.heap.size w W → Calls Tryz.prog 136 #[.slice va V.length vc] W (CtP W V V.length)) := fun W h => copyTexts_p va V.length vc V W (hv.below h) rfl (by omega)
 have HC : Hid (∀ W, Below w.heap.size w W → Calls Tryz.prog 137 #[.slice ca C.length cc] W (LiPost W 3 (C.map (Value.int .i64)))) := fun W h => clistI_any ca C.length cc _ W (by simp) (hc.below h).vok (i_oneCell C) (by omega)
 clear hk hv hc kz vz cz
 simp only [TL.v, IL.v]
 obtain ⟨lk, hlk⟩ : ∃ lk, K.length = lk := ⟨_, rfl⟩
 obtain ⟨lw, hlw⟩ : ∃ lw, V.length = lw := ⟨_, rfl⟩
 obtain ⟨lc, hlc⟩ : ∃ lc, C.length = lc := ⟨_, rfl⟩
 rw [hlk] at HK
 rw [hlw] at HV
 rw [hlc] at HC
 rw [hlk, hlw, hlc]
 replace hlk := hide hlk
 replace hlw := hide hlw
 replace hlc := hide hlc
 obtain ⟨w0, hw0⟩ : ∃ w0, w0 = w.alloc (.cells #[.slice ka lk kc, .slice va lw vc, .slice ca lc cc] 34) := ⟨_, rfl⟩
 obtain ⟨w1, hw1⟩ : ∃ w1, w1 = w0.alloc (.cells #[.slice none 0 0, .slice none 0 0, .slice none 0 0] 34) := ⟨_, rfl⟩
 have z0 : w0.heap.size = w.heap.size + 1 := by rw [hw0]; simp
 have z1 : w1.heap.size = w.heap.size + 2 := by rw [hw1]; simp; omega
 have b0 : Below w.heap.size w w0 := by rw [hw0]; exact (Below.refl _ _).alloc (Nat.le_refl _) _
 have b1 : Below w0.heap.size w0 w1 := by rw [hw1]; exact (Below.refl _ _).alloc (Nat.le_refl _) _
 have B1 : Hid (Below w.heap.size w w1) := b0.trans (b1.mono b0.size)
 have g0 : w0.heap[w.heap.size]? = some (.cells #[.slice ka lk kc, .slice va lw vc, .slice ca lc cc] 34 (0, 0)) := by rw [hw0]; exact heap_alloc_new w _
 have G1 : Hid (w1.heap[w.heap.size + 1]? = some (.cells #[.slice none 0 0, .slice none 0 0, .slice none 0 0] 34 (0, 0))) := by show _ = _; rw [← z0, hw1]; exact heap_alloc_new w0 _
 have S1 := hide ((Tri.of g0).below b1)
 obtain ⟨c0, c1, c2⟩ := S1.out
 have HW : Hid ((w.alloc (.cells #[.slice ka lk kc, .slice va lw vc, .slice ca lc cc] 34)).alloc (.cells #[.slice none 0 0, .slice none 0 0, .slice none 0 0] 34) = w1) := by show _ = _; rw [hw1, hw0]
 have Z1 := hide z1
 clear hw0 hw1 z0 z1 b0 b1 g0
 go_enter Tryz.func91, Tryz.ntmps91
 go_wp2_with fail
 rw [HW.out]
 clear HW
 go_region_held3 (fun W => W.cell? ⟨w.heap.size, 0, none⟩ = some (.slice ka lk kc) ∧ W.cell? ⟨w.heap.size, 1, none⟩ = some (.slice va lw vc) ∧ W.cell? ⟨w.heap.size, 2, none⟩ = some (.slice ca lc cc)) (go_keep) (first
  | (go_at_call 137; refine (HC.out w4 B4.out).mono ?_; rintro e w5 ⟨v5, rfl, hv5, hb5⟩; obtain ⟨cn, cd, rfl, _⟩ := vok_of_owns hv5; rw [List.length_map, hlc.out] at hv5 ⊢; have V5 := hide hv5; have B45 := hide hb5; have B5 := hide (B4.out.trans (hb5.mono B4.out.size)); obtain ⟨i0, i1, i2⟩ := S4.out.below hb5; have G5 : Hid (w5.heap[w.heap.size + 1]? = some (.cells #[.slice none 0 0, .slice none 0 0, .slice none 0 0] 34 (0, 0))) := (hb5.block _ (lt_of_block G4.out)).trans G4.out; obtain ⟨y0, y1, y2⟩ := Tri.of G5.out; have F5 := fun j => frozen_of G5.out j; clear hv5 hb5)
  | (go_at_call 136; refine (HV.out w3 B3.out).mono ?_; rintro e w4 ⟨vn, vd, V', rfl, hp4, hl4, ho4, hb4⟩; have P4 := hide hp4; have O4 := hide ho4; have L4 := hide hl4; have B34 := hide hb4; have B4 := hide (B3.out.trans (hb4.mono B3.out.size)); have S4 := hide (S3.out.below hb4); obtain ⟨f0, f1, f2⟩ := S4.out; have G4 : Hid (w4.heap[w.heap.size + 1]? = some (.cells #[.slice none 0 0, .slice none 0 0, .slice none 0 0] 34 (0, 0))) := (hb4.block _ (lt_of_block G3.out)).trans G3.out; clear hp4 ho4 hb4 hl4)
  | (go_at_call 136; refine (HK.out w1.drew (below_drew B1.out)).mono ?_; rintro e w3 ⟨kn, kd, K', rfl, hp3, hl3, ho3, hb3'⟩; have hb3 : Below w1.heap.size w1 w3 := ⟨hb3'.os, hb3'.tape, hb3'.output, hb3'.size, hb3'.block⟩; have P3 := hide hp3; have O3 := hide ho3; have L3 := hide hl3; have B23 := hide hb3; have B3 := hide (B1.out.trans (hb3.mono B1.out.size)); have S3 := hide (S1.out.below hb3); obtain ⟨e0, e1, e2⟩ := S3.out; have G3 : Hid (w3.heap[w.heap.size + 1]? = some (.cells #[.slice none 0 0, .slice none 0 0, .slice none 0 0] 34 (0, 0))) := (hb3.block _ (lt_of_block G1.out)).trans G1.out; clear hp3 ho3 hb3 hb3' hl3)
  | fail)
 go_wp2_with fail
 (try simp only [Exit.inBlock, Exit.then])
 clear HK HV HC c0 c1 c2 e0 e1 e2 f0 f1 f2
 have hz1 := Z1.out
 have h23 := B23.out.size
 have h34 := B34.out.size
 have h45 := B45.out.size
 have G6 := tri_block G5.out (.slice kn lk kd) (.slice vn lw vd) (.slice cn lc cd)
 have U6 : Upd (fun b => b = w.heap.size + 1) w5 (tri3 w5 (w.heap.size + 1) (.slice kn lk kd) (.slice vn lw vd) (.slice cn lc cd)) := tri_upd _ _ _ _ _ _ rfl
 obtain ⟨q0, q1, q2⟩ := Tri.of G6
 show bodyPost _ _ _ _ _ (tri3 w5 (w.heap.size + 1) (.slice kn lk kd) (.slice vn lw vd) (.slice cn lc cd))
 generalize tri3 w5 (w.heap.size + 1) (.slice kn lk kd) (.slice vn lw vd) (.slice cn lc cd) = w6 at *
 have b35 : Below w3.heap.size w3 w5 := B34.out.trans (B45.out.mono B34.out.size)
 refine bodyPost_ret (v := .agg #[.slice kn lk kd, .slice vn lw vd, .slice cn lc cd]) (by simp [results, Tryz.results91, go_sem, q0, q1, q2]) rfl ⟨kn, kd, K', vn, vd, V', cn, cd, rfl, P3.out, P4.out, L3.out, L4.out, ?_, ?_, ?_, ?_⟩
 ·have a3 : (⟨kn, kd, K'⟩ : TL).Own w3 w1.heap.size := O3.out
  exact ((a3.below b35).upd U6 (fun b h1 h2 h3 => by omega)).mono (by omega)
 ·exact ((O4.out.below B45.out).upd U6 (fun b h1 h2 h3 => by omega)).mono (by omega)
 ·exact owns_mono (ownsI_upd V5.out U6 (fun b h1 h2 h3 => by omega)) (by omega)
 ·exact B5.out.trans (U6.below (by have := B5.out.size; omega) (fun k hk e => by omega))
end Go.Proofs.YtpljbgcofmlhbaaGreat
namespace Go.Proofs.YtpljbgcofmlhbaaGreat
open Go.RowKit
set_option maxRecDepth 100000
set_option maxRecDepth 100000 in
set_option maxHeartbeats 800000 in
theorem rbeyond_any (n : Nd) (k : Tx) (w : World) (hn : n.Ok w) (hk : k.Ok w) :
  Calls Tryz.prog 147 #[n.v, k.v] w fun e w' => e = .returned (.bool (beyB n.hi.s k.s)) ∧ Below w.heap.size w w' := by
 obtain ⟨lv, ⟨ha, hc, hs⟩, ri, ⟨ka, kc, K⟩, ⟨va, vc, V⟩, ⟨ca, cc, C⟩⟩ := n
 obtain ⟨xa, xc, xs⟩ := k
 have HH : Hid (∀ W, Below w.heap.size w W → (⟨ha, hc, hs⟩ : Tx).Ok W) := fun W h => hn.h.below h
 have HK : Hid (∀ W, Below w.heap.size w W → (⟨xa, xc, xs⟩ : Tx).Ok W) := fun W h => hk.below h
 have zh := hn.h.z
 have zx := hk.z
 clear hn hk
 simp only at zh zx
 simp only [Nd.v, Tx.v, TL.v, IL.v, beyB]
 obtain ⟨lh, hlh⟩ : ∃ lh, hs.length = lh := ⟨_, rfl⟩
 obtain ⟨lx, hlx⟩ : ∃ lx, xs.length = lx := ⟨_, rfl⟩
 rw [hlh] at zh
 rw [hlx] at zx
 rw [hlh, hlx]
 replace hlh := hide hlh
 replace hlx := hide hlx
 by_cases h0 : 0 < lh
 ·have i1 : (0 : Int) < (lh : Int) := by omega
  rw [decide_eq_true h0, Bool.true_and]
  obtain ⟨cv, hcv⟩ : ∃ cv, cv = cmpI xs hs := ⟨_, rfl⟩
  have HBL : Hid (∀ W, Below w.heap.size w W → Calls Tryz.prog 76 #[.slice xa lx xc, .slice ha lh hc] W fun e w' => e = .returned (.int .i64 cv) ∧ ∃ m, w' = W.drewN m) := fun W h => by rw [hcv]; exact rcmp_any xa ha lx xc lh hc xs hs W hlx.out hlh.out (by omega) (by omega) (HK.out _ h).r (HH.out _ h).r
  rw [← hcv]
  clear hcv
  go_enter Tryz.func147, Tryz.ntmps147
  go_wp2_with fail
  refine (HBL.out _ ((Below.refl _ _).alloc (Nat.le_refl _) _)).mono ?_
  rintro e w2 ⟨rfl, m, rfl⟩
  go_wp2_with fail
  go_ret
  exact ⟨rfl, below_drewN ((Below.refl _ _).alloc (Nat.le_refl _) _) m⟩
 ·obtain rfl : lh = 0 := by omega
  rw [decide_eq_false h0, Bool.false_and]
  clear h0
  go_enter Tryz.func147, Tryz.ntmps147
  go_wp2_with fail
  go_ret
  exact ⟨rfl, (Below.refl _ _).alloc (Nat.le_refl _) _⟩
set_option maxRecDepth 100000 in
set_option maxHeartbeats 1600000 in
theorem rfind_any (n : Nd) (k : Tx) (w : World) (hn : n.Ok w) (hk : k.Ok w) :
  Calls Tryz.prog 68 #[n.v, k.v] w fun e w' => e = .returned (.tuple #[.int .i64 (cntB n.ks.p k.s : Nat), .bool (isIn n.ks.p k.s)]) ∧ Below w.heap.size w w' := by
 obtain ⟨lv, ⟨ha, hc, hs⟩, ri, ⟨ka, kc, K⟩, ⟨va, vc, V⟩, ⟨ca, cc, C⟩⟩ := n
 obtain ⟨xa, xc, xs⟩ := k
 have HS : Hid (∀ W, Below w.heap.size w W → (⟨ka, kc, K⟩ : TL).Ok W) := fun W h => hn.k.below h
 have HK : Hid (∀ W, Below w.heap.size w W → (⟨xa, xc, xs⟩ : Tx).Ok W) := fun W h => hk.below h
 have hz := hn.kz
 have zx := hk.z
 clear hn hk
 simp only [Nd.v, Tx.v, TL.v, IL.v]
 simp only at hz zx
 obtain ⟨ps, hps⟩ : ∃ ps, ps = (⟨ka, kc, K⟩ : TL).p := ⟨_, rfl⟩
 rw [← hps]
 have hpl : ps.length = K.length := by rw [hps]; simp [TL.p]
 have HPS : Hid (∀ i (h : i < K.length), ps[i]? = some K[i].s) := fun i h => by rw [hps]; simp [TL.p, h]
 obtain ⟨lk, hlk⟩ : ∃ lk, K.length = lk := ⟨_, rfl⟩
 obtain ⟨lx, hlx⟩ : ∃ lx, xs.length = lx := ⟨_, rfl⟩
 rw [hlk] at hz hpl
 rw [hlx] at zx
 rw [hlk, hlx]
 replace hlk := hide hlk
 replace hlx := hide hlx
 have HPL := hide hpl
 clear hps hpl
 go_enter Tryz.func68, Tryz.ntmps68
 go_wp2_with fail
 go_loopw [6, 7, 8] (fun q6 q7 q8 wr => ∃ i : Nat, i ≤ lk ∧ q6 = .int .i64 (cntB (ps.take i) xs : Nat) ∧ q7 = .bool (isIn (ps.take i) xs) ∧ q8 = .int .i64 (i : Int) ∧ Hid (Below w.heap.size w wr) ∧ Hid (wr.cell? ⟨w.heap.size, 3, none⟩ = some (.slice ka lk kc))) (fun _ _ q8 _ => lk - (intOf q8).toNat)
 case atStart => exact ⟨0, Nat.zero_le _, by simp [cntB], by simp [isIn], rfl, (Below.refl _ _).alloc (Nat.le_refl _) _, by show _ = _; rw [cell_of_row _ _ _ _ _ _ (heap_alloc_new w _)]; rfl⟩
 case round =>
  obtain ⟨i, hi, rfl, rfl, rfl, HB, HC3⟩ := hrel
  rename World => wr
  have c3 := HC3.out
  by_cases hlt : i < lk
  ·have j1 : (i : Int) < (lk : Int) := by omega
   have hiK : i < K.length := by rw [hlk.out]; exact hlt
   have hS := HS.out wr HB.out
   obtain ⟨b, o, hka, s0⟩ := hS.r i hiK
   simp only at hka
   subst hka
   have OK := hide (hS.ok K[i] (List.getElem_mem hiK))
   have hip : i < ps.length := by rw [HPL.out]; exact hlt
   have hpi : ps[i] = K[i].s := by have := HPS.out i hiK; rw [List.getElem?_eq_getElem hip] at this; exact Option.some.inj this
   have e1 := cntB_next (key := xs) hip
   have e2 := isIn_next (key := xs) hip
   rw [hpi] at e1 e2
   obtain ⟨kk, hkk⟩ : ∃ kk, K[i] = kk := ⟨_, rfl⟩
   simp only [hkk] at s0 OK e1 e2
   unfold Tx.v at s0
   obtain ⟨nk, hnk⟩ : ∃ nk, kk.s.length = nk := ⟨_, rfl⟩
   rw [hnk] at s0
   have hcb := cntB_le (ps.take i) xs
   have hct : (ps.take i).length ≤ i := by rw [List.length_take]; omega
   obtain ⟨cb, hcb'⟩ : ∃ cb, cb = cntB (ps.take i) xs := ⟨_, rfl⟩
   obtain ⟨ib, hib⟩ : ∃ ib, ib = isIn (ps.take i) xs := ⟨_, rfl⟩
   rw [← hcb'] at e1 hcb ⊢
   rw [← hib] at e2 ⊢
   have hcb2 : cb ≤ i := by omega
   obtain ⟨cv, hcv⟩ : ∃ cv, cv = cmpI kk.s xs := ⟨_, rfl⟩
   have HCM := hide (rcmp_any kk.a xa nk kk.c lx xc kk.s xs wr hnk hlx.out (by have := OK.out.z; omega) (by omega) OK.out.r (HK.out wr HB.out).r)
   have hf := cmpI_fits kk.s xs
   have e3 : decide (kk.s = xs) = (cv == 0) := by
    rw [hcv]
    by_cases h : kk.s = xs
    ·rw [decide_eq_true h, h, cmpI_refl]; rfl
    ·rw [decide_eq_false h]
     symm
     rw [beq_eq_false_iff_ne]
     exact fun e => h (cmpI_zero _ _ e)
   rw [← hcv] at HCM e1 hf
   rw [e3] at e2
   have E1 := hide e1
   have E2 := hide e2
   clear hS hpi e1 e2 e3 hkk hnk hcb hct hcb' hib hcv HPS
   generalize kk.a = kka at *
   generalize kk.c = kkc at *
   go_wp2_with fail
   refine HCM.out.mono ?_
   rintro e w2 ⟨rfl, m, hw2⟩
   have HB2 : Hid (Below w.heap.size w w2) := by show Below _ _ _; rw [hw2]; exact below_drewN HB.out m
   have HC2 : Hid (w2.cell? ⟨w.heap.size, 3, none⟩ = some (.slice (some ⟨b, o, none⟩) lk kc)) := by show _ = _; rw [hw2]; exact HC3.out
   clear hw2 HCM s0 c3
   by_cases hc0 : cv < 0
   ·rw [if_pos hc0] at E1
    have hne : (cv == 0) = false := by rw [beq_eq_false_iff_ne]; omega
    rw [hne, Bool.or_false] at E2
    cases ib with
    | true =>
     go_wp2_with fail
     go_roundw
     case rel => exact ⟨i + 1, by omega, by rw [E1.out]; go_num, by rw [E2.out], by go_num, HB2, HC2⟩
     case measure => simp [intOf]; omega
    | false =>
     go_wp2_with fail
     go_roundw
     case rel => exact ⟨i + 1, by omega, by rw [E1.out]; go_num, by rw [E2.out], by go_num, HB2, HC2⟩
     case measure => simp [intOf]; omega
   ·rw [if_neg hc0] at E1
    obtain ⟨bb, hbb⟩ : ∃ bb, bb = (cv == 0) := ⟨_, rfl⟩
    rw [← hbb] at E2
    cases ib with
    | true =>
     clear hbb
     go_wp2_with fail
     go_roundw
     case rel => exact ⟨i + 1, by omega, by rw [E1.out]; rfl, by rw [E2.out]; rfl, by go_num, HB2, HC2⟩
     case measure => simp [intOf]; omega
    | false =>
     replace hbb := hide hbb
     go_wp2_with fail
     go_roundw
     case rel => exact ⟨i + 1, by omega, by rw [E1.out]; rfl, by rw [E2.out, hbb.out]; rfl, by go_num, HB2, HC2⟩
     case measure => simp [intOf]; omega
  ·have j1 : ¬ (i : Int) < (lk : Int) := by omega
   obtain rfl : i = lk := by omega
   have HT : Hid (ps.take i = ps) := List.take_of_length_le (by rw [HPL.out]; exact Nat.le_refl _)
   rw [HT.out]
   obtain ⟨cb, hcb⟩ : ∃ cb, cb = cntB ps xs := ⟨_, rfl⟩
   obtain ⟨ib, hib⟩ : ∃ ib, ib = isIn ps xs := ⟨_, rfl⟩
   rw [← hcb, ← hib]
   replace hcb := hide hcb
   replace hib := hide hib
   go_wp2_with fail
   go_ret2
   exact ⟨by rw [← hcb.out, ← hib.out]; rfl, HB.out⟩
set_option maxRecDepth 100000 in
set_option maxHeartbeats 1600000 in
theorem rchild_any (n : Nd) (k : Tx) (w : World) (hn : n.Ok w) (hk : k.Ok w) :
  Calls Tryz.prog 148 #[n.v, k.v] w fun e w' => e = .returned (.int .i64 (chiN n.ks.p n.cs.s k.s)) ∧ Below w.heap.size w w' := by
 obtain ⟨lv, ⟨ha, hc, hs⟩, ri, ⟨ka, kc, K⟩, ⟨va, vc, V⟩, ⟨ca, cc, C⟩⟩ := n
 obtain ⟨xa, xc, xs⟩ := k
 have HS : Hid (∀ W, Below w.heap.size w W → (⟨ka, kc, K⟩ : TL).Ok W) := fun W h => hn.k.below h
 have HK : Hid (∀ W, Below w.heap.size w W → (⟨xa, xc, xs⟩ : Tx).Ok W) := fun W h => hk.below h
 have HC : Hid (∀ W, Below w.heap.size w W → (⟨ca, cc, C⟩ : IL).Ok W) := fun W h => hn.c.below h
 have hz := hn.kz
 have hzc := hn.cz
 have zx := hk.z
 clear hn hk
 simp only [Nd.v, Tx.v, TL.v, IL.v]
 simp only at hz hzc zx
 obtain ⟨ps, hps⟩ : ∃ ps, ps = (⟨ka, kc, K⟩ : TL).p := ⟨_, rfl⟩
 rw [← hps]
 have hpl : ps.length = K.length := by rw [hps]; simp [TL.p]
 have HPS : Hid (∀ i (h : i < K.length), ps[i]? = some K[i].s) := fun i h => by rw [hps]; simp [TL.p, h]
 obtain ⟨lk, hlk⟩ : ∃ lk, K.length = lk := ⟨_, rfl⟩
 obtain ⟨lx, hlx⟩ : ∃ lx, xs.length = lx := ⟨_, rfl⟩
 obtain ⟨lc, hlc⟩ : ∃ lc, C.length = lc := ⟨_, rfl⟩
 have HV : Hid (chiN ps C xs = if lc = 0 then 0 else C.getD (min (cntL ps xs) (lc - 1)) 0) := by show _ = _; unfold chiN; rw [hlc]
 obtain ⟨R, hR⟩ : ∃ R, R = chiN ps C xs := ⟨_, rfl⟩
 rw [← hR]
 rw [HV.out] at hR
 clear HV
 rw [hlk] at hz hpl
 rw [hlc] at hzc
 rw [hlx] at zx
 rw [hlk, hlx, hlc]
 replace hlk := hide hlk
 replace hlx := hide hlx
 replace hlc := hide hlc
 have HPL := hide hpl
 clear hps hpl
 by_cases h0 : lc = 0
 ·subst h0
  rw [if_pos rfl] at hR
  subst hR
  go_enter Tryz.func148, Tryz.ntmps148
  go_wp2_with fail
  go_ret
  exact ⟨rfl, (Below.refl _ _).alloc (Nat.le_refl _) _⟩
 ·rw [if_neg h0] at hR
  replace hR := hide hR
  have j0 : ((lc : Int) == 0) = false := by rw [beq_eq_false_iff_ne]; omega
  go_enter Tryz.func148, Tryz.ntmps148
  go_wp2_with fail
  go_loopw [5, 6] (fun q5 q6 wr => ∃ i : Nat, i ≤ lk ∧ q5 = .int .i64 (cntL (ps.take i) xs : Nat) ∧ q6 = .int .i64 (i : Int) ∧ Hid (Below w.heap.size w wr) ∧ Hid (wr.cell? ⟨w.heap.size, 3, none⟩ = some (.slice ka lk kc)) ∧ Hid (wr.cell? ⟨w.heap.size, 5, none⟩ = some (.slice ca lc cc))) (fun _ q6 _ => lk - (intOf q6).toNat)
  case atStart => exact ⟨0, Nat.zero_le _, by simp [cntL], rfl, (Below.refl _ _).alloc (Nat.le_refl _) _, by show _ = _; rw [cell_of_row _ _ _ _ _ _ (heap_alloc_new w _)]; rfl, by show _ = _; rw [cell_of_row _ _ _ _ _ _ (heap_alloc_new w _)]; rfl⟩
  case round =>
   obtain ⟨i, hi, rfl, rfl, HB, HC3, HC5⟩ := hrel
   rename World => wr
   by_cases hlt : i < lk
   ·have c3 := HC3.out
    have j1 : (i : Int) < (lk : Int) := by omega
    have hiK : i < K.length := by rw [hlk.out]; exact hlt
    have hS := HS.out wr HB.out
    obtain ⟨b, o, hka, s0⟩ := hS.r i hiK
    simp only at hka
    subst hka
    have OK := hide (hS.ok K[i] (List.getElem_mem hiK))
    have hip : i < ps.length := by rw [HPL.out]; exact hlt
    have hpi : ps[i] = K[i].s := by have := HPS.out i hiK; rw [List.getElem?_eq_getElem hip] at this; exact Option.some.inj this
    have e1 := cntL_next (key := xs) hip
    rw [hpi] at e1
    obtain ⟨kk, hkk⟩ : ∃ kk, K[i] = kk := ⟨_, rfl⟩
    simp only [hkk] at s0 OK e1
    unfold Tx.v at s0
    obtain ⟨nk, hnk⟩ : ∃ nk, kk.s.length = nk := ⟨_, rfl⟩
    rw [hnk] at s0
    have hcb := cntL_le (ps.take i) xs
    have hct : (ps.take i).length ≤ i := by rw [List.length_take]; omega
    obtain ⟨cb, hcb'⟩ : ∃ cb, cb = cntL (ps.take i) xs := ⟨_, rfl⟩
    rw [← hcb'] at e1 hcb ⊢
    have hcb2 : cb ≤ i := by omega
    obtain ⟨cv, hcv⟩ : ∃ cv, cv = cmpI kk.s xs := ⟨_, rfl⟩
    have HCM := hide (rcmp_any kk.a xa nk kk.c lx xc kk.s xs wr hnk hlx.out (by have := OK.out.z; omega) (by omega) OK.out.r (HK.out wr HB.out).r)
    rw [cmpI_swap kk.s xs] at e1
    rw [← hcv] at HCM e1
    have E1 := hide e1
    clear hS hpi e1 hkk hnk hcb hct hcb' hcv HPS
    generalize kk.a = kka at *
    generalize kk.c = kkc at *
    go_wp2_with fail
    refine HCM.out.mono ?_
    rintro e w2 ⟨rfl, m, hw2⟩
    have HB2 : Hid (Below w.heap.size w w2) := by show Below _ _ _; rw [hw2]; exact below_drewN HB.out m
    have HC2 : Hid (w2.cell? ⟨w.heap.size, 3, none⟩ = some (.slice (some ⟨b, o, none⟩) lk kc)) := by show _ = _; rw [hw2]; exact HC3.out
    have HC4 : Hid (w2.cell? ⟨w.heap.size, 5, none⟩ = some (.slice ca lc cc)) := by show _ = _; rw [hw2]; exact HC5.out
    clear hw2 HCM s0 c3
    by_cases hc0 : cv ≤ 0
    ·rw [if_pos (by omega)] at E1
     go_wp2_with fail
     go_roundw
     case rel => exact ⟨i + 1, by omega, by rw [E1.out]; go_num, by go_num, HB2, HC2, HC4⟩
     case measure => simp [intOf]; omega
    ·rw [if_neg (by omega)] at E1
     go_wp2_with fail
     go_roundw
     case rel => exact ⟨i + 1, by omega, by rw [E1.out]; rfl, by go_num, HB2, HC2, HC4⟩
     case measure => simp [intOf]; omega
   ·have c3 := HC3.out
    have c5 := HC5.out
    have j1 : ¬ (i : Int) < (lk : Int) := by omega
    obtain rfl : i = lk := by omega
    have HT : Hid (ps.take i = ps) := List.take_of_length_le (by rw [HPL.out]; exact Nat.le_refl _)
    rw [HT.out]
    have hcb := cntL_le ps xs
    rw [HPL.out] at hcb
    obtain ⟨cb, hcb'⟩ : ∃ cb, cb = cntL ps xs := ⟨_, rfl⟩
    rw [← hcb'] at hcb ⊢
    replace hcb' := hide hcb'
    obtain ⟨m, hm⟩ : ∃ m, m = min cb (lc - 1) := ⟨_, rfl⟩
    have hml : m < lc := by omega
    have HF : Hid (C.getD (min (cntL ps xs) (lc - 1)) 0 = C.getD m 0) := by show _ = _; rw [← hcb'.out, ← hm]
    obtain ⟨b, o, hca, s0⟩ := (HC.out _ HB.out).r m (by rw [hlc.out]; exact hml)
    simp only at hca s0
    subst hca
    obtain ⟨y, hy⟩ : ∃ y, y = C.getD m 0 := ⟨_, rfl⟩
    rw [← hy] at s0 HF
    clear hy
    have j3 : (m : Int) < (lc : Int) := by omega
    by_cases hq : lc - 1 < cb
    ·have j2 : (lc : Int) - 1 < (cb : Int) := by omega
     obtain ⟨m', rfl⟩ : ∃ m', lc = m' + 1 := ⟨lc - 1, by omega⟩
     obtain rfl : m = m' := by omega
     have j4 : ((m + 1 : Nat) : Int) - 1 = (m : Int) := by omega
     clear hm
     go_wp2_with fail
     go_ret
     exact ⟨ret_int (HF.out.symm.trans hR.out.symm), HB.out⟩
    ·have j2 : ¬ (lc : Int) - 1 < (cb : Int) := by omega
     obtain rfl : m = cb := by omega
     clear hm
     go_wp2_with fail
     go_ret
     exact ⟨ret_int (HF.out.symm.trans hR.out.symm), HB.out⟩
end Go.Proofs.YtpljbgcofmlhbaaGreat
namespace Go.Proofs.YtpljbgcofmlhbaaGreat
open Go.RowKit
set_option maxRecDepth 100000
theorem isByte_setN {cur : Array Value} (h : ∀ u ∈ cur.toList, IsByte u) (k : Nat) (x : Int) : ∀ u ∈ (cur.setIfInBounds k (.int .u8 x)).toList, IsByte u := by
 intro u hu
 rw [Array.toList_setIfInBounds] at hu
 rcases List.mem_or_eq_of_mem_set hu with h1 | h1
 ·exact h u h1
 ·exact ⟨x, h1⟩
def Bk (W : World) (N M : Nat) (a : Option Addr) (l : Nat) : Prop := l ≤ 140737488355328 ∧ (l = 0 ∨ ∃ g cur, a = some ⟨g, 0, none⟩ ∧ (N ≤ g ∧ g < M) ∧ W.heap[g]? = some (.cells cur 5 (0, 0)) ∧ l ≤ cur.size ∧ ∀ u ∈ cur.toList, IsByte u)
def TBk (W : World) (N M : Nat) (a : Option Addr) (l : Nat) : Prop := l ≤ 140737488355328 ∧ (l = 0 ∨ ∃ g cur, a = some ⟨g, 0, none⟩ ∧ (N ≤ g ∧ g < M) ∧ W.heap[g]? = some (.cells cur 28 (0, 0)) ∧ l ≤ cur.size ∧ ∀ i, i < l → ∃ a' l' c', cur[i]? = some (.slice a' l' c') ∧ Bk W N M a' l')
def IBk (W : World) (N M : Nat) (a : Option Addr) (l : Nat) : Prop := l ≤ 140737488355328 ∧ (l = 0 ∨ ∃ g cur, a = some ⟨g, 0, none⟩ ∧ (N ≤ g ∧ g < M) ∧ W.heap[g]? = some (.cells cur 3 (0, 0)) ∧ l ≤ cur.size ∧ ∀ i, i < l → ∃ x, cur[i]? = some (.int .i64 x))
section
variable {W : World} {N M g k l : Nat} {a : Option Addr} {cur : Array Value} {u : Value} {T : TypeId}
theorem Bk.byte (h : Bk W N M a l) (hg : W.heap[g]? = some (.cells cur 5 (0, 0))) (hb : ∀ u ∈ cur.toList, IsByte u) (x : Int) : Bk (W.setCell ⟨g, k, none⟩ (.int .u8 x)) N M a l := by
 refine ⟨h.1, h.2.imp id ?_⟩
 rintro ⟨g', cur', h1, h2, h4, h5, h6⟩
 by_cases e : g' = g
 ·subst e
  rw [hg] at h4
  cases h4
  exact ⟨g', _, h1, h2, block_setCell hg k _, by rw [Array.size_setIfInBounds]; exact h5, isByte_setN hb k x⟩
 ·exact ⟨g', cur', h1, h2, (Below.heap_setCell _ _ _ _ e).trans h4, h5, h6⟩
theorem Bk.other (h : Bk W N M a l) (hg : W.heap[g]? = some (.cells cur T (0, 0))) (hT : T ≠ 5) : Bk (W.setCell ⟨g, k, none⟩ u) N M a l := by
 refine ⟨h.1, h.2.imp id ?_⟩
 rintro ⟨g', cur', h1, h2, h4, h5, h6⟩
 have e : g' ≠ g := fun e => by rw [e, hg] at h4; simp only [Option.some.injEq, Obj.cells.injEq] at h4; exact hT h4.2.1
 exact ⟨g', cur', h1, h2, (Below.heap_setCell _ _ _ _ e).trans h4, h5, h6⟩
theorem TBk.byte (h : TBk W N M a l) (hg : W.heap[g]? = some (.cells cur 5 (0, 0))) (hb : ∀ u ∈ cur.toList, IsByte u) (x : Int) : TBk (W.setCell ⟨g, k, none⟩ (.int .u8 x)) N M a l := by
 refine ⟨h.1, h.2.imp id ?_⟩
 rintro ⟨g', cur', h1, h2, h4, h5, h6⟩
 have e : g' ≠ g := fun e => by rw [e, hg] at h4; simp at h4
 refine ⟨g', cur', h1, h2, (Below.heap_setCell _ _ _ _ e).trans h4, h5, fun i hi => ?_⟩
 obtain ⟨a', l', c', q1, q2⟩ := h6 i hi
 exact ⟨a', l', c', q1, q2.byte hg hb x⟩
theorem TBk.nil (h : TBk W N M a l) (hg : W.heap[g]? = some (.cells cur 28 (0, 0))) : TBk (W.setCell ⟨g, k, none⟩ (.slice none 0 0)) N M a l := by
 refine ⟨h.1, h.2.imp id ?_⟩
 rintro ⟨g', cur', h1, h2, h4, h5, h6⟩
 have q : ∀ a' l', Bk W N M a' l' → Bk (W.setCell ⟨g, k, none⟩ (.slice none 0 0)) N M a' l' := fun a' l' h => h.other hg (by decide)
 by_cases e : g' = g
 ·subst e
  rw [hg] at h4
  cases h4
  refine ⟨g', _, h1, h2, block_setCell hg k _, by rw [Array.size_setIfInBounds]; exact h5, fun i hi => ?_⟩
  by_cases e : k = i
  ·subst e
   exact ⟨none, 0, 0, by rw [Array.getElem?_setIfInBounds_self_of_lt (by omega)], Nat.zero_le _, .inl rfl⟩
  ·obtain ⟨a', l', c', q1, q2⟩ := h6 i hi
   exact ⟨a', l', c', by rw [Array.getElem?_setIfInBounds_ne e]; exact q1, q _ _ q2⟩
 ·refine ⟨g', cur', h1, h2, (Below.heap_setCell _ _ _ _ e).trans h4, h5, fun i hi => ?_⟩
  obtain ⟨a', l', c', q1, q2⟩ := h6 i hi
  exact ⟨a', l', c', q1, q _ _ q2⟩
theorem TBk.other (h : TBk W N M a l) (hg : W.heap[g]? = some (.cells cur T (0, 0))) (hT : T ≠ 5) (hT2 : T ≠ 28) : TBk (W.setCell ⟨g, k, none⟩ u) N M a l := by
 refine ⟨h.1, h.2.imp id ?_⟩
 rintro ⟨g', cur', h1, h2, h4, h5, h6⟩
 have e : g' ≠ g := fun e => by rw [e, hg] at h4; simp only [Option.some.injEq, Obj.cells.injEq] at h4; exact hT2 h4.2.1
 refine ⟨g', cur', h1, h2, (Below.heap_setCell _ _ _ _ e).trans h4, h5, fun i hi => ?_⟩
 obtain ⟨a', l', c', q1, q2⟩ := h6 i hi
 exact ⟨a', l', c', q1, q2.other hg hT⟩
theorem IBk.int (h : IBk W N M a l) (hg : W.heap[g]? = some (.cells cur 3 (0, 0))) (x : Int) : IBk (W.setCell ⟨g, k, none⟩ (.int .i64 x)) N M a l := by
 refine ⟨h.1, h.2.imp id ?_⟩
 rintro ⟨g', cur', h1, h2, h4, h5, h6⟩
 by_cases e : g' = g
 ·subst e
  rw [hg] at h4
  cases h4
  refine ⟨g', _, h1, h2, block_setCell hg k _, by rw [Array.size_setIfInBounds]; exact h5, fun i hi => ?_⟩
  by_cases e : k = i
  ·subst e
   exact ⟨x, by rw [Array.getElem?_setIfInBounds_self_of_lt (by omega)]⟩
  ·rw [Array.getElem?_setIfInBounds_ne e]; exact h6 i hi
 ·exact ⟨g', cur', h1, h2, (Below.heap_setCell _ _ _ _ e).trans h4, h5, h6⟩
theorem IBk.other (h : IBk W N M a l) (hg : W.heap[g]? = some (.cells cur T (0, 0))) (hT : T ≠ 3) : IBk (W.setCell ⟨g, k, none⟩ u) N M a l := by
 refine ⟨h.1, h.2.imp id ?_⟩
 rintro ⟨g', cur', h1, h2, h4, h5, h6⟩
 have e : g' ≠ g := fun e => by rw [e, hg] at h4; simp only [Option.some.injEq, Obj.cells.injEq] at h4; exact hT h4.2.1
 exact ⟨g', cur', h1, h2, (Below.heap_setCell _ _ _ _ e).trans h4, h5, h6⟩
end
structure SpS (w W : World) (N M B : Nat) (lv ri : Int) (ha ka va ca : Option Addr) (hc kc vc cc lh lk lw lc : Nat) : Prop where
 box : W.heap[B]? = some (.cells #[.int .i64 lv, .slice ha lh hc, .int .i64 ri, .slice ka lk kc, .slice va lw vc, .slice ca lc cc] 36 (0, 0))
 h : Bk W N M ha lh
 k : TBk W N M ka lk
 v : TBk W N M va lw
 c : IBk W N M ca lc
 up : Upd (fun b => N ≤ b ∧ b < M) w W
section
variable {w W : World} {N M B : Nat} {lv ri : Int} {ha ka va ca : Option Addr} {hc kc vc cc lh lk lw lc g k : Nat} {cur : Array Value}
theorem SpS.byte (s : SpS w W N M B lv ri ha ka va ca hc kc vc cc lh lk lw lc) (hN : N ≤ g ∧ g < M) (hg : W.heap[g]? = some (.cells cur 5 (0, 0))) (hb : ∀ u ∈ cur.toList, IsByte u) (x : Int) : SpS w (W.setCell ⟨g, k, none⟩ (.int .u8 x)) N M B lv ri ha ka va ca hc kc vc cc lh lk lw lc :=
 ⟨(Below.heap_setCell _ _ _ _ (fun e => by have := s.box; rw [e, hg] at this; simp at this)).trans s.box, s.h.byte hg hb x, s.k.byte hg hb x, s.v.byte hg hb x, s.c.other hg (by decide), s.up.trans ((Upd.refl _ W).setCell _ _ (fun _ => hN))⟩
theorem SpS.nil (s : SpS w W N M B lv ri ha ka va ca hc kc vc cc lh lk lw lc) (hN : N ≤ g ∧ g < M) (hg : W.heap[g]? = some (.cells cur 28 (0, 0))) : SpS w (W.setCell ⟨g, k, none⟩ (.slice none 0 0)) N M B lv ri ha ka va ca hc kc vc cc lh lk lw lc :=
 ⟨(Below.heap_setCell _ _ _ _ (fun e => by have := s.box; rw [e, hg] at this; simp at this)).trans s.box, s.h.other hg (by decide), s.k.nil hg, s.v.nil hg, s.c.other hg (by decide), s.up.trans ((Upd.refl _ W).setCell _ _ (fun _ => hN))⟩
theorem SpS.int (s : SpS w W N M B lv ri ha ka va ca hc kc vc cc lh lk lw lc) (hN : N ≤ g ∧ g < M) (hg : W.heap[g]? = some (.cells cur 3 (0, 0))) (x : Int) : SpS w (W.setCell ⟨g, k, none⟩ (.int .i64 x)) N M B lv ri ha ka va ca hc kc vc cc lh lk lw lc :=
 ⟨(Below.heap_setCell _ _ _ _ (fun e => by have := s.box; rw [e, hg] at this; simp at this)).trans s.box, s.h.other hg (by decide), s.k.other hg (by decide) (by decide), s.v.other hg (by decide) (by decide), s.c.int hg x, s.up.trans ((Upd.refl _ W).setCell _ _ (fun _ => hN))⟩
end
theorem bk_own {W : World} {N : Nat} {x : Tx} (h : OwnB W N 5 x.v x.s) (hz : x.s.length ≤ 140737488351232) : Bk W N W.heap.size x.a x.s.length := by
 refine ⟨by omega, ?_⟩
 rcases h with ⟨_, h2⟩ | ⟨g, c, cur, hv, hN, hh, h1, _, h3, _, h5⟩
 ·left; rw [h2]; rfl
 ·right
  simp only [Tx.v, Value.slice.injEq] at hv
  exact ⟨g, cur, hv.1, ⟨hN, lt_of_block hh⟩, hh, by omega, h5⟩
theorem tbk_own {W : World} {N : Nat} {t : TL} (h : t.Own W N) (hz : t.L.length * 24 ≤ 140737488352000) : TBk W N W.heap.size t.a t.L.length := by
 refine ⟨by omega, ?_⟩
 have hr := h.row
 rcases hr.2 with ⟨_, h0⟩ | ⟨g, c, cur, hv, hN, hh, h1, _, h3, h4⟩
 ·exact .inl h0
 ·right
  simp only [TL.v, Value.slice.injEq] at hv
  refine ⟨g, cur, hv.1, ⟨hN, lt_of_block hh⟩, hh, by omega, fun i hi => ?_⟩
  refine ⟨t.L[i].a, t.L[i].s.length, t.L[i].c, ?_, bk_own (h.each _ (List.getElem_mem hi)) (h.b8 _ (List.getElem_mem hi)).2⟩
  have : (cur.toList.take (t.L.length * 1))[i]? = some t.L[i].v := by rw [h4]; simp [hi]
  rw [List.getElem?_take, if_pos (by omega)] at this
  simpa [Tx.v] using this
theorem ibk_own {W : World} {N : Nat} {t : IL} (h : W.ownsRow N 3 1 t.v t.s.length (t.s.map (Value.int .i64))) (hz : t.s.length * 8 ≤ 140737488352000) : IBk W N W.heap.size t.a t.s.length := by
 refine ⟨by omega, ?_⟩
 rcases h.2 with ⟨_, h0⟩ | ⟨g, c, cur, hv, hN, hh, h1, _, h3, h4⟩
 ·exact .inl h0
 ·right
  simp only [IL.v, Value.slice.injEq] at hv
  refine ⟨g, cur, hv.1, ⟨hN, lt_of_block hh⟩, hh, by omega, fun i hi => ⟨t.s[i], ?_⟩⟩
  have : (cur.toList.take (t.s.length * 1))[i]? = some (.int .i64 t.s[i]) := by rw [h4]; simp [hi]
  rw [List.getElem?_take, if_pos (by omega)] at this
  simpa using this
theorem Bk.move {W W' : World} {N M : Nat} {a : Option Addr} {l : Nat} (h : Bk W N M a l) (hb : ∀ b, N ≤ b → b < M → W'.heap[b]? = W.heap[b]?) : Bk W' N M a l := by
 refine ⟨h.1, h.2.imp id ?_⟩
 rintro ⟨g', cur', h1, h2, h4, h5, h6⟩
 exact ⟨g', cur', h1, h2, (hb _ h2.1 h2.2).trans h4, h5, h6⟩
theorem TBk.move {W W' : World} {N M : Nat} {a : Option Addr} {l : Nat} (h : TBk W N M a l) (hb : ∀ b, N ≤ b → b < M → W'.heap[b]? = W.heap[b]?) : TBk W' N M a l := by
 refine ⟨h.1, h.2.imp id ?_⟩
 rintro ⟨g', cur', h1, h2, h4, h5, h6⟩
 refine ⟨g', cur', h1, h2, (hb _ h2.1 h2.2).trans h4, h5, fun i hi => ?_⟩
 obtain ⟨a', l', c', q1, q2⟩ := h6 i hi
 exact ⟨a', l', c', q1, q2.move hb⟩
theorem IBk.move {W W' : World} {N M : Nat} {a : Option Addr} {l : Nat} (h : IBk W N M a l) (hb : ∀ b, N ≤ b → b < M → W'.heap[b]? = W.heap[b]?) : IBk W' N M a l := by
 refine ⟨h.1, h.2.imp id ?_⟩
 rintro ⟨g', cur', h1, h2, h4, h5, h6⟩
 exact ⟨g', cur', h1, h2, (hb _ h2.1 h2.2).trans h4, h5, h6⟩
structure Spo (W : World) (N M : Nat) (n : Nd) : Prop where
 h : Bk W N M n.hi.a n.hi.s.length
 k : TBk W N M n.ks.a n.ks.L.length
 v : TBk W N M n.vs.a n.vs.L.length
 c : IBk W N M n.cs.a n.cs.s.length
theorem Nd.Own.spo {W : World} {N : Nat} {n : Nd} (h : n.Own W N) : Spo W N W.heap.size n := ⟨bk_own h.h h.hb.2, tbk_own h.k h.kz, tbk_own h.v h.vz, ibk_own h.c h.cz⟩
theorem Spo.move {W W' : World} {N M : Nat} {n : Nd} (h : Spo W N M n) (hb : ∀ b, N ≤ b → b < M → W'.heap[b]? = W.heap[b]?) : Spo W' N M n := ⟨h.h.move hb, h.k.move hb, h.v.move hb, h.c.move hb⟩
theorem Spo.below {W W' : World} {N M : Nat} {n : Nd} (h : Spo W N M n) (hM : M ≤ W.heap.size) (hb : Below W.heap.size W W') : Spo W' N M n := h.move fun b _ h2 => hb.block b (by omega)
end Go.Proofs.YtpljbgcofmlhbaaGreat
