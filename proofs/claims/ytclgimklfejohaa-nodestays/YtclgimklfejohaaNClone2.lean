/- node: Clone. -/
import Derived.Test.YtclgimklfejohaaNClone
namespace Go.Proofs.Ytclgimklfejohaa
open Go.RowKit

/-- Six cells of a block. -/
def Six (W : World) (b : Nat) (x0 x1 x2 x3 x4 x5 : Value) : Prop :=
  W.cell? ⟨b, 0, none⟩ = some x0 ∧ W.cell? ⟨b, 1, none⟩ = some x1 ∧ W.cell? ⟨b, 2, none⟩ = some x2 ∧ W.cell? ⟨b, 3, none⟩ = some x3 ∧ W.cell? ⟨b, 4, none⟩ = some x4 ∧ W.cell? ⟨b, 5, none⟩ = some x5
theorem Six.below {W W' : World} {b : Nat} {x0 x1 x2 x3 x4 x5 : Value} (h : Six W b x0 x1 x2 x3 x4 x5) (hb : Below W.heap.size W W') : Six W' b x0 x1 x2 x3 x4 x5 := by
  have hl : b < W.heap.size := World.block_lt_of_cell? W ⟨b, 0, none⟩ h.1
  obtain ⟨h0, h1, h2, h3, h4, h5⟩ := h
  exact ⟨(hb.cell (p := ⟨b, 0, none⟩) hl).trans h0, (hb.cell (p := ⟨b, 1, none⟩) hl).trans h1, (hb.cell (p := ⟨b, 2, none⟩) hl).trans h2, (hb.cell (p := ⟨b, 3, none⟩) hl).trans h3, (hb.cell (p := ⟨b, 4, none⟩) hl).trans h4, (hb.cell (p := ⟨b, 5, none⟩) hl).trans h5⟩
theorem Six.of {W : World} {b : Nat} {T : TypeId} {x0 x1 x2 x3 x4 x5 : Value} (h : W.heap[b]? = some (.cells #[x0, x1, x2, x3, x4, x5] T (0, 0))) : Six W b x0 x1 x2 x3 x4 x5 := by
  refine ⟨?_, ?_, ?_, ?_, ?_, ?_⟩ <;> (rw [cell_of_row _ _ _ _ _ _ h]; rfl)
theorem frozen_of {W : World} {b : Nat} {T : TypeId} {cur : Array Value} (h : W.heap[b]? = some (.cells cur T (0, 0))) (j : Nat) : W.frozen? ⟨b, j, none⟩ = false := by
  simp [World.frozen?, h]

/-- A node is stored into six cells. -/
def six6 (W : World) (b : Nat) (x0 x1 x2 x3 x4 x5 : Value) : World := (((((W.setCell ⟨b, 0, none⟩ x0).setCell ⟨b, 1, none⟩ x1).setCell ⟨b, 2, none⟩ x2).setCell ⟨b, 3, none⟩ x3).setCell ⟨b, 4, none⟩ x4).setCell ⟨b, 5, none⟩ x5
theorem six_block {W : World} {b : Nat} {T : TypeId} {a0 a1 a2 a3 a4 a5 : Value} (h : W.heap[b]? = some (.cells #[a0, a1, a2, a3, a4, a5] T (0, 0))) (x0 x1 x2 x3 x4 x5 : Value) :
    (six6 W b x0 x1 x2 x3 x4 x5).heap[b]? = some (.cells #[x0, x1, x2, x3, x4, x5] T (0, 0)) := by
  have := block_setCell (block_setCell (block_setCell (block_setCell (block_setCell (block_setCell h 0 x0) 1 x1) 2 x2) 3 x3) 4 x4) 5 x5
  exact this
theorem six_upd (S : Nat → Prop) (W : World) (b : Nat) (x0 x1 x2 x3 x4 x5 : Value) (h : S b) : Upd S W (six6 W b x0 x1 x2 x3 x4 x5) :=
  ((((((Upd.refl S W).setCell _ _ (fun _ => h)).setCell _ _ (fun _ => h)).setCell _ _ (fun _ => h)).setCell _ _ (fun _ => h)).setCell _ _ (fun _ => h)).setCell _ _ (fun _ => h)
theorem ownsI_upd {S : Nat → Prop} {w w' : World} {base : Nat} {e : TypeId} {v : Value} {n : Nat} {xs : List Value} (h : w.ownsRow base e 1 v n xs) (hb : Upd S w w') (hs : ∀ b, base ≤ b → b < w.heap.size → ¬ S b) : w'.ownsRow base e 1 v n xs :=
  owns_upd h hb (fun k hk => hs k (h.lt k hk).1 (h.lt k hk).2)
theorem ownB_upd' {S : Nat → Prop} {w w' : World} {base : Nat} {v : Value} {zs : List Int} (h : OwnB w base 5 v zs) (hb : Upd S w w') (hs : ∀ b, base ≤ b → b < w.heap.size → ¬ S b) : OwnB w' base 5 v zs :=
  h.upd hb (fun k hk => hs k (h.owns.lt k hk).1 (h.owns.lt k hk).2)

structure Nd.Own (W : World) (N : Nat) (n : Nd) : Prop where
  h : OwnB W N 5 n.hi.v n.hi.s
  hb : B8 n.hi.s ∧ n.hi.s.length ≤ 140737488351232
  k : n.ks.Own W N
  v : n.vs.Own W N
  c : W.ownsRow N 3 1 n.cs.v n.cs.s.length (n.cs.s.map (Value.int .i64))
  kz : n.ks.L.length * 24 ≤ 140737488352000
  vz : n.vs.L.length * 24 ≤ 140737488352000
  cz : n.cs.s.length * 8 ≤ 140737488352000
theorem il_of_owns {W : World} {N : Nat} {t : IL} (h : W.ownsRow N 3 1 t.v t.s.length (t.s.map (Value.int .i64))) : t.Ok W := by
  obtain ⟨a, c, hv, hok, _⟩ := vok_of_owns h
  simp only [IL.v, Value.slice.injEq, true_and] at hv
  obtain ⟨rfl, rfl⟩ := hv
  exact ⟨row_of_owns2 h, fun e => by have := hok.n e; rw [List.length_map] at this; exact this, by have := hok.lc; rwa [List.length_map] at this⟩
theorem IL.Ok.vok {W : World} {t : IL} (h : t.Ok W) : VOk W t.a t.c (t.s.map (Value.int .i64)) := by
  refine ⟨fun i hi => ?_, fun e => by rw [List.length_map]; exact h.n e, by rw [List.length_map]; exact h.lc⟩
  have hi' : i < t.s.length := by rwa [List.length_map] at hi
  obtain ⟨b, o, ha, hc⟩ := h.r i hi'
  exact ⟨b, o, ha, by rw [hc, List.getElem_map]; simp [hi']⟩
theorem vok_il {W : World} {t : IL} (h : VOk W t.a t.c (t.s.map (Value.int .i64))) : t.Ok W := by
  refine ⟨fun i hi => ?_, fun e => by have := h.n e; rw [List.length_map] at this; exact this, by have := h.lc; rwa [List.length_map] at this⟩
  obtain ⟨b, o, ha, hc⟩ := h.r i (by rw [List.length_map]; exact hi)
  exact ⟨b, o, ha, by rw [hc, List.getElem_map]; simp [hi]⟩
theorem Nd.Own.ok {W : World} {N : Nat} {n : Nd} (h : n.Own W N) : n.Ok W := ⟨ownB_ok h.h h.hb.1 h.hb.2, h.k.ok, h.v.ok, il_of_owns h.c, h.kz, h.vz, h.cz⟩
theorem Nd.Own.below {W W' : World} {N : Nat} {n : Nd} (h : n.Own W N) (hb : Below W.heap.size W W') : n.Own W' N := ⟨h.h.below hb, h.hb, h.k.below hb, h.v.below hb, owns_below h.c hb, h.kz, h.vz, h.cz⟩
theorem Nd.Own.mono {W : World} {N M : Nat} {n : Nd} (h : n.Own W N) (hb : M ≤ N) : n.Own W M := ⟨h.h.mono hb, h.hb, h.k.mono hb, h.v.mono hb, owns_mono h.c hb, h.kz, h.vz, h.cz⟩
theorem Nd.Own.upd {W W' : World} {N : Nat} {S : Nat → Prop} {n : Nd} (h : n.Own W N) (hb : Upd S W W') (hs : ∀ b, N ≤ b → b < W.heap.size → ¬ S b) : n.Own W' N :=
  ⟨h.h.upd hb (fun k hk => hs k (h.h.owns.lt k hk).1 (h.h.owns.lt k hk).2), h.hb, h.k.upd hb hs, h.v.upd hb hs, owns_upd h.c hb (fun k hk => hs k (h.c.lt k hk).1 (h.c.lt k hk).2), h.kz, h.vz, h.cz⟩
theorem i_oneCell (zs : List Int) : ∀ u ∈ zs.map (Value.int .i64), u.oneCell' = true := by
  intro u hu
  obtain ⟨x, _, rfl⟩ := List.mem_map.1 hu
  rfl

/-- What Clone gives. -/
def ClPost (w : World) (n : Nd) (e : Ending) (w' : World) : Prop :=
  ∃ m : Nd, e = .returned m.v ∧ m.p = n.p ∧ m.Own w' w.heap.size ∧ Below w.heap.size w w'
theorem below_drew {B : Nat} {w w' : World} (h : Below B w w') : Below B w w'.drew := ⟨h.os, h.tape, h.output, h.size, h.block⟩

/-- cloneTexts, its answer opened. -/
def CtP (W : World) (L : List Tx) (l : Nat) (e : Ending) (w' : World) : Prop :=
  ∃ a c L', e = .returned (.slice a l c) ∧ L'.map (·.s) = L.map (·.s) ∧ L'.length = l ∧ (⟨a, c, L'⟩ : TL).Own w' W.heap.size ∧ Below W.heap.size W w'
theorem cloneTexts_p (a : Option Addr) (l c : Nat) (L : List Tx) (W : World) (h : (⟨a, c, L⟩ : TL).Ok W) (hl : L.length = l) (hm : l * 24 ≤ 140737488355000) : Calls Try.prog 46 #[.slice a l c] W (CtP W L l) := by
  subst hl
  refine (cloneTexts_any ⟨a, c, L⟩ W h hm).mono ?_
  rintro e w' ⟨⟨a', c', L'⟩, rfl, hp, ho, hb⟩
  have hl : L'.length = L.length := by have := congrArg List.length hp; simpa [TL.p] using this
  exact ⟨a', c', L', by simp only [TL.v, hl], hp, hl, ho, hb⟩

set_option maxRecDepth 100000 in
set_option maxHeartbeats 3200000 in
theorem clone_any (n : Nd) (w : World) (hn : n.Ok w) :
    Calls Try.prog 30 #[n.v] w (ClPost w n) := by
  obtain ⟨lv, ⟨ha, hc, hs⟩, ri, ⟨ka, kc, K⟩, ⟨va, vc, V⟩, ⟨ca, cc, C⟩⟩ := n
  have HH : Hid (∀ W, Below w.heap.size w W → Calls Try.prog 32 #[.slice ha hs.length hc] W fun e w' => ∃ v, e = .returned v ∧ OwnB w' W.heap.size 5 v hs ∧ Below W.heap.size W w') := fun W h => bclone_any ha hs.length hc hs W rfl (by have := hn.h.z; simp only at this; omega) hn.h.n (hn.h.below h).r
  have HK : Hid (∀ W, Below w.heap.size w W → Calls Try.prog 46 #[.slice ka K.length kc] W (CtP W K K.length)) := fun W h => cloneTexts_p ka K.length kc K W (hn.k.below h) rfl (by have := hn.kz; simp only at this; omega)
  have HV : Hid (∀ W, Below w.heap.size w W → Calls Try.prog 46 #[.slice va V.length vc] W (CtP W V V.length)) := fun W h => cloneTexts_p va V.length vc V W (hn.v.below h) rfl (by have := hn.vz; simp only at this; omega)
  have HC : Hid (∀ W, Below w.heap.size w W → Calls Try.prog 47 #[.slice ca C.length cc] W (ClnI W (C.map (Value.int .i64)))) := fun W h => clnI_any ca C.length cc (C.map (Value.int .i64)) W (by simp) (hn.c.below h).vok (i_oneCell C) (by have := hn.cz; simp only at this; omega)
  have hkz := hn.kz
  have hvz := hn.vz
  have hcz := hn.cz
  have HB8 : Hid (B8 hs ∧ hs.length ≤ 140737488351232) := ⟨hn.h.b8, hn.h.z⟩
  clear hn
  simp only at hkz hvz hcz
  have HKZ := hide hkz
  have HVZ := hide hvz
  have HCZ := hide hcz
  simp only [Nd.v, Tx.v, TL.v, IL.v]
  obtain ⟨lh, hlh⟩ : ∃ lh, hs.length = lh := ⟨_, rfl⟩
  obtain ⟨lk, hlk⟩ : ∃ lk, K.length = lk := ⟨_, rfl⟩
  obtain ⟨lw, hlw⟩ : ∃ lw, V.length = lw := ⟨_, rfl⟩
  obtain ⟨lc, hlc⟩ : ∃ lc, C.length = lc := ⟨_, rfl⟩
  rw [hlh] at HH
  rw [hlk] at HK
  rw [hlw] at HV
  rw [hlc] at HC
  rw [hlh, hlk, hlw, hlc]
  replace hlh := hide hlh
  replace hlk := hide hlk
  replace hlw := hide hlw
  replace hlc := hide hlc
  obtain ⟨w0, hw0⟩ : ∃ w0, w0 = w.alloc (.cells #[.int .i64 lv, .slice ha lh hc, .int .i64 ri, .slice ka lk kc, .slice va lw vc, .slice ca lc cc] 30) := ⟨_, rfl⟩
  obtain ⟨w1, hw1⟩ : ∃ w1, w1 = w0.alloc (.cells #[.int .i64 0, .slice none 0 0, .int .i64 0, .slice none 0 0, .slice none 0 0, .slice none 0 0] 30) := ⟨_, rfl⟩
  have z0 : w0.heap.size = w.heap.size + 1 := by rw [hw0]; simp
  have z1 : w1.heap.size = w.heap.size + 2 := by rw [hw1]; simp; omega
  have b0 : Below w.heap.size w w0 := by rw [hw0]; exact (Below.refl _ _).alloc (Nat.le_refl _) _
  have b1 : Below w0.heap.size w0 w1 := by rw [hw1]; exact (Below.refl _ _).alloc (Nat.le_refl _) _
  have B1 : Hid (Below w.heap.size w w1) := b0.trans (b1.mono b0.size)
  have g0 : w0.heap[w.heap.size]? = some (.cells #[.int .i64 lv, .slice ha lh hc, .int .i64 ri, .slice ka lk kc, .slice va lw vc, .slice ca lc cc] 30 (0, 0)) := by rw [hw0]; exact heap_alloc_new w _
  have G1 : Hid (w1.heap[w.heap.size + 1]? = some (.cells #[.int .i64 0, .slice none 0 0, .int .i64 0, .slice none 0 0, .slice none 0 0, .slice none 0 0] 30 (0, 0))) := by show _ = _; rw [← z0, hw1]; exact heap_alloc_new w0 _
  have S1 := hide ((Six.of g0).below b1)
  obtain ⟨c0, c1, c2, c3, c4, c5⟩ := S1.out
  have HW : Hid ((w.alloc (.cells #[.int .i64 lv, .slice ha lh hc, .int .i64 ri, .slice ka lk kc, .slice va lw vc, .slice ca lc cc] 30)).alloc (.cells #[.int .i64 0, .slice none 0 0, .int .i64 0, .slice none 0 0, .slice none 0 0, .slice none 0 0] 30) = w1) := by show _ = _; rw [hw1, hw0]
  have Z1 := hide z1
  clear hw0 hw1 z0 z1 b0 b1 g0
  go_enter Try.func30, Try.ntmps30
  go_wp2_with fail
  rw [HW.out]
  clear HW
  go_region_held3 (fun W => W.cell? ⟨w.heap.size, 0, none⟩ = some (.int .i64 lv) ∧ W.cell? ⟨w.heap.size, 1, none⟩ = some (.slice ha lh hc) ∧ W.cell? ⟨w.heap.size, 2, none⟩ = some (.int .i64 ri) ∧ W.cell? ⟨w.heap.size, 3, none⟩ = some (.slice ka lk kc) ∧ W.cell? ⟨w.heap.size, 4, none⟩ = some (.slice va lw vc) ∧ W.cell? ⟨w.heap.size, 5, none⟩ = some (.slice ca lc cc)) (go_keep) (first
    | (go_at_call 47; refine (HC.out w4 B4.out).mono ?_; rintro e w5 ⟨v5, rfl, hv5, hb5⟩; obtain ⟨cn, cd, rfl, _⟩ := vok_of_owns hv5; rw [List.length_map, hlc.out] at hv5 ⊢; have V5 := hide hv5; have B45 := hide hb5; have B5 := hide (B4.out.trans (hb5.mono B4.out.size)); obtain ⟨i0, i1, i2, i3, i4, i5⟩ := S4.out.below hb5; have G5 : Hid (w5.heap[w.heap.size + 1]? = some (.cells #[.int .i64 0, .slice none 0 0, .int .i64 0, .slice none 0 0, .slice none 0 0, .slice none 0 0] 30 (0, 0))) := (hb5.block _ (lt_of_block G4.out)).trans G4.out; obtain ⟨y0, y1, y2, y3, y4, y5⟩ := Six.of G5.out; have F5 := fun j => frozen_of G5.out j; clear hv5 hb5)
    | (go_at_call 46; refine (HV.out w3 B3.out).mono ?_; rintro e w4 ⟨vn, vd, V', rfl, hp4, hl4, ho4, hb4⟩; have P4 := hide hp4; have O4 := hide ho4; have L4 := hide hl4; have B34 := hide hb4; have B4 := hide (B3.out.trans (hb4.mono B3.out.size)); have S4 := hide (S3.out.below hb4); obtain ⟨f0, f1, f2, f3, f4, f5⟩ := S4.out; have G4 : Hid (w4.heap[w.heap.size + 1]? = some (.cells #[.int .i64 0, .slice none 0 0, .int .i64 0, .slice none 0 0, .slice none 0 0, .slice none 0 0] 30 (0, 0))) := (hb4.block _ (lt_of_block G3.out)).trans G3.out; clear hp4 ho4 hb4 hl4)
    | (go_at_call 46; refine (HK.out w2 B2.out).mono ?_; rintro e w3 ⟨kn, kd, K', rfl, hp3, hl3, ho3, hb3⟩; have P3 := hide hp3; have O3 := hide ho3; have L3 := hide hl3; have B23 := hide hb3; have B3 := hide (B2.out.trans (hb3.mono B2.out.size)); have S3 := hide (S2.out.below hb3); obtain ⟨e0, e1, e2, e3, e4, e5⟩ := S3.out; have G3 : Hid (w3.heap[w.heap.size + 1]? = some (.cells #[.int .i64 0, .slice none 0 0, .int .i64 0, .slice none 0 0, .slice none 0 0, .slice none 0 0] 30 (0, 0))) := (hb3.block _ (lt_of_block G2.out)).trans G2.out; clear hp3 ho3 hb3 hl3)
    | (go_at_call 32; refine (HH.out w1.drew (below_drew B1.out)).mono ?_; rintro e w2 ⟨v2, rfl, hv2, hb2'⟩; have hb2 : Below w1.heap.size w1 w2 := ⟨hb2'.os, hb2'.tape, hb2'.output, hb2'.size, hb2'.block⟩; obtain ⟨hn', hd', hve, _, _, _⟩ := hv2.slice; rw [hlh.out] at hve; subst hve; have V2 := hide hv2; have B12 := hide hb2; have B2 := hide (B1.out.trans (hb2.mono B1.out.size)); have S2 := hide (S1.out.below hb2); obtain ⟨d0, d1, d2, d3, d4, d5⟩ := S2.out; have G2 : Hid (w2.heap[w.heap.size + 1]? = some (.cells #[.int .i64 0, .slice none 0 0, .int .i64 0, .slice none 0 0, .slice none 0 0, .slice none 0 0] 30 (0, 0))) := (hb2.block _ (lt_of_block G1.out)).trans G1.out; clear hv2 hb2 hb2')
    | fail)
  go_wp2_with fail
  (try simp only [Exit.inBlock, Exit.then])
  clear HH HK HV HC c0 c1 c2 c3 c4 c5 d0 d1 d2 d3 d4 d5 e0 e1 e2 e3 e4 e5 f0 f1 f2 f3 f4 f5
  have hz1 := Z1.out
  have h12 := B12.out.size
  have h23 := B23.out.size
  have h34 := B34.out.size
  have h45 := B45.out.size
  have G6 := six_block G5.out (.int .i64 lv) (.slice hn' lh hd') (.int .i64 ri) (.slice kn lk kd) (.slice vn lw vd) (.slice cn lc cd)
  have U6 : Upd (fun b => b = w.heap.size + 1) w5 (six6 w5 (w.heap.size + 1) (.int .i64 lv) (.slice hn' lh hd') (.int .i64 ri) (.slice kn lk kd) (.slice vn lw vd) (.slice cn lc cd)) := six_upd _ _ _ _ _ _ _ _ _ rfl
  obtain ⟨q0, q1, q2, q3, q4, q5⟩ := Six.of G6
  show bodyPost _ _ _ _ _ (six6 w5 (w.heap.size + 1) (.int .i64 lv) (.slice hn' lh hd') (.int .i64 ri) (.slice kn lk kd) (.slice vn lw vd) (.slice cn lc cd))
  generalize six6 w5 (w.heap.size + 1) (.int .i64 lv) (.slice hn' lh hd') (.int .i64 ri) (.slice kn lk kd) (.slice vn lw vd) (.slice cn lc cd) = w6 at *
  refine bodyPost_ret (v := .agg #[.int .i64 lv, .slice hn' lh hd', .int .i64 ri, .slice kn lk kd, .slice vn lw vd, .slice cn lc cd]) (by simp [results, Try.results30, go_sem, q0, q1, q2, q3, q4, q5]) rfl ⟨⟨lv, ⟨hn', hd', hs⟩, ri, ⟨kn, kd, K'⟩, ⟨vn, vd, V'⟩, ⟨cn, cd, C⟩⟩, ?_, ?_, ?_, ?_⟩
  · simp only [Nd.v, Tx.v, TL.v, IL.v, hlh.out, L3.out, L4.out, hlc.out]
  · simp only [Nd.p, TL.p]
    rw [show K'.map (·.s) = K.map (·.s) from P3.out, show V'.map (·.s) = V.map (·.s) from P4.out]
  · have b35 : Below w3.heap.size w3 w5 := B34.out.trans (B45.out.mono B34.out.size)
    have b25 : Below w2.heap.size w2 w5 := B23.out.trans (b35.mono B23.out.size)
    have a2 : OwnB w2 w1.heap.size 5 (.slice hn' lh hd') hs := V2.out
    have far : ∀ N b, w1.heap.size ≤ N → N ≤ b → b < w5.heap.size → ¬ (b = w.heap.size + 1) := fun N b h1 h2 _ h3 => by omega
    refine ⟨?_, HB8.out, ?_, ?_, ?_, by have := HKZ.out; rw [hlk.out] at this; simp only [L3.out]; exact this, by have := HVZ.out; rw [hlw.out] at this; simp only [L4.out]; exact this, HCZ.out⟩
    · simp only [Tx.v, hlh.out]
      exact (ownB_upd' (a2.below b25) U6 (fun b => far _ b (Nat.le_refl _))).mono (by omega)
    · exact ((O3.out.below b35).upd U6 (fun b => far _ b h12)).mono (by omega)
    · exact ((O4.out.below B45.out).upd U6 (fun b => far _ b (by omega))).mono (by omega)
    · simp only [IL.v, hlc.out]
      exact owns_mono (ownsI_upd V5.out U6 (fun b => far _ b (by omega))) (by omega)
  · exact B5.out.trans (U6.below (by have := B5.out.size; omega) (fun k hk e => by omega))

end Go.Proofs.Ytclgimklfejohaa
