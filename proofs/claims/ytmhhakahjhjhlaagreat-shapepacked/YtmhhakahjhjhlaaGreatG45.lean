/- ShapeChecks: the walk. -/
import Derived.Test.YtmhhakahjhjhlaaGreatG44
namespace Go.Proofs.YtmhhakahjhjhlaaGreat
open Go.RowKit
set_option maxRecDepth 100000

theorem two_tree {W : World} {b : Nat} {x0 x1 x2 x3 x4 x5 : Value} {T : TypeId} (h : W.heap[b]? = some (.cells #[x0, x1, x2, x3, x4, x5] T (0, 0))) : W.cell? ⟨b, 1, none⟩ = some x1 ∧ W.cell? ⟨b, 2, none⟩ = some x2 ∧ W.cell? ⟨b, 3, none⟩ = some x3 ∧ W.cell? ⟨b, 4, none⟩ = some x4 ∧ W.cell? ⟨b, 5, none⟩ = some x5 := by
  obtain ⟨_, h1, h2, h3, h4, h5⟩ := Six.of h
  exact ⟨h1, h2, h3, h4, h5⟩

set_option maxRecDepth 100000 in
set_option maxHeartbeats 6400000 in
theorem shapeChecks_any (aS : Option Addr) (lS cS : Nat) (nd lf inn fl bk : Int) (L : List AOp) (w : World)
    (hL : L.length = lS) (hO : Ops (fun k => k < w.heap.size) w aS L) (hlS : lS * 152 ≤ 140737488355328) :
    Calls Tryz.prog 3 #[.agg #[.slice aS lS cS, .int .i64 nd, .int .i64 lf, .int .i64 inn, .int .i64 fl, .int .i64 bk]] w fun e w' => e = .returned (.bool true) ∧ Below w.heap.size w w' := by
  obtain ⟨w0, hw0⟩ : ∃ x, x = w.alloc (.cells #[.slice aS lS cS, .int .i64 nd, .int .i64 lf, .int .i64 inn, .int .i64 fl, .int .i64 bk] 26) := ⟨_, rfl⟩
  have b0 : Below w.heap.size w w0 := by rw [hw0]; exact (Below.refl _ _).alloc (Nat.le_refl _) _
  have G0 : Hid (w0.heap[w.heap.size]? = some (.cells #[.slice aS lS cS, .int .i64 nd, .int .i64 lf, .int .i64 inn, .int .i64 fl, .int .i64 bk] 26 (0, 0))) := by show _ = _; rw [hw0]; exact heap_alloc_new w _
  have HW0 : Hid (w.alloc (.cells #[.slice aS lS cS, .int .i64 nd, .int .i64 lf, .int .i64 inn, .int .i64 fl, .int .i64 bk] 26) = w0) := hw0.symm
  have HHD := hide (head11_any w0)
  have B0 := hide b0
  clear hw0 b0
  go_enter Tryz.func3, Tryz.ntmps3
  go_upto_region 1 with fail
  rw [HW0.out]
  go_wp2_with fail
  refine HHD.out.mono ?_
  rintro e w1 ⟨rfl, hb1⟩
  have B1 := hide (B0.out.trans (hb1.mono B0.out.size))
  have G1 : Hid (w1.heap[w.heap.size]? = some (.cells #[.slice aS lS cS, .int .i64 nd, .int .i64 lf, .int .i64 inn, .int .i64 fl, .int .i64 bk] 26 (0, 0))) := (hb1.block _ (lt_of_block G0.out)).trans G0.out
  have hO1 : Ops (fun k => k < w1.heap.size) w1 aS L := (hO.kept ⟨B1.out.os, B1.out.tape, B1.out.output, B1.out.size, fun k _ hk => B1.out.block k (Decidable.byContradiction fun hc => hk hc)⟩).mono (fun k hk => by have := B1.out.size; omega)
  have HLD := hide (laid_any aS lS cS nd lf inn fl bk L w1 hL hO1 hlS)
  obtain ⟨q0, q1, q2, q3, q4, q5⟩ := Six.of G1.out
  clear hb1 hO hO1 hL hlS
  go_wp2_with fail
  refine HLD.out.mono ?_
  rintro e w2 ⟨P, AX, AY, rfl, hA, hb2⟩
  obtain ⟨s, hs⟩ : ∃ s, s = (AS.new 40).run L := ⟨_, rfl⟩
  rw [← hs] at hA
  obtain ⟨K, hK⟩ : ∃ K : Nat → Prop, K = fun k => k < w1.heap.size ∨ k = P := ⟨_, rfl⟩
  rw [← hK] at hA
  have HKW : Hid (∀ k, k < w1.heap.size → K k) := fun k hk => by rw [hK]; exact .inl hk
  have HA := hide hA
  have G2 : Hid (w2.heap[w.heap.size]? = some (.cells #[.slice aS lS cS, .int .i64 nd, .int .i64 lf, .int .i64 inn, .int .i64 fl, .int .i64 bk] 26 (0, 0))) := (hb2.block _ (lt_of_block G1.out)).trans G1.out
  have B2 := hide (B1.out.trans (hb2.mono B1.out.size))
  have hlP : P < w2.heap.size := World.block_lt_of_cell? w2 ⟨P, 0, none⟩ hA.cells.1
  have HCL : Hid (∀ Y, Below w2.heap.size w2 Y → Y.cell? ⟨P, 0, none⟩ = some (.pointer (some ⟨AX, 0, none⟩)) ∧ Y.cell? ⟨P, 1, none⟩ = some (.pointer (some ⟨AY, 0, none⟩)) ∧ Y.cell? ⟨w.heap.size, 1, none⟩ = some (.int .i64 nd) ∧ Y.cell? ⟨w.heap.size, 2, none⟩ = some (.int .i64 lf) ∧ Y.cell? ⟨w.heap.size, 3, none⟩ = some (.int .i64 inn) ∧ Y.cell? ⟨w.heap.size, 4, none⟩ = some (.int .i64 fl) ∧ Y.cell? ⟨w.heap.size, 5, none⟩ = some (.int .i64 bk) ∧ P < Y.heap.size ∧ w.heap.size < Y.heap.size) := fun Y hb => by
    obtain ⟨e0, e1⟩ := (HA.out.below hb).cells
    have g := (hb.block _ (lt_of_block G2.out)).trans G2.out
    obtain ⟨h1, h2, h3, h4, h5⟩ := two_tree g
    exact ⟨e0, e1, h1, h2, h3, h4, h5, World.block_lt_of_cell? Y ⟨P, 0, none⟩ e0, lt_of_block g⟩
  have HX : Hid (∀ Y, Below w2.heap.size w2 Y → Calls Tryz.prog 11 #[.pointer (some ⟨AX, 0, none⟩), .agg #[.int .i64 nd, .int .i64 lf, .int .i64 inn, .int .i64 fl, .int .i64 bk]] Y (ChP Y nd lf inn fl bk s)) := fun Y hb => by
    obtain ⟨F, hp⟩ := (HA.out.below hb).px
    exact scheck_any hp nd lf inn fl bk
  have HY : Hid (∀ Y, Below w2.heap.size w2 Y → Calls Tryz.prog 12 #[.pointer (some ⟨AY, 0, none⟩), .agg #[.int .i64 nd, .int .i64 lf, .int .i64 inn, .int .i64 fl, .int .i64 bk]] Y (ChP Y nd lf inn fl bk s)) := fun Y hb => by
    obtain ⟨F, hp⟩ := (HA.out.below hb).rx
    exact rcheck11_any hp nd lf inn fl bk
  clear hA hb2 hs hK HLD q0 q1 q2 q3 q4 q5
  go_upto_region 5 with fail
  have c0 := HCL.out w2 (Below.refl _ _)
  obtain ⟨p0, p1, t1, t2, t3, t4, t5, lP, lT⟩ := c0
  have HCK := hide (fun Y hb => HX.out Y hb : ∀ Y, Below w2.heap.size w2 Y → Calls Tryz.prog 11 #[.pointer (some ⟨AX, 0, none⟩), .agg #[.int .i64 nd, .int .i64 lf, .int .i64 inn, .int .i64 fl, .int .i64 bk]] Y (ChP Y nd lf inn fl bk s))
  have n1 : ¬ P = w2.heap.size := by omega
  have n2 : ¬ w2.heap.size = P := by omega
  have n3 : ¬ w.heap.size = w2.heap.size := by omega
  have n4 : ¬ w2.heap.size = w.heap.size := by omega
  go_upto_region 5 with fail
  go_cut [6] (fun s0 wx => ∃ B, s0 = .pointer (some ⟨B, 0, none⟩) ∧ Hid (∃ b i er l n en, wx.heap[B]? = some (.cells #[.bool b, .int .i64 i, .int .i64 er, .int .i64 l, .int .i64 n, .int .i64 en] 33 (0, 0)) ∧ s.rep nd lf inn fl bk (.agg #[.bool b, .int .i64 i, .int .i64 er, .int .i64 l, .int .i64 n, .int .i64 en]) ∧ Below w2.heap.size w2 wx ∧ w2.heap.size ≤ B))
  case first =>
    go_wp2_with fail
    go_region_held3 (fun Y => Y.cell? ⟨P, 0, none⟩ = some (.pointer (some ⟨AX, 0, none⟩)) ∧ (Y.cell? ⟨w.heap.size, 1, none⟩ = some (.int .i64 nd) ∧ Y.cell? ⟨w.heap.size, 2, none⟩ = some (.int .i64 lf) ∧ Y.cell? ⟨w.heap.size, 3, none⟩ = some (.int .i64 inn)) ∧ Y.cell? ⟨w.heap.size, 4, none⟩ = some (.int .i64 fl) ∧ Y.cell? ⟨w.heap.size, 5, none⟩ = some (.int .i64 bk)) (go_keep) (first
      | (go_at_call 11; refine (HCK.out (w2.alloc (.cells #[.bool false, .int .i64 0, .int .i64 0, .int .i64 0, .int .i64 0, .int .i64 0] 33)).drew (below_drew ((Below.refl _ _).alloc (Nat.le_refl _) _))).mono ?_; rintro e w9 ⟨v, rfl, hrep, hb9⟩; obtain ⟨b, i, er, l, n, en, rfl⟩ := rep_form hrep; have bb : Below w2.heap.size w2 w9 := (below_drew ((Below.refl w2.heap.size w2).alloc (Nat.le_refl _) (.cells #[.bool false, .int .i64 0, .int .i64 0, .int .i64 0, .int .i64 0, .int .i64 0] 33))).trans (hb9.mono (by simp [World.drew])); have G9 : w9.heap[w2.heap.size]? = some (.cells #[.bool false, .int .i64 0, .int .i64 0, .int .i64 0, .int .i64 0, .int .i64 0] 33 (0, 0)) := (hb9.block _ (by simp [World.drew])).trans (heap_alloc_new w2 _); obtain ⟨y0, y1, y2, y3, y4, y5⟩ := Six.of G9; have FY := (fun j => frozen_of G9 j); have k0 : w9.cell? ⟨P, 0, none⟩ = _ := (bb.cell (p := ⟨P, 0, none⟩) lP).trans p0; have k1 : w9.cell? ⟨w.heap.size, 1, none⟩ = _ := (bb.cell (p := ⟨w.heap.size, 1, none⟩) lT).trans t1; have k2 : w9.cell? ⟨w.heap.size, 2, none⟩ = _ := (bb.cell (p := ⟨w.heap.size, 2, none⟩) lT).trans t2; have k3 : w9.cell? ⟨w.heap.size, 3, none⟩ = _ := (bb.cell (p := ⟨w.heap.size, 3, none⟩) lT).trans t3; have k4 : w9.cell? ⟨w.heap.size, 4, none⟩ = _ := (bb.cell (p := ⟨w.heap.size, 4, none⟩) lT).trans t4; have k5 : w9.cell? ⟨w.heap.size, 5, none⟩ = _ := (bb.cell (p := ⟨w.heap.size, 5, none⟩) lT).trans t5; have HC9 : Hid (∃ b' i' er' l' n' en', (six6 w9 w2.heap.size (.bool b) (.int .i64 i) (.int .i64 er) (.int .i64 l) (.int .i64 n) (.int .i64 en)).heap[w2.heap.size]? = some (.cells #[.bool b', .int .i64 i', .int .i64 er', .int .i64 l', .int .i64 n', .int .i64 en'] 33 (0, 0)) ∧ s.rep nd lf inn fl bk (.agg #[.bool b', .int .i64 i', .int .i64 er', .int .i64 l', .int .i64 n', .int .i64 en']) ∧ Below w2.heap.size w2 (six6 w9 w2.heap.size (.bool b) (.int .i64 i) (.int .i64 er) (.int .i64 l) (.int .i64 n) (.int .i64 en)) ∧ w2.heap.size ≤ w2.heap.size) := ⟨b, i, er, l, n, en, six_block G9 _ _ _ _ _ _, hrep, bb.trans ((six_upd (fun k => k = w2.heap.size) _ _ _ _ _ _ _ _ rfl : Upd (fun k => k = w2.heap.size) w9 (six6 w9 w2.heap.size (.bool b) (.int .i64 i) (.int .i64 er) (.int .i64 l) (.int .i64 n) (.int .i64 en))).below bb.size (fun k hk e => by have e' : k = w2.heap.size := e; omega)), Nat.le_refl _⟩; clear hb9 hrep bb G9)
      | (go_at_call 11; refine (HCK.out w2.drew (below_drew (Below.refl _ _))).mono ?_; rintro e w9 ⟨v, rfl, hrep, hb9⟩; obtain ⟨b, i, er, l, n, en, rfl⟩ := rep_form hrep; have bb : Below w2.heap.size w2 w9 := (below_drew (Below.refl w2.heap.size w2)).trans hb9; have m0 := bb.size; have m1 : ¬ P = w9.heap.size := (by omega); have m2 : ¬ w9.heap.size = P := (by omega); have m3 : ¬ w.heap.size = w9.heap.size := (by omega); have m4 : ¬ w9.heap.size = w.heap.size := (by omega); have k0 : w9.cell? ⟨P, 0, none⟩ = _ := (bb.cell (p := ⟨P, 0, none⟩) lP).trans p0; have k1 : w9.cell? ⟨w.heap.size, 1, none⟩ = _ := (bb.cell (p := ⟨w.heap.size, 1, none⟩) lT).trans t1; have k2 : w9.cell? ⟨w.heap.size, 2, none⟩ = _ := (bb.cell (p := ⟨w.heap.size, 2, none⟩) lT).trans t2; have k3 : w9.cell? ⟨w.heap.size, 3, none⟩ = _ := (bb.cell (p := ⟨w.heap.size, 3, none⟩) lT).trans t3; have k4 : w9.cell? ⟨w.heap.size, 4, none⟩ = _ := (bb.cell (p := ⟨w.heap.size, 4, none⟩) lT).trans t4; have k5 : w9.cell? ⟨w.heap.size, 5, none⟩ = _ := (bb.cell (p := ⟨w.heap.size, 5, none⟩) lT).trans t5; have HC9 : Hid (∃ b' i' er' l' n' en', (w9.alloc (.cells #[.bool b, .int .i64 i, .int .i64 er, .int .i64 l, .int .i64 n, .int .i64 en] 33)).heap[w9.heap.size]? = some (.cells #[.bool b', .int .i64 i', .int .i64 er', .int .i64 l', .int .i64 n', .int .i64 en'] 33 (0, 0)) ∧ s.rep nd lf inn fl bk (.agg #[.bool b', .int .i64 i', .int .i64 er', .int .i64 l', .int .i64 n', .int .i64 en']) ∧ Below w2.heap.size w2 (w9.alloc (.cells #[.bool b, .int .i64 i, .int .i64 er, .int .i64 l, .int .i64 n, .int .i64 en] 33)) ∧ w2.heap.size ≤ w9.heap.size) := ⟨b, i, er, l, n, en, heap_alloc_new w9 _, hrep, bb.alloc bb.size _, bb.size⟩; clear hb9 hrep bb)
      | fail)
    all_goals
      try go_wp2_with fail
      go_meet
      exact ⟨_, rfl, HC9⟩
  case rest =>
  rename World => w3
  obtain ⟨B6, rfl, HX6⟩ := hcut
  clear p0 p1 t1 t2 t3 t4 t5 HCK n1 n2 n3 n4 lP lT
  obtain ⟨b1, i1, er1, l1, n1, en1, g3, hrep3, b23, hB6⟩ := HX6.out
  have B23 := hide b23
  have G3 := hide g3
  have HR3 := hide hrep3
  clear g3 hrep3 b23 HX6
  have c0 := HCL.out w3 B23.out
  obtain ⟨p0, p1, t1, t2, t3, t4, t5, lP, lT⟩ := c0
  have HCK := hide (fun Y hb => HY.out Y (B23.out.trans (hb.mono B23.out.size)) : ∀ Y, Below w3.heap.size w3 Y → Calls Tryz.prog 12 #[.pointer (some ⟨AY, 0, none⟩), .agg #[.int .i64 nd, .int .i64 lf, .int .i64 inn, .int .i64 fl, .int .i64 bk]] Y (ChP Y nd lf inn fl bk s))
  have n1 : ¬ P = w3.heap.size := by omega
  have n2 : ¬ w3.heap.size = P := by omega
  have n3 : ¬ w.heap.size = w3.heap.size := by omega
  have n4 : ¬ w3.heap.size = w.heap.size := by omega
  go_upto_region 6 with fail
  go_cut [7] (fun s0 wx => ∃ B, s0 = .pointer (some ⟨B, 0, none⟩) ∧ Hid (∃ b i er l n en, wx.heap[B]? = some (.cells #[.bool b, .int .i64 i, .int .i64 er, .int .i64 l, .int .i64 n, .int .i64 en] 33 (0, 0)) ∧ s.rep nd lf inn fl bk (.agg #[.bool b, .int .i64 i, .int .i64 er, .int .i64 l, .int .i64 n, .int .i64 en]) ∧ Below w3.heap.size w3 wx ∧ w3.heap.size ≤ B))
  case first =>
    go_wp2_with fail
    go_region_held3 (fun Y => Y.cell? ⟨P, 1, none⟩ = some (.pointer (some ⟨AY, 0, none⟩)) ∧ (Y.cell? ⟨w.heap.size, 1, none⟩ = some (.int .i64 nd) ∧ Y.cell? ⟨w.heap.size, 2, none⟩ = some (.int .i64 lf) ∧ Y.cell? ⟨w.heap.size, 3, none⟩ = some (.int .i64 inn)) ∧ Y.cell? ⟨w.heap.size, 4, none⟩ = some (.int .i64 fl) ∧ Y.cell? ⟨w.heap.size, 5, none⟩ = some (.int .i64 bk)) (go_keep) (first
      | (go_at_call 12; refine (HCK.out (w3.alloc (.cells #[.bool false, .int .i64 0, .int .i64 0, .int .i64 0, .int .i64 0, .int .i64 0] 33)).drew (below_drew ((Below.refl _ _).alloc (Nat.le_refl _) _))).mono ?_; rintro e w9 ⟨v, rfl, hrep, hb9⟩; obtain ⟨b, i, er, l, n, en, rfl⟩ := rep_form hrep; have bb : Below w3.heap.size w3 w9 := (below_drew ((Below.refl w3.heap.size w3).alloc (Nat.le_refl _) (.cells #[.bool false, .int .i64 0, .int .i64 0, .int .i64 0, .int .i64 0, .int .i64 0] 33))).trans (hb9.mono (by simp [World.drew])); have G9 : w9.heap[w3.heap.size]? = some (.cells #[.bool false, .int .i64 0, .int .i64 0, .int .i64 0, .int .i64 0, .int .i64 0] 33 (0, 0)) := (hb9.block _ (by simp [World.drew])).trans (heap_alloc_new w3 _); obtain ⟨y0, y1, y2, y3, y4, y5⟩ := Six.of G9; have FY := (fun j => frozen_of G9 j); have k0 : w9.cell? ⟨P, 1, none⟩ = _ := (bb.cell (p := ⟨P, 1, none⟩) lP).trans p1; have k1 : w9.cell? ⟨w.heap.size, 1, none⟩ = _ := (bb.cell (p := ⟨w.heap.size, 1, none⟩) lT).trans t1; have k2 : w9.cell? ⟨w.heap.size, 2, none⟩ = _ := (bb.cell (p := ⟨w.heap.size, 2, none⟩) lT).trans t2; have k3 : w9.cell? ⟨w.heap.size, 3, none⟩ = _ := (bb.cell (p := ⟨w.heap.size, 3, none⟩) lT).trans t3; have k4 : w9.cell? ⟨w.heap.size, 4, none⟩ = _ := (bb.cell (p := ⟨w.heap.size, 4, none⟩) lT).trans t4; have k5 : w9.cell? ⟨w.heap.size, 5, none⟩ = _ := (bb.cell (p := ⟨w.heap.size, 5, none⟩) lT).trans t5; have HC9 : Hid (∃ b' i' er' l' n' en', (six6 w9 w3.heap.size (.bool b) (.int .i64 i) (.int .i64 er) (.int .i64 l) (.int .i64 n) (.int .i64 en)).heap[w3.heap.size]? = some (.cells #[.bool b', .int .i64 i', .int .i64 er', .int .i64 l', .int .i64 n', .int .i64 en'] 33 (0, 0)) ∧ s.rep nd lf inn fl bk (.agg #[.bool b', .int .i64 i', .int .i64 er', .int .i64 l', .int .i64 n', .int .i64 en']) ∧ Below w3.heap.size w3 (six6 w9 w3.heap.size (.bool b) (.int .i64 i) (.int .i64 er) (.int .i64 l) (.int .i64 n) (.int .i64 en)) ∧ w3.heap.size ≤ w3.heap.size) := ⟨b, i, er, l, n, en, six_block G9 _ _ _ _ _ _, hrep, bb.trans ((six_upd (fun k => k = w3.heap.size) _ _ _ _ _ _ _ _ rfl : Upd (fun k => k = w3.heap.size) w9 (six6 w9 w3.heap.size (.bool b) (.int .i64 i) (.int .i64 er) (.int .i64 l) (.int .i64 n) (.int .i64 en))).below bb.size (fun k hk e => by have e' : k = w3.heap.size := e; omega)), Nat.le_refl _⟩; clear hb9 hrep bb G9)
      | (go_at_call 12; refine (HCK.out w3.drew (below_drew (Below.refl _ _))).mono ?_; rintro e w9 ⟨v, rfl, hrep, hb9⟩; obtain ⟨b, i, er, l, n, en, rfl⟩ := rep_form hrep; have bb : Below w3.heap.size w3 w9 := (below_drew (Below.refl w3.heap.size w3)).trans hb9; have m0 := bb.size; have m1 : ¬ P = w9.heap.size := (by omega); have m2 : ¬ w9.heap.size = P := (by omega); have m3 : ¬ w.heap.size = w9.heap.size := (by omega); have m4 : ¬ w9.heap.size = w.heap.size := (by omega); have k0 : w9.cell? ⟨P, 1, none⟩ = _ := (bb.cell (p := ⟨P, 1, none⟩) lP).trans p1; have k1 : w9.cell? ⟨w.heap.size, 1, none⟩ = _ := (bb.cell (p := ⟨w.heap.size, 1, none⟩) lT).trans t1; have k2 : w9.cell? ⟨w.heap.size, 2, none⟩ = _ := (bb.cell (p := ⟨w.heap.size, 2, none⟩) lT).trans t2; have k3 : w9.cell? ⟨w.heap.size, 3, none⟩ = _ := (bb.cell (p := ⟨w.heap.size, 3, none⟩) lT).trans t3; have k4 : w9.cell? ⟨w.heap.size, 4, none⟩ = _ := (bb.cell (p := ⟨w.heap.size, 4, none⟩) lT).trans t4; have k5 : w9.cell? ⟨w.heap.size, 5, none⟩ = _ := (bb.cell (p := ⟨w.heap.size, 5, none⟩) lT).trans t5; have HC9 : Hid (∃ b' i' er' l' n' en', (w9.alloc (.cells #[.bool b, .int .i64 i, .int .i64 er, .int .i64 l, .int .i64 n, .int .i64 en] 33)).heap[w9.heap.size]? = some (.cells #[.bool b', .int .i64 i', .int .i64 er', .int .i64 l', .int .i64 n', .int .i64 en'] 33 (0, 0)) ∧ s.rep nd lf inn fl bk (.agg #[.bool b', .int .i64 i', .int .i64 er', .int .i64 l', .int .i64 n', .int .i64 en']) ∧ Below w3.heap.size w3 (w9.alloc (.cells #[.bool b, .int .i64 i, .int .i64 er, .int .i64 l, .int .i64 n, .int .i64 en] 33)) ∧ w3.heap.size ≤ w9.heap.size) := ⟨b, i, er, l, n, en, heap_alloc_new w9 _, hrep, bb.alloc bb.size _, bb.size⟩; clear hb9 hrep bb)
      | fail)
    all_goals
      try go_wp2_with fail
      go_meet
      exact ⟨_, rfl, HC9⟩
  case rest =>
  rename World => w4
  obtain ⟨B7, rfl, HX7⟩ := hcut
  clear p0 p1 t1 t2 t3 t4 t5 HCK n1 n2 n3 n4 lP lT
  obtain ⟨b2, i2, er2, l2, n2, en2, g4, hrep4, b34, hB7⟩ := HX7.out
  have heq := AS.rep_uniq HR3.out hrep4
  simp only [Value.agg.injEq, Array.mk.injEq, List.cons.injEq, Value.bool.injEq, Value.int.injEq, true_and, and_true] at heq
  obtain ⟨rfl, rfl, rfl, rfl, rfl, rfl⟩ := heq
  have g34 := (b34.block _ (lt_of_block G3.out)).trans G3.out
  obtain ⟨u0, u1, u2, u3, u4, u5⟩ := Six.of g34
  obtain ⟨v0, v1, v2, v3, v4, v5⟩ := Six.of g4
  have B24 := hide (B23.out.trans (b34.mono B23.out.size))
  have HSM := hide (wsame_any (HA.out.below B24.out))
  have HBF : Hid (∀ Y, Upd (fun k => ¬ K k) w4 Y → Below w.heap.size w Y) := fun Y hu => (B2.out.trans (B24.out.mono B2.out.size)).trans (hu.below (by have := B2.out.size; have := B24.out.size; omega) (fun k hk e => e (HKW.out k (by have := B1.out.size; omega))))
  clear g4 hrep4 b34 g34 HX7 hB6 hB7
  go_wp2_with (first
    | (go_at_call 13; refine HSM.out.mono ?_; rintro e w5 ⟨rfl, _, hu5⟩; have HU5 := hide hu5; clear hu5)
    | fail)
  go_ret
  exact ⟨rfl, HBF.out _ HU5.out⟩

end Go.Proofs.YtmhhakahjhjhlaaGreat
