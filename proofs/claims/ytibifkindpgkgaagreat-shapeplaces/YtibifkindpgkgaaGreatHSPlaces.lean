/- ShapePlaces: the walk. -/
import Derived.Test.YtibifkindpgkgaaGreatHSMapA
import Derived.Test.YtibifkindpgkgaaGreatHSFound
import Derived.Test.YtibifkindpgkgaaGreatG47
import Derived.Deep.DeepCutAuto
namespace Go.Proofs.YtibifkindpgkgaaGreat
open Go.RowKit
set_option maxRecDepth 100000

theorem two_treeP {W : World} {b : Nat} {x0 x1 x2 x3 x4 x5 : Value} {T : TypeId} (h : W.heap[b]? = some (.cells #[x0, x1, x2, x3, x4, x5] T (0, 0))) : W.cell? ⟨b, 1, none⟩ = some x1 ∧ W.cell? ⟨b, 2, none⟩ = some x2 ∧ W.cell? ⟨b, 3, none⟩ = some x3 ∧ W.cell? ⟨b, 4, none⟩ = some x4 ∧ W.cell? ⟨b, 5, none⟩ = some x5 := by
  obtain ⟨_, h1, h2, h3, h4, h5⟩ := Six.of h
  exact ⟨h1, h2, h3, h4, h5⟩
theorem setn_nodes (s : AS) : (∀ id x, (s.lockS id x).nodes = s.nodes) ∧ (∀ id c, (s.unlS id c).nodes = s.nodes) ∧ (∀ id a b c, (s.hedS id a b c).nodes = s.nodes) ∧ (∀ id a b c, (s.bodS id a b c).nodes = s.nodes) ∧ (∀ a b, (s.groS a b).nodes = s.nodes) ∧ s.allS.nodes = s.nodes := by
  refine ⟨fun id x => ?_, fun id c => ?_, fun id a b c => ?_, fun id a b c => ?_, fun a b => ?_, ?_⟩
  · unfold AS.lockS; split <;> rfl
  · unfold AS.unlS; split <;> rfl
  · unfold AS.hedS; split <;> rfl
  · unfold AS.bodS; split <;> rfl
  · unfold AS.groS; split <;> rfl
  · unfold AS.allS; split <;> rfl
theorem fin_nodes (s : AS) (id : Int) (p : NP) : (s.finS id p).nodes = s.nodes := by
  unfold AS.finS
  simp only [(setn_nodes _).2.1, (setn_nodes _).2.2.1, (setn_nodes _).2.2.2.1]
theorem raw_nodes (s : AS) (o : AOp) : (s.raw o).nodes = s.nodes := by
  unfold AS.raw
  split
  · exact (setn_nodes s).2.2.2.2.2
  split
  · rfl
  split
  · exact (setn_nodes s).1 _ _
  split
  · exact (setn_nodes s).2.1 _ _
  split
  · exact (setn_nodes s).2.2.1 _ _ _ _
  split
  · exact (setn_nodes s).2.2.2.1 _ _ _ _
  split
  · exact (setn_nodes s).2.2.2.2.1 _ _
  split
  · unfold AS.layS
    split
    · split
      · rw [fin_nodes]; exact (setn_nodes s).2.2.2.2.2
      · rfl
    · rw [fin_nodes]; exact (setn_nodes s).1 _ _
  · exact (setn_nodes s).1 _ _
theorem run_nodes : ∀ (L : List AOp) (s : AS), (s.run L).nodes = s.nodes
  | [], _ => rfl
  | o :: L, s => by
    show ((s.raw o).run L).nodes = _
    rw [run_nodes L, raw_nodes]
set_option maxRecDepth 100000 in
set_option maxHeartbeats 12800000 in
theorem shapePlaces_any (aS : Option Addr) (lS cS : Nat) (nd lf inn fl bk : Int) (L : List AOp) (w : World)
    (hL : L.length = lS) (hO : Ops (fun k => k < w.heap.size) w aS L) (hlS : lS * 152 ≤ 140737488355328) :
    Calls Tryz.prog 4 #[.agg #[.slice aS lS cS, .int .i64 nd, .int .i64 lf, .int .i64 inn, .int .i64 fl, .int .i64 bk]] w fun e w' => e = .returned (.bool true) ∧ Below w.heap.size w w' := by
  obtain ⟨w0, hw0⟩ : ∃ x, x = w.alloc (.cells #[.slice aS lS cS, .int .i64 nd, .int .i64 lf, .int .i64 inn, .int .i64 fl, .int .i64 bk] 26) := ⟨_, rfl⟩
  have b0 : Below w.heap.size w w0 := by rw [hw0]; exact (Below.refl _ _).alloc (Nat.le_refl _) _
  have G0 : Hid (w0.heap[w.heap.size]? = some (.cells #[.slice aS lS cS, .int .i64 nd, .int .i64 lf, .int .i64 inn, .int .i64 fl, .int .i64 bk] 26 (0, 0))) := by show _ = _; rw [hw0]; exact heap_alloc_new w _
  have HW0 : Hid (w.alloc (.cells #[.slice aS lS cS, .int .i64 nd, .int .i64 lf, .int .i64 inn, .int .i64 fl, .int .i64 bk] 26) = w0) := hw0.symm
  have HHD := hide (head11_any w0)
  have B0 := hide b0
  clear hw0 b0
  go_enter Tryz.func4, Tryz.ntmps4
  go_upto_region 1 with fail
  rw [HW0.out]
  go_wp2_with fail
  refine HHD.out.mono ?_
  rintro e w1 ⟨rfl, hb1⟩
  have B1 := hide (B0.out.trans (hb1.mono B0.out.size))
  have G1 : Hid (w1.heap[w.heap.size]? = some (.cells #[.slice aS lS cS, .int .i64 nd, .int .i64 lf, .int .i64 inn, .int .i64 fl, .int .i64 bk] 26 (0, 0))) := (hb1.block _ (lt_of_block G0.out)).trans G0.out
  have hO1 : Ops (fun k => k < w1.heap.size) w1 aS L := (hO.kept ⟨B1.out.os, B1.out.tape, B1.out.output, B1.out.size, fun k _ hk => B1.out.block k (Decidable.byContradiction fun hc => hk hc)⟩).mono (fun k hk => by have := B1.out.size; omega)
  have HLD := hide (laid_any aS lS cS nd lf inn fl bk L w1 hL hO1 hlS)
  obtain ⟨q0, q1, q2, q3, q4, q5⟩ := Six.of G1.out
  clear hb1 hO hO1 hL hlS
  go_wp2_with fail
  refine HLD.out.mono ?_
  rintro e w2 ⟨P, AX, AY, rfl, hA, hb2⟩
  obtain ⟨s, hs⟩ : ∃ s, s = (AS.new 40).run L := ⟨_, rfl⟩
  rw [← hs] at hA
  obtain ⟨K, hK⟩ : ∃ K : Nat → Prop, K = fun k => k < w1.heap.size ∨ k = P := ⟨_, rfl⟩
  rw [← hK] at hA
  have HKW : Hid (∀ k, k < w1.heap.size → K k) := fun k hk => by rw [hK]; exact .inl hk
  have HA := hide hA
  have G2 : Hid (w2.heap[w.heap.size]? = some (.cells #[.slice aS lS cS, .int .i64 nd, .int .i64 lf, .int .i64 inn, .int .i64 fl, .int .i64 bk] 26 (0, 0))) := (hb2.block _ (lt_of_block G1.out)).trans G1.out
  have B2 := hide (B1.out.trans (hb2.mono B1.out.size))
  have hlP : P < w2.heap.size := World.block_lt_of_cell? w2 ⟨P, 0, none⟩ hA.cells.1
  have HCL : Hid (∀ Y, Below w2.heap.size w2 Y → Y.cell? ⟨P, 0, none⟩ = some (.pointer (some ⟨AX, 0, none⟩)) ∧ Y.cell? ⟨P, 1, none⟩ = some (.pointer (some ⟨AY, 0, none⟩)) ∧ Y.cell? ⟨w.heap.size, 1, none⟩ = some (.int .i64 nd) ∧ Y.cell? ⟨w.heap.size, 2, none⟩ = some (.int .i64 lf) ∧ Y.cell? ⟨w.heap.size, 3, none⟩ = some (.int .i64 inn) ∧ Y.cell? ⟨w.heap.size, 4, none⟩ = some (.int .i64 fl) ∧ Y.cell? ⟨w.heap.size, 5, none⟩ = some (.int .i64 bk) ∧ P < Y.heap.size ∧ w.heap.size < Y.heap.size) := fun Y hb => by
    obtain ⟨e0, e1⟩ := (HA.out.below hb).cells
    have g := (hb.block _ (lt_of_block G2.out)).trans G2.out
    obtain ⟨h1, h2, h3, h4, h5⟩ := two_treeP g
    exact ⟨e0, e1, h1, h2, h3, h4, h5, World.block_lt_of_cell? Y ⟨P, 0, none⟩ e0, lt_of_block g⟩
  have HX : Hid (∀ Y, Below w2.heap.size w2 Y → Calls Tryz.prog 14 #[.pointer (some ⟨AX, 0, none⟩), .agg #[.int .i64 nd, .int .i64 lf, .int .i64 inn, .int .i64 fl, .int .i64 bk]] Y (ChP Y nd lf inn fl bk s)) := fun Y hb => by
    obtain ⟨F, hp⟩ := (HA.out.below hb).px
    exact scheck_any hp nd lf inn fl bk
  have HNO : Hid (s.nodes = 40) := by show _ = _; rw [hs]; exact run_nodes L (AS.new 40)
  clear hA hb2 hs hK HLD q0 q1 q2 q3 q4 q5
  go_upto_region 5 with fail
  have c0 := HCL.out w2 (Below.refl _ _)
  obtain ⟨p0, p1, t1, t2, t3, t4, t5, lP, lT⟩ := c0
  have HCK := hide (fun Y hb => HX.out Y hb : ∀ Y, Below w2.heap.size w2 Y → Calls Tryz.prog 14 #[.pointer (some ⟨AX, 0, none⟩), .agg #[.int .i64 nd, .int .i64 lf, .int .i64 inn, .int .i64 fl, .int .i64 bk]] Y (ChP Y nd lf inn fl bk s))
  have n1 : ¬ P = w2.heap.size := by omega
  have n2 : ¬ w2.heap.size = P := by omega
  have n3 : ¬ w.heap.size = w2.heap.size := by omega
  have n4 : ¬ w2.heap.size = w.heap.size := by omega
  go_upto_region 5 with fail
  go_cut [6] (fun s0 wx => ∃ B, s0 = .pointer (some ⟨B, 0, none⟩) ∧ Hid (∃ b i er l n en, wx.heap[B]? = some (.cells #[.bool b, .int .i64 i, .int .i64 er, .int .i64 l, .int .i64 n, .int .i64 en] 45 (0, 0)) ∧ s.rep nd lf inn fl bk (.agg #[.bool b, .int .i64 i, .int .i64 er, .int .i64 l, .int .i64 n, .int .i64 en]) ∧ Below w2.heap.size w2 wx ∧ w2.heap.size ≤ B))
  case first =>
    go_wp2_with fail
    go_region_held3 (fun Y => Y.cell? ⟨P, 0, none⟩ = some (.pointer (some ⟨AX, 0, none⟩)) ∧ (Y.cell? ⟨w.heap.size, 1, none⟩ = some (.int .i64 nd) ∧ Y.cell? ⟨w.heap.size, 2, none⟩ = some (.int .i64 lf) ∧ Y.cell? ⟨w.heap.size, 3, none⟩ = some (.int .i64 inn)) ∧ Y.cell? ⟨w.heap.size, 4, none⟩ = some (.int .i64 fl) ∧ Y.cell? ⟨w.heap.size, 5, none⟩ = some (.int .i64 bk)) (go_keep) (first
      | (go_at_call 14; refine (HCK.out (w2.alloc (.cells #[.bool false, .int .i64 0, .int .i64 0, .int .i64 0, .int .i64 0, .int .i64 0] 45)).drew (below_drew ((Below.refl _ _).alloc (Nat.le_refl _) _))).mono ?_; rintro e w9 ⟨v, rfl, hrep, hb9⟩; obtain ⟨b, i, er, l, n, en, rfl⟩ := rep_form hrep; have bb : Below w2.heap.size w2 w9 := (below_drew ((Below.refl w2.heap.size w2).alloc (Nat.le_refl _) (.cells #[.bool false, .int .i64 0, .int .i64 0, .int .i64 0, .int .i64 0, .int .i64 0] 45))).trans (hb9.mono (by simp [World.drew])); have G9 : w9.heap[w2.heap.size]? = some (.cells #[.bool false, .int .i64 0, .int .i64 0, .int .i64 0, .int .i64 0, .int .i64 0] 45 (0, 0)) := (hb9.block _ (by simp [World.drew])).trans (heap_alloc_new w2 _); obtain ⟨y0, y1, y2, y3, y4, y5⟩ := Six.of G9; have FY := (fun j => frozen_of G9 j); have k0 : w9.cell? ⟨P, 0, none⟩ = _ := (bb.cell (p := ⟨P, 0, none⟩) lP).trans p0; have k1 : w9.cell? ⟨w.heap.size, 1, none⟩ = _ := (bb.cell (p := ⟨w.heap.size, 1, none⟩) lT).trans t1; have k2 : w9.cell? ⟨w.heap.size, 2, none⟩ = _ := (bb.cell (p := ⟨w.heap.size, 2, none⟩) lT).trans t2; have k3 : w9.cell? ⟨w.heap.size, 3, none⟩ = _ := (bb.cell (p := ⟨w.heap.size, 3, none⟩) lT).trans t3; have k4 : w9.cell? ⟨w.heap.size, 4, none⟩ = _ := (bb.cell (p := ⟨w.heap.size, 4, none⟩) lT).trans t4; have k5 : w9.cell? ⟨w.heap.size, 5, none⟩ = _ := (bb.cell (p := ⟨w.heap.size, 5, none⟩) lT).trans t5; have HC9 : Hid (∃ b' i' er' l' n' en', (six6 w9 w2.heap.size (.bool b) (.int .i64 i) (.int .i64 er) (.int .i64 l) (.int .i64 n) (.int .i64 en)).heap[w2.heap.size]? = some (.cells #[.bool b', .int .i64 i', .int .i64 er', .int .i64 l', .int .i64 n', .int .i64 en'] 45 (0, 0)) ∧ s.rep nd lf inn fl bk (.agg #[.bool b', .int .i64 i', .int .i64 er', .int .i64 l', .int .i64 n', .int .i64 en']) ∧ Below w2.heap.size w2 (six6 w9 w2.heap.size (.bool b) (.int .i64 i) (.int .i64 er) (.int .i64 l) (.int .i64 n) (.int .i64 en)) ∧ w2.heap.size ≤ w2.heap.size) := ⟨b, i, er, l, n, en, six_block G9 _ _ _ _ _ _, hrep, bb.trans ((six_upd (fun k => k = w2.heap.size) _ _ _ _ _ _ _ _ rfl : Upd (fun k => k = w2.heap.size) w9 (six6 w9 w2.heap.size (.bool b) (.int .i64 i) (.int .i64 er) (.int .i64 l) (.int .i64 n) (.int .i64 en))).below bb.size (fun k hk e => by have e' : k = w2.heap.size := e; omega)), Nat.le_refl _⟩; clear hb9 hrep bb G9)
      | (go_at_call 14; refine (HCK.out w2.drew (below_drew (Below.refl _ _))).mono ?_; rintro e w9 ⟨v, rfl, hrep, hb9⟩; obtain ⟨b, i, er, l, n, en, rfl⟩ := rep_form hrep; have bb : Below w2.heap.size w2 w9 := (below_drew (Below.refl w2.heap.size w2)).trans hb9; have m0 := bb.size; have m1 : ¬ P = w9.heap.size := (by omega); have m2 : ¬ w9.heap.size = P := (by omega); have m3 : ¬ w.heap.size = w9.heap.size := (by omega); have m4 : ¬ w9.heap.size = w.heap.size := (by omega); have k0 : w9.cell? ⟨P, 0, none⟩ = _ := (bb.cell (p := ⟨P, 0, none⟩) lP).trans p0; have k1 : w9.cell? ⟨w.heap.size, 1, none⟩ = _ := (bb.cell (p := ⟨w.heap.size, 1, none⟩) lT).trans t1; have k2 : w9.cell? ⟨w.heap.size, 2, none⟩ = _ := (bb.cell (p := ⟨w.heap.size, 2, none⟩) lT).trans t2; have k3 : w9.cell? ⟨w.heap.size, 3, none⟩ = _ := (bb.cell (p := ⟨w.heap.size, 3, none⟩) lT).trans t3; have k4 : w9.cell? ⟨w.heap.size, 4, none⟩ = _ := (bb.cell (p := ⟨w.heap.size, 4, none⟩) lT).trans t4; have k5 : w9.cell? ⟨w.heap.size, 5, none⟩ = _ := (bb.cell (p := ⟨w.heap.size, 5, none⟩) lT).trans t5; have HC9 : Hid (∃ b' i' er' l' n' en', (w9.alloc (.cells #[.bool b, .int .i64 i, .int .i64 er, .int .i64 l, .int .i64 n, .int .i64 en] 45)).heap[w9.heap.size]? = some (.cells #[.bool b', .int .i64 i', .int .i64 er', .int .i64 l', .int .i64 n', .int .i64 en'] 45 (0, 0)) ∧ s.rep nd lf inn fl bk (.agg #[.bool b', .int .i64 i', .int .i64 er', .int .i64 l', .int .i64 n', .int .i64 en']) ∧ Below w2.heap.size w2 (w9.alloc (.cells #[.bool b, .int .i64 i, .int .i64 er, .int .i64 l, .int .i64 n, .int .i64 en] 45)) ∧ w2.heap.size ≤ w9.heap.size) := ⟨b, i, er, l, n, en, heap_alloc_new w9 _, hrep, bb.alloc bb.size _, bb.size⟩; clear hb9 hrep bb)
      | fail)
    all_goals
      try go_wp2_with fail
      go_meet
      exact ⟨_, rfl, HC9⟩
  case rest =>
  rename World => w3
  obtain ⟨B6, rfl, HX6⟩ := hcut
  clear p0 p1 t1 t2 t3 t4 t5 HCK n1 n2 n3 n4 lP lT
  obtain ⟨b1, i1, er1, l1, n1, en1, g3, hrep3, b23, hB6⟩ := HX6.out
  have B23 := hide b23
  have HBW : Hid (∀ Y, Below w3.heap.size w3 Y → Below w.heap.size w Y) := fun Y hb => B2.out.trans ((b23.trans (hb.mono b23.size)).mono B2.out.size)
  rcases hrep3 with ⟨id, er, h1, h2⟩ | ⟨ls, c, h1, h2, h3⟩
  · simp only [rpt_form, Value.agg.injEq, Array.mk.injEq, List.cons.injEq, Value.bool.injEq, Value.int.injEq, true_and, and_true] at h2
    obtain ⟨rfl, rfl, rfl, rfl, rfl, rfl⟩ := h2
    have hne : ¬ er1 = 0 := look_err h1
    have hnb : (er1 != 0) = true := by simpa using hne
    obtain ⟨y0, y1, y2, y3, y4, y5⟩ := Six.of g3
    clear h1 g3 b23 HX6 hB6
    go_wp2_with fail
    go_ret
    exact ⟨rfl, HBW.out w3 (Below.refl _ _)⟩
  · simp only [rpt_form, Value.agg.injEq, Array.mk.injEq, List.cons.injEq, Value.bool.injEq, Value.int.injEq, true_and, and_true] at h3
    obtain ⟨rfl, rfl, rfl, h4, h5, h6⟩ := h3
    have hsnd := look_snd h1
    have hml := map_len hsnd h2
    rw [← hml] at h6
    have HSND := hide hsnd
    have HEN := hide h6
    have HMP : Hid (Calls Tryz.prog 10 #[.pointer (some ⟨AX, 0, none⟩)] w3 (MpP w3 s.map)) := by
      obtain ⟨F, hp⟩ := (HA.out.below b23).px
      obtain ⟨q1, q2, q3, q4⟩ := snd_on hsnd
      exact smap_any hp (onL ls) q1 q2 q3 q4
    have hrise := map_rise hsnd
    have HRS := hide hrise
    have hlen : s.sl.length ≤ 200 := by
      have h7 := HA.out.len.2.1
      have h8 := HNO.out
      omega
    have HFD : Hid (∀ x ∈ s.map, s.fnd x.1 x.2 200 s.root = true) := fun x hx => map_found hsnd hlen hx
    have G3 := hide g3
    obtain ⟨y0, y1, y2, y3, y4, y5⟩ := Six.of g3
    have p0 := (HCL.out w3 b23).1
    clear h1 h2 h4 h5 h6 g3 b23 HX6 hB6 hsnd hml hrise hlen
    go_wp2_with fail
    refine HMP.out.mono ?_
    rintro e w4 ⟨E, v, rfl, hrow, hown, hE, hb4⟩
    obtain ⟨nE, hnE⟩ : ∃ x, E.length = x := ⟨_, rfl⟩
    rw [hnE] at hrow
    obtain ⟨oa, oc, hv⟩ : ∃ a c, v = .slice a nE c := by
      rcases hrow.2 with ⟨q1, q2⟩ | ⟨g, cap, cur, q1, _⟩
      · exact ⟨none, 0, by rw [q1, q2]⟩
      · exact ⟨_, _, q1⟩
    subst hv
    have hen : en1 = (nE : Int) := by
      have h7 := HEN.out
      rw [h7, ← hE, List.length_map, hnE]
    subst hen
    have hnz : (nE : Int) ≤ 9223372036854775807 := by
      rcases hrow.2 with ⟨q1, q2⟩ | ⟨g, cap, cur, q1, q2, q3, q4, q5, q6⟩
      · omega
      · unfold maxLen at q5; omega
    have G4 := (hb4.block _ (lt_of_block G3.out)).trans G3.out
    clear y0 y1 y2 y3 y4 y5
    obtain ⟨y0, y1, y2, y3, y4, y5⟩ := Six.of G4
    have HEF : Hid (∀ j (h : j < E.length), enP E[j] ∈ s.map) := fun j h => by rw [← hE]; exact List.mem_map.2 ⟨_, List.getElem_mem h, rfl⟩
    have HER : Hid (∀ j (h : j + 1 < E.length), cmpI (E[j]'(Nat.lt_of_succ_lt h)).1.s E[j + 1].1.s < 0) := fun j h => by
      have h7 := HRS.out
      rw [← hE, List.map_map, List.pairwise_iff_getElem] at h7
      have h8 := h7 j (j + 1) (by rw [List.length_map]; omega) (by rw [List.length_map]; exact h) (by omega)
      rw [List.getElem_map, List.getElem_map] at h8
      exact h8
    have HCE : Hid (∀ Y, Below w4.heap.size w4 Y → ∀ j (h : j < E.length), ∃ g, oa = some ⟨g, 0, none⟩ ∧ Y.cell? ⟨g, j * 2, none⟩ = some E[j].1.v ∧ Y.cell? ⟨g, j * 2 + 1, none⟩ = some E[j].2.v ∧ E[j].1.Ok Y ∧ E[j].2.Ok Y) := fun Y hb j h => by
      rcases hrow.2 with ⟨q1, q2⟩ | ⟨g, cap, cur, q1, q2, q3, q4, q5, q6, q7⟩
      · omega
      · simp only [Value.slice.injEq] at q1
        have e0 := enC_at E j 0 h (by omega)
        have e1 := enC_at E j 1 h (by omega)
        have hY := (hb.block _ (lt_of_block q3)).trans q3
        have cl : ∀ k u, (E.flatMap EnC)[k]? = some u → Y.cell? ⟨g, k, none⟩ = some u := fun k u hu => by
          rw [cell_of_row _ _ _ _ _ _ hY, ← Array.getElem?_toList]
          rw [← q7, List.getElem?_take] at hu
          split at hu
          · exact hu
          · cases hu
        have ho := hown E[j] (List.getElem_mem h)
        exact ⟨g, q1.1, cl _ _ e0, cl _ _ e1, ho.1.ok.below hb, ho.2.ok.below hb⟩
    have HPX : Hid (∀ Y, Below w4.heap.size w4 Y → (∃ F, PX Y AX F s) ∧ Y.cell? ⟨P, 0, none⟩ = some (.pointer (some ⟨AX, 0, none⟩)) ∧ Below w.heap.size w Y ∧ P < Y.heap.size) := fun Y hb => by
      have h7 := hb4.trans (hb.mono hb4.size)
      have h8 := B23.out.trans (h7.mono B23.out.size)
      exact ⟨(HA.out.below h8).px, (HCL.out Y h8).1, HBW.out Y h7, (HCL.out Y h8).2.2.2.2.2.2.2.1⟩
    have HNE := hide hnE
    clear hrow hown hE hb4 hnE G4 HMP HEN HSND HRS p0 G3 B23 HCL HX HNO HBW
    go_wp2_with fail
    go_loopw [8] (fun q8 wr => ∃ j : Nat, j ≤ nE ∧ q8 = .int .i64 (j : Int) ∧ Hid (Below w4.heap.size w4 wr)) (fun q8 _ => nE - (intOf q8).toNat)
    case atStart => exact ⟨0, Nat.zero_le _, rfl, Below.refl _ _⟩
    case round =>
      clear y0 y1 y2 y3 y4 y5
      obtain ⟨j, hj, rfl, HI⟩ := hrel
      rename World => wr
      by_cases hlt : j < nE
      · have j1 : (j : Int) < (nE : Int) := by omega
        have hjE : j < E.length := by rw [HNE.out]; exact hlt
        have HFN : Hid (∀ Y, Below wr.heap.size wr Y → Calls Tryz.prog 16 #[.pointer (some ⟨AX, 0, none⟩), .agg #[E[j].1.v, E[j].2.v]] Y fun e w' => e = .returned (.bool true) ∧ Below Y.heap.size Y w') := fun Y hb => by
          have h7 := HI.out.trans (hb.mono HI.out.size)
          obtain ⟨F, hp⟩ := (HPX.out Y h7).1
          obtain ⟨_, _, _, _, o1, o2⟩ := HCE.out Y h7 j hjE
          exact found_any hp _ _ o1 o2 (HFD.out _ (HEF.out j hjE))
        obtain ⟨g, hoa, c0, c1, o1, o2⟩ := HCE.out wr HI.out j hjE
        subst hoa
        have HC0 : Hid (∀ Y, Below wr.heap.size wr Y → Y.cell? ⟨g, j * 2, none⟩ = some E[j].1.v ∧ Y.cell? ⟨g, j * 2 + 1, none⟩ = some E[j].2.v) := fun Y hb => by
          obtain ⟨g2, e2, d0, d1, _⟩ := HCE.out Y (HI.out.trans (hb.mono HI.out.size)) j hjE
          cases e2
          exact ⟨d0, d1⟩
        have hgl : g < wr.heap.size := World.block_lt_of_cell? wr ⟨g, j * 2, none⟩ c0
        have PRE : Hid (0 < j → ∃ jp, j = jp + 1 ∧ ∃ h : jp < E.length, wr.cell? ⟨g, jp * 2, none⟩ = some E[jp].1.v ∧ E[jp].1.Ok wr ∧ cmpI E[jp].1.s E[j].1.s < 0) := fun h0 => by
          obtain ⟨jp, rfl⟩ : ∃ jp, j = jp + 1 := ⟨j - 1, by omega⟩
          obtain ⟨g2, e2, d0, _, o3, _⟩ := HCE.out wr HI.out jp (by omega)
          cases e2
          exact ⟨jp, rfl, by omega, d0, o3, HER.out jp hjE⟩
        generalize E[j] = x at *
        obtain ⟨⟨ka, kc, kz⟩, ⟨va, vc, vz⟩⟩ := x
        simp only [Tx.v] at HFN c0 c1 o1 o2 HC0 PRE
        obtain ⟨kl, hkl⟩ : ∃ z, kz.length = z := ⟨_, rfl⟩
        obtain ⟨vl, hvl⟩ : ∃ z, vz.length = z := ⟨_, rfl⟩
        rw [hkl] at HFN c0 HC0
        rw [hvl] at HFN c1 HC0
        have HKO := hide o1
        have HKL := hide hkl
        clear o1 o2 hkl hvl
        by_cases h0 : 0 < j
        · obtain ⟨jp, hjp, hpl, d0, o3, hcm⟩ := PRE.out h0
          have jw : IntKind.i64.wrap ((j : Int) - 1) = (jp : Int) := by rw [IntKind.wrap_i64]; omega
          have jg : (0 : Int) < (j : Int) := by omega
          have jp1 : (jp : Int) < (nE : Int) := by omega
          generalize E[jp] = xp at *
          obtain ⟨⟨pa, pc, pz⟩, pv⟩ := xp
          simp only at d0 o3 hcm
          obtain ⟨pl, hpl'⟩ : ∃ z, pz.length = z := ⟨_, rfl⟩
          rw [hpl'] at d0
          obtain ⟨cv, hcv⟩ : ∃ cv, cmpI pz kz = cv := ⟨_, rfl⟩
          have jc : ¬ cv ≥ 0 := by rw [← hcv]; omega
          have HCM : Hid (∀ m, Calls Tryz.prog 15 #[.slice pa pl pc, .slice ka kl kc] (wr.drewN m) fun e w' => e = .returned (.int .i64 cv) ∧ ∃ n, w' = wr.drewN n) := fun m => by
            have h1 := rcmp_any pa ka pl pc kl kc pz kz (wr.drewN m) hpl' HKL.out (by have := o3.z; simp only [hpl'] at this; omega) (by have := HKO.out.z; simp only [HKL.out] at this; omega) (o3.drewN m).r (HKO.out.drewN m).r
            rw [hcv] at h1
            exact Calls.quiet_of h1
          clear hjp o3 hcm hpl' hcv PRE
          go_wp2_with fail
          go_quiet (first
            | (go_at_call 15; with_reducible exact HCM.out _))
          clear d0 HCM jw jg jp1 h0
          obtain ⟨wq, hwq⟩ : ∃ wq, wq = wr.drewN nq := ⟨_, rfl⟩
          rw [← hwq]
          have bq : Below wr.heap.size wr wq := by rw [hwq]; exact below_drewN (Below.refl _ _) nq
          have hqz : wq.heap.size = wr.heap.size := by rw [hwq]; rfl
          obtain ⟨d0, d1⟩ := HC0.out wq bq
          obtain ⟨_, p0, _, hPl⟩ := HPX.out wq (HI.out.trans (bq.mono HI.out.size))
          have HBQ := hide bq
          have HQZ := hide hqz
          clear hwq bq c0 c1 hqz
          go_wp2_with fail
          go_region_held3 (fun Y => Y.cell? ⟨P, 0, none⟩ = some (.pointer (some ⟨AX, 0, none⟩)) ∧ Y.cell? ⟨g, j * 2, none⟩ = some (.slice ka kl kc) ∧ Y.cell? ⟨g, j * 2 + 1, none⟩ = some (.slice va vl vc)) (go_keep) (first
            | (go_at_call 16; refine (HFN.out wq.drew (below_drew HBQ.out)).mono ?_; rintro e w5 ⟨rfl, hb5⟩; have b5 : Below wr.heap.size wr w5 := (below_drew HBQ.out).trans (hb5.mono HBQ.out.size); have k0 : w5.cell? ⟨P, 0, none⟩ = _ := (hb5.cell (p := ⟨P, 0, none⟩) hPl).trans p0; have k1 := (HC0.out w5 b5).1; have k2 := (HC0.out w5 b5).2; have HN5 : Hid (Below w4.heap.size w4 w5) := HI.out.trans (b5.mono HI.out.size); clear hb5 b5)
            | fail)
          clear d0 d1 p0
          go_wp2_with fail
          go_roundw
          case rel => exact ⟨j + 1, by omega, by go_num, HN5⟩
          case measure => simp [intOf]; omega
        · have jg : ¬ (0 : Int) < (j : Int) := by omega
          clear PRE
          go_wp2_with fail
          go_quiet (fail)
          clear jg h0
          obtain ⟨wq, hwq⟩ : ∃ wq, wq = wr.drewN nq := ⟨_, rfl⟩
          rw [← hwq]
          have bq : Below wr.heap.size wr wq := by rw [hwq]; exact below_drewN (Below.refl _ _) nq
          have hqz : wq.heap.size = wr.heap.size := by rw [hwq]; rfl
          obtain ⟨d0, d1⟩ := HC0.out wq bq
          obtain ⟨_, p0, _, hPl⟩ := HPX.out wq (HI.out.trans (bq.mono HI.out.size))
          have HBQ := hide bq
          have HQZ := hide hqz
          clear hwq bq c0 c1 hqz
          go_wp2_with fail
          go_region_held3 (fun Y => Y.cell? ⟨P, 0, none⟩ = some (.pointer (some ⟨AX, 0, none⟩)) ∧ Y.cell? ⟨g, j * 2, none⟩ = some (.slice ka kl kc) ∧ Y.cell? ⟨g, j * 2 + 1, none⟩ = some (.slice va vl vc)) (go_keep) (first
            | (go_at_call 16; refine (HFN.out wq.drew (below_drew HBQ.out)).mono ?_; rintro e w5 ⟨rfl, hb5⟩; have b5 : Below wr.heap.size wr w5 := (below_drew HBQ.out).trans (hb5.mono HBQ.out.size); have k0 : w5.cell? ⟨P, 0, none⟩ = _ := (hb5.cell (p := ⟨P, 0, none⟩) hPl).trans p0; have k1 := (HC0.out w5 b5).1; have k2 := (HC0.out w5 b5).2; have HN5 : Hid (Below w4.heap.size w4 w5) := HI.out.trans (b5.mono HI.out.size); clear hb5 b5)
            | fail)
          clear d0 d1 p0
          go_wp2_with fail
          go_roundw
          case rel => exact ⟨j + 1, by omega, by go_num, HN5⟩
          case measure => simp [intOf]; omega
      · have j1 : ¬ (j : Int) < (nE : Int) := by omega
        have HFIN := hide (HPX.out wr HI.out).2.2.1
        go_wp2_with fail
        go_ret
        exact ⟨rfl, HFIN.out⟩
end Go.Proofs.YtibifkindpgkgaaGreat
