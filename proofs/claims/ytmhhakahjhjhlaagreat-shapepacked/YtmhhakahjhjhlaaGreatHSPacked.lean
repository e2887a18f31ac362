/- ShapePacked: the walk. -/
import Derived.Test.YtmhhakahjhjhlaaGreatHSRpk
import Derived.Test.YtmhhakahjhjhlaaGreatG45
namespace Go.Proofs.YtmhhakahjhjhlaaGreat
open Go.RowKit
set_option maxRecDepth 100000

theorem pk_prog {W w' : World} {nd lf inn fl bk : Int} {s : AS} {e : Ending} {PB : Bool} (hPB : PB = true ↔ ∃ ls, s.look nd lf inn fl bk = .inr ls ∧ PkR s ls inn fl) (h : PkP W nd lf inn fl bk s e w') : e = .returned (.bool PB) ∧ Below W.heap.size W w' := by
  obtain ⟨hb, ⟨id, er, h1, rfl⟩ | ⟨O, h1, h2, h3, rfl⟩⟩ := h
  · refine ⟨?_, hb⟩
    have : PB = false := by
      cases PB with
      | false => rfl
      | true =>
        obtain ⟨ls, h4, _⟩ := hPB.1 rfl
        rw [h1] at h4; cases h4
    rw [this]
  · refine ⟨?_, hb⟩
    obtain ⟨hcf, r, t, hls⟩ := look_root h1
    have hne := look_ne h1
    have hO : O ≠ [] := fun e => hne (by rw [e]; rfl)
    have hroot : ∀ x, O.getD 0 [] = [x] → x.id = s.root := fun x hx => by
      have h4 := chQ_getD O 0
      rw [hls, hx] at h4
      simp only [List.getD_cons_zero, List.map_cons, List.map_nil, List.cons.injEq, Sp.q] at h4
      exact (Prod.mk.inj h4.1).1.symm
    have : decide (PkS O inn fl) = PB := by
      rw [Bool.eq_iff_iff, decide_eq_true_iff, hPB, pk_eq h2 h3 hO hroot hcf.2.2.2.1.1]
      exact ⟨fun h => ⟨_, h1, h⟩, fun ⟨ls, h4, h5⟩ => by rw [h1] at h4; cases h4; exact h5⟩
    rw [this]
theorem pk_doc {W w' : World} {nd lf inn fl bk : Int} {s : AS} {e : Ending} {PB : Bool} (hPB : PB = true ↔ ∃ ls, s.look nd lf inn fl bk = .inr ls ∧ PkR s ls inn fl) (h : RpP W nd lf inn fl bk s e w') : e = .returned (.bool PB) ∧ Below W.heap.size W w' := by
  obtain ⟨hb, ⟨id, er, h1, rfl⟩ | ⟨ls, b, h1, rfl, h2⟩⟩ := h
  · refine ⟨?_, hb⟩
    have : PB = false := by
      cases PB with
      | false => rfl
      | true =>
        obtain ⟨ls, h4, _⟩ := hPB.1 rfl
        rw [h1] at h4; cases h4
    rw [this]
  · refine ⟨?_, hb⟩
    have : b = PB := by
      rw [Bool.eq_iff_iff, h2, hPB]
      exact ⟨fun h => ⟨_, h1, h⟩, fun ⟨ls', h4, h5⟩ => by rw [h1] at h4; cases h4; exact h5⟩
    rw [this]

set_option maxRecDepth 100000 in
set_option maxHeartbeats 6400000 in
theorem shapePacked_any (aS : Option Addr) (lS cS : Nat) (nd lf inn fl bk : Int) (L : List AOp) (w : World)
    (hL : L.length = lS) (hO : Ops (fun k => k < w.heap.size) w aS L) (hlS : lS * 152 ≤ 140737488355328) :
    Calls Tryz.prog 5 #[.agg #[.slice aS lS cS, .int .i64 nd, .int .i64 lf, .int .i64 inn, .int .i64 fl, .int .i64 bk]] w fun e w' => e = .returned (.bool true) ∧ Below w.heap.size w w' := by
  obtain ⟨w0, hw0⟩ : ∃ x, x = w.alloc (.cells #[.slice aS lS cS, .int .i64 nd, .int .i64 lf, .int .i64 inn, .int .i64 fl, .int .i64 bk] 26) := ⟨_, rfl⟩
  have b0 : Below w.heap.size w w0 := by rw [hw0]; exact (Below.refl _ _).alloc (Nat.le_refl _) _
  have G0 : Hid (w0.heap[w.heap.size]? = some (.cells #[.slice aS lS cS, .int .i64 nd, .int .i64 lf, .int .i64 inn, .int .i64 fl, .int .i64 bk] 26 (0, 0))) := by show _ = _; rw [hw0]; exact heap_alloc_new w _
  have HW0 : Hid (w.alloc (.cells #[.slice aS lS cS, .int .i64 nd, .int .i64 lf, .int .i64 inn, .int .i64 fl, .int .i64 bk] 26) = w0) := hw0.symm
  have HHD := hide (head11_any w0)
  have B0 := hide b0
  clear hw0 b0
  go_enter Tryz.func5, Tryz.ntmps5
  go_upto_region 1 with fail
  rw [HW0.out]
  go_wp2_with fail
  refine HHD.out.mono ?_
  rintro e w1 ⟨rfl, hb1⟩
  have B1 := hide (B0.out.trans (hb1.mono B0.out.size))
  have G1 : Hid (w1.heap[w.heap.size]? = some (.cells #[.slice aS lS cS, .int .i64 nd, .int .i64 lf, .int .i64 inn, .int .i64 fl, .int .i64 bk] 26 (0, 0))) := (hb1.block _ (lt_of_block G0.out)).trans G0.out
  have hO1 : Ops (fun k => k < w1.heap.size) w1 aS L := (hO.kept ⟨B1.out.os, B1.out.tape, B1.out.output, B1.out.size, fun k _ hk => B1.out.block k (Decidable.byContradiction fun hc => hk hc)⟩).mono (fun k hk => by have := B1.out.size; omega)
  have HLD := hide (laid_any aS lS cS nd lf inn fl bk L w1 hL hO1 hlS)
  obtain ⟨q0, q1, q2, q3, q4, q5⟩ := Six.of G1.out
  clear hb1 hO hO1 hL hlS
  go_wp2_with fail
  refine HLD.out.mono ?_
  rintro e w2 ⟨P, AX, AY, rfl, hA, hb2⟩
  obtain ⟨s, hs⟩ : ∃ s, s = (AS.new 40).run L := ⟨_, rfl⟩
  rw [← hs] at hA
  obtain ⟨K, hK⟩ : ∃ K : Nat → Prop, K = fun k => k < w1.heap.size ∨ k = P := ⟨_, rfl⟩
  rw [← hK] at hA
  have HKW : Hid (∀ k, k < w1.heap.size → K k) := fun k hk => by rw [hK]; exact .inl hk
  have HA := hide hA
  have G2 : Hid (w2.heap[w.heap.size]? = some (.cells #[.slice aS lS cS, .int .i64 nd, .int .i64 lf, .int .i64 inn, .int .i64 fl, .int .i64 bk] 26 (0, 0))) := (hb2.block _ (lt_of_block G1.out)).trans G1.out
  have B2 := hide (B1.out.trans (hb2.mono B1.out.size))
  have hlP : P < w2.heap.size := World.block_lt_of_cell? w2 ⟨P, 0, none⟩ hA.cells.1
  have HCL : Hid (∀ Y, Below w2.heap.size w2 Y → Y.cell? ⟨P, 0, none⟩ = some (.pointer (some ⟨AX, 0, none⟩)) ∧ Y.cell? ⟨P, 1, none⟩ = some (.pointer (some ⟨AY, 0, none⟩)) ∧ Y.cell? ⟨w.heap.size, 1, none⟩ = some (.int .i64 nd) ∧ Y.cell? ⟨w.heap.size, 2, none⟩ = some (.int .i64 lf) ∧ Y.cell? ⟨w.heap.size, 3, none⟩ = some (.int .i64 inn) ∧ Y.cell? ⟨w.heap.size, 4, none⟩ = some (.int .i64 fl) ∧ Y.cell? ⟨w.heap.size, 5, none⟩ = some (.int .i64 bk) ∧ P < Y.heap.size ∧ w.heap.size < Y.heap.size) := fun Y hb => by
    obtain ⟨e0, e1⟩ := (HA.out.below hb).cells
    have g := (hb.block _ (lt_of_block G2.out)).trans G2.out
    obtain ⟨h1, h2, h3, h4, h5⟩ := two_tree g
    exact ⟨e0, e1, h1, h2, h3, h4, h5, World.block_lt_of_cell? Y ⟨P, 0, none⟩ e0, lt_of_block g⟩
  obtain ⟨PB, hPB⟩ : ∃ PB : Bool, PB = true ↔ ∃ ls, s.look nd lf inn fl bk = .inr ls ∧ PkR s ls inn fl := by classical exact ⟨decide (∃ ls, s.look nd lf inn fl bk = .inr ls ∧ PkR s ls inn fl), by rw [decide_eq_true_iff]⟩
  have HX : Hid (∀ Y, Below w2.heap.size w2 Y → Calls Tryz.prog 17 #[.pointer (some ⟨AX, 0, none⟩), .agg #[.int .i64 nd, .int .i64 lf, .int .i64 inn, .int .i64 fl, .int .i64 bk]] Y fun e w' => e = .returned (.bool PB) ∧ Below Y.heap.size Y w') := fun Y hb => by
    obtain ⟨F, hp⟩ := (HA.out.below hb).px
    exact (spacked_any hp nd lf inn fl bk).mono fun e w' h => pk_prog hPB h
  have HY : Hid (∀ Y, Below w2.heap.size w2 Y → Calls Tryz.prog 18 #[.pointer (some ⟨AY, 0, none⟩), .agg #[.int .i64 nd, .int .i64 lf, .int .i64 inn, .int .i64 fl, .int .i64 bk]] Y fun e w' => e = .returned (.bool PB) ∧ Below Y.heap.size Y w') := fun Y hb => by
    obtain ⟨F, hp⟩ := (HA.out.below hb).rx
    exact (rpacked_any hp nd lf inn fl bk).mono fun e w' h => pk_doc hPB h
  have HSM : Hid (∀ Y, Below w2.heap.size w2 Y → Calls Tryz.prog 13 #[.pointer (some ⟨P, 0, none⟩)] Y fun e w' => e = .returned (.bool true) ∧ Below w.heap.size w w' ∧ (w'.cell? ⟨P, 0, none⟩ = some (.pointer (some ⟨AX, 0, none⟩)) ∧ w'.cell? ⟨P, 1, none⟩ = some (.pointer (some ⟨AY, 0, none⟩)) ∧ w'.cell? ⟨w.heap.size, 1, none⟩ = some (.int .i64 nd) ∧ w'.cell? ⟨w.heap.size, 2, none⟩ = some (.int .i64 lf) ∧ w'.cell? ⟨w.heap.size, 3, none⟩ = some (.int .i64 inn) ∧ w'.cell? ⟨w.heap.size, 4, none⟩ = some (.int .i64 fl) ∧ w'.cell? ⟨w.heap.size, 5, none⟩ = some (.int .i64 bk))) := fun Y hb => (wsame_any (HA.out.below hb)).mono fun e w' ⟨h1, hA', hu⟩ => by
    have gY := (hb.block _ (lt_of_block G2.out)).trans G2.out
    have g' := hu.heap gY (fun e => e (HKW.out _ (lt_of_block G1.out)))
    obtain ⟨h2, h3, h4, h5, h6⟩ := two_tree g'
    exact ⟨h1, (B2.out.trans (hb.mono B2.out.size)).trans (hu.below (by have := B2.out.size; have := hb.size; omega) (fun k hk e => e (HKW.out k (by have := B1.out.size; omega)))), hA'.cells.1, hA'.cells.2, h2, h3, h4, h5, h6⟩
  clear hA hb2 hs hK HLD q0 q1 q2 q3 q4 q5 hPB
  obtain ⟨p0, p1, t1, t2, t3, t4, t5, lP, lT⟩ := HCL.out w2 (Below.refl _ _)
  cases PB with
  | true =>
    go_upto_region 5 with fail
    go_wp2_with fail
    go_region_held3 (fun Y => (Y.cell? ⟨P, 0, none⟩ = some (.pointer (some ⟨AX, 0, none⟩)) ∧ Y.cell? ⟨P, 1, none⟩ = some (.pointer (some ⟨AY, 0, none⟩))) ∧ (Y.cell? ⟨w.heap.size, 1, none⟩ = some (.int .i64 nd) ∧ Y.cell? ⟨w.heap.size, 2, none⟩ = some (.int .i64 lf) ∧ Y.cell? ⟨w.heap.size, 3, none⟩ = some (.int .i64 inn)) ∧ Y.cell? ⟨w.heap.size, 4, none⟩ = some (.int .i64 fl) ∧ Y.cell? ⟨w.heap.size, 5, none⟩ = some (.int .i64 bk)) (go_keep) (first
      | (go_at_call 13; refine (HSM.out w10 BY.out).mono ?_; rintro e w11 ⟨rfl, hb11, z1, z2, z3, z4, z5, z6, z7⟩; have B11 := hide hb11; clear hb11)
      | (go_at_call 18; refine (HY.out w9 BX.out).mono ?_; rintro e w10 ⟨rfl, hb10⟩; have BY : Hid (Below w2.heap.size w2 w10) := BX.out.trans (hb10.mono BX.out.size); have hqw10 := HCL.out w10 BY.out; have w10a : w10.cell? ⟨P, 0, none⟩ = _ := hqw10.1; have w10b : w10.cell? ⟨P, 1, none⟩ = _ := hqw10.2.1; have w10c : w10.cell? ⟨w.heap.size, 1, none⟩ = _ := hqw10.2.2.1; have w10d : w10.cell? ⟨w.heap.size, 2, none⟩ = _ := hqw10.2.2.2.1; have w10e : w10.cell? ⟨w.heap.size, 3, none⟩ = _ := hqw10.2.2.2.2.1; have w10f : w10.cell? ⟨w.heap.size, 4, none⟩ = _ := hqw10.2.2.2.2.2.1; have w10g : w10.cell? ⟨w.heap.size, 5, none⟩ = _ := hqw10.2.2.2.2.2.2.1; clear hb10 hqw10)
      | (go_at_call 17; refine (HX.out w2.drew (below_drew (Below.refl _ _))).mono ?_; rintro e w9 ⟨rfl, hb9⟩; have BX : Hid (Below w2.heap.size w2 w9) := (below_drew (Below.refl w2.heap.size w2)).trans hb9; have hqw9 := HCL.out w9 BX.out; have w9a : w9.cell? ⟨P, 0, none⟩ = _ := hqw9.1; have w9b : w9.cell? ⟨P, 1, none⟩ = _ := hqw9.2.1; have w9c : w9.cell? ⟨w.heap.size, 1, none⟩ = _ := hqw9.2.2.1; have w9d : w9.cell? ⟨w.heap.size, 2, none⟩ = _ := hqw9.2.2.2.1; have w9e : w9.cell? ⟨w.heap.size, 3, none⟩ = _ := hqw9.2.2.2.2.1; have w9f : w9.cell? ⟨w.heap.size, 4, none⟩ = _ := hqw9.2.2.2.2.2.1; have w9g : w9.cell? ⟨w.heap.size, 5, none⟩ = _ := hqw9.2.2.2.2.2.2.1; clear hb9 hqw9)
      | fail)
    all_goals
      try go_wp2_with fail
      go_ret
      exact ⟨rfl, B11.out⟩
  | false =>
    go_upto_region 5 with fail
    go_wp2_with fail
    go_region_held3 (fun Y => (Y.cell? ⟨P, 0, none⟩ = some (.pointer (some ⟨AX, 0, none⟩)) ∧ Y.cell? ⟨P, 1, none⟩ = some (.pointer (some ⟨AY, 0, none⟩))) ∧ (Y.cell? ⟨w.heap.size, 1, none⟩ = some (.int .i64 nd) ∧ Y.cell? ⟨w.heap.size, 2, none⟩ = some (.int .i64 lf) ∧ Y.cell? ⟨w.heap.size, 3, none⟩ = some (.int .i64 inn)) ∧ Y.cell? ⟨w.heap.size, 4, none⟩ = some (.int .i64 fl) ∧ Y.cell? ⟨w.heap.size, 5, none⟩ = some (.int .i64 bk)) (go_keep) (first
      | (go_at_call 13; refine (HSM.out w10 BY.out).mono ?_; rintro e w11 ⟨rfl, hb11, z1, z2, z3, z4, z5, z6, z7⟩; have B11 := hide hb11; clear hb11)
      | (go_at_call 18; refine (HY.out w9 BX.out).mono ?_; rintro e w10 ⟨rfl, hb10⟩; have BY : Hid (Below w2.heap.size w2 w10) := BX.out.trans (hb10.mono BX.out.size); have hqw10 := HCL.out w10 BY.out; have w10a : w10.cell? ⟨P, 0, none⟩ = _ := hqw10.1; have w10b : w10.cell? ⟨P, 1, none⟩ = _ := hqw10.2.1; have w10c : w10.cell? ⟨w.heap.size, 1, none⟩ = _ := hqw10.2.2.1; have w10d : w10.cell? ⟨w.heap.size, 2, none⟩ = _ := hqw10.2.2.2.1; have w10e : w10.cell? ⟨w.heap.size, 3, none⟩ = _ := hqw10.2.2.2.2.1; have w10f : w10.cell? ⟨w.heap.size, 4, none⟩ = _ := hqw10.2.2.2.2.2.1; have w10g : w10.cell? ⟨w.heap.size, 5, none⟩ = _ := hqw10.2.2.2.2.2.2.1; clear hb10 hqw10)
      | (go_at_call 17; refine (HX.out w2.drew (below_drew (Below.refl _ _))).mono ?_; rintro e w9 ⟨rfl, hb9⟩; have BX : Hid (Below w2.heap.size w2 w9) := (below_drew (Below.refl w2.heap.size w2)).trans hb9; have hqw9 := HCL.out w9 BX.out; have w9a : w9.cell? ⟨P, 0, none⟩ = _ := hqw9.1; have w9b : w9.cell? ⟨P, 1, none⟩ = _ := hqw9.2.1; have w9c : w9.cell? ⟨w.heap.size, 1, none⟩ = _ := hqw9.2.2.1; have w9d : w9.cell? ⟨w.heap.size, 2, none⟩ = _ := hqw9.2.2.2.1; have w9e : w9.cell? ⟨w.heap.size, 3, none⟩ = _ := hqw9.2.2.2.2.1; have w9f : w9.cell? ⟨w.heap.size, 4, none⟩ = _ := hqw9.2.2.2.2.2.1; have w9g : w9.cell? ⟨w.heap.size, 5, none⟩ = _ := hqw9.2.2.2.2.2.2.1; clear hb9 hqw9)
      | fail)
    all_goals
      try go_wp2_with fail
      go_ret
      exact ⟨rfl, B11.out⟩

end Go.Proofs.YtmhhakahjhjhlaaGreat
