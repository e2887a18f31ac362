/- What came in: scripts for descents. -/
import Derived.Test.YtpfmfobnanhcdaaG34
import Derived.Test.YtpfmfobnanhcdaaG32
namespace Go.Proofs.Ytpfmfobnanhcdaa
open Go.ChangeShapes Go.WideShapes Go.ChangeAt Go.RowKit Go.Deep

theorem trod_struct5 {H : Type} {enc : TypeId × Value → H} {P : Program} {w : World} {base : Nat} {spare : Nat → Bool} {held : Bool} {t : TypeId} {f0 f1 f2 f3 f4 : Field} {fuel : Nat} {cs : List Value} {x : DataW H × List MemPlace} (ht : P.underlying t = some (.struct #[f0, f1, f2, f3, f4])) (h : DataW.trod enc P w base spare held fuel t cs = some x) :
    ∃ y0 y1 y2 y3 y4 n, x.1 = .agg [y0.1, y1.1, y2.1, y3.1, y4.1] ∧ cs.length = P.cellsOf t ∧ DataW.trod enc P w base spare held n f0.type ((cs.drop f0.offset).take (P.cellsOf f0.type)) = some y0 ∧
      DataW.trod enc P w base spare held n f1.type ((cs.drop f1.offset).take (P.cellsOf f1.type)) = some y1 ∧ DataW.trod enc P w base spare held n f2.type ((cs.drop f2.offset).take (P.cellsOf f2.type)) = some y2 ∧ DataW.trod enc P w base spare held n f3.type ((cs.drop f3.offset).take (P.cellsOf f3.type)) = some y3 ∧ DataW.trod enc P w base spare held n f4.type ((cs.drop f4.offset).take (P.cellsOf f4.type)) = some y4 := by
  obtain ⟨xs, n, _, rfl, hl, hlen, hf⟩ := DataW.trod_struct ht h
  match xs, hlen with
  | [y0, y1, y2, y3, y4], _ => exact ⟨y0, y1, y2, y3, y4, n, by simp, hl, by simpa using hf 0 f0 rfl, by simpa using hf 1 f1 rfl, by simpa using hf 2 f2 rfl, by simpa using hf 3 f3 rfl, by simpa using hf 4 f4 rfl⟩
instance : Inhabited DOp := ⟨⟨0, 0, 0, ⟨none, 0, []⟩, default⟩⟩

set_option maxRecDepth 100000 in
theorem open_dop {H : Type} {enc : TypeId × Value → H} {W : World} {fuel : Nat} {cs : List Value} {y : DataW H × List MemPlace} (hwt : (DataW.weights Try.prog 41 y.1).all (· ≤ reachBytes) = true) (h : DataW.trod enc Try.prog W 0 (fun _ => true) true fuel 41 cs = some y) :
    ∃ o : DOp, cs = o.cs ∧ o.Ok (fun k => k < W.heap.size) W := by
  obtain ⟨y0, y1, y2, y3, y4, n, hx1, hlen, g0, g1, g2, g3, g4⟩ := trod_struct5 Try.underlying41 h
  have e1 : Try.prog.cellsOf 3 = 1 := by kernel_rfl
  have e2 : Try.prog.cellsOf 28 = 1 := by kernel_rfl
  have e3 : Try.prog.cellsOf 39 = 11 := by kernel_rfl
  have e4 : Try.prog.cellsOf 41 = 15 := by kernel_rfl
  rw [e4] at hlen
  rw [hx1] at hwt
  simp only [DataW.weights, Try.underlying41, List.map_cons, DataW.weightsEach, List.all_append, Bool.and_eq_true] at hwt
  match cs, hlen with
  | [v0, v1, v2, v3, v4, v5, v6, v7, v8, v9, v10, v11, v12, v13, v14], _ =>
    simp only [e1, e2, e3, List.drop_zero, List.drop_succ_cons, List.take_succ_cons, List.take_zero] at g0 g1 g2 g3 g4
    obtain ⟨kd, h0, _, b0⟩ := DataW.trod_int Try.underlying3 g0
    obtain ⟨ra, h1, _, b1⟩ := DataW.trod_int Try.underlying3 g1
    obtain ⟨rb, h2, _, b2⟩ := DataW.trod_int Try.underlying3 g2
    obtain ⟨t, hv, ht⟩ := open_tx hwt.2.2.2.1 g3
    obtain ⟨o, ho, hok⟩ := open_aop hwt.2.2.2.2.1 g4
    simp only [List.cons.injEq, and_true] at h0 h1 h2
    have c0 := bounds_i64 b0
    have c1 := bounds_i64 b1
    have c2 := bounds_i64 b2
    refine ⟨⟨kd, ra, rb, t, o⟩, ?_, c0, c1, c2, ht, hok⟩
    simp only [AOp.cs, List.cons.injEq, and_true] at ho
    obtain ⟨n0, n1, n2, n3, n4, n5, n6, n7, n8, n9, n10⟩ := ho
    rw [h0, h1, h2, hv, n0, n1, n2, n3, n4, n5, n6, n7, n8, n9, n10]
    rfl

set_option maxRecDepth 100000 in
theorem open_dops {H : Type} {enc : TypeId × Value → H} {W : World} {fuel : Nat} {v : Value} {y : DataW H × List MemPlace} (hwt : (DataW.weights Try.prog 22 y.1).all (· ≤ reachBytes) = true)
    (h : DataW.trod enc Try.prog W 0 (fun _ => true) true fuel 22 [v] = some y) : ∃ a len cap, v = .slice a len cap ∧ ∃ L : List DOp, L.length = len ∧ DOps (fun k => k < W.heap.size) W a L ∧ len * 200 ≤ 140737488351232 := by
  rcases open_slice Try.underlying22 h with ⟨hcs, _⟩ | ⟨a, l, c, m, n, D, Pl, hcs, _, hl, hm, hmm, hx, hel⟩
  · simp only [List.cons.injEq, and_true] at hcs
    exact ⟨none, 0, 0, hcs, [], rfl, ⟨fun i hi => absurd hi (Nat.not_lt_zero i), fun x hx => (by cases hx)⟩, by omega⟩
  · simp only [List.cons.injEq, and_true] at hcs
    simp only [if_true] at hmm
    subst hmm
    have e47 : Try.prog.cellsOf 41 = 15 := by kernel_rfl
    rw [hx] at hwt
    simp only [DataW.weights, Try.underlying22, List.all_cons, List.all_append, Bool.and_eq_true, decide_eq_true_eq, List.length_map, List.length_range] at hwt
    rw [show Try.prog.bytesOf 41 = 200 from by kernel_rfl] at hwt
    obtain ⟨w1, w2, _⟩ := hwt
    simp only [reachBytes] at w1
    have hwD : ∀ i, i < l → (DataW.weights Try.prog 41 (D i)).all (· ≤ reachBytes) = true := fun i hi => List.all_eq_true.2 fun x hx => List.all_eq_true.1 w2 x (weights_mem_allN (List.mem_map.2 ⟨i, List.mem_range.2 hi, rfl⟩) x hx)
    obtain ⟨q, hq⟩ := choose_lt (α := DOp) (n := l) (p := fun i q => (∀ j v, q.cs[j]? = some v → W.cell? (a.add (i * 15 + j)) = some v) ∧ q.Ok (fun k => k < W.heap.size) W) (fun i hi => by
      obtain ⟨cs', h1, h2⟩ := hel i (by omega)
      rw [e47] at h1
      obtain ⟨_, hl3, hcell⟩ := World.cells?_some h1
      obtain ⟨qq, hcs, hok⟩ := open_dop (hwD i hi) h2
      subst hcs
      refine ⟨qq, fun j v hv => ?_, hok⟩
      have hj : j < 15 := by
        have := (List.getElem?_eq_some_iff.1 hv).1
        simpa [DOp.cs] using this
      have := hcell j hj
      rw [add_addA] at this
      rw [this, hv])
    obtain ⟨b, o, sp⟩ := a
    have hsp : 0 < l → sp = none := fun h0 => by simpa [Addr.add] using World.cell?_spot ((hq 0 h0).1 0 _ rfl)
    refine ⟨some ⟨b, o, sp⟩, l, m, hcs, (List.range l).map q, by simp, ⟨fun i hi => ?_, fun x hx => ?_⟩, by omega⟩
    · have hi' : i < l := by simpa using hi
      obtain ⟨h1, h2⟩ := hq i hi'
      obtain rfl := hsp (by omega)
      refine ⟨b, o, rfl, fun j v hv => ?_⟩
      have hv' : (q i).cs[j]? = some v := by
        rw [List.getElem_map, List.getElem_range] at hv
        exact hv
      have := h1 j v hv'
      rw [Addr.add_lit, ← Nat.add_assoc] at this
      exact this
    · obtain ⟨i, hi, rfl⟩ := List.mem_map.1 hx
      exact (hq i (List.mem_range.1 hi)).2

end Go.Proofs.Ytpfmfobnanhcdaa
