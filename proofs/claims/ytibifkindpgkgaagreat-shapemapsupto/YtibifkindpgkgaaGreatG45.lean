/- What came in: scripts for arenas. -/
import Derived.Test.YtibifkindpgkgaaGreatG36
import Derived.Test.YtibifkindpgkgaaGreatG24
namespace Go.Proofs.YtibifkindpgkgaaGreat
open Go.ChangeShapes Go.WideShapes Go.ChangeAt Go.RowKit Go.Deep

theorem trod_struct6 {H : Type} {enc : TypeId × Value → H} {P : Program} {w : World} {base : Nat} {spare : Nat → Bool} {held : Bool} {t : TypeId} {f0 f1 f2 f3 f4 f5 : Field} {fuel : Nat} {cs : List Value} {x : DataW H × List MemPlace} (ht : P.underlying t = some (.struct #[f0, f1, f2, f3, f4, f5])) (h : DataW.trod enc P w base spare held fuel t cs = some x) :
    ∃ y0 y1 y2 y3 y4 y5 n, x.1 = .agg [y0.1, y1.1, y2.1, y3.1, y4.1, y5.1] ∧ cs.length = P.cellsOf t ∧ DataW.trod enc P w base spare held n f0.type ((cs.drop f0.offset).take (P.cellsOf f0.type)) = some y0 ∧
      DataW.trod enc P w base spare held n f1.type ((cs.drop f1.offset).take (P.cellsOf f1.type)) = some y1 ∧ DataW.trod enc P w base spare held n f2.type ((cs.drop f2.offset).take (P.cellsOf f2.type)) = some y2 ∧ DataW.trod enc P w base spare held n f3.type ((cs.drop f3.offset).take (P.cellsOf f3.type)) = some y3 ∧ DataW.trod enc P w base spare held n f4.type ((cs.drop f4.offset).take (P.cellsOf f4.type)) = some y4 ∧ DataW.trod enc P w base spare held n f5.type ((cs.drop f5.offset).take (P.cellsOf f5.type)) = some y5 := by
  obtain ⟨xs, n, _, rfl, hl, hlen, hf⟩ := DataW.trod_struct ht h
  match xs, hlen with
  | [y0, y1, y2, y3, y4, y5], _ => exact ⟨y0, y1, y2, y3, y4, y5, n, by simp, hl, by simpa using hf 0 f0 rfl, by simpa using hf 1 f1 rfl, by simpa using hf 2 f2 rfl, by simpa using hf 3 f3 rfl, by simpa using hf 4 f4 rfl, by simpa using hf 5 f5 rfl⟩
theorem add_addA (a : Addr) (i j : Nat) : (a.add i).add j = a.add (i + j) := by
  unfold Addr.add
  by_cases h : i = 0
  · simp [h]
  · by_cases h' : j = 0
    · simp [h, h']
    · simp [h, h', Nat.add_assoc]
instance : Inhabited AOp := ⟨⟨0, 0, 0, 0, false, Nd.zero⟩⟩
theorem bounds_u64' {n : Int} (h : (Lit.int .u64 n).wf = true) : 0 ≤ n ∧ n < 18446744073709551616 := by
  have := bounds_u64 h
  omega
def AOp.cs (o : AOp) : List Value := [.int .i64 o.kind, .int .i64 o.a, .int .i64 o.b, .int .u64 (o.w : Nat), .bool o.ch, .int .i64 o.n.lv, o.n.hi.v, .int .i64 o.n.ri, o.n.ks.v, o.n.vs.v, o.n.cs.v]

set_option maxRecDepth 100000 in
theorem open_aop {H : Type} {enc : TypeId × Value → H} {W : World} {fuel : Nat} {cs : List Value} {y : DataW H × List MemPlace} (hwt : (DataW.weights Tryz.prog 63 y.1).all (· ≤ reachBytes) = true) (h : DataW.trod enc Tryz.prog W 0 (fun _ => true) true fuel 63 cs = some y) :
    ∃ o : AOp, cs = o.cs ∧ o.Ok (fun k => k < W.heap.size) W := by
  obtain ⟨y0, y1, y2, y3, y4, y5, n, hx1, hlen, g0, g1, g2, g3, g4, g5⟩ := trod_struct6 Tryz.underlying63 h
  have e0 : Tryz.prog.cellsOf 4 = 1 := by kernel_rfl
  have e1 : Tryz.prog.cellsOf 3 = 1 := by kernel_rfl
  have e2 : Tryz.prog.cellsOf 53 = 1 := by kernel_rfl
  have e3 : Tryz.prog.cellsOf 61 = 6 := by kernel_rfl
  have e4 : Tryz.prog.cellsOf 63 = 11 := by kernel_rfl
  rw [e4] at hlen
  rw [hx1] at hwt
  simp only [DataW.weights, Tryz.underlying63, List.map_cons, DataW.weightsEach, List.all_append, Bool.and_eq_true] at hwt
  match cs, hlen with
  | [v0, v1, v2, v3, v4, v5, v6, v7, v8, v9, v10], _ =>
    simp only [e0, e1, e2, e3, List.drop_zero, List.drop_succ_cons, List.take_succ_cons, List.take_zero] at g0 g1 g2 g3 g4 g5
    obtain ⟨kd, h0, _, b0⟩ := DataW.trod_int Tryz.underlying3 g0
    obtain ⟨ra, h1, _, b1⟩ := DataW.trod_int Tryz.underlying3 g1
    obtain ⟨rb, h2, _, b2⟩ := DataW.trod_int Tryz.underlying3 g2
    obtain ⟨rw', h3, _, b3⟩ := DataW.trod_int Tryz.underlying53 g3
    obtain ⟨ch, h4, _⟩ := DataW.trod_bool Tryz.underlying4 g4
    obtain ⟨nd, hn, hN⟩ := open_node hwt.2.2.2.2.2.1 g5
    simp only [List.cons.injEq, and_true] at h0 h1 h2 h3 h4 hn
    obtain ⟨n0, n1, n2, n3, n4, n5⟩ := hn
    have c0 := bounds_i64 b0
    have c1 := bounds_i64 b1
    have c2 := bounds_i64 b2
    have c3 := bounds_u64' b3
    obtain ⟨m, hm⟩ : ∃ m : Nat, rw' = (m : Int) := ⟨rw'.toNat, by omega⟩
    refine ⟨⟨kd, ra, rb, m, ch, nd⟩, ?_, c0, c1, c2, by simp only; omega, hN.1, hN.1.in_⟩
    rw [h0, h1, h2, h3, h4, n0, n1, n2, n3, n4, n5, hm]
    rfl

set_option maxRecDepth 100000 in
theorem open_aops {H : Type} {enc : TypeId × Value → H} {W : World} {fuel : Nat} {v : Value} {y : DataW H × List MemPlace} (hwt : (DataW.weights Tryz.prog 22 y.1).all (· ≤ reachBytes) = true)
    (h : DataW.trod enc Tryz.prog W 0 (fun _ => true) true fuel 22 [v] = some y) : ∃ a len cap, v = .slice a len cap ∧ ∃ L : List AOp, L.length = len ∧ Ops (fun k => k < W.heap.size) W a L ∧ len * 152 ≤ 140737488351232 := by
  rcases open_slice Tryz.underlying22 h with ⟨hcs, _⟩ | ⟨a, l, c, m, n, D, Pl, hcs, _, hl, hm, hmm, hx, hel⟩
  · simp only [List.cons.injEq, and_true] at hcs
    exact ⟨none, 0, 0, hcs, [], rfl, ⟨fun i hi => absurd hi (Nat.not_lt_zero i), fun x hx => (by cases hx)⟩, by omega⟩
  · simp only [List.cons.injEq, and_true] at hcs
    simp only [if_true] at hmm
    subst hmm
    have e47 : Tryz.prog.cellsOf 63 = 11 := by kernel_rfl
    rw [hx] at hwt
    simp only [DataW.weights, Tryz.underlying22, List.all_cons, List.all_append, Bool.and_eq_true, decide_eq_true_eq, List.length_map, List.length_range] at hwt
    rw [show Tryz.prog.bytesOf 63 = 152 from by kernel_rfl] at hwt
    obtain ⟨w1, w2, _⟩ := hwt
    simp only [reachBytes] at w1
    have hwD : ∀ i, i < l → (DataW.weights Tryz.prog 63 (D i)).all (· ≤ reachBytes) = true := fun i hi => List.all_eq_true.2 fun x hx => List.all_eq_true.1 w2 x (weights_mem_allN (List.mem_map.2 ⟨i, List.mem_range.2 hi, rfl⟩) x hx)
    obtain ⟨q, hq⟩ := choose_lt (α := AOp) (n := l) (p := fun i q => (∀ j v, q.cs[j]? = some v → W.cell? (a.add (i * 11 + j)) = some v) ∧ q.Ok (fun k => k < W.heap.size) W) (fun i hi => by
      obtain ⟨cs', h1, h2⟩ := hel i (by omega)
      rw [e47] at h1
      obtain ⟨_, hl3, hcell⟩ := World.cells?_some h1
      obtain ⟨qq, hcs, hok⟩ := open_aop (hwD i hi) h2
      subst hcs
      refine ⟨qq, fun j v hv => ?_, hok⟩
      have hj : j < 11 := by
        have := (List.getElem?_eq_some_iff.1 hv).1
        simpa [AOp.cs] using this
      have := hcell j hj
      rw [add_addA] at this
      rw [this, hv])
    obtain ⟨b, o, sp⟩ := a
    have hsp : 0 < l → sp = none := fun h0 => by simpa [Addr.add] using World.cell?_spot ((hq 0 h0).1 0 _ rfl)
    refine ⟨some ⟨b, o, sp⟩, l, m, hcs, (List.range l).map q, by simp, ⟨fun i hi => ?_, fun x hx => ?_⟩, by omega⟩
    · have hi' : i < l := by simpa using hi
      obtain ⟨h1, h2⟩ := hq i hi'
      obtain rfl := hsp (by omega)
      refine ⟨b, o, rfl, ?_, fun j v hv => ?_⟩
      · have := h1 0 _ rfl
        rw [Addr.add_lit] at this
        exact World.block_lt_of_cell? W ⟨b, o + (i * 11 + 0), none⟩ this
      · have hv' : (q i).cs[j]? = some v := by
          rw [List.getElem_map, List.getElem_range] at hv
          simp only [AOp.v] at hv
          rw [← Array.getElem?_toList] at hv
          exact hv
        have := h1 j v hv'
        rw [Addr.add_lit, ← Nat.add_assoc] at this
        exact this
    · obtain ⟨i, hi, rfl⟩ := List.mem_map.1 hx
      exact (hq i (List.mem_range.1 hi)).2


end Go.Proofs.YtibifkindpgkgaaGreat

namespace Go.Proofs.YtibifkindpgkgaaGreat
open Go.ChangeShapes Go.WideShapes Go.ChangeAt Go.RowKit Go.Deep

set_option maxRecDepth 100000 in
theorem open_tree {H : Type} {enc : TypeId × Value → H} {W : World} {fuel : Nat} {cs : List Value} {y : DataW H × List MemPlace} (hwt : (DataW.weights Tryz.prog 26 y.1).all (· ≤ reachBytes) = true) (h : DataW.trod enc Tryz.prog W 0 (fun _ => true) true fuel 26 cs = some y) :
    ∃ a len cap L ca cb cc cd ce, cs = [.slice a len cap, .int .i64 ca, .int .i64 cb, .int .i64 cc, .int .i64 cd, .int .i64 ce] ∧ L.length = len ∧ Ops (fun k => k < W.heap.size) W a L ∧ len * 152 ≤ 140737488351232 := by
  obtain ⟨y0, y1, n, hx1, hlen, g0, g1⟩ := trod_struct2 Tryz.underlying26 h
  have e0 : Tryz.prog.cellsOf 22 = 1 := by kernel_rfl
  have e1 : Tryz.prog.cellsOf 24 = 5 := by kernel_rfl
  have e4 : Tryz.prog.cellsOf 26 = 6 := by kernel_rfl
  rw [e4] at hlen
  have hx : y.1 = .agg [y0.1, y1.1] := by rw [hx1]
  rw [hx] at hwt
  simp only [DataW.weights, Tryz.underlying26, List.map_cons, DataW.weightsEach, List.all_append, Bool.and_eq_true] at hwt
  match cs, hlen with
  | [v0, v1, v2, v3, v4, v5], _ =>
    simp only [e0, e1, List.drop_zero, List.drop_succ_cons, List.take_succ_cons, List.take_zero] at g0 g1
    obtain ⟨a, l, c, hv, L, hL, hO, hz⟩ := open_aops hwt.1 g0
    obtain ⟨ca, cb, cc, cd, ce, hc⟩ := open_cfg g1
    simp only [List.cons.injEq, and_true] at hc
    obtain ⟨h1, h2, h3, h4, h5⟩ := hc
    exact ⟨a, l, c, L, ca, cb, cc, cd, ce, by rw [hv, h1, h2, h3, h4, h5], hL, hO, hz⟩

end Go.Proofs.YtibifkindpgkgaaGreat
