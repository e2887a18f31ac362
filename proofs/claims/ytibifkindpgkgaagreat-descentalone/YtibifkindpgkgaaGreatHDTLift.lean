/- What came in: a script for an arena, a configuration, a key, a level. -/
import Derived.Test.YtibifkindpgkgaaGreatG45
namespace Go.Proofs.YtibifkindpgkgaaGreat
open Go.ChangeShapes Go.WideShapes Go.ChangeAt Go.RowKit Go.Deep

set_option maxRecDepth 100000 in
theorem open_tree12 {H : Type} {enc : TypeId × Value → H} {W : World} {fuel : Nat} {cs : List Value} {y : DataW H × List MemPlace} (hwt : (DataW.weights Tryz.prog 50 y.1).all (· ≤ reachBytes) = true) (h : DataW.trod enc Tryz.prog W 0 (fun _ => true) true fuel 50 cs = some y) :
    ∃ a len cap L ca cb cc cd ce, ∃ (key : Tx) (lev : Int), cs = [.slice a len cap, .int .i64 ca, .int .i64 cb, .int .i64 cc, .int .i64 cd, .int .i64 ce, key.v, .int .i64 lev] ∧ L.length = len ∧ Ops (fun k => k < W.heap.size) W a L ∧ len * 152 ≤ 140737488351232 ∧ key.Ok W ∧ -9223372036854775808 ≤ lev ∧ lev ≤ 9223372036854775807 := by
  obtain ⟨y0, y1, y2, y3, n, hx1, hlen, g0, g1, g2, g3⟩ := trod_struct4 Tryz.underlying50 h
  have e0 : Tryz.prog.cellsOf 22 = 1 := by kernel_rfl
  have e1 : Tryz.prog.cellsOf 24 = 5 := by kernel_rfl
  have e2 : Tryz.prog.cellsOf 39 = 1 := by kernel_rfl
  have e3 : Tryz.prog.cellsOf 3 = 1 := by kernel_rfl
  have e4 : Tryz.prog.cellsOf 50 = 8 := by kernel_rfl
  rw [e4] at hlen
  have hx : y.1 = .agg [y0.1, y1.1, y2.1, y3.1] := by rw [hx1]
  rw [hx] at hwt
  simp only [DataW.weights, Tryz.underlying50, List.map_cons, DataW.weightsEach, List.all_append, Bool.and_eq_true] at hwt
  match cs, hlen with
  | [v0, v1, v2, v3, v4, v5, v6, v7], _ =>
    simp only [e0, e1, e2, e3, List.drop_zero, List.drop_succ_cons, List.take_succ_cons, List.take_zero] at g0 g1 g2 g3
    obtain ⟨a, l, c, hv, L, hL, hO, hz⟩ := open_aops hwt.1 g0
    obtain ⟨ca, cb, cc, cd, ce, hc⟩ := open_cfg g1
    obtain ⟨t, hvt, ht⟩ := open_tx hwt.2.2.1 g2
    obtain ⟨lev, h7, _, b7⟩ := DataW.trod_int Tryz.underlying3 g3
    simp only [List.cons.injEq, and_true] at hc h7
    obtain ⟨h1, h2, h3, h4, h5⟩ := hc
    have c7 := bounds_i64 b7
    exact ⟨a, l, c, L, ca, cb, cc, cd, ce, t, lev, by rw [hv, h1, h2, h3, h4, h5, hvt, h7], hL, hO, hz, ht, c7.1, c7.2⟩

end Go.Proofs.YtibifkindpgkgaaGreat
