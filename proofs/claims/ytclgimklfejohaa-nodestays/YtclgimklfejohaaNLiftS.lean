/- What came in: a node, a configuration, a key, a value, a number. -/
import Derived.Test.YtclgimklfejohaaNLift
namespace Go.Proofs.Ytclgimklfejohaa
open Go.ChangeShapes Go.WideShapes Go.ChangeAt Go.RowKit Go.Deep

set_option maxRecDepth 100000 in
theorem open_stay {H : Type} {enc : TypeId × Value → H} {W : World} {fuel : Nat} {cs : List Value} {y : DataW H × List MemPlace} (hwt : (DataW.weights Try.prog 47 y.1).all (· ≤ reachBytes) = true) (h : DataW.trod enc Try.prog W 0 (fun _ => true) true fuel 47 cs = some y) :
    ∃ (n : Nd) (a b c d e : Int) (key value : Tx) (kid : Int), cs = [.int .i64 n.lv, n.hi.v, .int .i64 n.ri, n.ks.v, n.vs.v, n.cs.v, .int .i64 a, .int .i64 b, .int .i64 c, .int .i64 d, .int .i64 e, key.v, value.v, .int .i64 kid] ∧ NdIn W n ∧ key.Ok W ∧ value.Ok W := by
  obtain ⟨y0, y1, y2, y3, y4, m, hx1, hlen, g0, g1, g2, g3, g4⟩ := trod_struct5N Try.underlying47 h
  have e0 : Try.prog.cellsOf 30 = 6 := by kernel_rfl
  have e1 : Try.prog.cellsOf 3 = 1 := by kernel_rfl
  have e2 : Try.prog.cellsOf 32 = 5 := by kernel_rfl
  have e3 : Try.prog.cellsOf 22 = 1 := by kernel_rfl
  have e4 : Try.prog.cellsOf 47 = 14 := by kernel_rfl
  rw [e4] at hlen
  rw [hx1] at hwt
  simp only [DataW.weights, Try.underlying47, List.map_cons, DataW.weightsEach, List.all_append, Bool.and_eq_true] at hwt
  match cs, hlen with
  | [v0, v1, v2, v3, v4, v5, v6, v7, v8, v9, v10, v11, v12, v13], _ =>
    simp only [e0, e1, e2, e3, List.drop_zero, List.drop_succ_cons, List.take_succ_cons, List.take_zero] at g0 g1 g2 g3 g4
    obtain ⟨n, hn, hN⟩ := open_node hwt.1 g0
    obtain ⟨a, b, c, d, e, hc⟩ := open_cfg g1
    obtain ⟨key, hk, hK⟩ := open_tx hwt.2.2.1 g2
    obtain ⟨value, hv, hV⟩ := open_tx hwt.2.2.2.1 g3
    obtain ⟨kid, hi, _, _⟩ := DataW.trod_int Try.underlying3 g4
    simp only [List.cons.injEq, and_true] at hn hc hi
    obtain ⟨h0, h1, h2, h3, h4, h5⟩ := hn
    obtain ⟨h6, h7, h8, h9, h10⟩ := hc
    exact ⟨n, a, b, c, d, e, key, value, kid, by rw [h0, h1, h2, h3, h4, h5, h6, h7, h8, h9, h10, hk, hv, hi], hN, hK, hV⟩
end Go.Proofs.Ytclgimklfejohaa
