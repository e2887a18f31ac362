/- What came in: scripts for arenas. -/
import Derived.Test.YtpfmfobnanhcdaaG31
import Derived.Test.YtpfmfobnanhcdaaG21
namespace Go.Proofs.Ytpfmfobnanhcdaa
open Go.ChangeShapes Go.WideShapes Go.ChangeAt Go.RowKit Go.Deep

theorem trod_struct6 {H : Type} {enc : TypeId × Value → H} {P : Program} {w : World} {base : Nat} {spare : Nat → Bool} {held : Bool} {t : TypeId} {f0 f1 f2 f3 f4 f5 : Field} {fuel : Nat} {cs : List Value} {x : DataW H × List MemPlace} (ht : P.underlying t = some (.struct #[f0, f1, f2, f3, f4, f5])) (h : DataW.trod enc P w base spare held fuel t cs = some x) :
    ∃ y0 y1 y2 y3 y4 y5 n, x.1 = .agg [y0.1, y1.1, y2.1, y3.1, y4.1, y5.1] ∧ cs.length = P.cellsOf t ∧ DataW.trod enc P w base spare held n f0.type ((cs.drop f0.offset).take (P.cellsOf f0.type)) = some y0 ∧
      DataW.trod enc P w base spare held n f1.type ((cs.drop f1.offset).take (P.cellsOf f1.type)) = some y1 ∧ DataW.trod enc P w base spare held n f2.type ((cs.drop f2.offset).take (P.cellsOf f2.type)) = some y2 ∧ DataW.trod enc P w base spare held n f3.type ((cs.drop f3.offset).take (P.cellsOf f3.type)) = some y3 ∧ DataW.trod enc P w base spare held n f4.type ((cs.drop f4.offset).take (P.cellsOf f4.type)) = some y4 ∧ DataW.trod enc P w base spare held n f5.type ((cs.drop f5.offset).take (P.cellsOf f5.type)) = some y5 := by
  obtain ⟨xs, n, _, rfl, hl, hlen, hf⟩ := DataW.trod_struct ht h
  match xs, hlen with
  | [y0, y1, y2, y3, y4, y5], _ => exact ⟨y0, y1, y2, y3, y4, y5, n, by simp, hl, by simpa using hf 0 f0 rfl, by simpa using hf 1 f1 rfl, by simpa using hf 2 f2 rfl, by simpa using hf 3 f3 rfl, by simpa using hf 4 f4 rfl, by simpa using hf 5 f5 rfl⟩
theorem add_addA (a : Addr) (i j : Nat) : (a.add i).add j = a.add (i + j) := by
  unfold Addr.add
  by_cases h : i = 0
  · simp [h]
  · by_cases h' : j = 0
    · simp [h, h']
    · simp [h, h', Nat.add_assoc]
instance : Inhabited AOp := ⟨⟨0, 0, 0, 0, false, Nd.zero⟩⟩
theorem bounds_u64' {n : Int} (h : (Lit.int .u64 n).wf = true) : 0 ≤ n ∧ n < 18446744073709551616 := by
  have := bounds_u64 h
  omega
def AOp.cs (o : AOp) : List Value := [.int .i64 o.kind, .int .i64 o.a, .int .i64 o.b, .int .u64 (o.w : Nat), .bool o.ch, .int .i64 o.n.lv, o.n.hi.v, .int .i64 o.n.ri, o.n.ks.v, o.n.vs.v, o.n.cs.v]

set_option maxRecDepth 100000 in
theorem open_aop {H : Type} {enc : TypeId × Value → H} {W : World} {fuel : Nat} {cs : List Value} {y : DataW H × List MemPlace} (hwt : (DataW.weights Try.prog 39 y.1).all (· ≤ reachBytes) = true) (h : DataW.trod enc Try.prog W 0 (fun _ => true) true fuel 39 cs = some y) :
    ∃ o : AOp, cs = o.cs ∧ o.Ok (fun k => k < W.heap.size) W := by
  obtain ⟨y0, y1, y2, y3, y4, y5, n, hx1, hlen, g0, g1, g2, g3, g4, g5⟩ := trod_struct6 Try.underlying39 h
  have e0 : Try.prog.cellsOf 4 = 1 := by kernel_rfl
  have e1 : Try.prog.cellsOf 3 = 1 := by kernel_rfl
  have e2 : Try.prog.cellsOf 29 = 1 := by kernel_rfl
  have e3 : Try.prog.cellsOf 37 = 6 := by kernel_rfl
  have e4 : Try.prog.cellsOf 39 = 11 := by kernel_rfl
  rw [e4] at hlen
  rw [hx1] at hwt
  simp only [DataW.weights, Try.underlying39, List.map_cons, DataW.weightsEach, List.all_append, Bool.and_eq_true] at hwt
  match cs, hlen with
  | [v0, v1, v2, v3, v4, v5, v6, v7, v8, v9, v10], _ =>
    simp only [e0, e1, e2, e3, List.drop_zero, List.drop_succ_cons, List.take_succ_cons, List.take_zero] at g0 g1 g2 g3 g4 g5
    obtain ⟨kd, h0, _, b0⟩ := DataW.trod_int Try.underlying3 g0
    obtain ⟨ra, h1, _, b1⟩ := DataW.trod_int Try.underlying3 g1
    obtain ⟨rb, h2, _, b2⟩ := DataW.trod_int Try.underlying3 g2
    obtain ⟨rw', h3, _, b3⟩ := DataW.trod_int Try.underlying29 g3
    obtain ⟨ch, h4, _⟩ := DataW.trod_bool Try.underlying4 g4
    obtain ⟨nd, hn, hN⟩ := open_node hwt.2.2.2.2.2.1 g5
    simp only [List.cons.injEq, and_true] at h0 h1 h2 h3 h4 hn
    obtain ⟨n0, n1, n2, n3, n4, n5⟩ := hn
    have c0 := bounds_i64 b0
    have c1 := bounds_i64 b1
    have c2 := bounds_i64 b2
    have c3 := bounds_u64' b3
    obtain ⟨m, hm⟩ : ∃ m : Nat, rw' = (m : Int) := ⟨rw'.toNat, by omega⟩
    refine ⟨⟨kd, ra, rb, m, ch, nd⟩, ?_, c0, c1, c2, by simp only; omega, hN.1, hN.1.in_⟩
    rw [h0, h1, h2, h3, h4, n0, n1, n2, n3, n4, n5, hm]
    rfl

end Go.Proofs.Ytpfmfobnanhcdaa
