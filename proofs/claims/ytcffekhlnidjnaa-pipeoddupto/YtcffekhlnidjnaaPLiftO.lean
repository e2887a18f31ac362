/- What came in: numbers and errors of a reader and a writer, a size. -/
import Derived.Test.YtcffekhlnidjnaaPLift
namespace Go.Proofs.Ytcffekhlnidjnaa
open Go.ChangeShapes Go.WideShapes Go.ChangeAt Go.RowKit Go.Deep

theorem trod_struct5 {H : Type} {enc : TypeId × Value → H} {P : Program} {w : World} {base : Nat} {spare : Nat → Bool} {held : Bool} {t : TypeId} {f0 f1 f2 f3 f4 : Field} {fuel : Nat} {cs : List Value} {x : DataW H × List MemPlace} (ht : P.underlying t = some (.struct #[f0, f1, f2, f3, f4])) (h : DataW.trod enc P w base spare held fuel t cs = some x) :
    ∃ y0 y1 y2 y3 y4 n, x.1 = .agg [y0.1, y1.1, y2.1, y3.1, y4.1] ∧ cs.length = P.cellsOf t ∧ DataW.trod enc P w base spare held n f0.type ((cs.drop f0.offset).take (P.cellsOf f0.type)) = some y0 ∧
      DataW.trod enc P w base spare held n f1.type ((cs.drop f1.offset).take (P.cellsOf f1.type)) = some y1 ∧ DataW.trod enc P w base spare held n f2.type ((cs.drop f2.offset).take (P.cellsOf f2.type)) = some y2 ∧ DataW.trod enc P w base spare held n f3.type ((cs.drop f3.offset).take (P.cellsOf f3.type)) = some y3 ∧ DataW.trod enc P w base spare held n f4.type ((cs.drop f4.offset).take (P.cellsOf f4.type)) = some y4 := by
  obtain ⟨xs, n, _, rfl, hl, hlen, hf⟩ := DataW.trod_struct ht h
  match xs, hlen with
  | [y0, y1, y2, y3, y4], _ => exact ⟨y0, y1, y2, y3, y4, n, by simp, hl, by simpa using hf 0 f0 rfl, by simpa using hf 1 f1 rfl, by simpa using hf 2 f2 rfl, by simpa using hf 3 f3 rfl, by simpa using hf 4 f4 rfl⟩

set_option maxRecDepth 100000 in
theorem open_oddarg {H : Type} {enc : TypeId × Value → H} {W : World} {fuel : Nat} {cs : List Value} {y : DataW H × List MemPlace} (h : DataW.trod enc Try.prog W 0 (fun _ => true) true fuel 66 cs = some y) :
    ∃ an ln cn ns ae le ce es at' lt ct ts af lf cf fs size, cs = [.slice an ln cn, .slice ae le ce, .slice at' lt ct, .slice af lf cf, .int .i64 size] ∧ InRow W .i64 an ln cn ns ∧ InRow W .i64 ae le ce es ∧ InRow W .i64 at' lt ct ts ∧ InRow W .i64 af lf cf fs ∧ (Lit.int .i64 size).wf = true ∧ ln ≤ Rows.uptoBulk y.1 := by
  obtain ⟨y0, y1, y2, y3, y4, n, hx, hlen, g0, g1, g2, g3, g4⟩ := trod_struct5 Try.underlying66 h
  have e0 : Try.prog.cellsOf 24 = 1 := by kernel_rfl
  have e1 : Try.prog.cellsOf 44 = 1 := by kernel_rfl
  have e2 : Try.prog.cellsOf 3 = 1 := by kernel_rfl
  have e4 : Try.prog.cellsOf 66 = 5 := by kernel_rfl
  rw [e4] at hlen
  match cs, hlen with
  | [v0, v1, v2, v3, v4], _ =>
    simp only [e0, e1, e2, List.drop_zero, List.drop_succ_cons, List.take_succ_cons, List.take_zero] at g0 g1 g2 g3 g4
    obtain ⟨an, ln, cn, ns, rfl, hn, sn⟩ := in_row Try.underlying24 Try.underlying3 (by kernel_rfl) g0
    obtain ⟨ae, le, ce, es, rfl, he, se⟩ := in_row Try.underlying44 Try.underlying35 (by kernel_rfl) g1
    obtain ⟨at', lt, ct, ts, rfl, ht, st⟩ := in_row Try.underlying24 Try.underlying3 (by kernel_rfl) g2
    obtain ⟨af, lf, cf, fs, rfl, hf, sf⟩ := in_row Try.underlying44 Try.underlying35 (by kernel_rfl) g3
    obtain ⟨size, hk1, _, hwf1⟩ := DataW.trod_int Try.underlying3 g4
    simp only [List.cons.injEq, and_true] at hk1
    subst hk1
    refine ⟨an, ln, cn, ns, ae, le, ce, es, at', lt, ct, ts, af, lf, cf, fs, size, rfl, hn, he, ht, hf, hwf1, ?_⟩
    rw [hx]
    have := sn.2
    simp only [Rows.uptoBulk, Rows.uptoBulkAll]
    omega

end Go.Proofs.Ytcffekhlnidjnaa
