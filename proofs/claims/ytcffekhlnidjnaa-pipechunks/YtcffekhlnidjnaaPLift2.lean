/- Ways that came in. -/
import Derived.Test.YtcffekhlnidjnaaPLift
namespace Go.Proofs.Ytcffekhlnidjnaa
open Go.ChangeShapes Go.WideShapes Go.ChangeAt Go.RowKit Go.Deep

theorem open_way {H : Type} {enc : TypeId × Value → H} {W : World} {fuel : Nat} {cs : List Value} {y : DataW H × List MemPlace} (h : DataW.trod enc Try.prog W 0 (fun _ => true) true fuel 62 cs = some y) :
    ∃ ab lb cb zs ag lg cg gs fail eager at' lt ct ts fail2 size, cs = [.slice ab lb cb, .slice ag lg cg, .int .i64 fail, .bool eager, .slice at' lt ct, .int .i64 fail2, .int .i64 size] ∧ InRow W .u8 ab lb cb zs ∧ InRow W .i64 ag lg cg gs ∧ InRow W .i64 at' lt ct ts ∧ (Lit.int .i64 fail).wf = true ∧ (Lit.int .i64 fail2).wf = true ∧ (Lit.int .i64 size).wf = true ∧ Sz Try.prog 62 y.1 lb 1 ∧ Sz Try.prog 62 y.1 lg 8 ∧ Sz Try.prog 62 y.1 lt 8 := by
  obtain ⟨y0, y1, y2, y3, n, hx, hlen, g0, g1, g2, g3⟩ := trod_struct4 Try.underlying62 h
  have e1 : Try.prog.cellsOf 24 = 1 := by kernel_rfl
  have e2 : Try.prog.cellsOf 3 = 1 := by kernel_rfl
  have e3 : Try.prog.cellsOf 26 = 4 := by kernel_rfl
  have e4 : Try.prog.cellsOf 62 = 7 := by kernel_rfl
  rw [e4] at hlen
  match cs, hlen with
  | [v0, v1, v2, v3, v4, v5, v6], _ =>
    simp only [e1, e2, e3, List.drop_zero, List.drop_succ_cons, List.take_succ_cons, List.take_zero] at g0 g1 g2 g3
    obtain ⟨ab, lb, cb, zs, ag, lg, cg, gs, fail, eager, hcs, hz, hg, hwf, sz, sg⟩ := open_feed g0
    simp only [List.cons.injEq, and_true] at hcs
    obtain ⟨rfl, rfl, rfl, rfl⟩ := hcs
    obtain ⟨at', lt, ct, ts, rfl, ht, st⟩ := in_row Try.underlying24 Try.underlying3 (by kernel_rfl) g1
    obtain ⟨fail2, hk1, _, hwf1⟩ := DataW.trod_int Try.underlying3 g2
    obtain ⟨size, hk2, _, hwf2⟩ := DataW.trod_int Try.underlying3 g3
    simp only [List.cons.injEq, and_true] at hk1 hk2
    subst hk1
    subst hk2
    rw [show Try.prog.bytesOf 3 = 8 from by kernel_rfl] at st
    have hw : ∀ L, (DataW.weights Try.prog 62 y.1).all (· ≤ L) = true → (DataW.weights Try.prog 26 y0.1).all (· ≤ L) = true ∧ (DataW.weights Try.prog 24 y1.1).all (· ≤ L) = true := fun L hL => by
      rw [hx] at hL
      simp only [DataW.weights, Try.underlying62, List.map_cons, DataW.weightsEach, List.all_append, Bool.and_eq_true] at hL
      exact ⟨hL.1, hL.2.1⟩
    have hb : ∀ n, n ≤ Rows.uptoBulk y0.1 ∨ n ≤ Rows.uptoBulk y1.1 → n ≤ Rows.uptoBulk y.1 := fun n h => by
      rw [hx]; simp only [Rows.uptoBulk, Rows.uptoBulkAll]; omega
    exact ⟨ab, lb, cb, zs, ag, lg, cg, gs, fail, eager, at', lt, ct, ts, fail2, size, rfl, hz, hg, ht, hwf, hwf1, hwf2, ⟨fun L hL => sz.1 L (hw L hL).1, hb _ (.inl sz.2)⟩, ⟨fun L hL => sg.1 L (hw L hL).1, hb _ (.inl sg.2)⟩, ⟨fun L hL => st.1 L (hw L hL).2, hb _ (.inr st.2)⟩⟩

end Go.Proofs.Ytcffekhlnidjnaa
