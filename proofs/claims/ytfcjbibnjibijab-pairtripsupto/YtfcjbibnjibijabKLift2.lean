/- What came in: a trip. -/
import Derived.Test.YtfcjbibnjibijabKLift
namespace Go.Proofs.Ytfcjbibnjibijab
open Go.ChangeShapes Go.WideShapes Go.ChangeAt Go.RowKit Go.Deep

set_option maxRecDepth 100000 in
theorem open_trip {H : Type} {enc : TypeId × Value → H} {W : World} {fuel : Nat} {cs : List Value} {y : DataW H × List MemPlace} (h : DataW.trod enc Try.prog W 0 (fun _ => true) true fuel 36 cs = some y) :
    ∃ a la ca xs k lk ck ks v lv cv vs d ld cd ds b lb cb bs, cs = [.slice a la ca, .slice k lk ck, .slice v lv cv, .slice d ld cd, .slice b lb cb] ∧ InRow W .u8 a la ca xs ∧ InRow W .u8 k lk ck ks ∧ InRow W .u8 v lv cv vs ∧ InRow W .u8 d ld cd ds ∧ InRow W .u8 b lb cb bs ∧ la ≤ Rows.uptoBulk y.1 ∧ lk ≤ Rows.uptoBulk y.1 ∧ lv ≤ Rows.uptoBulk y.1 ∧ ld ≤ Rows.uptoBulk y.1 ∧ lb ≤ Rows.uptoBulk y.1 := by
  obtain ⟨y0, y1, y2, y3, n, hx, hlen, g0, g1, g2, g3⟩ := trod_struct4 Try.underlying36 h
  have e1 : Try.prog.cellsOf 22 = 1 := by kernel_rfl
  have e3 : Try.prog.cellsOf 34 = 2 := by kernel_rfl
  have e4 : Try.prog.cellsOf 36 = 5 := by kernel_rfl
  rw [e4] at hlen
  match cs, hlen with
  | [v0, v1, v2, v3, v4], _ =>
    simp only [e1, e3, List.drop_zero, List.drop_succ_cons, List.take_succ_cons, List.take_zero] at g0 g1 g2 g3
    obtain ⟨a, la, ca, xs, rfl, ha, sa⟩ := in_row Try.underlying22 Try.underlying5 (by kernel_rfl) g0
    obtain ⟨k, lk, ck, ks, v, lv, cv, vs, hcs, hk, hv, sk, sv⟩ := open_entry g1
    simp only [List.cons.injEq, and_true] at hcs
    obtain ⟨rfl, rfl⟩ := hcs
    obtain ⟨d, ld, cd, ds, rfl, hd, sd⟩ := in_row Try.underlying22 Try.underlying5 (by kernel_rfl) g2
    obtain ⟨b, lb, cb, bs, rfl, hb, sb⟩ := in_row Try.underlying22 Try.underlying5 (by kernel_rfl) g3
    have b1 := sa.2
    have b2 := sk.2
    have b3 := sv.2
    have b4 := sd.2
    have b5 := sb.2
    refine ⟨a, la, ca, xs, k, lk, ck, ks, v, lv, cv, vs, d, ld, cd, ds, b, lb, cb, bs, rfl, ha, hk, hv, hd, hb, ?_, ?_, ?_, ?_, ?_⟩ <;> (rw [hx]; simp only [Rows.uptoBulk, Rows.uptoBulkAll]; omega)

end Go.Proofs.Ytfcjbibnjibijab
