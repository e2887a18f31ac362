/- What came in: rows, bytes, a number, bytes. -/
import Derived.Test.YtlachimmfjagbaaFLift
namespace Go.Proofs.Ytlachimmfjagbaa
open Go.ChangeShapes Go.WideShapes Go.ChangeAt Go.RowKit Go.Deep

set_option maxRecDepth 100000 in
theorem open_trip7 {H : Type} {enc : TypeId × Value → H} {W : World} {fuel : Nat} {cs : List Value} {y : DataW H × List MemPlace} (hwt : (DataW.weights Try.prog 48 y.1).all (· ≤ reachBytes) = true) (h : DataW.trod enc Try.prog W 0 (fun _ => true) true fuel 48 cs = some y) :
    ∃ a0 n c b o L aB lB cB zB cut aM lM cM zM, cs = [.slice a0 n c, .slice aB lB cB, .int .i64 cut, .slice aM lM cM] ∧ L.length = n ∧ (0 < n → a0 = some ⟨b, o, none⟩) ∧ Sps W b o L ∧ n * 48 ≤ 140737488351232 ∧ InRow W .u8 aB lB cB zB ∧ lB ≤ 140737488351232 ∧ InRow W .u8 aM lM cM zM ∧ lM ≤ 140737488351232 := by
  obtain ⟨y0, y1, y2, y3, n, hx1, hlen, g0, g1, g2, g3⟩ := trod_struct4 Try.underlying48 h
  have e0 : Try.prog.cellsOf 25 = 1 := by kernel_rfl
  have e1 : Try.prog.cellsOf 3 = 1 := by kernel_rfl
  have e2 : Try.prog.cellsOf 23 = 1 := by kernel_rfl
  have e4 : Try.prog.cellsOf 48 = 4 := by kernel_rfl
  rw [e4] at hlen
  rw [hx1] at hwt
  simp only [DataW.weights, Try.underlying48, List.map_cons, DataW.weightsEach, List.all_append, Bool.and_eq_true] at hwt
  match cs, hlen with
  | [v0, v1, v2, v3], _ =>
    simp only [e0, e1, e2, List.drop_zero, List.drop_succ_cons, List.take_succ_cons, List.take_zero] at g0 g1 g2 g3
    obtain ⟨aB, lB, cB, zB, rfl, iB, sB⟩ := in_row Try.underlying25 Try.underlying5 (by kernel_rfl) g1
    obtain ⟨aM, lM, cM, zM, rfl, iM, sM⟩ := in_row Try.underlying25 Try.underlying5 (by kernel_rfl) g3
    obtain ⟨ct, hc0, _, _⟩ := DataW.trod_int Try.underlying3 g2
    simp only [List.cons.injEq, and_true] at hc0
    subst hc0
    rw [show Try.prog.bytesOf 5 = 1 from by kernel_rfl] at sB sM
    have s1 := sB.1 reachBytes hwt.2.1
    have s2 := sM.1 reachBytes hwt.2.2.2.1
    simp only [reachBytes] at s1 s2
    obtain ⟨a0, n0, c0, hv⟩ : ∃ a0 n0 c0, v0 = .slice a0 n0 c0 := by
      rcases open_slice Try.underlying23 g0 with ⟨hcs, _⟩ | ⟨a, l, c, m, n, D, Pl, hcs, _⟩
      · simp only [List.cons.injEq, and_true] at hcs
        exact ⟨_, _, _, hcs⟩
      · simp only [List.cons.injEq, and_true] at hcs
        exact ⟨_, _, _, hcs⟩
    subst hv
    obtain ⟨b, o, L, h1, h2, h3, h4⟩ := open_spans hwt.1 g0
    exact ⟨a0, n0, c0, b, o, L, aB, lB, cB, zB, ct, aM, lM, cM, zM, rfl, h1, h2, h3, h4, iB, by omega, iM, by omega⟩

end Go.Proofs.Ytlachimmfjagbaa
