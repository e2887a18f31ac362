/- PipeWhole: behind Copy from any source to any sink the sink has what it had, and behind it a beginning of the bytes of the source, as long as told; with OK all of them; for inputs of at most 1048576 values (the Upto form). -/
import Derived.Test.YtpjldnjcomdhkabRows
import Derived.Test.YtpjldnjcomdhkabPWhole
import Derived.Test.YtpjldnjcomdhkabPLift2
import Derived.WalkKit
import Derived.ProofKit
import Derived.OpenShut
import Derived.Below
import Derived.Deep.Grids
import Derived.JoinedCond
namespace Go.Proofs.Ytpjldnjcomdhkab.pipeWholeUpto
open Go.ChangeShapes Go.WideShapes Go.ChangeAt Go.RowKit Go.Deep
set_option linter.unusedVariables false

theorem own : ownKnob Try.prog.godebug = none := by kernel_rfl
theorem laidOut : laidOutB Try.prog = true := by kernel_rfl

set_option maxRecDepth 100000 in
theorem contract (H : Type) (enc : TypeId × Value → H) (W : World) (base : Nat) (args : Array Value) (ds gs : List (DataW H)) (before : List MemPlace)
    (hval : ∀ (j : Nat) t v, Try.f4.params[j]? = some t → args[j]? = some v → Value.okWide Try.prog W .any base t v)
    (hW : DataW.Whole enc Try.prog Try.f4.params.toList Rows.pipeWholeSpec.vars false W args.toList ds gs before) (hk : Rows.uptoSmall H (ds ++ gs) = true) :
    Calls Try.prog 4 args W fun e W' => ∃ v, e = .returned v ∧ Rows.pipeWholeSpec.post enc Try.prog Try.f4 false true false false W args v W' := by
  have hW' := hW
  obtain ⟨p, q, hA0, hV, rfl, hfz, hnd⟩ := hW
  have hA : DataW.TrodAll enc Try.prog W 0 (fun _ => true) true Try.f4.params.toList args.toList ds p := hA0
  rw [Try.params4] at hA hval
  obtain ⟨v0, vs0, d0, ds0, p0, q0, hargs, rfl, rfl, h0, r0⟩ := trodAll_cons hA
  obtain ⟨v1, vs1, d1, ds1, p1, q1, rfl, rfl, rfl, h1, r1⟩ := trodAll_cons r0
  obtain ⟨rfl, rfl, rfl⟩ := trodAll_nil r1
  obtain rfl : args = #[v0, v1] := by cases args; simp_all
  obtain ⟨rfl, rfl⟩ := trodVars_none hV
  have hkb : Rows.uptoBulkAll ([d0, d1] ++ []) ≤ 1048576 := of_decide_eq_true hk
  simp only [List.append_nil, Rows.uptoBulkAll] at hkb
  have k0 := h0
  have lt0 : ∀ x ∈ p0, x.block < W.heap.size := by obtain ⟨m, hm⟩ := k0; exact DataW.trod_lt m _ _ _ hm
  obtain ⟨⟨cs0⟩, rfl, _⟩ := okWide_struct Try.underlying28 (hval 0 28 v0 rfl rfl)
  obtain ⟨fuel0, hf0⟩ := h0
  obtain ⟨ab0, lb0, cb0, zs0, ag0, lg0, cg0, gs0, fail0, eager0, at0, lt'0, ct0, ts0, fail20, size0, hcs0, hz0, hg0, ht0, wf0, wf20, ws0, sz0, sg0, st0⟩ := open_way hf0
  simp only [Value.cells] at hcs0
  subst hcs0
  have sz0' := sz0.2
  replace sz0' : _ ≤ 1048576 := Nat.le_trans sz0' (by simp only; omega)
  have sg0' := sg0.2
  replace sg0' : _ ≤ 1048576 := Nat.le_trans sg0' (by simp only; omega)
  have st0' := st0.2
  replace st0' : _ ≤ 1048576 := Nat.le_trans st0' (by simp only; omega)
  have k1 := h1
  have lt1 : ∀ x ∈ p1, x.block < W.heap.size := by obtain ⟨m, hm⟩ := k1; exact DataW.trod_lt m _ _ _ hm
  obtain ⟨b1, l1, c1, rfl⟩ := okWide_slice Try.underlying22 (hval 1 22 v1 rfl rfl)
  obtain ⟨fuel1, hf1⟩ := h1
  obtain ⟨a1, len1, cap1, z1, hv1, r1, s1⟩ := in_row Try.underlying22 Try.underlying5 (by kernel_rfl) hf1
  cases hv1
  rw [show Try.prog.bytesOf 5 = 1 from by kernel_rfl] at s1
  have s1' := s1.2
  replace s1' : _ ≤ 1048576 := Nat.le_trans s1' (by simp only; omega)
  clear hA0
  refine (pipeWhole_any ab0 ag0 at0 b1 lb0 cb0 lg0 cg0 lt'0 ct0 l1 c1 zs0 gs0 ts0 z1 fail0 fail20 size0 eager0 W hz0.hlen hg0.hlen ht0.hlen r1.hlen (by omega) (by omega) (by omega) (by omega) r1.hcap hz0.hcap hz0.hnone hg0.hnone ht0.hnone r1.hnone hz0.row hg0.row ht0.row r1.row (b8_mem hz0.wf)).mono fun e W' ⟨he, bel⟩ => ?_
  subst he
  exact ⟨_, rfl, _, _, _, [], _, [], hW', trodAll_mk1 (shut_bool Try.underlying4 _), (trodAll_cons_mk (Below.trod laidOut (by kernel_rfl) (of_decide_eq_true (by kernel_rfl)) k0 bel lt0) (trodAll_cons_mk (Below.trod laidOut (by kernel_rfl) (of_decide_eq_true (by kernel_rfl)) k1 bel lt1) trodAll_mk0)), rfl, bel.frame _, fun h => by cases h⟩

set_option maxRecDepth 100000 in
theorem lifted (os : Os) (started : os.Started) (H : Type) (enc : TypeId × Value → H) (F : Stop.Interp) :
    ReturnsInHanded {} Try.checked os 4 .any ((Rows.OpenSpec.upto Rows.pipeWholeSpec).pre6 enc Try.prog Try.f4 Rows.pipeWholeUptoRow.domain false) (((Rows.OpenSpec.upto Rows.pipeWholeSpec).at F).post enc Try.prog Try.f4 false true false false) := by
  refine returnsInHanded_of_cond (C := Try.checked) (s := Rows.OpenSpec.upto Rows.pipeWholeSpec) (k := Rows.uptoSmall) rfl own started (by kernel_rfl) Try.func4
    (OpenSpec.witness (enc := enc) (C := Try.checked) (s := Rows.OpenSpec.upto Rows.pipeWholeSpec) (k := Rows.uptoSmall) rfl false ⟨#[], #[.agg #[.slice none 0 0, .slice none 0 0, .int .i64 0, .bool false, .slice none 0 0, .int .i64 0, .int .i64 0], .slice none 0 0], []⟩ 8 (by kernel_rfl) (by kernel_rfl) (by kernel_rfl)
      (x := ([.agg [.agg [.nil, .nil, .lit (.int .i64 0), .lit (.bool false)], .nil, .lit (.int .i64 0), .lit (.int .i64 0)], .nil], [], [])) (by kernel_rfl) rfl (by kernel_rfl)) ?_
  intro W base args ds gs before hval hW _ hk _
  exact contract H enc W base args ds gs before hval hW hk

theorem over : Rows.PipeWholeUptoSaid :=
  OpenClaim.holds_of_cond 4 Try.f4 rfl rfl rfl rfl rfl rfl rfl ⟨rfl, rfl, rfl, rfl, rfl⟩ rfl rfl rfl rfl rfl (by kernel_rfl) Try.func4 (by kernel_rfl)
    (of_decide_eq_true (by kernel_rfl)) (by unfold Func.isWrapper; first | (rw [if_pos (by decide +kernel)]; kernel_rfl) | (rw [if_neg (by decide +kernel)]; exact ⟨rfl, rfl⟩))
    (fun os started H enc _ F => lifted os started H enc F)

end Go.Proofs.Ytpjldnjcomdhkab.pipeWholeUpto

namespace Go.Proofs.Ytpjldnjcomdhkab
theorem pipeWholeUpto_holds : Rows.PipeWholeUptoSaid := pipeWholeUpto.over
#print axioms pipeWholeUpto_holds
end Go.Proofs.Ytpjldnjcomdhkab
