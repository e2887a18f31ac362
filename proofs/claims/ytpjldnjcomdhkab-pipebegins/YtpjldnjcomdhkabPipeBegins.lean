/- PipeBegins: of any source asked for any sizes, and any sink handed what came: what the source gave is a beginning of its bytes, Left tells how many are behind it, and the sink has what it told that it took. -/
import Derived.Test.YtpjldnjcomdhkabRows
import Derived.Test.YtpjldnjcomdhkabPBegins
import Derived.Test.YtpjldnjcomdhkabPLift2
import Derived.WalkKit
import Derived.ProofKit
import Derived.OpenShut
import Derived.Below
import Derived.Deep.Grids
import Derived.SizedLaws
namespace Go.Proofs.Ytpjldnjcomdhkab.pipeBegins
open Go.ChangeShapes Go.WideShapes Go.ChangeAt Go.RowKit Go.Deep
set_option linter.unusedVariables false

theorem own : ownKnob Try.prog.godebug = none := by kernel_rfl
theorem laidOut : laidOutB Try.prog = true := by kernel_rfl

set_option maxRecDepth 100000 in
theorem contract (H : Type) (enc : TypeId × Value → H) (W : World) (base : Nat) (args : Array Value) (ds gs : List (DataW H)) (before : List MemPlace)
    (hval : ∀ (j : Nat) t v, Try.f3.params[j]? = some t → args[j]? = some v → Value.okWide Try.prog W .any base t v)
    (hW : DataW.Whole enc Try.prog Try.f3.params.toList Rows.pipeBeginsSpec.vars false W args.toList ds gs before) (hsz0 : (DataW.weightsEach Try.prog (Try.f3.params.toList ++ Rows.pipeBeginsSpec.plain.varTypes Try.prog) (ds ++ gs)).all (· ≤ reachBytes) = true) :
    Calls Try.prog 3 args W fun e W' => ∃ v, e = .returned v ∧ Rows.pipeBeginsSpec.post enc Try.prog Try.f3 false true false false W args v W' := by
  have hW' := hW
  obtain ⟨p, q, hA0, hV, rfl, hfz, hnd⟩ := hW
  have hA : DataW.TrodAll enc Try.prog W 0 (fun _ => true) true Try.f3.params.toList args.toList ds p := hA0
  have hsz := hsz0
  clear hsz0
  rw [Try.params3] at hA hval hsz
  obtain ⟨v0, vs0, d0, ds0, p0, q0, hargs, rfl, rfl, h0, r0⟩ := trodAll_cons hA
  obtain ⟨v1, vs1, d1, ds1, p1, q1, rfl, rfl, rfl, h1, r1⟩ := trodAll_cons r0
  obtain ⟨v2, vs2, d2, ds2, p2, q2, rfl, rfl, rfl, h2, r2⟩ := trodAll_cons r1
  obtain ⟨rfl, rfl, rfl⟩ := trodAll_nil r2
  obtain rfl : args = #[v0, v1, v2] := by cases args; simp_all
  obtain ⟨rfl, rfl⟩ := trodVars_none hV
  have k0 := h0
  have lt0 : ∀ x ∈ p0, x.block < W.heap.size := by obtain ⟨m, hm⟩ := k0; exact DataW.trod_lt m _ _ _ hm
  have hwt0 : (DataW.weights Try.prog 25 d0).all (· ≤ reachBytes) = true := List.all_eq_true.2 fun x hx => List.all_eq_true.1 hsz x (DataW.weights_mem_each (j := 0) rfl rfl x hx)
  obtain ⟨⟨cs0⟩, rfl, _⟩ := okWide_struct Try.underlying25 (hval 0 25 v0 rfl rfl)
  obtain ⟨fuel0, hf0⟩ := h0
  obtain ⟨ab0, lb0, cb0, zs0, ag0, lg0, cg0, gs0, fail0, eager0, hcs0, hz0, hg0, wf0, sz0, sg0⟩ := open_feed hf0
  simp only [Value.cells] at hcs0
  subst hcs0
  have sz0' := sz0.1 reachBytes hwt0
  simp only [reachBytes] at sz0'
  have sg0' := sg0.1 reachBytes hwt0
  simp only [reachBytes] at sg0'
  have k1 := h1
  have lt1 : ∀ x ∈ p1, x.block < W.heap.size := by obtain ⟨m, hm⟩ := k1; exact DataW.trod_lt m _ _ _ hm
  have hwt1 : (DataW.weights Try.prog 26 d1).all (· ≤ reachBytes) = true := List.all_eq_true.2 fun x hx => List.all_eq_true.1 hsz x (DataW.weights_mem_each (j := 1) rfl rfl x hx)
  obtain ⟨b1, l1, c1, rfl⟩ := okWide_slice Try.underlying26 (hval 1 26 v1 rfl rfl)
  obtain ⟨fuel1, hf1⟩ := h1
  obtain ⟨a1, len1, cap1, z1, hv1, ir1, s1⟩ := in_row Try.underlying26 Try.underlying34 (by kernel_rfl) hf1
  cases hv1
  rw [show Try.prog.bytesOf 34 = 2 from by kernel_rfl] at s1
  have s1' := s1.1 reachBytes hwt1
  simp only [reachBytes] at s1'
  have k2 := h2
  have lt2 : ∀ x ∈ p2, x.block < W.heap.size := by obtain ⟨m, hm⟩ := k2; exact DataW.trod_lt m _ _ _ hm
  have hwt2 : (DataW.weights Try.prog 28 d2).all (· ≤ reachBytes) = true := List.all_eq_true.2 fun x hx => List.all_eq_true.1 hsz x (DataW.weights_mem_each (j := 2) rfl rfl x hx)
  obtain ⟨⟨cs2⟩, rfl, _⟩ := okWide_struct Try.underlying28 (hval 2 28 v2 rfl rfl)
  obtain ⟨fuel2, hf2⟩ := h2
  obtain ⟨ab2, lb2, cb2, zs2, ag2, lg2, cg2, gs2, fail2, eager2, at2, lt'2, ct2, ts2, fail22, size2, hcs2, hz2, hg2, ht2, wf2, wf22, ws2, sz2, sg2, st2⟩ := open_way hf2
  simp only [Value.cells] at hcs2
  subst hcs2
  have sz2' := sz2.1 reachBytes hwt2
  simp only [reachBytes] at sz2'
  have sg2' := sg2.1 reachBytes hwt2
  simp only [reachBytes] at sg2'
  have st2' := st2.1 reachBytes hwt2
  simp only [reachBytes] at st2'
  clear hA0
  refine (pipeBegins_any ab0 ag0 b1 ab2 ag2 at2 lb0 cb0 lg0 cg0 l1 c1 lb2 cb2 lg2 cg2 lt'2 ct2 zs0 gs0 z1 ts2 fail0 fail2 fail22 size2 eager0 eager2 W hz0.hlen hg0.hlen ir1.hlen ht2.hlen (by omega) (by omega) (by omega) (by omega) hz0.hcap hz0.hnone hg0.hnone ht2.hnone hz0.row hg0.row ir1.row ht2.row (b8_mem hz0.wf) (fun x hx => bounds_u16 (ir1.wf x hx))).mono fun e W' ⟨he, bel⟩ => ?_
  subst he
  exact ⟨_, rfl, _, _, _, [], _, [], hW', trodAll_mk1 (shut_bool Try.underlying4 _), (trodAll_cons_mk (Below.trod laidOut (by kernel_rfl) (of_decide_eq_true (by kernel_rfl)) k0 bel lt0) (trodAll_cons_mk (Below.trod laidOut (by kernel_rfl) (of_decide_eq_true (by kernel_rfl)) k1 bel lt1) (trodAll_cons_mk (Below.trod laidOut (by kernel_rfl) (of_decide_eq_true (by kernel_rfl)) k2 bel lt2) trodAll_mk0))), rfl, bel.frame _, fun h => by cases h⟩

set_option maxRecDepth 100000 in
theorem lifted (os : Os) (started : os.Started) (H : Type) (enc : TypeId × Value → H) :
    ReturnsInHanded {} Try.checked os 3 .any (Rows.pipeBeginsSpec.pre6 enc Try.prog Try.f3 Rows.pipeBeginsRow.domain false) (Rows.pipeBeginsSpec.post enc Try.prog Try.f3 false true false false) := by
  refine returnsInHanded_of_change_sized (C := Try.checked) own started (by kernel_rfl) Try.func3
    (ChangeSpec.witness6 (enc := enc) (C := Try.checked) false ⟨#[], #[.agg #[.slice none 0 0, .slice none 0 0, .int .i64 0, .bool false], .slice none 0 0, .agg #[.slice none 0 0, .slice none 0 0, .int .i64 0, .bool false, .slice none 0 0, .int .i64 0, .int .i64 0]], []⟩ 8 (by kernel_rfl) (by kernel_rfl) (by kernel_rfl) (by kernel_rfl)) ?_
  intro W base args ds gs before hval hW _ hsz _
  exact contract H enc W base args ds gs before hval hW hsz

theorem over : Rows.PipeBeginsSaid :=
  OpenClaim.holds_of_wide 3 Try.f3 rfl rfl rfl rfl rfl rfl rfl ⟨rfl, rfl, rfl, rfl, rfl⟩ rfl rfl rfl rfl rfl (by kernel_rfl) Try.func3 (by kernel_rfl)
    (of_decide_eq_true (by kernel_rfl)) (by unfold Func.isWrapper; first | (rw [if_pos (by decide +kernel)]; kernel_rfl) | (rw [if_neg (by decide +kernel)]; exact ⟨rfl, rfl⟩))
    (fun os started H enc _ => lifted os started H enc)

end Go.Proofs.Ytpjldnjcomdhkab.pipeBegins

namespace Go.Proofs.Ytpjldnjcomdhkab
theorem pipeBegins_holds : Rows.PipeBeginsSaid := pipeBegins.over
#print axioms pipeBegins_holds
end Go.Proofs.Ytpjldnjcomdhkab
