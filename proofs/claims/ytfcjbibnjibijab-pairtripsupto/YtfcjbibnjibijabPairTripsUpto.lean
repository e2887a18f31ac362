/- What Bytes writes of an entry behind a text Read reads back, whatever stands ahead and behind, just if the entry may be and its key is above the text; what Read reads has just the bytes that Bytes writes (the argument holds at most 1048576 values). -/
import Derived.Test.YtfcjbibnjibijabRows
import Derived.Test.YtfcjbibnjibijabKTrips
import Derived.Test.YtfcjbibnjibijabKLift2
import Derived.WalkKit
import Derived.ProofKit
import Derived.OpenShut
import Derived.Below
import Derived.Deep.Grids
import Derived.JoinedCond
namespace Go.Proofs.Ytfcjbibnjibijab.pairTripsUpto
open Go.ChangeShapes Go.WideShapes Go.ChangeAt Go.RowKit Go.Deep
set_option linter.unusedVariables false

theorem own : ownKnob Try.prog.godebug = none := by kernel_rfl
theorem laidOut : laidOutB Try.prog = true := by kernel_rfl

set_option maxRecDepth 100000 in
theorem contract (H : Type) (enc : TypeId × Value → H) (W : World) (base : Nat) (args : Array Value) (ds gs : List (DataW H)) (before : List MemPlace)
    (hval : ∀ (j : Nat) t v, Try.f4.params[j]? = some t → args[j]? = some v → Value.okWide Try.prog W .any base t v)
    (hW : DataW.Whole enc Try.prog Try.f4.params.toList Rows.pairTripsSpec.vars false W args.toList ds gs before) (hk : Rows.uptoSmall H (ds ++ gs) = true) :
    Calls Try.prog 4 args W fun e W' => ∃ v, e = .returned v ∧ Rows.pairTripsSpec.post enc Try.prog Try.f4 false true false false W args v W' := by
  have hW' := hW
  obtain ⟨p, q, hA0, hV, rfl, hfz, hnd⟩ := hW
  have hA : DataW.TrodAll enc Try.prog W 0 (fun _ => true) true Try.f4.params.toList args.toList ds p := hA0
  rw [Try.params4] at hA hval
  obtain ⟨v0, vs0, d0, ds0, p0, q0, hargs, rfl, rfl, h0, r0⟩ := trodAll_cons hA
  obtain ⟨rfl, rfl, rfl⟩ := trodAll_nil r0
  obtain rfl : args = #[v0] := by cases args; simp_all
  obtain ⟨rfl, rfl⟩ := trodVars_none hV
  have hkb : Rows.uptoBulkAll ([d0] ++ []) ≤ 1048576 := of_decide_eq_true hk
  simp only [List.append_nil, Rows.uptoBulkAll] at hkb
  have k0 := h0
  have lt0 : ∀ x ∈ p0, x.block < W.heap.size := by obtain ⟨m, hm⟩ := k0; exact DataW.trod_lt m _ _ _ hm
  obtain ⟨⟨cs0⟩, rfl, _⟩ := okWide_struct Try.underlying36 (hval 0 36 v0 rfl rfl)
  obtain ⟨fuel0, hf0⟩ := h0
  obtain ⟨a0, la0, ca0, xs0, k0', lk0, ck0, ks0, v0', lv0, cv0, vs0, d0', ld0, cd0, ds0', b0', lb0, cb0, bs0, hcs0, ia0, ik0, iv0, id0, ib0, ba0, bk0, bv0, bd0, bb0⟩ := open_trip hf0
  simp only [Value.cells] at hcs0
  subst hcs0
  replace ba0 : _ ≤ 1048576 := Nat.le_trans ba0 (by simp only; omega)
  replace bk0 : _ ≤ 1048576 := Nat.le_trans bk0 (by simp only; omega)
  replace bv0 : _ ≤ 1048576 := Nat.le_trans bv0 (by simp only; omega)
  replace bd0 : _ ≤ 1048576 := Nat.le_trans bd0 (by simp only; omega)
  replace bb0 : _ ≤ 1048576 := Nat.le_trans bb0 (by simp only; omega)
  clear hA0
  refine (pairTrips_any a0 k0' v0' d0' b0' la0 ca0 lk0 ck0 lv0 cv0 ld0 cd0 lb0 cb0 xs0 ks0 vs0 ds0' bs0 W ia0.hlen ik0.hlen iv0.hlen id0.hlen ib0.hlen ba0 bk0 bv0 bd0 bb0 ia0.hcap ik0.hcap ib0.hcap ik0.hnone iv0.hnone id0.hnone ib0.hnone ia0.row ik0.row iv0.row id0.row ib0.row (wf_b8 ia0.wf) (wf_b8 ik0.wf) (wf_b8 iv0.wf) (wf_b8 id0.wf) (wf_b8 ib0.wf)).mono fun e W' ⟨he, bel⟩ => ?_
  subst he
  exact ⟨_, rfl, _, _, _, [], _, [], hW', trodAll_mk1 (shut_bool Try.underlying4 _), (trodAll_cons_mk (Below.trod laidOut (by kernel_rfl) (of_decide_eq_true (by kernel_rfl)) k0 bel lt0) trodAll_mk0), rfl, bel.frame _, fun h => by cases h⟩

set_option maxRecDepth 100000 in
theorem lifted (os : Os) (started : os.Started) (H : Type) (enc : TypeId × Value → H) (F : Stop.Interp) :
    ReturnsInHanded {} Try.checked os 4 .any ((Rows.OpenSpec.upto Rows.pairTripsSpec).pre6 enc Try.prog Try.f4 Rows.pairTripsUptoRow.domain false) (((Rows.OpenSpec.upto Rows.pairTripsSpec).at F).post enc Try.prog Try.f4 false true false false) := by
  refine returnsInHanded_of_cond (C := Try.checked) (s := Rows.OpenSpec.upto Rows.pairTripsSpec) (k := Rows.uptoSmall) rfl own started (by kernel_rfl) Try.func4
    (OpenSpec.witness (enc := enc) (C := Try.checked) (s := Rows.OpenSpec.upto Rows.pairTripsSpec) (k := Rows.uptoSmall) rfl false ⟨#[], #[.agg #[.slice none 0 0, .slice none 0 0, .slice none 0 0, .slice none 0 0, .slice none 0 0]], []⟩ 8 (by kernel_rfl) (by kernel_rfl) (by kernel_rfl)
      (x := ([.agg [.nil, .agg [.nil, .nil], .nil, .nil]], [], [])) (by kernel_rfl) rfl (by kernel_rfl)) ?_
  intro W base args ds gs before hval hW _ hk _
  exact contract H enc W base args ds gs before hval hW hk

theorem over : Rows.PairTripsUptoSaid :=
  OpenClaim.holds_of_cond 4 Try.f4 rfl rfl rfl rfl rfl rfl rfl ⟨rfl, rfl, rfl, rfl, rfl⟩ rfl rfl rfl rfl rfl (by kernel_rfl) Try.func4 (by kernel_rfl)
    (of_decide_eq_true (by kernel_rfl)) (by unfold Func.isWrapper; first | (rw [if_pos (by decide +kernel)]; kernel_rfl) | (rw [if_neg (by decide +kernel)]; exact ⟨rfl, rfl⟩))
    (fun os started H enc _ F => lifted os started H enc F)

end Go.Proofs.Ytfcjbibnjibijab.pairTripsUpto

namespace Go.Proofs.Ytfcjbibnjibijab
theorem pairTripsUpto_holds : Rows.PairTripsUptoSaid := pairTripsUpto.over
#print axioms pairTripsUpto_holds
end Go.Proofs.Ytfcjbibnjibijab
