/- CrcDigests: of any script, two digests beside one another tell what the document's answer tells of what each has read, for inputs of at most 1048576 values (the Upto form). -/
import Derived.Test.YtbjlpeophklmlaaRows
import Derived.Test.YtbjlpeophklmlaaCDig4
import Derived.WalkKit
import Derived.ProofKit
import Derived.OpenShut
import Derived.Below
import Derived.Deep.Grids
import Derived.Deep.Strs
import Derived.JoinedCond
namespace Go.Proofs.Ytbjlpeophklmlaa.crcDigestsUpto
open Go.ChangeShapes Go.WideShapes Go.ChangeAt Go.RowKit Go.Deep
set_option linter.unusedVariables false

theorem own : ownKnob Try.prog.godebug = none := by kernel_rfl
theorem laidOut : laidOutB Try.prog = true := by kernel_rfl

theorem bulk_one {H : Type} (d : DataW H) : 1 ≤ Rows.uptoBulk d := by
  cases d with
  | lit l => cases l <;> simp [Rows.uptoBulk]
  | nil => simp [Rows.uptoBulk]
  | ptr d => simp [Rows.uptoBulk]
  | slice elems spare => simp [Rows.uptoBulk]
  | agg parts => simp [Rows.uptoBulk]
  | iface t d => simp [Rows.uptoBulk]
  | map entries => simp [Rows.uptoBulk]
  | held h => simp [Rows.uptoBulk]
theorem bulk_len {H : Type} : ∀ l : List (DataW H), l.length ≤ Rows.uptoBulkAll l
  | [] => by simp
  | x :: r => by have := bulk_one x; have := bulk_len r; simp only [Rows.uptoBulkAll, List.length_cons]; omega
theorem bulk_append {H : Type} : ∀ l r : List (DataW H), Rows.uptoBulkAll (l ++ r) = Rows.uptoBulkAll l + Rows.uptoBulkAll r
  | [], r => by simp [Rows.uptoBulkAll]
  | x :: l, r => by
    have := bulk_append l r
    simp only [List.cons_append, Rows.uptoBulkAll]
    omega
theorem tot_bulk {H : Type} (Lf : Nat → Nat) (D : Nat → DataW H) : ∀ n, (∀ i, i < n → Lf i ≤ Rows.uptoBulk (D i)) → tot Lf n ≤ Rows.uptoBulkAll ((List.range n).map D)
  | 0, _ => Nat.zero_le _
  | n + 1, h => by
    have h1 := tot_bulk Lf D n (fun i hi => h i (by omega))
    have h2 := h n (by omega)
    rw [List.range_succ, List.map_append, bulk_append]
    simp only [tot, List.map_cons, List.map_nil, Rows.uptoBulkAll]
    omega

/-- What one step of a script holds. -/
def IsQ {H : Type} (W : World) (a : Addr) (i : Nat) (d : DataW H) (q : Bool × Int × Option Addr × Nat × Nat × List Int) : Prop :=
  (∃ b o, a = ⟨b, o, none⟩ ∧ W.rangeAt b (o + i * 3) [.bool q.1, .int .i64 q.2.1, .slice q.2.2.1 q.2.2.2.1 q.2.2.2.2.1]) ∧ (q.2.2.1 = none → q.2.2.2.1 = 0 ∧ q.2.2.2.2.1 = 0) ∧ q.2.2.2.2.2.length = q.2.2.2.1 ∧ Row W .u8 q.2.2.1 q.2.2.2.2.2 ∧ B8 q.2.2.2.2.2 ∧ q.2.2.2.1 ≤ Rows.uptoBulk d

theorem open_op {H : Type} {enc : TypeId × Value → H} {W : World} {a : Addr} {i n : Nat} {cs : List Value} {d : DataW H} {pl : List MemPlace} (hsp : a.spot = none) (hc : W.cells? 0 (a.add (i * 3)) 3 = some cs)
    (h : DataW.trod enc Try.prog W 0 (fun _ => true) true n 47 cs = some (d, pl)) : ∃ q : Bool × Int × Option Addr × Nat × Nat × List Int, IsQ W a i d q := by
  obtain ⟨_, hlen, hcell⟩ := World.cells?_some hc
  obtain ⟨y0, y1, y2, k, hx, _, g0, g1, g2⟩ := trod_struct3 Try.underlying47 h
  match cs, hlen with
  | [v0, v1, v2], _ =>
    have e4 : Try.prog.cellsOf 4 = 1 := by kernel_rfl
    have e3 : Try.prog.cellsOf 3 = 1 := by kernel_rfl
    have e23 : Try.prog.cellsOf 23 = 1 := by kernel_rfl
    simp only [e4, e3, e23, List.drop_zero, List.drop_succ_cons, List.take_succ_cons, List.take_zero] at g0 g1 g2
    obtain ⟨bq, hb0, _⟩ := DataW.trod_bool Try.underlying4 g0
    obtain ⟨kq, hk0, _, _⟩ := DataW.trod_int Try.underlying3 g1
    simp only [List.cons.injEq, and_true] at hb0 hk0
    subst hb0
    subst hk0
    have c0 := hcell 0 (by omega)
    have c1 := hcell 1 (by omega)
    have c2 := hcell 2 (by omega)
    rw [add_add] at c0 c1 c2
    obtain ⟨b, o, sp⟩ := a
    obtain rfl : sp = none := hsp
    rw [Addr.add_lit] at c0 c1 c2
    have hd : d = .agg [y0.1, y1.1, y2.1] := (Prod.mk.inj hx).1
    have hr : W.rangeAt b (o + i * 3) [.bool bq, .int .i64 kq, v2] := fun j v hv => by
      match j, hv with
      | 0, hv => rw [Nat.add_assoc, c0]; exact hv
      | 1, hv => rw [Nat.add_assoc, c1]; exact hv
      | 2, hv => rw [Nat.add_assoc, c2]; exact hv
    rcases open_ints Try.underlying23 Try.underlying5 (by kernel_rfl) g2 with ⟨hcs, hy⟩ | ⟨x, l, c, zs, hcs, _, hl, hm, hz, hy, hcl, hwz⟩
    · simp only [List.cons.injEq, and_true] at hcs
      subst hcs
      exact ⟨(bq, kq, none, 0, 0, []), ⟨b, o, rfl, hr⟩, fun _ => ⟨rfl, rfl⟩, rfl, row_nil _ _ _, B8.nil, Nat.zero_le _⟩
    · simp only [List.cons.injEq, and_true] at hcs
      subst hcs
      simp only [if_true] at hz
      have hrt := row_take hl hz hcl
      refine ⟨(bq, kq, some x, l, c, zs.take l), ⟨b, o, rfl, hr⟩, (fun h => by cases h), hrt.1, hrt.2, b8_take l hwz, ?_⟩
      have hyd : y2.1 = .slice (lits .u8 (zs.take l)) (lits .u8 (zs.drop l)) := by rw [hy]
      have hb1 := bulk_len (H := H) (lits .u8 (zs.take l))
      simp only [lits, List.length_map, hrt.1] at hb1
      rw [hd, hyd]
      simp only [Rows.uptoBulk, Rows.uptoBulkAll, lits]
      omega

theorem open_ops {H : Type} {enc : TypeId × Value → H} {W : World} {fuel : Nat} {a0 : Option Addr} {len cap : Nat} {d : DataW H} {pl : List MemPlace} (hb : Rows.uptoBulk d ≤ 1048576)
    (h : DataW.trod enc Try.prog W 0 (fun _ => true) true fuel 41 [.slice a0 len cap] = some (d, pl)) : ∃ (Bf : Nat → Bool) (Kf : Nat → Int) (Af : Nat → Option Addr) (Lf Cf : Nat → Nat) (Zf : Nat → List Int), len ≤ 1048576 ∧ IsOps W a0 len Bf Kf Af Lf Cf Zf ∧ tot Lf len ≤ 1048576 := by
  rcases open_slice Try.underlying41 h with ⟨hcs, _⟩ | ⟨a, l, c, m, n, D, Pl, hcs, _, hl, hm, hmm, hx, hel⟩
  · simp only [List.cons.injEq, and_true, Value.slice.injEq] at hcs
    obtain ⟨rfl, rfl, rfl⟩ := hcs
    exact ⟨fun _ => false, fun _ => 0, fun _ => none, fun _ => 0, fun _ => 0, fun _ => [], by omega, ⟨fun i hi => absurd hi (Nat.not_lt_zero i), fun i hi => absurd hi (Nat.not_lt_zero i), fun i hi => absurd hi (Nat.not_lt_zero i), fun i hi => absurd hi (Nat.not_lt_zero i), fun i hi => absurd hi (Nat.not_lt_zero i)⟩, Nat.zero_le _⟩
  · simp only [List.cons.injEq, and_true, Value.slice.injEq] at hcs
    obtain ⟨rfl, rfl, rfl⟩ := hcs
    simp only [if_true] at hmm
    subst hmm
    have e47 : Try.prog.cellsOf 47 = 3 := by kernel_rfl
    have hsp : 0 < len → a.spot = none := fun h0 => by
      obtain ⟨cs', h1, _⟩ := hel 0 (by omega)
      rw [e47] at h1
      obtain ⟨_, hl3, hcell⟩ := World.cells?_some h1
      have c0 := hcell 0 (by omega)
      rw [add_add, List.getElem?_eq_getElem (by omega)] at c0
      simpa [Addr.add] using World.cell?_spot c0
    obtain ⟨q, hq⟩ := choose_lt (α := Bool × Int × Option Addr × Nat × Nat × List Int) (n := len) (p := fun i q => IsQ W a i (D i) q) (fun i hi => by
      obtain ⟨cs', h1, h2⟩ := hel i (by omega)
      rw [e47] at h1
      exact open_op (hsp (by omega)) h1 h2)
    have hd := (Prod.mk.inj hx).1
    rw [hd] at hb
    simp only [Rows.uptoBulk] at hb
    have hb2 := bulk_len ((List.range len).map D)
    rw [List.length_map, List.length_range] at hb2
    have hb3 := tot_bulk (fun i => (q i).2.2.2.1) D len (fun i hi => (hq i hi).2.2.2.2.2)
    refine ⟨fun i => (q i).1, fun i => (q i).2.1, fun i => (q i).2.2.1, fun i => (q i).2.2.2.1, fun i => (q i).2.2.2.2.1, fun i => (q i).2.2.2.2.2, by omega, ⟨fun i hi => ?_, fun i hi => (hq i hi).2.1, fun i hi => (hq i hi).2.2.1, fun i hi => (hq i hi).2.2.2.1, fun i hi => (hq i hi).2.2.2.2.1⟩, by omega⟩
    obtain ⟨b, o, h1, h2⟩ := (hq i hi).1
    exact ⟨b, o, by rw [h1], h2⟩

set_option maxRecDepth 100000 in
theorem contract (H : Type) (enc : TypeId × Value → H) (W : World) (base : Nat) (args : Array Value) (ds gs : List (DataW H)) (before : List MemPlace)
    (hval : ∀ (j : Nat) t v, Try.f8.params[j]? = some t → args[j]? = some v → Value.okWide Try.prog W .any base t v)
    (hW : DataW.Whole enc Try.prog Try.f8.params.toList Rows.crcDigestsSpec.vars false W args.toList ds gs before) (hk : Rows.uptoSmall H (ds ++ gs) = true) :
    Calls Try.prog 8 args W fun e W' => ∃ v, e = .returned v ∧ Rows.crcDigestsSpec.post enc Try.prog Try.f8 false true false false W args v W' := by
  have hW' := hW
  obtain ⟨p, q, hA0, hV, rfl, hfz, hnd⟩ := hW
  have hA : DataW.TrodAll enc Try.prog W 0 (fun _ => true) true Try.f8.params.toList args.toList ds p := hA0
  rw [Try.params8] at hA hval
  obtain ⟨v0, vs0, d0, ds0, p0, q0, hargs, rfl, rfl, h0, r0⟩ := trodAll_cons hA
  obtain ⟨rfl, rfl, rfl⟩ := trodAll_nil r0
  obtain rfl : args = #[v0] := by cases args; simp_all
  obtain ⟨rfl, rfl⟩ := trodVars_none hV
  have hkb : Rows.uptoBulkAll ([d0] ++ []) ≤ 1048576 := of_decide_eq_true hk
  simp only [List.append_nil, Rows.uptoBulkAll] at hkb
  obtain ⟨a0, len0, cap0, rfl⟩ := okWide_slice Try.underlying41 (hval 0 41 v0 rfl rfl)
  have k0 := h0
  have lt0 : ∀ x ∈ p0, x.block < W.heap.size := by obtain ⟨m, hm⟩ := k0; exact DataW.trod_lt m _ _ _ hm
  obtain ⟨fuel, hf⟩ := h0
  obtain ⟨Bf, Kf, Af, Lf, Cf, Zf, hlen, hO, ht⟩ := open_ops (by omega) hf
  clear hA0
  refine (crcDigests_any a0 len0 cap0 Bf Kf Af Lf Cf Zf W hlen hO ht).mono fun e W' ⟨he, bel⟩ => ?_
  subst he
  exact ⟨_, rfl, _, _, _, [], _, [], hW', trodAll_mk1 (shut_bool Try.underlying4 _), (trodAll_cons_mk (Below.trod laidOut (by kernel_rfl) (of_decide_eq_true (by kernel_rfl)) k0 bel lt0) trodAll_mk0), rfl, bel.frame _, fun h => by cases h⟩

set_option maxRecDepth 100000 in
theorem lifted (os : Os) (started : os.Started) (H : Type) (enc : TypeId × Value → H) (F : Stop.Interp) :
    ReturnsInHanded {} Try.checked os 8 .any ((Rows.OpenSpec.upto Rows.crcDigestsSpec).pre6 enc Try.prog Try.f8 Rows.crcDigestsUptoRow.domain false) (((Rows.OpenSpec.upto Rows.crcDigestsSpec).at F).post enc Try.prog Try.f8 false true false false) := by
  refine returnsInHanded_of_cond (C := Try.checked) (s := Rows.OpenSpec.upto Rows.crcDigestsSpec) (k := Rows.uptoSmall) rfl own started (by kernel_rfl) Try.func8
    (OpenSpec.witness (enc := enc) (C := Try.checked) (s := Rows.OpenSpec.upto Rows.crcDigestsSpec) (k := Rows.uptoSmall) rfl false ⟨#[], #[.slice none 0 0], []⟩ 8 (by kernel_rfl) (by kernel_rfl) (by kernel_rfl)
      (x := ([.nil], [], [])) (by kernel_rfl) rfl (by kernel_rfl)) ?_
  intro W base args ds gs before hval hW _ hk _
  exact contract H enc W base args ds gs before hval hW hk

theorem over : Rows.CrcDigestsUptoSaid :=
  OpenClaim.holds_of_cond 8 Try.f8 rfl rfl rfl rfl rfl rfl rfl ⟨rfl, rfl, rfl, rfl, rfl⟩ rfl rfl rfl rfl rfl (by kernel_rfl) Try.func8 (by kernel_rfl)
    (of_decide_eq_true (by kernel_rfl)) (by unfold Func.isWrapper; first | (rw [if_pos (by decide +kernel)]; kernel_rfl) | (rw [if_neg (by decide +kernel)]; exact ⟨rfl, rfl⟩))
    (fun os started H enc _ F => lifted os started H enc F)

end Go.Proofs.Ytbjlpeophklmlaa.crcDigestsUpto

namespace Go.Proofs.Ytbjlpeophklmlaa
theorem crcDigestsUpto_holds : Rows.CrcDigestsUptoSaid := crcDigestsUpto.over
#print axioms crcDigestsUpto_holds
end Go.Proofs.Ytbjlpeophklmlaa
