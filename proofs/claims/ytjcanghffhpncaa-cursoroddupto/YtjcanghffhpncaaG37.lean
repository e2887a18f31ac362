/- What came in: what is told to an Out (the Upto form). -/
import Derived.Test.YtjcanghffhpncaaG8
import Derived.Test.YtjcanghffhpncaaG34
import Derived.Test.YtjcanghffhpncaaRows
import Derived.WalkKit
import Derived.ProofKit
import Derived.OpenShut
import Derived.Below
import Derived.Deep.Grids
import Derived.Deep.Strs
namespace Go.Proofs.Ytjcanghffhpncaa
open Go.ChangeShapes Go.WideShapes Go.ChangeAt Go.RowKit Go.Deep

theorem bulk_oneL {H : Type} (d : DataW H) : 1 ≤ Rows.uptoBulk d := by
  cases d with
  | lit l => cases l <;> simp [Rows.uptoBulk]
  | nil => simp [Rows.uptoBulk]
  | ptr d => simp [Rows.uptoBulk]
  | slice elems spare => simp [Rows.uptoBulk]
  | agg parts => simp [Rows.uptoBulk]
  | iface t d => simp [Rows.uptoBulk]
  | map entries => simp [Rows.uptoBulk]
  | held h => simp [Rows.uptoBulk]
theorem bulk_lenL {H : Type} : ∀ l : List (DataW H), l.length ≤ Rows.uptoBulkAll l
  | [] => by simp
  | x :: r => by have := bulk_oneL x; have := bulk_lenL r; simp only [Rows.uptoBulkAll, List.length_cons]; omega
theorem bulk_appendL {H : Type} : ∀ l r : List (DataW H), Rows.uptoBulkAll (l ++ r) = Rows.uptoBulkAll l + Rows.uptoBulkAll r
  | [], r => by simp [Rows.uptoBulkAll]
  | x :: l, r => by
    have := bulk_appendL l r
    simp only [List.cons_append, Rows.uptoBulkAll]
    omega
theorem tot_bulkL {H : Type} (Lf : Nat → Nat) (D : Nat → DataW H) : ∀ n, (∀ i, i < n → Lf i ≤ Rows.uptoBulk (D i)) → tot Lf n ≤ Rows.uptoBulkAll ((List.range n).map D)
  | 0, _ => Nat.zero_le _
  | n + 1, h => by
    have h1 := tot_bulkL Lf D n (fun i hi => h i (by omega))
    have h2 := h n (by omega)
    rw [List.range_succ, List.map_append, bulk_appendL]
    simp only [tot, List.map_cons, List.map_nil, Rows.uptoBulkAll]
    omega

/-- What one step of a script holds. -/
def IsY {H : Type} (W : World) (a : Addr) (i : Nat) (d : DataW H) (q : Int × Option Addr × Nat × Nat × List Int) : Prop :=
  (∃ b o, a = ⟨b, o, none⟩ ∧ W.rangeAt b (o + i * 2) [.int .i64 q.1, .slice q.2.1 q.2.2.1 q.2.2.2.1]) ∧ (q.2.1 = none → q.2.2.1 = 0 ∧ q.2.2.2.1 = 0) ∧ q.2.2.2.2.length = q.2.2.1 ∧ Row W .u8 q.2.1 q.2.2.2.2 ∧ B8 q.2.2.2.2 ∧ q.2.2.1 ≤ Rows.uptoBulk d

set_option maxRecDepth 100000 in
theorem open_lay {H : Type} {enc : TypeId × Value → H} {W : World} {a : Addr} {i n : Nat} {cs : List Value} {d : DataW H} {pl : List MemPlace} (hsp : a.spot = none) (hc : W.cells? 0 (a.add (i * 2)) 2 = some cs)
    (h : DataW.trod enc Try.prog W 0 (fun _ => true) true n 76 cs = some (d, pl)) : ∃ q : Int × Option Addr × Nat × Nat × List Int, IsY W a i d q := by
  obtain ⟨_, hlen, hcell⟩ := World.cells?_some hc
  obtain ⟨y0, y1, k, hx, _, g0, g1⟩ := trod_struct2 Try.underlying76 h
  match cs, hlen with
  | [v0, v1], _ =>
    have e3 : Try.prog.cellsOf 3 = 1 := by kernel_rfl
    have e23 : Try.prog.cellsOf 23 = 1 := by kernel_rfl
    simp only [e3, e23, List.drop_zero, List.drop_succ_cons, List.take_succ_cons, List.take_zero] at g0 g1
    obtain ⟨kq, hk0, _, _⟩ := DataW.trod_int Try.underlying3 g0
    simp only [List.cons.injEq, and_true] at hk0
    subst hk0
    have c0 := hcell 0 (by omega)
    have c1 := hcell 1 (by omega)
    rw [add_add] at c0 c1
    obtain ⟨b, o, sp⟩ := a
    obtain rfl : sp = none := hsp
    rw [Addr.add_lit] at c0 c1
    have hd : d = .agg [y0.1, y1.1] := (Prod.mk.inj hx).1
    have hr : W.rangeAt b (o + i * 2) [.int .i64 kq, v1] := fun j v hv => by
      match j, hv with
      | 0, hv => rw [Nat.add_assoc, c0]; exact hv
      | 1, hv => rw [Nat.add_assoc, c1]; exact hv
    rcases open_ints Try.underlying23 Try.underlying5 (by kernel_rfl) g1 with ⟨hcs, hy⟩ | ⟨x, l, c, zs, hcs, _, hl, hm, hz, hy, hcl, hwz⟩
    · simp only [List.cons.injEq, and_true] at hcs
      subst hcs
      exact ⟨(kq, none, 0, 0, []), ⟨b, o, rfl, hr⟩, fun _ => ⟨rfl, rfl⟩, rfl, row_nil _ _ _, B8.nil, Nat.zero_le _⟩
    · simp only [List.cons.injEq, and_true] at hcs
      subst hcs
      simp only [if_true] at hz
      have hrt := row_take hl hz hcl
      refine ⟨(kq, some x, l, c, zs.take l), ⟨b, o, rfl, hr⟩, (fun h => by cases h), hrt.1, hrt.2, b8_take l hwz, ?_⟩
      have hyd : y1.1 = .slice (lits .u8 (zs.take l)) (lits .u8 (zs.drop l)) := by rw [hy]
      have hb1 := bulk_lenL (H := H) (lits .u8 (zs.take l))
      simp only [lits, List.length_map, hrt.1] at hb1
      rw [hd, hyd]
      simp only [Rows.uptoBulk, Rows.uptoBulkAll, lits]
      omega

set_option maxRecDepth 100000 in
theorem open_lays {H : Type} {enc : TypeId × Value → H} {W : World} {fuel : Nat} {a0 : Option Addr} {len cap : Nat} {d : DataW H} {pl : List MemPlace} (hb : Rows.uptoBulk d ≤ 1048576)
    (h : DataW.trod enc Try.prog W 0 (fun _ => true) true fuel 67 [.slice a0 len cap] = some (d, pl)) : ∃ (Kf : Nat → Int) (Af : Nat → Option Addr) (Lf Cf : Nat → Nat) (Zf : Nat → List Int), len ≤ 1048576 ∧ IsLays W a0 len Kf Af Lf Cf Zf ∧ tot Lf len ≤ 1048576 := by
  rcases open_slice Try.underlying67 h with ⟨hcs, _⟩ | ⟨a, l, c, m, n, D, Pl, hcs, _, hl, hm, hmm, hx, hel⟩
  · simp only [List.cons.injEq, and_true, Value.slice.injEq] at hcs
    obtain ⟨rfl, rfl, rfl⟩ := hcs
    exact ⟨fun _ => 0, fun _ => none, fun _ => 0, fun _ => 0, fun _ => [], by omega, ⟨fun i hi => absurd hi (Nat.not_lt_zero i), fun i hi => absurd hi (Nat.not_lt_zero i), fun i hi => absurd hi (Nat.not_lt_zero i), fun i hi => absurd hi (Nat.not_lt_zero i)⟩, Nat.zero_le _⟩
  · simp only [List.cons.injEq, and_true, Value.slice.injEq] at hcs
    obtain ⟨rfl, rfl, rfl⟩ := hcs
    simp only [if_true] at hmm
    subst hmm
    have e47 : Try.prog.cellsOf 76 = 2 := by kernel_rfl
    have hsp : 0 < len → a.spot = none := fun h0 => by
      obtain ⟨cs', h1, _⟩ := hel 0 (by omega)
      rw [e47] at h1
      obtain ⟨_, hl3, hcell⟩ := World.cells?_some h1
      have c0 := hcell 0 (by omega)
      rw [add_add, List.getElem?_eq_getElem (by omega)] at c0
      simpa [Addr.add] using World.cell?_spot c0
    obtain ⟨q, hq⟩ := choose_lt (α := Int × Option Addr × Nat × Nat × List Int) (n := len) (p := fun i q => IsY W a i (D i) q) (fun i hi => by
      obtain ⟨cs', h1, h2⟩ := hel i (by omega)
      rw [e47] at h1
      exact open_lay (hsp (by omega)) h1 h2)
    have hd := (Prod.mk.inj hx).1
    rw [hd] at hb
    simp only [Rows.uptoBulk] at hb
    have hb2 := bulk_lenL ((List.range len).map D)
    rw [List.length_map, List.length_range] at hb2
    have hb3 := tot_bulkL (fun i => (q i).2.2.1) D len (fun i hi => (hq i hi).2.2.2.2.2)
    refine ⟨fun i => (q i).1, fun i => (q i).2.1, fun i => (q i).2.2.1, fun i => (q i).2.2.2.1, fun i => (q i).2.2.2.2, by omega, ⟨fun i hi => ?_, fun i hi => (hq i hi).2.1, fun i hi => (hq i hi).2.2.1, fun i hi => (hq i hi).2.2.2.1⟩, by omega⟩
    obtain ⟨b, o, h1, h2⟩ := (hq i hi).1
    exact ⟨b, o, by rw [h1], h2⟩

end Go.Proofs.Ytjcanghffhpncaa
