/- What came in: items, how a sink takes and a source gives (the Upto form). -/
import Derived.Test.YteindoemdonagaaG36
import Derived.Test.YteindoemdonagaaG35
namespace Go.Proofs.Yteindoemdonagaa
open Go.ChangeShapes Go.WideShapes Go.ChangeAt Go.RowKit Go.Deep

theorem trod_struct6T {H : Type} {enc : TypeId × Value → H} {P : Program} {w : World} {base : Nat} {spare : Nat → Bool} {held : Bool} {t : TypeId} {f0 f1 f2 f3 f4 f5 : Field} {fuel : Nat} {cs : List Value} {x : DataW H × List MemPlace} (ht : P.underlying t = some (.struct #[f0, f1, f2, f3, f4, f5])) (h : DataW.trod enc P w base spare held fuel t cs = some x) :
    ∃ y0 y1 y2 y3 y4 y5 n, x.1 = .agg [y0.1, y1.1, y2.1, y3.1, y4.1, y5.1] ∧ cs.length = P.cellsOf t ∧ DataW.trod enc P w base spare held n f0.type ((cs.drop f0.offset).take (P.cellsOf f0.type)) = some y0 ∧
      DataW.trod enc P w base spare held n f1.type ((cs.drop f1.offset).take (P.cellsOf f1.type)) = some y1 ∧ DataW.trod enc P w base spare held n f2.type ((cs.drop f2.offset).take (P.cellsOf f2.type)) = some y2 ∧ DataW.trod enc P w base spare held n f3.type ((cs.drop f3.offset).take (P.cellsOf f3.type)) = some y3 ∧ DataW.trod enc P w base spare held n f4.type ((cs.drop f4.offset).take (P.cellsOf f4.type)) = some y4 ∧ DataW.trod enc P w base spare held n f5.type ((cs.drop f5.offset).take (P.cellsOf f5.type)) = some y5 := by
  obtain ⟨xs, n, _, rfl, hl, hlen, hf⟩ := DataW.trod_struct ht h
  match xs, hlen with
  | [y0, y1, y2, y3, y4, y5], _ => exact ⟨y0, y1, y2, y3, y4, y5, n, by simp, hl, by simpa using hf 0 f0 rfl, by simpa using hf 1 f1 rfl, by simpa using hf 2 f2 rfl, by simpa using hf 3 f3 rfl, by simpa using hf 4 f4 rfl, by simpa using hf 5 f5 rfl⟩

/-- What one item holds. -/
def IsItm {H : Type} (W : World) (a : Addr) (i : Nat) (d : DataW H) (q : Bool × Nat × Option Addr × Nat × Nat × List Int) : Prop :=
  (∃ b o, a = ⟨b, o, none⟩ ∧ W.rangeAt b (o + i * 3) [.bool q.1, .int .u64 (q.2.1 : Int), .slice q.2.2.1 q.2.2.2.1 q.2.2.2.2.1]) ∧ (q.2.2.1 = none → q.2.2.2.1 = 0 ∧ q.2.2.2.2.1 = 0) ∧ q.2.2.2.2.2.length = q.2.2.2.1 ∧ Row W .u8 q.2.2.1 q.2.2.2.2.2 ∧ B8 q.2.2.2.2.2 ∧ q.2.2.2.1 ≤ Rows.uptoBulk d ∧ q.2.1 ≤ 18446744073709551615

set_option maxRecDepth 100000 in
theorem open_item {H : Type} {enc : TypeId × Value → H} {W : World} {a : Addr} {i n : Nat} {cs : List Value} {d : DataW H} {pl : List MemPlace} (hsp : a.spot = none) (hc : W.cells? 0 (a.add (i * 3)) 3 = some cs)
    (h : DataW.trod enc Try.prog W 0 (fun _ => true) true n 34 cs = some (d, pl)) : ∃ q : Bool × Nat × Option Addr × Nat × Nat × List Int, IsItm W a i d q := by
  obtain ⟨_, hlen, hcell⟩ := World.cells?_some hc
  obtain ⟨y0, y1, y2, k, hx, _, g0, g1, g2⟩ := trod_struct3 Try.underlying34 h
  match cs, hlen with
  | [v0, v1, v2], _ =>
    have e3 : Try.prog.cellsOf 4 = 1 := by kernel_rfl
    have e4 : Try.prog.cellsOf 31 = 1 := by kernel_rfl
    have e23 : Try.prog.cellsOf 32 = 1 := by kernel_rfl
    simp only [e3, e4, e23, List.drop_zero, List.drop_succ_cons, List.take_succ_cons, List.take_zero] at g0 g1 g2
    obtain ⟨bq, hb0, _⟩ := DataW.trod_bool Try.underlying4 g0
    obtain ⟨kz, hk0, _, hwf⟩ := DataW.trod_int Try.underlying31 g1
    simp only [List.cons.injEq, and_true] at hk0 hb0
    subst hk0
    subst hb0
    have hbd := bounds_u64 hwf
    obtain ⟨kq, rfl⟩ : ∃ kq : Nat, kz = (kq : Int) := ⟨kz.toNat, by omega⟩
    have c0 := hcell 0 (by omega)
    have c1 := hcell 1 (by omega)
    have c2 := hcell 2 (by omega)
    rw [add_add] at c0 c1 c2
    obtain ⟨b, o, sp⟩ := a
    obtain rfl : sp = none := hsp
    rw [Addr.add_lit] at c0 c1 c2
    have hd : d = .agg [y0.1, y1.1, y2.1] := (Prod.mk.inj hx).1
    have hr : W.rangeAt b (o + i * 3) [.bool bq, .int .u64 (kq : Int), v2] := fun j v hv => by
      match j, hv with
      | 0, hv => rw [Nat.add_assoc, c0]; exact hv
      | 1, hv => rw [Nat.add_assoc, c1]; exact hv
      | 2, hv => rw [Nat.add_assoc, c2]; exact hv
    rcases open_ints Try.underlying32 Try.underlying5 (by kernel_rfl) g2 with ⟨hcs, hy⟩ | ⟨x, l, c, zs, hcs, _, hl, hm, hz, hy, hcl, hwz⟩
    · simp only [List.cons.injEq, and_true] at hcs
      subst hcs
      exact ⟨(bq, kq, none, 0, 0, []), ⟨b, o, rfl, hr⟩, fun _ => ⟨rfl, rfl⟩, rfl, row_nil _ _ _, B8.nil, Nat.zero_le _, by simp only; omega⟩
    · simp only [List.cons.injEq, and_true] at hcs
      subst hcs
      simp only [if_true] at hz
      have hrt := row_take hl hz hcl
      refine ⟨(bq, kq, some x, l, c, zs.take l), ⟨b, o, rfl, hr⟩, (fun h => by cases h), hrt.1, hrt.2, b8_take l hwz, ?_, by simp only; omega⟩
      have hyd : y2.1 = .slice (lits .u8 (zs.take l)) (lits .u8 (zs.drop l)) := by rw [hy]
      have hb1 := bulk_lenL (H := H) (lits .u8 (zs.take l))
      simp only [lits, List.length_map, hrt.1] at hb1
      rw [hd, hyd]
      simp only [Rows.uptoBulk, Rows.uptoBulkAll, lits]
      omega

set_option maxRecDepth 100000 in
theorem open_items {H : Type} {enc : TypeId × Value → H} {W : World} {fuel : Nat} {v : Value} {d : DataW H} {pl : List MemPlace} (hb : Rows.uptoBulk d ≤ 1048576)
    (h : DataW.trod enc Try.prog W 0 (fun _ => true) true fuel 22 [v] = some (d, pl)) : ∃ (a0 : Option Addr) (len cap : Nat) (Rf : Nat → Bool) (Nf : Nat → Nat) (Af : Nat → Option Addr) (Lf Cf : Nat → Nat) (Zf : Nat → List Int), v = .slice a0 len cap ∧ len ≤ 1048576 ∧ IsItems W a0 len Rf Nf Af Lf Cf Zf ∧ tot Lf len ≤ 1048576 := by
  rcases open_slice Try.underlying22 h with ⟨hcs, _⟩ | ⟨a, len, cap, m, n, D, Pl, hcs, _, hl, hm, hmm, hx, hel⟩
  · simp only [List.cons.injEq, and_true] at hcs
    exact ⟨none, 0, 0, fun _ => false, fun _ => 0, fun _ => none, fun _ => 0, fun _ => 0, fun _ => [], hcs, by omega, ⟨fun i hi => absurd hi (Nat.not_lt_zero i), fun i hi => absurd hi (Nat.not_lt_zero i), fun i hi => absurd hi (Nat.not_lt_zero i), fun i hi => absurd hi (Nat.not_lt_zero i), fun i hi => absurd hi (Nat.not_lt_zero i), fun i hi => absurd hi (Nat.not_lt_zero i)⟩, Nat.zero_le _⟩
  · simp only [List.cons.injEq, and_true] at hcs
    simp only [if_true] at hmm
    subst hmm
    have e47 : Try.prog.cellsOf 34 = 3 := by kernel_rfl
    have hsp : 0 < len → a.spot = none := fun h0 => by
      obtain ⟨cs', h1, _⟩ := hel 0 (by omega)
      rw [e47] at h1
      obtain ⟨_, hl3, hcell⟩ := World.cells?_some h1
      have c0 := hcell 0 (by omega)
      rw [add_add, List.getElem?_eq_getElem (by omega)] at c0
      simpa [Addr.add] using World.cell?_spot c0
    obtain ⟨q, hq⟩ := choose_lt (α := Bool × Nat × Option Addr × Nat × Nat × List Int) (n := len) (p := fun i q => IsItm W a i (D i) q) (fun i hi => by
      obtain ⟨cs', h1, h2⟩ := hel i (by omega)
      rw [e47] at h1
      exact open_item (hsp (by omega)) h1 h2)
    have hd := (Prod.mk.inj hx).1
    rw [hd] at hb
    simp only [Rows.uptoBulk] at hb
    have hb2 := bulk_lenL ((List.range len).map D)
    rw [List.length_map, List.length_range] at hb2
    have hb3 := tot_bulkL (fun i => (q i).2.2.2.1) D len (fun i hi => (hq i hi).2.2.2.2.2.1)
    refine ⟨some a, len, _, fun i => (q i).1, fun i => (q i).2.1, fun i => (q i).2.2.1, fun i => (q i).2.2.2.1, fun i => (q i).2.2.2.2.1, fun i => (q i).2.2.2.2.2, hcs, by omega, ⟨fun i hi => ?_, fun i hi => (hq i hi).2.2.2.2.2.2, fun i hi => (hq i hi).2.1, fun i hi => (hq i hi).2.2.1, fun i hi => (hq i hi).2.2.2.1, fun i hi => (hq i hi).2.2.2.2.1⟩, by omega⟩
    obtain ⟨b, o, h1, h2⟩ := (hq i hi).1
    exact ⟨b, o, by rw [h1], h2⟩

set_option maxRecDepth 100000 in
theorem open_trip4 {H : Type} {enc : TypeId × Value → H} {W : World} {fuel : Nat} {cs : List Value} {d : DataW H} {pl : List MemPlace} (hb : Rows.uptoBulk d ≤ 1048576) (h : DataW.trod enc Try.prog W 0 (fun _ => true) true fuel 25 cs = some (d, pl)) :
    ∃ al ll cl Rf Nf Af Lf Cf Zf at' lt ct ts fail ag lg cg gs brk eager, cs = [.slice al ll cl, .slice at' lt ct, .int .i64 fail, .slice ag lg cg, .int .i64 brk, .bool eager] ∧ ll ≤ 1048576 ∧ IsItems W al ll Rf Nf Af Lf Cf Zf ∧ tot Lf ll ≤ 1048576 ∧ InRow W .i64 at' lt ct ts ∧ lt ≤ 1048576 ∧ InRow W .i64 ag lg cg gs ∧ lg ≤ 1048576 := by
  obtain ⟨y0, y1, y2, y3, y4, y5, n, hx, hlen, g0, g1, g2, g3, g4, g5⟩ := trod_struct6T Try.underlying25 h
  have e0 : Try.prog.cellsOf 22 = 1 := by kernel_rfl
  have e1 : Try.prog.cellsOf 23 = 1 := by kernel_rfl
  have e2 : Try.prog.cellsOf 3 = 1 := by kernel_rfl
  have e3 : Try.prog.cellsOf 4 = 1 := by kernel_rfl
  have e4 : Try.prog.cellsOf 25 = 6 := by kernel_rfl
  rw [e4] at hlen
  simp only at hx
  rw [hx] at hb
  simp only [Rows.uptoBulk, Rows.uptoBulkAll] at hb
  match cs, hlen with
  | [v0, v1, v2, v3, v4, v5], _ =>
    simp only [e0, e1, e2, e3, List.drop_zero, List.drop_succ_cons, List.take_succ_cons, List.take_zero] at g0 g1 g2 g3 g4 g5
    obtain ⟨d0, p0⟩ := y0
    simp only at hb
    obtain ⟨al, ll, cl, Rf, Nf, Af, Lf, Cf, Zf, rfl, h1, h2, h3⟩ := open_items (by omega) g0
    obtain ⟨at', lt, ct, ts, rfl, ht, st⟩ := in_row Try.underlying23 Try.underlying3 (by kernel_rfl) g1
    obtain ⟨fail, hk0, _, _⟩ := DataW.trod_int Try.underlying3 g2
    obtain ⟨ag, lg, cg, gs, rfl, hg, sg⟩ := in_row Try.underlying23 Try.underlying3 (by kernel_rfl) g3
    obtain ⟨brk, hk1, _, _⟩ := DataW.trod_int Try.underlying3 g4
    obtain ⟨eager, hb0, _⟩ := DataW.trod_bool Try.underlying4 g5
    simp only [List.cons.injEq, and_true] at hk0 hk1 hb0
    subst hk0
    subst hk1
    subst hb0
    have s1 := st.2
    have s3 := sg.2
    exact ⟨al, ll, cl, Rf, Nf, Af, Lf, Cf, Zf, at', lt, ct, ts, fail, ag, lg, cg, gs, brk, eager, rfl, h1, h2, h3, ht, by omega, hg, by omega⟩

end Go.Proofs.Yteindoemdonagaa
