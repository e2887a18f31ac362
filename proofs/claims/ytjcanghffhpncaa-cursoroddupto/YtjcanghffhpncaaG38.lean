/- What came in: what is asked. -/
import Derived.Test.YtjcanghffhpncaaG8
import Derived.Test.YtjcanghffhpncaaG33
import Derived.ChangeSame
import Derived.Test.YtjcanghffhpncaaG37
namespace Go.Proofs.Ytjcanghffhpncaa
open Go.ChangeShapes Go.WideShapes Go.ChangeAt Go.RowKit Go.Deep

def IsA {H : Type} (W : World) (a : Addr) (i : Nat) (_d : DataW H) (q : Int × Int) : Prop :=
  (∃ b o, a = ⟨b, o, none⟩ ∧ W.rangeAt b (o + i * 2) [.int .i64 q.1, .int .i64 q.2]) ∧ q.2 ≤ 9223372036854775807
theorem wf_top {x : Int} (h : (Lit.int .i64 x).wf = true) : x ≤ 9223372036854775807 := by
  unfold Lit.wf at h
  rw [Bool.and_eq_true] at h
  have h1 := of_decide_eq_true h.2
  have h2 : IntKind.i64.max = 9223372036854775807 := by decide
  rw [h2] at h1
  exact h1

set_option maxRecDepth 100000 in
theorem open_ask {H : Type} {enc : TypeId × Value → H} {W : World} {a : Addr} {i n : Nat} {cs : List Value} {d : DataW H} {pl : List MemPlace} (hsp : a.spot = none) (hc : W.cells? 0 (a.add (i * 2)) 2 = some cs)
    (h : DataW.trod enc Try.prog W 0 (fun _ => true) true n 65 cs = some (d, pl)) : ∃ q : Int × Int, IsA W a i d q := by
  obtain ⟨_, hlen, hcell⟩ := World.cells?_some hc
  obtain ⟨y0, y1, k, hx, _, g0, g1⟩ := trod_struct2 Try.underlying65 h
  match cs, hlen with
  | [v0, v1], _ =>
    have e3 : Try.prog.cellsOf 3 = 1 := by kernel_rfl
    simp only [e3, List.drop_zero, List.drop_succ_cons, List.take_succ_cons, List.take_zero] at g0 g1
    obtain ⟨kq, hk0, _, _⟩ := DataW.trod_int Try.underlying3 g0
    obtain ⟨nq, hn0, _, hwf⟩ := DataW.trod_int Try.underlying3 g1
    simp only [List.cons.injEq, and_true] at hk0 hn0
    subst hk0
    subst hn0
    have c0 := hcell 0 (by omega)
    have c1 := hcell 1 (by omega)
    rw [add_add] at c0 c1
    obtain ⟨b, o, sp⟩ := a
    obtain rfl : sp = none := hsp
    rw [Addr.add_lit] at c0 c1
    refine ⟨(kq, nq), ⟨b, o, rfl, fun j v hv => ?_⟩, wf_top hwf⟩
    match j, hv with
    | 0, hv => rw [Nat.add_assoc, c0]; exact hv
    | 1, hv => rw [Nat.add_assoc, c1]; exact hv

set_option maxRecDepth 100000 in
theorem open_asks {H : Type} {enc : TypeId × Value → H} {W : World} {fuel : Nat} {a0 : Option Addr} {len cap : Nat} {y : DataW H × List MemPlace}
    (h : DataW.trod enc Try.prog W 0 (fun _ => true) true fuel 55 [.slice a0 len cap] = some y) : ∃ (Kf Nf : Nat → Int), IsAsks W a0 len Kf Nf ∧ Sz Try.prog 55 y.1 len 16 := by
  rcases open_slice Try.underlying55 h with ⟨hcs, _⟩ | ⟨a, l, c, m, n, D, Pl, hcs, _, hl, hm, hmm, hx, hel⟩
  · simp only [List.cons.injEq, and_true, Value.slice.injEq] at hcs
    obtain ⟨rfl, rfl, rfl⟩ := hcs
    exact ⟨fun _ => 0, fun _ => 0, ⟨fun i hi => absurd hi (Nat.not_lt_zero i), fun i hi => absurd hi (Nat.not_lt_zero i)⟩, fun L _ => by simp, Nat.zero_le _⟩
  · simp only [List.cons.injEq, and_true, Value.slice.injEq] at hcs
    obtain ⟨rfl, rfl, rfl⟩ := hcs
    simp only [if_true] at hmm
    subst hmm
    have e47 : Try.prog.cellsOf 65 = 2 := by kernel_rfl
    have hsp : 0 < len → a.spot = none := fun h0 => by
      obtain ⟨cs', h1, _⟩ := hel 0 (by omega)
      rw [e47] at h1
      obtain ⟨_, hl3, hcell⟩ := World.cells?_some h1
      have c0 := hcell 0 (by omega)
      rw [add_add, List.getElem?_eq_getElem (by omega)] at c0
      simpa [Addr.add] using World.cell?_spot c0
    obtain ⟨q, hq⟩ := choose_lt (α := Int × Int) (n := len) (p := fun i q => IsA W a i (D i) q) (fun i hi => by
      obtain ⟨cs', h1, h2⟩ := hel i (by omega)
      rw [e47] at h1
      exact open_ask (hsp (by omega)) h1 h2)
    refine ⟨fun i => (q i).1, fun i => (q i).2, ⟨fun i hi => ?_, fun i hi => (hq i hi).2⟩, fun L hL => ?_, ?_⟩
    · obtain ⟨b, o, h1, h2⟩ := (hq i hi).1
      exact ⟨b, o, by rw [h1], h2⟩
    · rw [hx] at hL
      simp only [DataW.weights, Try.underlying55, List.all_cons, Bool.and_eq_true, decide_eq_true_eq, List.length_map, List.length_range] at hL
      rw [show Try.prog.bytesOf 65 = 16 from by kernel_rfl] at hL
      refine Nat.le_trans (Nat.mul_le_mul_right _ ?_) hL.1
      omega
    · rw [hx]
      have hb2 := bulk_len ((List.range len).map D)
      rw [List.length_map, List.length_range] at hb2
      simp only [Rows.uptoBulk]
      omega

end Go.Proofs.Ytjcanghffhpncaa

namespace Go.Proofs.Ytjcanghffhpncaa
open Go.ChangeShapes Go.WideShapes Go.ChangeAt Go.RowKit Go.Deep

theorem slice_form {H : Type} {enc : TypeId × Value → H} {P : Program} {W : World} {fuel : Nat} {t e : TypeId} {v : Value} {y : DataW H × List MemPlace} (ht : P.underlying t = some (.slice e)) (h : DataW.trod enc P W 0 (fun _ => true) true fuel t [v] = some y) : ∃ a l c, v = .slice a l c := by
  rcases open_slice ht h with ⟨hcs, _⟩ | ⟨a, l, c, m, n, D, Pl, hcs, _⟩
  · simp only [List.cons.injEq, and_true] at hcs
    exact ⟨_, _, _, hcs⟩
  · simp only [List.cons.injEq, and_true] at hcs
    exact ⟨_, _, _, hcs⟩

set_option maxRecDepth 100000 in
theorem open_codd {H : Type} {enc : TypeId × Value → H} {W : World} {fuel : Nat} {cs : List Value} {d : DataW H} {pl : List MemPlace} (hb : Rows.uptoBulk d ≤ 1048576) (h : DataW.trod enc Try.prog W 0 (fun _ => true) true fuel 80 cs = some (d, pl)) :
    ∃ an ln cn ns ae le ce es as' ls c2 Kf Nf al ll c3 Kl Af Lf Cf Zf, cs = [.slice an ln cn, .slice ae le ce, .slice as' ls c2, .slice al ll c3] ∧ InRow W .i64 an ln cn ns ∧ InRow W .i64 ae le ce es ∧ ln ≤ 1048576 ∧ IsAsks W as' ls Kf Nf ∧ ls ≤ 1048576 ∧ ll ≤ 1048576 ∧ IsLays W al ll Kl Af Lf Cf Zf ∧ tot Lf ll ≤ 1048576 := by
  obtain ⟨y0, y1, y2, y3, n, hx, hlen, g0, g1, g2, g3⟩ := trod_struct4 Try.underlying80 h
  have e0 : Try.prog.cellsOf 24 = 1 := by kernel_rfl
  have e1 : Try.prog.cellsOf 57 = 1 := by kernel_rfl
  have e2 : Try.prog.cellsOf 55 = 1 := by kernel_rfl
  have e3 : Try.prog.cellsOf 67 = 1 := by kernel_rfl
  have e4 : Try.prog.cellsOf 80 = 4 := by kernel_rfl
  rw [e4] at hlen
  simp only at hx
  rw [hx] at hb
  simp only [Rows.uptoBulk, Rows.uptoBulkAll] at hb
  match cs, hlen with
  | [v0, v1, v2, v3], _ =>
    simp only [e0, e1, e2, e3, List.drop_zero, List.drop_succ_cons, List.take_succ_cons, List.take_zero] at g0 g1 g2 g3
    obtain ⟨an, ln, cn, ns, rfl, hn, sn⟩ := in_row Try.underlying24 Try.underlying3 (by kernel_rfl) g0
    obtain ⟨ae, le, ce, es, rfl, he, se⟩ := in_row Try.underlying57 Try.underlying36 (by kernel_rfl) g1
    obtain ⟨as', ls, c2, rfl⟩ := slice_form Try.underlying55 g2
    obtain ⟨al, ll, c3, rfl⟩ := slice_form Try.underlying67 g3
    obtain ⟨Kf, Nf, hA, sA⟩ := open_asks g2
    obtain ⟨d3, p3⟩ := y3
    simp only at hb
    obtain ⟨Kl, Af, Lf, Cf, Zf, h1, h2, h3⟩ := open_lays (by omega) g3
    have s0 := sn.2
    have s2 := sA.2
    exact ⟨an, ln, cn, ns, ae, le, ce, es, as', ls, c2, Kf, Nf, al, ll, c3, Kl, Af, Lf, Cf, Zf, rfl, hn, he, by omega, hA, by omega, h1, h2, h3⟩

end Go.Proofs.Ytjcanghffhpncaa
