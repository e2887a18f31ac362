/- Texts of one's own. -/
import Derived.Test.YtggaipeojncipaaGreatG45
import Derived.Test.YtggaipeojncipaaGreatG50
namespace Go.Proofs.YtggaipeojncipaaGreat
open Go.ChangeShapes Go.WideShapes Go.ChangeAt Go.RowKit Go.Deep
set_option maxRecDepth 100000
theorem open_uopU {H : Type} {enc : TypeId × Value → H} {W : World} {fuel : Nat} {cs : List Value} {y : DataW H × List MemPlace} (hwt : Rows.uptoBulk y.1 ≤ 1048576) (h : DataW.trod enc Tryz.prog W 0 (fun _ => true) true fuel 32 cs = some y) :
  ∃ o : UOp, cs = o.cs ∧ o.Ok W := by
 obtain ⟨y0, y1, y2, y3, y4, y5, n, hx1, hlen, g0, g1, g2, g3, g4, g5⟩ := trod_struct6 Tryz.underlying32 h
 have e1 : Tryz.prog.cellsOf 3 = 1 := by kernel_rfl
 have e2 : Tryz.prog.cellsOf 30 = 1 := by kernel_rfl
 have e4 : Tryz.prog.cellsOf 32 = 6 := by kernel_rfl
 rw [e4] at hlen
 rw [hx1] at hwt
 simp only [Rows.uptoBulk, Rows.uptoBulkAll] at hwt
 match cs, hlen with
 | [v0, v1, v2, v3, v4, v5], _ =>
  simp only [e1, e2, List.drop_zero, List.drop_succ_cons, List.take_succ_cons, List.take_zero] at g0 g1 g2 g3 g4 g5
  obtain ⟨kd, h0, _, b0⟩ := DataW.trod_int Tryz.underlying3 g0
  obtain ⟨ra, h1, _, b1⟩ := DataW.trod_int Tryz.underlying3 g1
  obtain ⟨rb, h2, _, b2⟩ := DataW.trod_int Tryz.underlying3 g2
  obtain ⟨k1, h3, o1⟩ := open_txU (by omega) g3
  obtain ⟨k2, h4, o2⟩ := open_txU (by omega) g4
  obtain ⟨k3, h5, o3⟩ := open_txU (by omega) g5
  simp only [List.cons.injEq, and_true] at h0 h1 h2
  refine ⟨⟨kd, ra, rb, k1, k2, k3⟩, ?_, ⟨bounds_i64 b1, bounds_i64 b2, o1, o2⟩⟩
  rw [h0, h1, h2, h3, h4, h5]
  rfl
theorem cfgI_of {H : Type} {enc : TypeId × Value → H} {W : World} {fuel : Nat} {a b c d e : Int} {y : DataW H × List MemPlace} (h : DataW.trod enc Tryz.prog W 0 (fun _ => true) true fuel 23 [.int .i64 a, .int .i64 b, .int .i64 c, .int .i64 d, .int .i64 e] = some y) : CfgI ⟨a, b, c, d, e⟩ := by
 obtain ⟨y0, y1, y2, y3, y4, n, hx1, hlen, g0, g1, g2, g3, g4⟩ := trod_struct5N Tryz.underlying23 h
 have e1 : Tryz.prog.cellsOf 3 = 1 := by kernel_rfl
 simp only [e1, List.drop_zero, List.drop_succ_cons, List.take_succ_cons, List.take_zero] at g0 g1 g2 g3 g4
 obtain ⟨a', ha, _, b0⟩ := DataW.trod_int Tryz.underlying3 g0
 obtain ⟨b', hb, _, b1⟩ := DataW.trod_int Tryz.underlying3 g1
 obtain ⟨c', hc, _, b2⟩ := DataW.trod_int Tryz.underlying3 g2
 obtain ⟨d', hd, _, b3⟩ := DataW.trod_int Tryz.underlying3 g3
 obtain ⟨e', he, _, b4⟩ := DataW.trod_int Tryz.underlying3 g4
 simp only [List.cons.injEq, Value.int.injEq, true_and, and_true] at ha hb hc hd he
 subst ha hb hc hd he
 intro x hx
 simp only [List.mem_cons, List.not_mem_nil, or_false] at hx
 rcases hx with rfl | rfl | rfl | rfl | rfl
 ·exact bounds_i64 b0
 ·exact bounds_i64 b1
 ·exact bounds_i64 b2
 ·exact bounds_i64 b3
 ·exact bounds_i64 b4
instance : Inhabited UOp := ⟨⟨0, 0, 0, ⟨none, 0, []⟩, ⟨none, 0, []⟩, ⟨none, 0, []⟩⟩⟩
theorem open_uopsU {H : Type} {enc : TypeId × Value → H} {W : World} {fuel : Nat} {v : Value} {y : DataW H × List MemPlace} (hwt : Rows.uptoBulk y.1 ≤ 1048576)
  (h : DataW.trod enc Tryz.prog W 0 (fun _ => true) true fuel 24 [v] = some y) : ∃ a len cap, v = .slice a len cap ∧ ∃ L : List UOp, L.length = len ∧ UOps W a L ∧ len ≤ 1048576 := by
 rcases open_slice Tryz.underlying24 h with ⟨hcs, _⟩ | ⟨a, l, c, m, n, D, Pl, hcs, _, hl, hm, hmm, hx, hel⟩
 ·simp only [List.cons.injEq, and_true] at hcs
  exact ⟨none, 0, 0, hcs, [], rfl, ⟨fun i hi => absurd hi (Nat.not_lt_zero i), fun x hx => (by cases hx)⟩, by omega⟩
 ·simp only [List.cons.injEq, and_true] at hcs
  simp only [if_true] at hmm
  subst hmm
  have e47 : Tryz.prog.cellsOf 32 = 6 := by kernel_rfl
  rw [hx] at hwt
  simp only [Rows.uptoBulk] at hwt
  have w1 : l ≤ 1048576 := by have := bulk_lenU ((List.range l).map D); simp only [List.length_map, List.length_range] at this; omega
  have hwD : ∀ i, i < l → Rows.uptoBulk (D i) ≤ 1048576 := fun i hi => by have := bulk_memU (List.mem_map.2 ⟨i, List.mem_range.2 hi, rfl⟩ : D i ∈ (List.range l).map D); omega
  obtain ⟨q, hq⟩ := choose_lt (α := UOp) (n := l) (p := fun i q => (∀ j v, q.cs[j]? = some v → W.cell? (a.add (i * 6 + j)) = some v) ∧ q.Ok W) (fun i hi => by
   obtain ⟨cs', h1, h2⟩ := hel i (by omega)
   rw [e47] at h1
   obtain ⟨_, hl3, hcell⟩ := World.cells?_some h1
   obtain ⟨qq, hcs, hok⟩ := open_uopU (hwD i hi) h2
   subst hcs
   refine ⟨qq, fun j v hv => ?_, hok⟩
   have hj : j < 6 := by
    have := (List.getElem?_eq_some_iff.1 hv).1
    simpa [UOp.cs] using this
   have := hcell j hj
   rw [add_addA] at this
   rw [this, hv])
  obtain ⟨b, o, sp⟩ := a
  have hsp : 0 < l → sp = none := fun h0 => by simpa [Addr.add] using World.cell?_spot ((hq 0 h0).1 0 _ rfl)
  refine ⟨some ⟨b, o, sp⟩, l, m, hcs, (List.range l).map q, by simp, ⟨fun i hi => ?_, fun x hx => ?_⟩, by omega⟩
  ·have hi' : i < l := by simpa using hi
   obtain ⟨h1, h2⟩ := hq i hi'
   obtain rfl := hsp (by omega)
   refine ⟨b, o, rfl, ?_, fun j v hv => ?_⟩
   ·have := h1 0 _ rfl
    rw [Addr.add_lit] at this
    exact World.block_lt_of_cell? W ⟨b, o + (i * 6 + 0), none⟩ this
   ·have hv' : (q i).cs[j]? = some v := by
     rw [List.getElem_map, List.getElem_range] at hv
     exact hv
    have := h1 j v hv'
    rw [Addr.add_lit, ← Nat.add_assoc] at this
    exact this
  ·obtain ⟨i, hi, rfl⟩ := List.mem_map.1 hx
   exact (hq i (List.mem_range.1 hi)).2
end Go.Proofs.YtggaipeojncipaaGreat
