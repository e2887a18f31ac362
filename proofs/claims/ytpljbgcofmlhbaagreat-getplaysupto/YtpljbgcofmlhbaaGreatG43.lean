/- What came in: nodes, configurations. -/
import Derived.Test.YtpljbgcofmlhbaaGreatG7
import Derived.Test.YtpljbgcofmlhbaaGreatG14
import Derived.Deep.Slices
namespace Go.Proofs.YtpljbgcofmlhbaaGreat
open Go.ChangeShapes Go.WideShapes Go.ChangeAt Go.RowKit Go.Deep
theorem weights_mem_allN {H : Type} {P : Program} {e : TypeId} {d : DataW H} : ∀ {l : List (DataW H)}, d ∈ l → ∀ n ∈ d.weights P e, n ∈ DataW.weightsAll P e l
 | x :: l, hd, n, hn => by
  simp only [DataW.weightsAll, List.mem_append]
  rcases List.mem_cons.1 hd with rfl | h
  ·exact Or.inl hn
  ·exact Or.inr (weights_mem_allN h n hn)
theorem trod_struct5N {H : Type} {enc : TypeId × Value → H} {P : Program} {w : World} {base : Nat} {spare : Nat → Bool} {held : Bool} {t : TypeId} {f0 f1 f2 f3 f4 : Field} {fuel : Nat} {cs : List Value} {x : DataW H × List MemPlace} (ht : P.underlying t = some (.struct #[f0, f1, f2, f3, f4])) (h : DataW.trod enc P w base spare held fuel t cs = some x) :
  ∃ y0 y1 y2 y3 y4 n, x.1 = .agg [y0.1, y1.1, y2.1, y3.1, y4.1] ∧ cs.length = P.cellsOf t ∧ DataW.trod enc P w base spare held n f0.type ((cs.drop f0.offset).take (P.cellsOf f0.type)) = some y0 ∧
   DataW.trod enc P w base spare held n f1.type ((cs.drop f1.offset).take (P.cellsOf f1.type)) = some y1 ∧ DataW.trod enc P w base spare held n f2.type ((cs.drop f2.offset).take (P.cellsOf f2.type)) = some y2 ∧ DataW.trod enc P w base spare held n f3.type ((cs.drop f3.offset).take (P.cellsOf f3.type)) = some y3 ∧ DataW.trod enc P w base spare held n f4.type ((cs.drop f4.offset).take (P.cellsOf f4.type)) = some y4 := by
 obtain ⟨xs, n, _, rfl, hl, hlen, hf⟩ := DataW.trod_struct ht h
 match xs, hlen with
 | [y0, y1, y2, y3, y4], _ => exact ⟨y0, y1, y2, y3, y4, n, by simp, hl, by simpa using hf 0 f0 rfl, by simpa using hf 1 f1 rfl, by simpa using hf 2 f2 rfl, by simpa using hf 3 f3 rfl, by simpa using hf 4 f4 rfl⟩
set_option maxRecDepth 100000 in
theorem open_cfg {H : Type} {enc : TypeId × Value → H} {W : World} {fuel : Nat} {cs : List Value} {y : DataW H × List MemPlace} (h : DataW.trod enc Tryz.prog W 0 (fun _ => true) true fuel 55 cs = some y) :
  ∃ a b c d e : Int, cs = [.int .i64 a, .int .i64 b, .int .i64 c, .int .i64 d, .int .i64 e] := by
 obtain ⟨y0, y1, y2, y3, y4, n, hx1, hlen, g0, g1, g2, g3, g4⟩ := trod_struct5N Tryz.underlying55 h
 have e1 : Tryz.prog.cellsOf 3 = 1 := by kernel_rfl
 have e5 : Tryz.prog.cellsOf 55 = 5 := by kernel_rfl
 rw [e5] at hlen
 match cs, hlen with
 | [v0, v1, v2, v3, v4], _ =>
  simp only [e1, List.drop_zero, List.drop_succ_cons, List.take_succ_cons, List.take_zero] at g0 g1 g2 g3 g4
  obtain ⟨a, ha, _, _⟩ := DataW.trod_int Tryz.underlying3 g0
  obtain ⟨b, hb, _, _⟩ := DataW.trod_int Tryz.underlying3 g1
  obtain ⟨c, hc, _, _⟩ := DataW.trod_int Tryz.underlying3 g2
  obtain ⟨d, hd, _, _⟩ := DataW.trod_int Tryz.underlying3 g3
  obtain ⟨e, he, _, _⟩ := DataW.trod_int Tryz.underlying3 g4
  simp only [List.cons.injEq, and_true] at ha hb hc hd he
  exact ⟨a, b, c, d, e, by rw [ha, hb, hc, hd, he]⟩
set_option maxRecDepth 100000 in
theorem open_tx {H : Type} {enc : TypeId × Value → H} {W : World} {fuel : Nat} {v : Value} {y : DataW H × List MemPlace} (hwt : (DataW.weights Tryz.prog 28 y.1).all (· ≤ reachBytes) = true) (h : DataW.trod enc Tryz.prog W 0 (fun _ => true) true fuel 28 [v] = some y) :
  ∃ t : Tx, v = t.v ∧ t.Ok W := by
 obtain ⟨a', l', c', zs, hv, hr, hs⟩ := in_row Tryz.underlying28 Tryz.underlying5 (by kernel_rfl) h
 rw [show Tryz.prog.bytesOf 5 = 1 from by kernel_rfl] at hs
 have s1 := hs.1 reachBytes hwt
 simp only [reachBytes] at s1
 have hk := hr.hlen
 subst hk
 exact ⟨⟨a', c', zs⟩, hv, hr.row, hr.hnone, hr.hcap, wf_b8 hr.wf, by show zs.length ≤ _; omega⟩
set_option maxRecDepth 100000 in
theorem open_tl {H : Type} {enc : TypeId × Value → H} {W : World} {fuel : Nat} {v : Value} {y : DataW H × List MemPlace} (hwt : (DataW.weights Tryz.prog 31 y.1).all (· ≤ reachBytes) = true)
  (h : DataW.trod enc Tryz.prog W 0 (fun _ => true) true fuel 31 [v] = some y) : ∃ t : TL, v = t.v ∧ t.Ok W ∧ t.L.length * 24 ≤ 140737488351232 := by
 rcases open_slice1 Tryz.underlying31 (by kernel_rfl) h with ⟨hcs, _⟩ | ⟨a, l, c, m, n, V, D, Pl, hcs, _, hl, hm, hmm, hx, hel⟩
 ·simp only [List.cons.injEq, and_true] at hcs
  exact ⟨⟨none, 0, []⟩, hcs, TL.nil_ok W, by simp⟩
 ·simp only [List.cons.injEq, and_true] at hcs
  subst hcs
  simp only [if_true] at hmm
  subst hmm
  rw [hx] at hwt
  simp only [DataW.weights, Tryz.underlying31, List.all_cons, List.all_append, Bool.and_eq_true, decide_eq_true_eq, List.length_map, List.length_range] at hwt
  rw [show Tryz.prog.bytesOf 28 = 24 from by kernel_rfl] at hwt
  obtain ⟨w1, w2, _⟩ := hwt
  simp only [reachBytes] at w1
  have hwD : ∀ i, i < l → (DataW.weights Tryz.prog 28 (D i)).all (· ≤ reachBytes) = true := fun i hi => List.all_eq_true.2 fun x hx => List.all_eq_true.1 w2 x (weights_mem_allN (List.mem_map.2 ⟨i, List.mem_range.2 hi, rfl⟩) x hx)
  obtain ⟨q, hq⟩ := choose_lt (α := Tx) (n := l) (p := fun i q => W.cell? (a.add i) = some q.v ∧ q.Ok W) (fun i hi => by
   obtain ⟨h1, h2⟩ := hel i (by omega)
   obtain ⟨t, ht, hok⟩ := open_tx (hwD i hi) h2
   exact ⟨t, by rw [h1, ht], hok⟩)
  obtain ⟨b, o, sp⟩ := a
  have hsp : 0 < l → sp = none := fun h0 => by simpa [Addr.add] using World.cell?_spot (hq 0 h0).1
  refine ⟨⟨some ⟨b, o, sp⟩, m, (List.range l).map q⟩, by simp [TL.v], ⟨fun i hi => ?_, fun x hx => ?_, fun e => (by cases e), by simpa using hl⟩, by simp only [List.length_map, List.length_range]; omega⟩
  ·have hi' : i < l := by simpa using hi
   obtain ⟨h1, h3⟩ := hq i hi'
   obtain rfl := hsp (by omega)
   rw [Addr.add_lit] at h1
   exact ⟨b, o, rfl, by simpa using h1⟩
  ·obtain ⟨i, hi, rfl⟩ := List.mem_map.1 hx
   exact (hq i (List.mem_range.1 hi)).2
def NdIn (W : World) (n : Nd) : Prop := n.Ok W ∧ n.ks.L.length * 24 ≤ 140737488351232 ∧ n.vs.L.length * 24 ≤ 140737488351232 ∧ n.cs.s.length * 8 ≤ 140737488351232
set_option maxRecDepth 100000 in
theorem open_node {H : Type} {enc : TypeId × Value → H} {W : World} {fuel : Nat} {cs : List Value} {y : DataW H × List MemPlace} (hwt : (DataW.weights Tryz.prog 36 y.1).all (· ≤ reachBytes) = true) (h : DataW.trod enc Tryz.prog W 0 (fun _ => true) true fuel 36 cs = some y) :
  ∃ n : Nd, cs = [.int .i64 n.lv, n.hi.v, .int .i64 n.ri, n.ks.v, n.vs.v, n.cs.v] ∧ NdIn W n := by
 obtain ⟨y0, y1, n, hx, hlen, g0, g1⟩ := trod_struct2 Tryz.underlying36 h
 have e6 : Tryz.prog.cellsOf 36 = 6 := by kernel_rfl
 have eh : Tryz.prog.cellsOf 30 = 3 := by kernel_rfl
 have eb : Tryz.prog.cellsOf 34 = 3 := by kernel_rfl
 have ei : Tryz.prog.cellsOf 3 = 1 := by kernel_rfl
 have e1 : Tryz.prog.cellsOf 28 = 1 := by kernel_rfl
 have e2 : Tryz.prog.cellsOf 31 = 1 := by kernel_rfl
 have e3 : Tryz.prog.cellsOf 32 = 1 := by kernel_rfl
 rw [e6] at hlen
 have hx1 : y.1 = .agg [y0.1, y1.1] := by rw [hx]
 rw [hx1] at hwt
 simp only [DataW.weights, Tryz.underlying36, List.map_cons, DataW.weightsEach, List.all_append, Bool.and_eq_true] at hwt
 match cs, hlen with
 | [v0, v1, v2, v3, v4, v5], _ =>
  simp only [eh, eb, List.drop_zero, List.drop_succ_cons, List.take_succ_cons, List.take_zero] at g0 g1
  obtain ⟨a0, a1, a2, n0, ha, hla, p0, p1, p2⟩ := trod_struct3 Tryz.underlying30 g0
  obtain ⟨b0, b1, b2, n1, hb, hlb, q0, q1, q2⟩ := trod_struct3 Tryz.underlying34 g1
  have ha1 : y0.1 = .agg [a0.1, a1.1, a2.1] := by rw [ha]
  have hb1 : y1.1 = .agg [b0.1, b1.1, b2.1] := by rw [hb]
  have w0 := hwt.1
  have w1 := hwt.2.1
  rw [ha1] at w0
  rw [hb1] at w1
  simp only [DataW.weights, Tryz.underlying30, List.map_cons, DataW.weightsEach, List.all_append, Bool.and_eq_true] at w0
  simp only [DataW.weights, Tryz.underlying34, List.map_cons, DataW.weightsEach, List.all_append, Bool.and_eq_true] at w1
  simp only [ei, e1, e2, e3, List.drop_zero, List.drop_succ_cons, List.take_succ_cons, List.take_zero] at p0 p1 p2 q0 q1 q2
  obtain ⟨lv, hlv, _, _⟩ := DataW.trod_int Tryz.underlying3 p0
  obtain ⟨t, ht, hto⟩ := open_tx w0.2.1 p1
  obtain ⟨ri, hri, _, _⟩ := DataW.trod_int Tryz.underlying3 p2
  obtain ⟨ks, hks, hko, hkz⟩ := open_tl w1.1 q0
  obtain ⟨vs, hvs, hvo, hvz⟩ := open_tl w1.2.1 q1
  obtain ⟨ca, lc, cc, zs, hcv, hcr, hcz⟩ := in_row Tryz.underlying32 Tryz.underlying3 (by kernel_rfl) q2
  rw [show Tryz.prog.bytesOf 3 = 8 from by kernel_rfl] at hcz
  have s1 := hcz.1 reachBytes w1.2.2.1
  simp only [reachBytes] at s1
  have hk := hcr.hlen
  subst hk
  simp only [List.cons.injEq, and_true] at hlv hri
  refine ⟨⟨lv, t, ri, ks, vs, ⟨ca, cc, zs⟩⟩, by rw [hlv, ht, hri, hks, hvs, hcv]; rfl, ⟨hto, hko, hvo, ⟨hcr.row, hcr.hnone, hcr.hcap⟩, by simp only; omega, by simp only; omega, by simp only; omega⟩, hkz, hvz, s1⟩
end Go.Proofs.YtpljbgcofmlhbaaGreat
