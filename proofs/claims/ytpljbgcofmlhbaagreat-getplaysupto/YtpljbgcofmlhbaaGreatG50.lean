/- What came in: scripts for arenas. -/
import Derived.Test.YtpljbgcofmlhbaaGreatG43
import Derived.Test.YtpljbgcofmlhbaaGreatG24
namespace Go.Proofs.YtpljbgcofmlhbaaGreat
open Go.ChangeShapes Go.WideShapes Go.ChangeAt Go.RowKit Go.Deep
theorem trod_struct6 {H : Type} {enc : TypeId × Value → H} {P : Program} {w : World} {base : Nat} {spare : Nat → Bool} {held : Bool} {t : TypeId} {f0 f1 f2 f3 f4 f5 : Field} {fuel : Nat} {cs : List Value} {x : DataW H × List MemPlace} (ht : P.underlying t = some (.struct #[f0, f1, f2, f3, f4, f5])) (h : DataW.trod enc P w base spare held fuel t cs = some x) :
  ∃ y0 y1 y2 y3 y4 y5 n, x.1 = .agg [y0.1, y1.1, y2.1, y3.1, y4.1, y5.1] ∧ cs.length = P.cellsOf t ∧ DataW.trod enc P w base spare held n f0.type ((cs.drop f0.offset).take (P.cellsOf f0.type)) = some y0 ∧
   DataW.trod enc P w base spare held n f1.type ((cs.drop f1.offset).take (P.cellsOf f1.type)) = some y1 ∧ DataW.trod enc P w base spare held n f2.type ((cs.drop f2.offset).take (P.cellsOf f2.type)) = some y2 ∧ DataW.trod enc P w base spare held n f3.type ((cs.drop f3.offset).take (P.cellsOf f3.type)) = some y3 ∧ DataW.trod enc P w base spare held n f4.type ((cs.drop f4.offset).take (P.cellsOf f4.type)) = some y4 ∧ DataW.trod enc P w base spare held n f5.type ((cs.drop f5.offset).take (P.cellsOf f5.type)) = some y5 := by
 obtain ⟨xs, n, _, rfl, hl, hlen, hf⟩ := DataW.trod_struct ht h
 match xs, hlen with
 | [y0, y1, y2, y3, y4, y5], _ => exact ⟨y0, y1, y2, y3, y4, y5, n, by simp, hl, by simpa using hf 0 f0 rfl, by simpa using hf 1 f1 rfl, by simpa using hf 2 f2 rfl, by simpa using hf 3 f3 rfl, by simpa using hf 4 f4 rfl, by simpa using hf 5 f5 rfl⟩
theorem add_addA (a : Addr) (i j : Nat) : (a.add i).add j = a.add (i + j) := by
 unfold Addr.add
 by_cases h : i = 0
 ·simp [h]
 ·by_cases h' : j = 0
  ·simp [h, h']
  ·simp [h, h', Nat.add_assoc]
instance : Inhabited AOp := ⟨⟨0, 0, 0, 0, false, Nd.zero⟩⟩
theorem bounds_u64' {n : Int} (h : (Lit.int .u64 n).wf = true) : 0 ≤ n ∧ n < 18446744073709551616 := by
 have := bounds_u64 h
 omega
def AOp.cs (o : AOp) : List Value := [.int .i64 o.kind, .int .i64 o.a, .int .i64 o.b, .int .u64 (o.w : Nat), .bool o.ch, .int .i64 o.n.lv, o.n.hi.v, .int .i64 o.n.ri, o.n.ks.v, o.n.vs.v, o.n.cs.v]
set_option maxRecDepth 100000 in
theorem open_aop {H : Type} {enc : TypeId × Value → H} {W : World} {fuel : Nat} {cs : List Value} {y : DataW H × List MemPlace} (hwt : (DataW.weights Tryz.prog 125 y.1).all (· ≤ reachBytes) = true) (h : DataW.trod enc Tryz.prog W 0 (fun _ => true) true fuel 125 cs = some y) :
  ∃ o : AOp, cs = o.cs ∧ o.Ok (fun k => k < W.heap.size) W := by
 obtain ⟨y0, y1, y2, y3, y4, y5, n, hx1, hlen, g0, g1, g2, g3, g4, g5⟩ := trod_struct6 Tryz.underlying125 h
 have e0 : Tryz.prog.cellsOf 4 = 1 := by kernel_rfl
 have e1 : Tryz.prog.cellsOf 3 = 1 := by kernel_rfl
 have e2 : Tryz.prog.cellsOf 103 = 1 := by kernel_rfl
 have e3 : Tryz.prog.cellsOf 36 = 6 := by kernel_rfl
 have e4 : Tryz.prog.cellsOf 125 = 11 := by kernel_rfl
 rw [e4] at hlen
 rw [hx1] at hwt
 simp only [DataW.weights, Tryz.underlying125, List.map_cons, DataW.weightsEach, List.all_append, Bool.and_eq_true] at hwt
 match cs, hlen with
 | [v0, v1, v2, v3, v4, v5, v6, v7, v8, v9, v10], _ =>
  simp only [e0, e1, e2, e3, List.drop_zero, List.drop_succ_cons, List.take_succ_cons, List.take_zero] at g0 g1 g2 g3 g4 g5
  obtain ⟨kd, h0, _, b0⟩ := DataW.trod_int Tryz.underlying3 g0
  obtain ⟨ra, h1, _, b1⟩ := DataW.trod_int Tryz.underlying3 g1
  obtain ⟨rb, h2, _, b2⟩ := DataW.trod_int Tryz.underlying3 g2
  obtain ⟨rw', h3, _, b3⟩ := DataW.trod_int Tryz.underlying103 g3
  obtain ⟨ch, h4, _⟩ := DataW.trod_bool Tryz.underlying4 g4
  obtain ⟨nd, hn, hN⟩ := open_node hwt.2.2.2.2.2.1 g5
  simp only [List.cons.injEq, and_true] at h0 h1 h2 h3 h4 hn
  obtain ⟨n0, n1, n2, n3, n4, n5⟩ := hn
  have c0 := bounds_i64 b0
  have c1 := bounds_i64 b1
  have c2 := bounds_i64 b2
  have c3 := bounds_u64' b3
  obtain ⟨m, hm⟩ : ∃ m : Nat, rw' = (m : Int) := ⟨rw'.toNat, by omega⟩
  refine ⟨⟨kd, ra, rb, m, ch, nd⟩, ?_, c0, c1, c2, by simp only; omega, hN.1, hN.1.in_⟩
  rw [h0, h1, h2, h3, h4, n0, n1, n2, n3, n4, n5, hm]
  rfl
end Go.Proofs.YtpljbgcofmlhbaaGreat
namespace Go.Proofs.YtpljbgcofmlhbaaGreat
open Go.ChangeShapes Go.WideShapes Go.ChangeAt Go.RowKit Go.Deep
end Go.Proofs.YtpljbgcofmlhbaaGreat
namespace Go.Proofs.YtpljbgcofmlhbaaGreat
open Go.ChangeShapes Go.WideShapes Go.ChangeAt Go.RowKit Go.Deep
theorem bulk_memU {H : Type} {d : DataW H} : ∀ {l : List (DataW H)}, d ∈ l → Rows.uptoBulk d ≤ Rows.uptoBulkAll l
 | x :: l, hd => by
  simp only [Rows.uptoBulkAll]
  rcases List.mem_cons.1 hd with rfl | h
  ·omega
  ·have := bulk_memU h
   omega
theorem bulk_lenU {H : Type} : ∀ l : List (DataW H), l.length ≤ Rows.uptoBulkAll l
 | [] => Nat.zero_le _
 | x :: r => by have := bulk_one x; have := bulk_lenU r; simp only [Rows.uptoBulkAll, List.length_cons]; omega
set_option maxRecDepth 100000 in
theorem open_txU {H : Type} {enc : TypeId × Value → H} {W : World} {fuel : Nat} {v : Value} {y : DataW H × List MemPlace} (hwt : Rows.uptoBulk y.1 ≤ 1048576) (h : DataW.trod enc Tryz.prog W 0 (fun _ => true) true fuel 28 [v] = some y) :
  ∃ t : Tx, v = t.v ∧ t.Ok W := by
 obtain ⟨a', l', c', zs, hv, hr, hs⟩ := in_row Tryz.underlying28 Tryz.underlying5 (by kernel_rfl) h
 rw [show Tryz.prog.bytesOf 5 = 1 from by kernel_rfl] at hs
 have s1 := Nat.le_trans hs.2 hwt
 have hk := hr.hlen
 subst hk
 exact ⟨⟨a', c', zs⟩, hv, hr.row, hr.hnone, hr.hcap, wf_b8 hr.wf, by show zs.length ≤ _; omega⟩
set_option maxRecDepth 100000 in
theorem open_tlU {H : Type} {enc : TypeId × Value → H} {W : World} {fuel : Nat} {v : Value} {y : DataW H × List MemPlace} (hwt : Rows.uptoBulk y.1 ≤ 1048576)
  (h : DataW.trod enc Tryz.prog W 0 (fun _ => true) true fuel 31 [v] = some y) : ∃ t : TL, v = t.v ∧ t.Ok W ∧ t.L.length ≤ 1048576 := by
 rcases open_slice1 Tryz.underlying31 (by kernel_rfl) h with ⟨hcs, _⟩ | ⟨a, l, c, m, n, V, D, Pl, hcs, _, hl, hm, hmm, hx, hel⟩
 ·simp only [List.cons.injEq, and_true] at hcs
  exact ⟨⟨none, 0, []⟩, hcs, TL.nil_ok W, by simp⟩
 ·simp only [List.cons.injEq, and_true] at hcs
  subst hcs
  simp only [if_true] at hmm
  subst hmm
  rw [hx] at hwt
  simp only [Rows.uptoBulk] at hwt
  have w1 : l ≤ 1048576 := by have := bulk_lenU ((List.range l).map D); simp only [List.length_map, List.length_range] at this; omega
  have hwD : ∀ i, i < l → Rows.uptoBulk (D i) ≤ 1048576 := fun i hi => by have := bulk_memU (List.mem_map.2 ⟨i, List.mem_range.2 hi, rfl⟩ : D i ∈ (List.range l).map D); omega
  obtain ⟨q, hq⟩ := choose_lt (α := Tx) (n := l) (p := fun i q => W.cell? (a.add i) = some q.v ∧ q.Ok W) (fun i hi => by
   obtain ⟨h1, h2⟩ := hel i (by omega)
   obtain ⟨t, ht, hok⟩ := open_txU (hwD i hi) h2
   exact ⟨t, by rw [h1, ht], hok⟩)
  obtain ⟨b, o, sp⟩ := a
  have hsp : 0 < l → sp = none := fun h0 => by simpa [Addr.add] using World.cell?_spot (hq 0 h0).1
  refine ⟨⟨some ⟨b, o, sp⟩, m, (List.range l).map q⟩, by simp [TL.v], ⟨fun i hi => ?_, fun x hx => ?_, fun e => (by cases e), by simpa using hl⟩, by simp only [List.length_map, List.length_range]; omega⟩
  ·have hi' : i < l := by simpa using hi
   obtain ⟨h1, h3⟩ := hq i hi'
   obtain rfl := hsp (by omega)
   rw [Addr.add_lit] at h1
   exact ⟨b, o, rfl, by simpa using h1⟩
  ·obtain ⟨i, hi, rfl⟩ := List.mem_map.1 hx
   exact (hq i (List.mem_range.1 hi)).2
set_option maxRecDepth 100000 in
theorem open_nodeU {H : Type} {enc : TypeId × Value → H} {W : World} {fuel : Nat} {cs : List Value} {y : DataW H × List MemPlace} (hwt : Rows.uptoBulk y.1 ≤ 1048576) (h : DataW.trod enc Tryz.prog W 0 (fun _ => true) true fuel 36 cs = some y) :
  ∃ n : Nd, cs = [.int .i64 n.lv, n.hi.v, .int .i64 n.ri, n.ks.v, n.vs.v, n.cs.v] ∧ n.Ok W ∧ n.ks.L.length ≤ 1048576 := by
 obtain ⟨y0, y1, n, hx, hlen, g0, g1⟩ := trod_struct2 Tryz.underlying36 h
 have e6 : Tryz.prog.cellsOf 36 = 6 := by kernel_rfl
 have eh : Tryz.prog.cellsOf 30 = 3 := by kernel_rfl
 have eb : Tryz.prog.cellsOf 34 = 3 := by kernel_rfl
 have ei : Tryz.prog.cellsOf 3 = 1 := by kernel_rfl
 have e1 : Tryz.prog.cellsOf 28 = 1 := by kernel_rfl
 have e2 : Tryz.prog.cellsOf 31 = 1 := by kernel_rfl
 have e3 : Tryz.prog.cellsOf 32 = 1 := by kernel_rfl
 rw [e6] at hlen
 have hx1 : y.1 = .agg [y0.1, y1.1] := by rw [hx]
 rw [hx1] at hwt
 simp only [Rows.uptoBulk, Rows.uptoBulkAll] at hwt
 match cs, hlen with
 | [v0, v1, v2, v3, v4, v5], _ =>
  simp only [eh, eb, List.drop_zero, List.drop_succ_cons, List.take_succ_cons, List.take_zero] at g0 g1
  obtain ⟨a0, a1, a2, n0, ha, hla, p0, p1, p2⟩ := trod_struct3 Tryz.underlying30 g0
  obtain ⟨b0, b1, b2, n1, hb, hlb, q0, q1, q2⟩ := trod_struct3 Tryz.underlying34 g1
  have ha1 : y0.1 = .agg [a0.1, a1.1, a2.1] := by rw [ha]
  have hb1 : y1.1 = .agg [b0.1, b1.1, b2.1] := by rw [hb]
  have w0 : Rows.uptoBulk y0.1 ≤ 1048576 := by omega
  have w1 : Rows.uptoBulk y1.1 ≤ 1048576 := by omega
  rw [ha1] at w0
  rw [hb1] at w1
  simp only [Rows.uptoBulk, Rows.uptoBulkAll] at w0
  simp only [Rows.uptoBulk, Rows.uptoBulkAll] at w1
  simp only [ei, e1, e2, e3, List.drop_zero, List.drop_succ_cons, List.take_succ_cons, List.take_zero] at p0 p1 p2 q0 q1 q2
  obtain ⟨lv, hlv, _, _⟩ := DataW.trod_int Tryz.underlying3 p0
  obtain ⟨t, ht, hto⟩ := open_txU (by omega) p1
  obtain ⟨ri, hri, _, _⟩ := DataW.trod_int Tryz.underlying3 p2
  obtain ⟨ks, hks, hko, hkz⟩ := open_tlU (by omega) q0
  obtain ⟨vs, hvs, hvo, hvz⟩ := open_tlU (by omega) q1
  obtain ⟨ca, lc, cc, zs, hcv, hcr, hcz⟩ := in_row Tryz.underlying32 Tryz.underlying3 (by kernel_rfl) q2
  rw [show Tryz.prog.bytesOf 3 = 8 from by kernel_rfl] at hcz
  have s1 : lc ≤ 1048576 := Nat.le_trans hcz.2 (by omega)
  have hk := hcr.hlen
  subst hk
  simp only [List.cons.injEq, and_true] at hlv hri
  refine ⟨⟨lv, t, ri, ks, vs, ⟨ca, cc, zs⟩⟩, by rw [hlv, ht, hri, hks, hvs, hcv]; rfl, ⟨hto, hko, hvo, ⟨hcr.row, hcr.hnone, hcr.hcap⟩, by simp only; omega, by simp only; omega, by simp only; omega⟩, hkz⟩
set_option maxRecDepth 100000 in
theorem open_aopU {H : Type} {enc : TypeId × Value → H} {W : World} {fuel : Nat} {cs : List Value} {y : DataW H × List MemPlace} (hwt : Rows.uptoBulk y.1 ≤ 1048576) (h : DataW.trod enc Tryz.prog W 0 (fun _ => true) true fuel 125 cs = some y) :
  ∃ o : AOp, cs = o.cs ∧ o.Ok (fun k => k < W.heap.size) W ∧ o.n.ks.L.length ≤ 1048576 := by
 obtain ⟨y0, y1, y2, y3, y4, y5, n, hx1, hlen, g0, g1, g2, g3, g4, g5⟩ := trod_struct6 Tryz.underlying125 h
 have e0 : Tryz.prog.cellsOf 4 = 1 := by kernel_rfl
 have e1 : Tryz.prog.cellsOf 3 = 1 := by kernel_rfl
 have e2 : Tryz.prog.cellsOf 103 = 1 := by kernel_rfl
 have e3 : Tryz.prog.cellsOf 36 = 6 := by kernel_rfl
 have e4 : Tryz.prog.cellsOf 125 = 11 := by kernel_rfl
 rw [e4] at hlen
 rw [hx1] at hwt
 simp only [Rows.uptoBulk, Rows.uptoBulkAll] at hwt
 match cs, hlen with
 | [v0, v1, v2, v3, v4, v5, v6, v7, v8, v9, v10], _ =>
  simp only [e0, e1, e2, e3, List.drop_zero, List.drop_succ_cons, List.take_succ_cons, List.take_zero] at g0 g1 g2 g3 g4 g5
  obtain ⟨kd, h0, _, b0⟩ := DataW.trod_int Tryz.underlying3 g0
  obtain ⟨ra, h1, _, b1⟩ := DataW.trod_int Tryz.underlying3 g1
  obtain ⟨rb, h2, _, b2⟩ := DataW.trod_int Tryz.underlying3 g2
  obtain ⟨rw', h3, _, b3⟩ := DataW.trod_int Tryz.underlying103 g3
  obtain ⟨ch, h4, _⟩ := DataW.trod_bool Tryz.underlying4 g4
  obtain ⟨nd, hn, hN⟩ := open_nodeU (by omega) g5
  simp only [List.cons.injEq, and_true] at h0 h1 h2 h3 h4 hn
  obtain ⟨n0, n1, n2, n3, n4, n5⟩ := hn
  have c0 := bounds_i64 b0
  have c1 := bounds_i64 b1
  have c2 := bounds_i64 b2
  have c3 := bounds_u64' b3
  obtain ⟨m, hm⟩ : ∃ m : Nat, rw' = (m : Int) := ⟨rw'.toNat, by omega⟩
  refine ⟨⟨kd, ra, rb, m, ch, nd⟩, ?_, ⟨c0, c1, c2, by simp only; omega, hN.1, hN.1.in_⟩, hN.2⟩
  rw [h0, h1, h2, h3, h4, n0, n1, n2, n3, n4, n5, hm]
  rfl
end Go.Proofs.YtpljbgcofmlhbaaGreat
