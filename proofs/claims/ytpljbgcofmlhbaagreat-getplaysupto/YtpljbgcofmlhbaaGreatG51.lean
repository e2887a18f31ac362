/- What came in, where its bulk is small: a script of turns. -/
import Derived.Test.YtpljbgcofmlhbaaGreatG50
import Derived.Test.YtpljbgcofmlhbaaGreatG46
namespace Go.Proofs.YtpljbgcofmlhbaaGreat
open Go.ChangeShapes Go.WideShapes Go.ChangeAt Go.RowKit Go.Deep
theorem trod_struct8 {H : Type} {enc : TypeId × Value → H} {P : Program} {w : World} {base : Nat} {spare : Nat → Bool} {held : Bool} {t : TypeId} {f0 f1 f2 f3 f4 f5 f6 f7 : Field} {fuel : Nat} {cs : List Value} {x : DataW H × List MemPlace} (ht : P.underlying t = some (.struct #[f0, f1, f2, f3, f4, f5, f6, f7])) (h : DataW.trod enc P w base spare held fuel t cs = some x) :
  ∃ y0 y1 y2 y3 y4 y5 y6 y7 n, x.1 = .agg [y0.1, y1.1, y2.1, y3.1, y4.1, y5.1, y6.1, y7.1] ∧ cs.length = P.cellsOf t ∧ DataW.trod enc P w base spare held n f0.type ((cs.drop f0.offset).take (P.cellsOf f0.type)) = some y0 ∧ DataW.trod enc P w base spare held n f1.type ((cs.drop f1.offset).take (P.cellsOf f1.type)) = some y1 ∧ DataW.trod enc P w base spare held n f2.type ((cs.drop f2.offset).take (P.cellsOf f2.type)) = some y2 ∧ DataW.trod enc P w base spare held n f3.type ((cs.drop f3.offset).take (P.cellsOf f3.type)) = some y3 ∧ DataW.trod enc P w base spare held n f4.type ((cs.drop f4.offset).take (P.cellsOf f4.type)) = some y4 ∧ DataW.trod enc P w base spare held n f5.type ((cs.drop f5.offset).take (P.cellsOf f5.type)) = some y5 ∧ DataW.trod enc P w base spare held n f6.type ((cs.drop f6.offset).take (P.cellsOf f6.type)) = some y6 ∧ DataW.trod enc P w base spare held n f7.type ((cs.drop f7.offset).take (P.cellsOf f7.type)) = some y7 := by
 obtain ⟨xs, n, _, rfl, hl, hlen, hf⟩ := DataW.trod_struct ht h
 match xs, hlen with
 | [y0, y1, y2, y3, y4, y5, y6, y7], _ => exact ⟨y0, y1, y2, y3, y4, y5, y6, y7, n, by simp, hl, by simpa using hf 0 f0 rfl, by simpa using hf 1 f1 rfl, by simpa using hf 2 f2 rfl, by simpa using hf 3 f3 rfl, by simpa using hf 4 f4 rfl, by simpa using hf 5 f5 rfl, by simpa using hf 6 f6 rfl, by simpa using hf 7 f7 rfl⟩
set_option maxRecDepth 100000 in
theorem open_nodeG {H : Type} {enc : TypeId × Value → H} {W : World} {fuel : Nat} {cs : List Value} {y : DataW H × List MemPlace} (hwt : Rows.uptoBulk y.1 ≤ 1048576) (h : DataW.trod enc Tryz.prog W 0 (fun _ => true) true fuel 36 cs = some y) :
  ∃ n : Nd, cs = [.int .i64 n.lv, n.hi.v, .int .i64 n.ri, n.ks.v, n.vs.v, n.cs.v] ∧ n.Ok W ∧ SzP 1048576 n.p := by
 obtain ⟨y0, y1, n, hx, hlen, g0, g1⟩ := trod_struct2 Tryz.underlying36 h
 have e6 : Tryz.prog.cellsOf 36 = 6 := by kernel_rfl
 have eh : Tryz.prog.cellsOf 30 = 3 := by kernel_rfl
 have eb : Tryz.prog.cellsOf 34 = 3 := by kernel_rfl
 have ei : Tryz.prog.cellsOf 3 = 1 := by kernel_rfl
 have e1 : Tryz.prog.cellsOf 28 = 1 := by kernel_rfl
 have e2 : Tryz.prog.cellsOf 31 = 1 := by kernel_rfl
 have e3 : Tryz.prog.cellsOf 32 = 1 := by kernel_rfl
 rw [e6] at hlen
 have hx1 : y.1 = .agg [y0.1, y1.1] := by rw [hx]
 rw [hx1] at hwt
 simp only [Rows.uptoBulk, Rows.uptoBulkAll] at hwt
 match cs, hlen with
 | [v0, v1, v2, v3, v4, v5], _ =>
  simp only [eh, eb, List.drop_zero, List.drop_succ_cons, List.take_succ_cons, List.take_zero] at g0 g1
  obtain ⟨a0, a1, a2, n0, ha, hla, p0, p1, p2⟩ := trod_struct3 Tryz.underlying30 g0
  obtain ⟨b0, b1, b2, n1, hb, hlb, q0, q1, q2⟩ := trod_struct3 Tryz.underlying34 g1
  have ha1 : y0.1 = .agg [a0.1, a1.1, a2.1] := by rw [ha]
  have hb1 : y1.1 = .agg [b0.1, b1.1, b2.1] := by rw [hb]
  have w0 : Rows.uptoBulk y0.1 ≤ 1048576 := by omega
  have w1 : Rows.uptoBulk y1.1 ≤ 1048576 := by omega
  rw [ha1] at w0
  rw [hb1] at w1
  simp only [Rows.uptoBulk, Rows.uptoBulkAll] at w0
  simp only [Rows.uptoBulk, Rows.uptoBulkAll] at w1
  simp only [ei, e1, e2, e3, List.drop_zero, List.drop_succ_cons, List.take_succ_cons, List.take_zero] at p0 p1 p2 q0 q1 q2
  obtain ⟨lv, hlv, _, _⟩ := DataW.trod_int Tryz.underlying3 p0
  obtain ⟨t, ht, hto⟩ := open_txU (by omega) p1
  obtain ⟨ri, hri, _, _⟩ := DataW.trod_int Tryz.underlying3 p2
  obtain ⟨ks, hks, hko, hkz⟩ := open_tlU (by omega) q0
  obtain ⟨vs, hvs, hvo, hvz⟩ := open_tlU (by omega) q1
  obtain ⟨ca, lc, cc, zs, hcv, hcr, hcz⟩ := in_row Tryz.underlying32 Tryz.underlying3 (by kernel_rfl) q2
  rw [show Tryz.prog.bytesOf 3 = 8 from by kernel_rfl] at hcz
  have s1 : lc ≤ 1048576 := Nat.le_trans hcz.2 (by omega)
  have hk := hcr.hlen
  subst hk
  simp only [List.cons.injEq, and_true] at hlv hri
  refine ⟨⟨lv, t, ri, ks, vs, ⟨ca, cc, zs⟩⟩, by rw [hlv, ht, hri, hks, hvs, hcv]; rfl, ⟨hto, hko, hvo, ⟨hcr.row, hcr.hnone, hcr.hcap⟩, by simp only; omega, by simp only; omega, by simp only; omega⟩, ⟨by show (TL.p ks).length ≤ _; rw [TL.p_len]; exact hkz, by show (TL.p vs).length ≤ _; rw [TL.p_len]; exact hvz, s1⟩⟩
set_option maxRecDepth 100000 in
theorem open_gopU {H : Type} {enc : TypeId × Value → H} {W : World} {fuel : Nat} {cs : List Value} {y : DataW H × List MemPlace} (hwt : Rows.uptoBulk y.1 ≤ 1048576) (h : DataW.trod enc Tryz.prog W 0 (fun _ => true) true fuel 38 cs = some y) :
  ∃ o : TOp, cs = o.cs ∧ o.Ok (fun k => k < W.heap.size) W ∧ SzP 1048576 o.n.p := by
 obtain ⟨y0, y1, y2, y3, y4, y5, y6, y7, n, hx1, hlen, g0, g1, g2, g3, g4, g5, g6, g7⟩ := trod_struct8 Tryz.underlying38 h
 have e0 : Tryz.prog.cellsOf 4 = 1 := by kernel_rfl
 have e1 : Tryz.prog.cellsOf 3 = 1 := by kernel_rfl
 have e2 : Tryz.prog.cellsOf 28 = 1 := by kernel_rfl
 have e3 : Tryz.prog.cellsOf 36 = 6 := by kernel_rfl
 have e4 : Tryz.prog.cellsOf 38 = 13 := by kernel_rfl
 rw [e4] at hlen
 rw [hx1] at hwt
 simp only [Rows.uptoBulk, Rows.uptoBulkAll] at hwt
 match cs, hlen with
 | [v0, v1, v2, v3, v4, v5, v6, v7, v8, v9, v10, v11, v12], _ =>
  simp only [e0, e1, e2, e3, List.drop_zero, List.drop_succ_cons, List.take_succ_cons, List.take_zero] at g0 g1 g2 g3 g4 g5 g6 g7
  obtain ⟨kd, h0, _, b0⟩ := DataW.trod_int Tryz.underlying3 g0
  obtain ⟨ra, h1, _, b1⟩ := DataW.trod_int Tryz.underlying3 g1
  obtain ⟨rb, h2, _, b2⟩ := DataW.trod_int Tryz.underlying3 g2
  obtain ⟨k1, h3, o1⟩ := open_txU (by omega) g3
  obtain ⟨k2, h4, o2⟩ := open_txU (by omega) g4
  obtain ⟨k3, h5, o3⟩ := open_txU (by omega) g5
  obtain ⟨ch, h6, _⟩ := DataW.trod_bool Tryz.underlying4 g6
  obtain ⟨nd, hn, hN⟩ := open_nodeG (by omega) g7
  simp only [List.cons.injEq, and_true] at h0 h1 h2 h6 hn
  obtain ⟨n0, n1, n2, n3, n4, n5⟩ := hn
  refine ⟨⟨kd, ra, rb, k1, k2, k3, ch, nd⟩, ?_, ⟨bounds_i64 b0, bounds_i64 b1, bounds_i64 b2, o1, o2, hN.1, hN.1.in_⟩, hN.2⟩
  rw [h0, h1, h2, h3, h4, h5, h6, n0, n1, n2, n3, n4, n5]
  rfl
instance : Inhabited TOp := ⟨⟨0, 0, 0, ⟨none, 0, []⟩, ⟨none, 0, []⟩, ⟨none, 0, []⟩, false, Nd.zero⟩⟩
set_option maxRecDepth 100000 in
theorem open_gopsU {H : Type} {enc : TypeId × Value → H} {W : World} {fuel : Nat} {v : Value} {y : DataW H × List MemPlace} (hwt : Rows.uptoBulk y.1 ≤ 1048576)
  (h : DataW.trod enc Tryz.prog W 0 (fun _ => true) true fuel 22 [v] = some y) : ∃ a len cap, v = .slice a len cap ∧ ∃ L : List TOp, L.length = len ∧ TOps W.heap.size W a L ∧ len ≤ 1048576 ∧ ∀ x ∈ L, SzP 1048576 x.n.p := by
 rcases open_slice Tryz.underlying22 h with ⟨hcs, _⟩ | ⟨a, l, c, m, n, D, Pl, hcs, _, hl, hm, hmm, hx, hel⟩
 ·simp only [List.cons.injEq, and_true] at hcs
  exact ⟨none, 0, 0, hcs, [], rfl, ⟨fun i hi => absurd hi (Nat.not_lt_zero i), fun x hx => (by cases hx)⟩, by omega, fun x hx => (by cases hx)⟩
 ·simp only [List.cons.injEq, and_true] at hcs
  simp only [if_true] at hmm
  subst hmm
  have e47 : Tryz.prog.cellsOf 38 = 13 := by kernel_rfl
  rw [hx] at hwt
  simp only [Rows.uptoBulk] at hwt
  have w1 : l ≤ 1048576 := by have := bulk_lenU ((List.range l).map D); simp only [List.length_map, List.length_range] at this; omega
  have hwD : ∀ i, i < l → Rows.uptoBulk (D i) ≤ 1048576 := fun i hi => by have := bulk_memU (List.mem_map.2 ⟨i, List.mem_range.2 hi, rfl⟩ : D i ∈ (List.range l).map D); omega
  obtain ⟨q, hq⟩ := choose_lt (α := TOp) (n := l) (p := fun i q => (∀ j v, q.cs[j]? = some v → W.cell? (a.add (i * 13 + j)) = some v) ∧ q.Ok (fun k => k < W.heap.size) W ∧ SzP 1048576 q.n.p) (fun i hi => by
   obtain ⟨cs', h1, h2⟩ := hel i (by omega)
   rw [e47] at h1
   obtain ⟨_, hl3, hcell⟩ := World.cells?_some h1
   obtain ⟨qq, hcs, hok⟩ := open_gopU (hwD i hi) h2
   subst hcs
   refine ⟨qq, fun j v hv => ?_, hok⟩
   have hj : j < 13 := by
    have := (List.getElem?_eq_some_iff.1 hv).1
    simpa [TOp.cs] using this
   have := hcell j hj
   rw [add_addA] at this
   rw [this, hv])
  obtain ⟨b, o, sp⟩ := a
  have hsp : 0 < l → sp = none := fun h0 => by simpa [Addr.add] using World.cell?_spot ((hq 0 h0).1 0 _ rfl)
  refine ⟨some ⟨b, o, sp⟩, l, m, hcs, (List.range l).map q, by simp, ⟨fun i hi => ?_, fun x hx => ?_⟩, by omega, fun x hx => ?_⟩
  ·have hi' : i < l := by simpa using hi
   obtain ⟨h1, h2⟩ := hq i hi'
   obtain rfl := hsp (by omega)
   refine ⟨b, o, rfl, ?_, fun j v hv => ?_⟩
   ·have := h1 0 _ rfl
    rw [Addr.add_lit] at this
    exact World.block_lt_of_cell? W ⟨b, o + (i * 13 + 0), none⟩ this
   ·have hv' : (q i).cs[j]? = some v := by
     rw [List.getElem_map, List.getElem_range] at hv
     exact hv
    have := h1 j v hv'
    rw [Addr.add_lit, ← Nat.add_assoc] at this
    exact this
  ·obtain ⟨i, hi, rfl⟩ := List.mem_map.1 hx
   exact (hq i (List.mem_range.1 hi)).2.1
  ·obtain ⟨i, hi, rfl⟩ := List.mem_map.1 hx
   exact (hq i (List.mem_range.1 hi)).2.2
end Go.Proofs.YtpljbgcofmlhbaaGreat
