/- What came in, where its bulk is small: a script for an arena and a configuration. -/
import Derived.Test.YtibifkindpgkgaaGreatG45
namespace Go.Proofs.YtibifkindpgkgaaGreat
open Go.ChangeShapes Go.WideShapes Go.ChangeAt Go.RowKit Go.Deep

theorem bulk_memU {H : Type} {d : DataW H} : ∀ {l : List (DataW H)}, d ∈ l → Rows.uptoBulk d ≤ Rows.uptoBulkAll l
  | x :: l, hd => by
    simp only [Rows.uptoBulkAll]
    rcases List.mem_cons.1 hd with rfl | h
    · omega
    · have := bulk_memU h
      omega
theorem bulk_lenU {H : Type} : ∀ l : List (DataW H), l.length ≤ Rows.uptoBulkAll l
  | [] => Nat.zero_le _
  | x :: r => by have := bulk_one x; have := bulk_lenU r; simp only [Rows.uptoBulkAll, List.length_cons]; omega
set_option maxRecDepth 100000 in
theorem open_txU {H : Type} {enc : TypeId × Value → H} {W : World} {fuel : Nat} {v : Value} {y : DataW H × List MemPlace} (hwt : Rows.uptoBulk y.1 ≤ 1048576) (h : DataW.trod enc Tryz.prog W 0 (fun _ => true) true fuel 39 [v] = some y) :
    ∃ t : Tx, v = t.v ∧ t.Ok W := by
  obtain ⟨a', l', c', zs, hv, hr, hs⟩ := in_row Tryz.underlying39 Tryz.underlying5 (by kernel_rfl) h
  rw [show Tryz.prog.bytesOf 5 = 1 from by kernel_rfl] at hs
  have s1 := Nat.le_trans hs.2 hwt
  have hk := hr.hlen
  subst hk
  exact ⟨⟨a', c', zs⟩, hv, hr.row, hr.hnone, hr.hcap, wf_b8 hr.wf, by show zs.length ≤ _; omega⟩

set_option maxRecDepth 100000 in
theorem open_tlU {H : Type} {enc : TypeId × Value → H} {W : World} {fuel : Nat} {v : Value} {y : DataW H × List MemPlace} (hwt : Rows.uptoBulk y.1 ≤ 1048576)
    (h : DataW.trod enc Tryz.prog W 0 (fun _ => true) true fuel 56 [v] = some y) : ∃ t : TL, v = t.v ∧ t.Ok W ∧ t.L.length ≤ 1048576 := by
  rcases open_slice1 Tryz.underlying56 (by kernel_rfl) h with ⟨hcs, _⟩ | ⟨a, l, c, m, n, V, D, Pl, hcs, _, hl, hm, hmm, hx, hel⟩
  · simp only [List.cons.injEq, and_true] at hcs
    exact ⟨⟨none, 0, []⟩, hcs, TL.nil_ok W, by simp⟩
  · simp only [List.cons.injEq, and_true] at hcs
    subst hcs
    simp only [if_true] at hmm
    subst hmm
    rw [hx] at hwt
    simp only [Rows.uptoBulk] at hwt
    have w1 : l ≤ 1048576 := by have := bulk_lenU ((List.range l).map D); simp only [List.length_map, List.length_range] at this; omega
    have hwD : ∀ i, i < l → Rows.uptoBulk (D i) ≤ 1048576 := fun i hi => by have := bulk_memU (List.mem_map.2 ⟨i, List.mem_range.2 hi, rfl⟩ : D i ∈ (List.range l).map D); omega
    obtain ⟨q, hq⟩ := choose_lt (α := Tx) (n := l) (p := fun i q => W.cell? (a.add i) = some q.v ∧ q.Ok W) (fun i hi => by
      obtain ⟨h1, h2⟩ := hel i (by omega)
      obtain ⟨t, ht, hok⟩ := open_txU (hwD i hi) h2
      exact ⟨t, by rw [h1, ht], hok⟩)
    obtain ⟨b, o, sp⟩ := a
    have hsp : 0 < l → sp = none := fun h0 => by simpa [Addr.add] using World.cell?_spot (hq 0 h0).1
    refine ⟨⟨some ⟨b, o, sp⟩, m, (List.range l).map q⟩, by simp [TL.v], ⟨fun i hi => ?_, fun x hx => ?_, fun e => (by cases e), by simpa using hl⟩, by simp only [List.length_map, List.length_range]; omega⟩
    · have hi' : i < l := by simpa using hi
      obtain ⟨h1, h3⟩ := hq i hi'
      obtain rfl := hsp (by omega)
      rw [Addr.add_lit] at h1
      exact ⟨b, o, rfl, by simpa using h1⟩
    · obtain ⟨i, hi, rfl⟩ := List.mem_map.1 hx
      exact (hq i (List.mem_range.1 hi)).2

set_option maxRecDepth 100000 in
theorem open_nodeU {H : Type} {enc : TypeId × Value → H} {W : World} {fuel : Nat} {cs : List Value} {y : DataW H × List MemPlace} (hwt : Rows.uptoBulk y.1 ≤ 1048576) (h : DataW.trod enc Tryz.prog W 0 (fun _ => true) true fuel 61 cs = some y) :
    ∃ n : Nd, cs = [.int .i64 n.lv, n.hi.v, .int .i64 n.ri, n.ks.v, n.vs.v, n.cs.v] ∧ n.Ok W ∧ n.ks.L.length ≤ 1048576 := by
  obtain ⟨y0, y1, n, hx, hlen, g0, g1⟩ := trod_struct2 Tryz.underlying61 h
  have e6 : Tryz.prog.cellsOf 61 = 6 := by kernel_rfl
  have eh : Tryz.prog.cellsOf 55 = 3 := by kernel_rfl
  have eb : Tryz.prog.cellsOf 59 = 3 := by kernel_rfl
  have ei : Tryz.prog.cellsOf 3 = 1 := by kernel_rfl
  have e1 : Tryz.prog.cellsOf 39 = 1 := by kernel_rfl
  have e2 : Tryz.prog.cellsOf 56 = 1 := by kernel_rfl
  have e3 : Tryz.prog.cellsOf 57 = 1 := by kernel_rfl
  rw [e6] at hlen
  have hx1 : y.1 = .agg [y0.1, y1.1] := by rw [hx]
  rw [hx1] at hwt
  simp only [Rows.uptoBulk, Rows.uptoBulkAll] at hwt
  match cs, hlen with
  | [v0, v1, v2, v3, v4, v5], _ =>
    simp only [eh, eb, List.drop_zero, List.drop_succ_cons, List.take_succ_cons, List.take_zero] at g0 g1
    obtain ⟨a0, a1, a2, n0, ha, hla, p0, p1, p2⟩ := trod_struct3 Tryz.underlying55 g0
    obtain ⟨b0, b1, b2, n1, hb, hlb, q0, q1, q2⟩ := trod_struct3 Tryz.underlying59 g1
    have ha1 : y0.1 = .agg [a0.1, a1.1, a2.1] := by rw [ha]
    have hb1 : y1.1 = .agg [b0.1, b1.1, b2.1] := by rw [hb]
    have w0 : Rows.uptoBulk y0.1 ≤ 1048576 := by omega
    have w1 : Rows.uptoBulk y1.1 ≤ 1048576 := by omega
    rw [ha1] at w0
    rw [hb1] at w1
    simp only [Rows.uptoBulk, Rows.uptoBulkAll] at w0
    simp only [Rows.uptoBulk, Rows.uptoBulkAll] at w1
    simp only [ei, e1, e2, e3, List.drop_zero, List.drop_succ_cons, List.take_succ_cons, List.take_zero] at p0 p1 p2 q0 q1 q2
    obtain ⟨lv, hlv, _, _⟩ := DataW.trod_int Tryz.underlying3 p0
    obtain ⟨t, ht, hto⟩ := open_txU (by omega) p1
    obtain ⟨ri, hri, _, _⟩ := DataW.trod_int Tryz.underlying3 p2
    obtain ⟨ks, hks, hko, hkz⟩ := open_tlU (by omega) q0
    obtain ⟨vs, hvs, hvo, hvz⟩ := open_tlU (by omega) q1
    obtain ⟨ca, lc, cc, zs, hcv, hcr, hcz⟩ := in_row Tryz.underlying57 Tryz.underlying3 (by kernel_rfl) q2
    rw [show Tryz.prog.bytesOf 3 = 8 from by kernel_rfl] at hcz
    have s1 : lc ≤ 1048576 := Nat.le_trans hcz.2 (by omega)
    have hk := hcr.hlen
    subst hk
    simp only [List.cons.injEq, and_true] at hlv hri
    refine ⟨⟨lv, t, ri, ks, vs, ⟨ca, cc, zs⟩⟩, by rw [hlv, ht, hri, hks, hvs, hcv]; rfl, ⟨hto, hko, hvo, ⟨hcr.row, hcr.hnone, hcr.hcap⟩, by simp only; omega, by simp only; omega, by simp only; omega⟩, hkz⟩

set_option maxRecDepth 100000 in
theorem open_aopU {H : Type} {enc : TypeId × Value → H} {W : World} {fuel : Nat} {cs : List Value} {y : DataW H × List MemPlace} (hwt : Rows.uptoBulk y.1 ≤ 1048576) (h : DataW.trod enc Tryz.prog W 0 (fun _ => true) true fuel 63 cs = some y) :
    ∃ o : AOp, cs = o.cs ∧ o.Ok (fun k => k < W.heap.size) W ∧ o.n.ks.L.length ≤ 1048576 := by
  obtain ⟨y0, y1, y2, y3, y4, y5, n, hx1, hlen, g0, g1, g2, g3, g4, g5⟩ := trod_struct6 Tryz.underlying63 h
  have e0 : Tryz.prog.cellsOf 4 = 1 := by kernel_rfl
  have e1 : Tryz.prog.cellsOf 3 = 1 := by kernel_rfl
  have e2 : Tryz.prog.cellsOf 53 = 1 := by kernel_rfl
  have e3 : Tryz.prog.cellsOf 61 = 6 := by kernel_rfl
  have e4 : Tryz.prog.cellsOf 63 = 11 := by kernel_rfl
  rw [e4] at hlen
  rw [hx1] at hwt
  simp only [Rows.uptoBulk, Rows.uptoBulkAll] at hwt
  match cs, hlen with
  | [v0, v1, v2, v3, v4, v5, v6, v7, v8, v9, v10], _ =>
    simp only [e0, e1, e2, e3, List.drop_zero, List.drop_succ_cons, List.take_succ_cons, List.take_zero] at g0 g1 g2 g3 g4 g5
    obtain ⟨kd, h0, _, b0⟩ := DataW.trod_int Tryz.underlying3 g0
    obtain ⟨ra, h1, _, b1⟩ := DataW.trod_int Tryz.underlying3 g1
    obtain ⟨rb, h2, _, b2⟩ := DataW.trod_int Tryz.underlying3 g2
    obtain ⟨rw', h3, _, b3⟩ := DataW.trod_int Tryz.underlying53 g3
    obtain ⟨ch, h4, _⟩ := DataW.trod_bool Tryz.underlying4 g4
    obtain ⟨nd, hn, hN⟩ := open_nodeU (by omega) g5
    simp only [List.cons.injEq, and_true] at h0 h1 h2 h3 h4 hn
    obtain ⟨n0, n1, n2, n3, n4, n5⟩ := hn
    have c0 := bounds_i64 b0
    have c1 := bounds_i64 b1
    have c2 := bounds_i64 b2
    have c3 := bounds_u64' b3
    obtain ⟨m, hm⟩ : ∃ m : Nat, rw' = (m : Int) := ⟨rw'.toNat, by omega⟩
    refine ⟨⟨kd, ra, rb, m, ch, nd⟩, ?_, ⟨c0, c1, c2, by simp only; omega, hN.1, hN.1.in_⟩, hN.2⟩
    rw [h0, h1, h2, h3, h4, n0, n1, n2, n3, n4, n5, hm]
    rfl

set_option maxRecDepth 100000 in
theorem open_aopsU {H : Type} {enc : TypeId × Value → H} {W : World} {fuel : Nat} {v : Value} {y : DataW H × List MemPlace} (hwt : Rows.uptoBulk y.1 ≤ 1048576)
    (h : DataW.trod enc Tryz.prog W 0 (fun _ => true) true fuel 22 [v] = some y) : ∃ a len cap, v = .slice a len cap ∧ ∃ L : List AOp, L.length = len ∧ Ops (fun k => k < W.heap.size) W a L ∧ len * 152 ≤ 140737488351232 ∧ ∀ x ∈ L, x.n.ks.L.length ≤ 1048576 := by
  rcases open_slice Tryz.underlying22 h with ⟨hcs, _⟩ | ⟨a, l, c, m, n, D, Pl, hcs, _, hl, hm, hmm, hx, hel⟩
  · simp only [List.cons.injEq, and_true] at hcs
    exact ⟨none, 0, 0, hcs, [], rfl, ⟨fun i hi => absurd hi (Nat.not_lt_zero i), fun x hx => (by cases hx)⟩, by omega, fun x hx => (by cases hx)⟩
  · simp only [List.cons.injEq, and_true] at hcs
    simp only [if_true] at hmm
    subst hmm
    have e47 : Tryz.prog.cellsOf 63 = 11 := by kernel_rfl
    rw [hx] at hwt
    simp only [Rows.uptoBulk] at hwt
    have w1 : l ≤ 1048576 := by have := bulk_lenU ((List.range l).map D); simp only [List.length_map, List.length_range] at this; omega
    have hwD : ∀ i, i < l → Rows.uptoBulk (D i) ≤ 1048576 := fun i hi => by have := bulk_memU (List.mem_map.2 ⟨i, List.mem_range.2 hi, rfl⟩ : D i ∈ (List.range l).map D); omega
    obtain ⟨q, hq⟩ := choose_lt (α := AOp) (n := l) (p := fun i q => (∀ j v, q.cs[j]? = some v → W.cell? (a.add (i * 11 + j)) = some v) ∧ q.Ok (fun k => k < W.heap.size) W ∧ q.n.ks.L.length ≤ 1048576) (fun i hi => by
      obtain ⟨cs', h1, h2⟩ := hel i (by omega)
      rw [e47] at h1
      obtain ⟨_, hl3, hcell⟩ := World.cells?_some h1
      obtain ⟨qq, hcs, hok⟩ := open_aopU (hwD i hi) h2
      subst hcs
      refine ⟨qq, fun j v hv => ?_, hok⟩
      have hj : j < 11 := by
        have := (List.getElem?_eq_some_iff.1 hv).1
        simpa [AOp.cs] using this
      have := hcell j hj
      rw [add_addA] at this
      rw [this, hv])
    obtain ⟨b, o, sp⟩ := a
    have hsp : 0 < l → sp = none := fun h0 => by simpa [Addr.add] using World.cell?_spot ((hq 0 h0).1 0 _ rfl)
    refine ⟨some ⟨b, o, sp⟩, l, m, hcs, (List.range l).map q, by simp, ⟨fun i hi => ?_, fun x hx => ?_⟩, by omega, fun x hx => ?_⟩
    · have hi' : i < l := by simpa using hi
      obtain ⟨h1, h2⟩ := hq i hi'
      obtain rfl := hsp (by omega)
      refine ⟨b, o, rfl, ?_, fun j v hv => ?_⟩
      · have := h1 0 _ rfl
        rw [Addr.add_lit] at this
        exact World.block_lt_of_cell? W ⟨b, o + (i * 11 + 0), none⟩ this
      · have hv' : (q i).cs[j]? = some v := by
          rw [List.getElem_map, List.getElem_range] at hv
          simp only [AOp.v] at hv
          rw [← Array.getElem?_toList] at hv
          exact hv
        have := h1 j v hv'
        rw [Addr.add_lit, ← Nat.add_assoc] at this
        exact this
    · obtain ⟨i, hi, rfl⟩ := List.mem_map.1 hx
      exact (hq i (List.mem_range.1 hi)).2.1
    · obtain ⟨i, hi, rfl⟩ := List.mem_map.1 hx
      exact (hq i (List.mem_range.1 hi)).2.2

set_option maxRecDepth 100000 in
theorem open_treeU {H : Type} {enc : TypeId × Value → H} {W : World} {fuel : Nat} {cs : List Value} {y : DataW H × List MemPlace} (hwt : Rows.uptoBulk y.1 ≤ 1048576) (h : DataW.trod enc Tryz.prog W 0 (fun _ => true) true fuel 26 cs = some y) :
    ∃ a len cap L ca cb cc cd ce, cs = [.slice a len cap, .int .i64 ca, .int .i64 cb, .int .i64 cc, .int .i64 cd, .int .i64 ce] ∧ L.length = len ∧ Ops (fun k => k < W.heap.size) W a L ∧ len * 152 ≤ 140737488351232 ∧ ∀ x ∈ L, x.n.ks.L.length ≤ 1048576 := by
  obtain ⟨y0, y1, n, hx1, hlen, g0, g1⟩ := trod_struct2 Tryz.underlying26 h
  have e0 : Tryz.prog.cellsOf 22 = 1 := by kernel_rfl
  have e1 : Tryz.prog.cellsOf 24 = 5 := by kernel_rfl
  have e4 : Tryz.prog.cellsOf 26 = 6 := by kernel_rfl
  rw [e4] at hlen
  have hx : y.1 = .agg [y0.1, y1.1] := by rw [hx1]
  rw [hx] at hwt
  simp only [Rows.uptoBulk, Rows.uptoBulkAll] at hwt
  match cs, hlen with
  | [v0, v1, v2, v3, v4, v5], _ =>
    simp only [e0, e1, List.drop_zero, List.drop_succ_cons, List.take_succ_cons, List.take_zero] at g0 g1
    obtain ⟨a, l, c, hv, L, hL, hO, hz, hks⟩ := open_aopsU (by omega) g0
    obtain ⟨ca, cb, cc, cd, ce, hc⟩ := open_cfg g1
    simp only [List.cons.injEq, and_true] at hc
    obtain ⟨h1, h2, h3, h4, h5⟩ := hc
    exact ⟨a, l, c, L, ca, cb, cc, cd, ce, by rw [hv, h1, h2, h3, h4, h5], hL, hO, hz, hks⟩

end Go.Proofs.YtibifkindpgkgaaGreat
