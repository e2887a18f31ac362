/- What came in: a slice of entries. -/
import Derived.Test.YtepjblmjjegpgaaGreatW12
import Derived.Test.YtepjblmjjegpgaaGreatW29
import Derived.Deep.Slices
namespace Go.Proofs.YtepjblmjjegpgaaGreat
open Go.ChangeShapes Go.WideShapes Go.ChangeAt Go.RowKit Go.Deep

theorem add_addE (a : Addr) (i j : Nat) : (a.add i).add j = a.add (i + j) := by
  unfold Addr.add
  by_cases h : i = 0
  · simp [h]
  · by_cases h' : j = 0
    · simp [h, h']
    · simp [h, h', Nat.add_assoc]
instance : Inhabited Ent := ⟨⟨none, 0, [], none, 0, []⟩⟩
theorem weights_mem_all {H : Type} {P : Program} {e : TypeId} {d : DataW H} : ∀ {l : List (DataW H)}, d ∈ l → ∀ n ∈ d.weights P e, n ∈ DataW.weightsAll P e l
  | x :: l, hd, n, hn => by
    simp only [DataW.weightsAll, List.mem_append]
    rcases List.mem_cons.1 hd with rfl | h
    · exact Or.inl hn
    · exact Or.inr (weights_mem_all h n hn)

set_option maxRecDepth 100000 in
theorem open_entries {H : Type} {enc : TypeId × Value → H} {W : World} {fuel : Nat} {a0 : Option Addr} {len cap : Nat} {y : DataW H × List MemPlace} (hwt : (DataW.weights Tryz.prog 27 y.1).all (· ≤ reachBytes) = true)
    (h : DataW.trod enc Tryz.prog W 0 (fun _ => true) true fuel 27 [.slice a0 len cap] = some y) : ∃ (b o : Nat) (L : List Ent), L.length = len ∧ (0 < len → a0 = some ⟨b, o, none⟩) ∧ Ens W b o L ∧ len * 48 ≤ 140737488351232 := by
  rcases open_slice Tryz.underlying27 h with ⟨hcs, _⟩ | ⟨a, l, c, m, n, D, Pl, hcs, _, hl, hm, hmm, hx, hel⟩
  · simp only [List.cons.injEq, and_true, Value.slice.injEq] at hcs
    obtain ⟨rfl, rfl, rfl⟩ := hcs
    exact ⟨0, 0, [], rfl, fun h => absurd h (by omega), ⟨fun i hi => absurd hi (Nat.not_lt_zero i), fun i hi => absurd hi (Nat.not_lt_zero i), fun i hi => absurd hi (Nat.not_lt_zero i)⟩, by omega⟩
  · simp only [List.cons.injEq, and_true, Value.slice.injEq] at hcs
    obtain ⟨rfl, rfl, rfl⟩ := hcs
    simp only [if_true] at hmm
    subst hmm
    have e47 : Tryz.prog.cellsOf 38 = 2 := by kernel_rfl
    rw [hx] at hwt
    simp only [DataW.weights, Tryz.underlying27, List.all_cons, List.all_append, Bool.and_eq_true, decide_eq_true_eq, List.length_map, List.length_range] at hwt
    rw [show Tryz.prog.bytesOf 38 = 48 from by kernel_rfl] at hwt
    obtain ⟨w1, w2, _⟩ := hwt
    simp only [reachBytes] at w1
    have hwD : ∀ i, i < len → (DataW.weights Tryz.prog 38 (D i)).all (· ≤ reachBytes) = true := fun i hi => List.all_eq_true.2 fun x hx => List.all_eq_true.1 w2 x (weights_mem_all (List.mem_map.2 ⟨i, List.mem_range.2 hi, rfl⟩) x hx)
    obtain ⟨q, hq⟩ := choose_lt (α := Ent) (n := len) (p := fun i q => W.cell? (a.add (i * 2)) = some q.kv ∧ W.cell? (a.add (i * 2 + 1)) = some q.vv ∧ q.Ok W) (fun i hi => by
      obtain ⟨cs', h1, h2⟩ := hel i (by omega)
      rw [e47] at h1
      obtain ⟨_, hl3, hcell⟩ := World.cells?_some h1
      obtain ⟨ka, lk, ck, ks, va, lv, cv, vs, hcs, ik, iv, sk, sv⟩ := open_entry h2
      subst hcs
      have c0 := hcell 0 (by omega)
      have c1 := hcell 1 (by omega)
      rw [add_addE] at c0 c1
      have s1 := sk.1 reachBytes (hwD i hi)
      have s2 := sv.1 reachBytes (hwD i hi)
      simp only [reachBytes] at s1 s2
      have hk := ik.hlen
      have hv := iv.hlen
      subst hk
      subst hv
      exact ⟨⟨ka, ck, ks, va, cv, vs⟩, by show _ = some (Value.slice ka ks.length ck); simpa using c0, by show _ = some (Value.slice va vs.length cv); simpa using c1, ik.row, iv.row, ik.hnone, iv.hnone, ik.hcap, iv.hcap, wf_b8 ik.wf, wf_b8 iv.wf, by show ks.length ≤ _; omega, by show vs.length ≤ _; omega⟩)
    obtain ⟨b, o, sp⟩ := a
    have hsp : 0 < len → sp = none := fun h0 => by simpa [Addr.add] using World.cell?_spot (hq 0 h0).1
    refine ⟨b, o, (List.range len).map q, by simp, fun h0 => by rw [hsp h0], ⟨fun i hi => ?_, fun i hi => ?_, fun i hi => ?_⟩, by omega⟩
    all_goals
      have hi' : i < len := by simpa using hi
      obtain ⟨h1, h2, h3⟩ := hq i hi'
      obtain rfl := hsp (by omega)
      rw [Addr.add_lit] at h1 h2
    · simpa using h1
    · simpa [Nat.add_assoc] using h2
    · simpa using h3

end Go.Proofs.YtepjblmjjegpgaaGreat

namespace Go.Proofs.YtepjblmjjegpgaaGreat
open Go.ChangeShapes Go.WideShapes Go.ChangeAt Go.RowKit Go.Deep

structure WOp where
  k : Int
  e : Ent
structure WOps (W : World) (b o : Nat) (L : List WOp) : Prop where
  at0 : ∀ i (h : i < L.length), W.cell? ⟨b, o + i * 3, none⟩ = some (.int .i64 L[i].k)
  at1 : ∀ i (h : i < L.length), W.cell? ⟨b, o + i * 3 + 1, none⟩ = some L[i].e.kv
  at2 : ∀ i (h : i < L.length), W.cell? ⟨b, o + i * 3 + 2, none⟩ = some L[i].e.vv
  ok : ∀ i (h : i < L.length), L[i].e.Ok W
theorem WOps.below {W W' : World} {b o : Nat} {L : List WOp} (h : WOps W b o L) (hb : Below W.heap.size W W') : WOps W' b o L := by
  have q : ∀ (p : Nat) (v : Value), W.cell? ⟨b, p, none⟩ = some v → W'.cell? ⟨b, p, none⟩ = some v := fun p v hv => (hb.cell (p := ⟨b, p, none⟩) (World.block_lt_of_cell? W ⟨b, p, none⟩ hv)).trans hv
  exact ⟨fun i hi => q _ _ (h.at0 i hi), fun i hi => q _ _ (h.at1 i hi), fun i hi => q _ _ (h.at2 i hi), fun i hi => (h.ok i hi).below hb⟩
instance : Inhabited WOp := ⟨⟨0, default⟩⟩
set_option maxRecDepth 100000 in
theorem open_wop {H : Type} {enc : TypeId × Value → H} {W : World} {fuel : Nat} {cs : List Value} {y : DataW H × List MemPlace} (hwt : (DataW.weights Tryz.prog 45 y.1).all (· ≤ reachBytes) = true) (h : DataW.trod enc Tryz.prog W 0 (fun _ => true) true fuel 45 cs = some y) :
    ∃ q : WOp, cs = [.int .i64 q.k, q.e.kv, q.e.vv] ∧ q.e.Ok W := by
  obtain ⟨y1, y2, n, hx, hlen, g1, g2⟩ := trod_struct2 Tryz.underlying45 h
  have e1 : Tryz.prog.cellsOf 3 = 1 := by kernel_rfl
  have e2 : Tryz.prog.cellsOf 38 = 2 := by kernel_rfl
  have e4 : Tryz.prog.cellsOf 45 = 3 := by kernel_rfl
  rw [e4] at hlen
  have hx1 : y.1 = .agg [y1.1, y2.1] := by rw [hx]
  rw [hx1] at hwt
  simp only [DataW.weights, Tryz.underlying45, List.map_cons, DataW.weightsEach, List.all_append, Bool.and_eq_true] at hwt
  match cs, hlen with
  | [v1, v2, v3], _ =>
    simp only [e1, e2, List.drop_zero, List.drop_succ_cons, List.take_succ_cons, List.take_zero] at g1 g2
    obtain ⟨kq, hk0, _, _⟩ := DataW.trod_int Tryz.underlying3 g1
    obtain ⟨ka, lk, ck, ks, va, lv, cv, vs, hcs, ik, iv, sk, sv⟩ := open_entry g2
    simp only [List.cons.injEq, and_true] at hk0 hcs
    obtain ⟨rfl, rfl⟩ := hcs
    subst hk0
    have s1 := sk.1 reachBytes hwt.2.1
    have s2 := sv.1 reachBytes hwt.2.1
    simp only [reachBytes] at s1 s2
    have hk := ik.hlen
    have hv := iv.hlen
    subst hk
    subst hv
    exact ⟨⟨kq, ⟨ka, ck, ks, va, cv, vs⟩⟩, rfl, ik.row, iv.row, ik.hnone, iv.hnone, ik.hcap, iv.hcap, wf_b8 ik.wf, wf_b8 iv.wf, by show ks.length ≤ _; omega, by show vs.length ≤ _; omega⟩

set_option maxRecDepth 100000 in
theorem open_wops {H : Type} {enc : TypeId × Value → H} {W : World} {fuel : Nat} {a0 : Option Addr} {len cap : Nat} {y : DataW H × List MemPlace} (hwt : (DataW.weights Tryz.prog 39 y.1).all (· ≤ reachBytes) = true)
    (h : DataW.trod enc Tryz.prog W 0 (fun _ => true) true fuel 39 [.slice a0 len cap] = some y) : ∃ (b o : Nat) (L : List WOp), L.length = len ∧ (0 < len → a0 = some ⟨b, o, none⟩) ∧ WOps W b o L ∧ len * 56 ≤ 140737488351232 := by
  rcases open_slice Tryz.underlying39 h with ⟨hcs, _⟩ | ⟨a, l, c, m, n, D, Pl, hcs, _, hl, hm, hmm, hx, hel⟩
  · simp only [List.cons.injEq, and_true, Value.slice.injEq] at hcs
    obtain ⟨rfl, rfl, rfl⟩ := hcs
    exact ⟨0, 0, [], rfl, fun h => absurd h (by omega), ⟨fun i hi => absurd hi (Nat.not_lt_zero i), fun i hi => absurd hi (Nat.not_lt_zero i), fun i hi => absurd hi (Nat.not_lt_zero i), fun i hi => absurd hi (Nat.not_lt_zero i)⟩, by omega⟩
  · simp only [List.cons.injEq, and_true, Value.slice.injEq] at hcs
    obtain ⟨rfl, rfl, rfl⟩ := hcs
    simp only [if_true] at hmm
    subst hmm
    have e47 : Tryz.prog.cellsOf 45 = 3 := by kernel_rfl
    rw [hx] at hwt
    simp only [DataW.weights, Tryz.underlying39, List.all_cons, List.all_append, Bool.and_eq_true, decide_eq_true_eq, List.length_map, List.length_range] at hwt
    rw [show Tryz.prog.bytesOf 45 = 56 from by kernel_rfl] at hwt
    obtain ⟨w1, w2, _⟩ := hwt
    simp only [reachBytes] at w1
    have hwD : ∀ i, i < len → (DataW.weights Tryz.prog 45 (D i)).all (· ≤ reachBytes) = true := fun i hi => List.all_eq_true.2 fun x hx => List.all_eq_true.1 w2 x (weights_mem_all (List.mem_map.2 ⟨i, List.mem_range.2 hi, rfl⟩) x hx)
    obtain ⟨q, hq⟩ := choose_lt (α := WOp) (n := len) (p := fun i q => W.cell? (a.add (i * 3)) = some (.int .i64 q.k) ∧ W.cell? (a.add (i * 3 + 1)) = some q.e.kv ∧ W.cell? (a.add (i * 3 + 2)) = some q.e.vv ∧ q.e.Ok W) (fun i hi => by
      obtain ⟨cs', h1, h2⟩ := hel i (by omega)
      rw [e47] at h1
      obtain ⟨_, hl3, hcell⟩ := World.cells?_some h1
      obtain ⟨qq, hcs, hok⟩ := open_wop (hwD i hi) h2
      subst hcs
      have c0 := hcell 0 (by omega)
      have c1 := hcell 1 (by omega)
      have c2 := hcell 2 (by omega)
      rw [add_addE] at c0 c1 c2
      exact ⟨qq, by simpa using c0, by simpa using c1, by simpa using c2, hok⟩)
    obtain ⟨b, o, sp⟩ := a
    have hsp : 0 < len → sp = none := fun h0 => by simpa [Addr.add] using World.cell?_spot (hq 0 h0).1
    refine ⟨b, o, (List.range len).map q, by simp, fun h0 => by rw [hsp h0], ⟨fun i hi => ?_, fun i hi => ?_, fun i hi => ?_, fun i hi => ?_⟩, by omega⟩
    all_goals
      have hi' : i < len := by simpa using hi
      obtain ⟨h1, h2, h3, h5⟩ := hq i hi'
      obtain rfl := hsp (by omega)
      rw [Addr.add_lit] at h1 h2 h3
    · simpa using h1
    · simpa [Nat.add_assoc] using h2
    · simpa [Nat.add_assoc] using h3
    · simpa using h5

end Go.Proofs.YtepjblmjjegpgaaGreat
