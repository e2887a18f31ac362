/- What came in: a script for builders. -/
import Derived.Test.YtjnldmbjeiejdaaG36
namespace Go.Proofs.Ytjnldmbjeiejdaa
open Go.ChangeShapes Go.WideShapes Go.ChangeAt Go.RowKit Go.Deep

structure BOp where
  b : Bool
  k : Int
  e : Ent
structure BOps (W : World) (b o : Nat) (L : List BOp) : Prop where
  at0 : ∀ i (h : i < L.length), W.cell? ⟨b, o + i * 4, none⟩ = some (.bool L[i].b)
  at1 : ∀ i (h : i < L.length), W.cell? ⟨b, o + i * 4 + 1, none⟩ = some (.int .i64 L[i].k)
  at2 : ∀ i (h : i < L.length), W.cell? ⟨b, o + i * 4 + 2, none⟩ = some L[i].e.kv
  at3 : ∀ i (h : i < L.length), W.cell? ⟨b, o + i * 4 + 3, none⟩ = some L[i].e.vv
  ok : ∀ i (h : i < L.length), L[i].e.Ok W
theorem BOps.below {W W' : World} {b o : Nat} {L : List BOp} (h : BOps W b o L) (hb : Below W.heap.size W W') : BOps W' b o L := by
  have q : ∀ (p : Nat) (v : Value), W.cell? ⟨b, p, none⟩ = some v → W'.cell? ⟨b, p, none⟩ = some v := fun p v hv => (hb.cell (p := ⟨b, p, none⟩) (World.block_lt_of_cell? W ⟨b, p, none⟩ hv)).trans hv
  exact ⟨fun i hi => q _ _ (h.at0 i hi), fun i hi => q _ _ (h.at1 i hi), fun i hi => q _ _ (h.at2 i hi), fun i hi => q _ _ (h.at3 i hi), fun i hi => (h.ok i hi).below hb⟩
instance : Inhabited BOp := ⟨⟨false, 0, default⟩⟩
theorem trod_struct3B {H : Type} {enc : TypeId × Value → H} {P : Program} {w : World} {base : Nat} {spare : TypeId → Bool} {held : Bool} {t : TypeId} {f0 f1 f2 : Field} {fuel : Nat} {cs : List Value} {x : DataW H × List MemPlace} (ht : P.underlying t = some (.struct #[f0, f1, f2])) (h : DataW.trod enc P w base spare held fuel t cs = some x) :
    ∃ y0 y1 y2 n, x = (.agg [y0.1, y1.1, y2.1], y0.2 ++ (y1.2 ++ y2.2)) ∧ cs.length = P.cellsOf t ∧ DataW.trod enc P w base spare held n f0.type ((cs.drop f0.offset).take (P.cellsOf f0.type)) = some y0 ∧ DataW.trod enc P w base spare held n f1.type ((cs.drop f1.offset).take (P.cellsOf f1.type)) = some y1 ∧ DataW.trod enc P w base spare held n f2.type ((cs.drop f2.offset).take (P.cellsOf f2.type)) = some y2 := by
  obtain ⟨xs, n, _, rfl, hl, hlen, hf⟩ := DataW.trod_struct ht h
  match xs, hlen with
  | [y0, y1, y2], _ => exact ⟨y0, y1, y2, n, by simp, hl, by simpa using hf 0 f0 rfl, by simpa using hf 1 f1 rfl, by simpa using hf 2 f2 rfl⟩

set_option maxRecDepth 100000 in
theorem open_bop {H : Type} {enc : TypeId × Value → H} {W : World} {fuel : Nat} {cs : List Value} {y : DataW H × List MemPlace} (hwt : (DataW.weights Try.prog 61 y.1).all (· ≤ reachBytes) = true) (h : DataW.trod enc Try.prog W 0 (fun _ => true) true fuel 61 cs = some y) :
    ∃ q : BOp, cs = [.bool q.b, .int .i64 q.k, q.e.kv, q.e.vv] ∧ q.e.Ok W := by
  obtain ⟨y0, y1, y2, n, hx, hlen, g0, g1, g2⟩ := trod_struct3B Try.underlying61 h
  have e0 : Try.prog.cellsOf 4 = 1 := by kernel_rfl
  have e1 : Try.prog.cellsOf 3 = 1 := by kernel_rfl
  have e2 : Try.prog.cellsOf 25 = 2 := by kernel_rfl
  have e4 : Try.prog.cellsOf 61 = 4 := by kernel_rfl
  rw [e4] at hlen
  have hx1 : y.1 = .agg [y0.1, y1.1, y2.1] := by rw [hx]
  rw [hx1] at hwt
  simp only [DataW.weights, Try.underlying61, List.map_cons, DataW.weightsEach, List.all_append, Bool.and_eq_true] at hwt
  match cs, hlen with
  | [v0, v1, v2, v3], _ =>
    simp only [e0, e1, e2, List.drop_zero, List.drop_succ_cons, List.take_succ_cons, List.take_zero] at g0 g1 g2
    obtain ⟨bq, hb0, _⟩ := DataW.trod_bool Try.underlying4 g0
    obtain ⟨kq, hk0, _, _⟩ := DataW.trod_int Try.underlying3 g1
    obtain ⟨ka, lk, ck, ks, va, lv, cv, vs, hcs, ik, iv, sk, sv⟩ := open_entry g2
    simp only [List.cons.injEq, and_true] at hb0 hk0 hcs
    obtain ⟨rfl, rfl⟩ := hcs
    subst hb0
    subst hk0
    have s1 := sk.1 reachBytes hwt.2.2.1
    have s2 := sv.1 reachBytes hwt.2.2.1
    simp only [reachBytes] at s1 s2
    have hk := ik.hlen
    have hv := iv.hlen
    subst hk
    subst hv
    exact ⟨⟨bq, kq, ⟨ka, ck, ks, va, cv, vs⟩⟩, rfl, ik.row, iv.row, ik.hnone, iv.hnone, ik.hcap, iv.hcap, wf_b8 ik.wf, wf_b8 iv.wf, by show ks.length ≤ _; omega, by show vs.length ≤ _; omega⟩

set_option maxRecDepth 100000 in
theorem open_bops {H : Type} {enc : TypeId × Value → H} {W : World} {fuel : Nat} {a0 : Option Addr} {len cap : Nat} {y : DataW H × List MemPlace} (hwt : (DataW.weights Try.prog 53 y.1).all (· ≤ reachBytes) = true)
    (h : DataW.trod enc Try.prog W 0 (fun _ => true) true fuel 53 [.slice a0 len cap] = some y) : ∃ (b o : Nat) (L : List BOp), L.length = len ∧ (0 < len → a0 = some ⟨b, o, none⟩) ∧ BOps W b o L ∧ len * 64 ≤ 140737488351232 := by
  rcases open_slice Try.underlying53 h with ⟨hcs, _⟩ | ⟨a, l, c, m, n, D, Pl, hcs, _, hl, hm, hmm, hx, hel⟩
  · simp only [List.cons.injEq, and_true, Value.slice.injEq] at hcs
    obtain ⟨rfl, rfl, rfl⟩ := hcs
    exact ⟨0, 0, [], rfl, fun h => absurd h (by omega), ⟨fun i hi => absurd hi (Nat.not_lt_zero i), fun i hi => absurd hi (Nat.not_lt_zero i), fun i hi => absurd hi (Nat.not_lt_zero i), fun i hi => absurd hi (Nat.not_lt_zero i), fun i hi => absurd hi (Nat.not_lt_zero i)⟩, by omega⟩
  · simp only [List.cons.injEq, and_true, Value.slice.injEq] at hcs
    obtain ⟨rfl, rfl, rfl⟩ := hcs
    simp only [if_true] at hmm
    subst hmm
    have e47 : Try.prog.cellsOf 61 = 4 := by kernel_rfl
    rw [hx] at hwt
    simp only [DataW.weights, Try.underlying53, List.all_cons, List.all_append, Bool.and_eq_true, decide_eq_true_eq, List.length_map, List.length_range] at hwt
    rw [show Try.prog.bytesOf 61 = 64 from by kernel_rfl] at hwt
    obtain ⟨w1, w2, _⟩ := hwt
    simp only [reachBytes] at w1
    have hwD : ∀ i, i < len → (DataW.weights Try.prog 61 (D i)).all (· ≤ reachBytes) = true := fun i hi => List.all_eq_true.2 fun x hx => List.all_eq_true.1 w2 x (weights_mem_all (List.mem_map.2 ⟨i, List.mem_range.2 hi, rfl⟩) x hx)
    obtain ⟨q, hq⟩ := choose_lt (α := BOp) (n := len) (p := fun i q => W.cell? (a.add (i * 4)) = some (.bool q.b) ∧ W.cell? (a.add (i * 4 + 1)) = some (.int .i64 q.k) ∧ W.cell? (a.add (i * 4 + 2)) = some q.e.kv ∧ W.cell? (a.add (i * 4 + 3)) = some q.e.vv ∧ q.e.Ok W) (fun i hi => by
      obtain ⟨cs', h1, h2⟩ := hel i (by omega)
      rw [e47] at h1
      obtain ⟨_, hl3, hcell⟩ := World.cells?_some h1
      obtain ⟨qq, hcs, hok⟩ := open_bop (hwD i hi) h2
      subst hcs
      have c0 := hcell 0 (by omega)
      have c1 := hcell 1 (by omega)
      have c2 := hcell 2 (by omega)
      have c3 := hcell 3 (by omega)
      rw [add_addE] at c0 c1 c2 c3
      exact ⟨qq, by simpa using c0, by simpa using c1, by simpa using c2, by simpa using c3, hok⟩)
    obtain ⟨b, o, sp⟩ := a
    have hsp : 0 < len → sp = none := fun h0 => by simpa [Addr.add] using World.cell?_spot (hq 0 h0).1
    refine ⟨b, o, (List.range len).map q, by simp, fun h0 => by rw [hsp h0], ⟨fun i hi => ?_, fun i hi => ?_, fun i hi => ?_, fun i hi => ?_, fun i hi => ?_⟩, by omega⟩
    all_goals
      have hi' : i < len := by simpa using hi
      obtain ⟨h1, h2, h3, h4, h5⟩ := hq i hi'
      obtain rfl := hsp (by omega)
      rw [Addr.add_lit] at h1 h2 h3 h4
    · simpa using h1
    · simpa [Nat.add_assoc] using h2
    · simpa [Nat.add_assoc] using h3
    · simpa [Nat.add_assoc] using h4
    · simpa using h5

end Go.Proofs.Ytjnldmbjeiejdaa
