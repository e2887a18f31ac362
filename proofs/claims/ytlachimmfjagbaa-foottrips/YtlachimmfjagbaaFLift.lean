/- What came in: a slice of rows. -/
import Derived.Test.YtlachimmfjagbaaKLift
import Derived.Test.YtlachimmfjagbaaFSpan
import Derived.Deep.Slices
namespace Go.Proofs.Ytlachimmfjagbaa
open Go.ChangeShapes Go.WideShapes Go.ChangeAt Go.RowKit Go.Deep

theorem add_addF (a : Addr) (i j : Nat) : (a.add i).add j = a.add (i + j) := by
  unfold Addr.add
  by_cases h : i = 0
  · simp [h]
  · by_cases h' : j = 0
    · simp [h, h']
    · simp [h, h', Nat.add_assoc]
theorem weights_mem_allF {H : Type} {P : Program} {e : TypeId} {d : DataW H} : ∀ {l : List (DataW H)}, d ∈ l → ∀ n ∈ d.weights P e, n ∈ DataW.weightsAll P e l
  | x :: l, hd, n, hn => by
    simp only [DataW.weightsAll, List.mem_append]
    rcases List.mem_cons.1 hd with rfl | h
    · exact Or.inl hn
    · exact Or.inr (weights_mem_allF h n hn)
theorem wf_i64 {x : Int} (h : (Lit.int .i64 x).wf = true) : I64 x := by
  simp [Lit.wf, IntKind.min, IntKind.max, IntKind.signed, IntKind.bits] at h
  unfold I64
  omega

set_option maxRecDepth 100000 in
theorem open_span {H : Type} {enc : TypeId × Value → H} {W : World} {fuel : Nat} {cs : List Value} {y : DataW H × List MemPlace} (hwt : (DataW.weights Try.prog 33 y.1).all (· ≤ reachBytes) = true) (h : DataW.trod enc Try.prog W 0 (fun _ => true) true fuel 33 cs = some y) :
    ∃ q : Spn, cs = [q.kv, .int .i64 q.pl, .int .i64 q.ln, .int .i64 q.n] ∧ q.Ok W := by
  obtain ⟨y0, y1, y2, y3, n, hx1, hlen, g0, g1, g2, g3⟩ := trod_struct4 Try.underlying33 h
  have e0 : Try.prog.cellsOf 25 = 1 := by kernel_rfl
  have e1 : Try.prog.cellsOf 3 = 1 := by kernel_rfl
  have e4 : Try.prog.cellsOf 33 = 4 := by kernel_rfl
  rw [e4] at hlen
  rw [hx1] at hwt
  simp only [DataW.weights, Try.underlying33, List.map_cons, DataW.weightsEach, List.all_append, Bool.and_eq_true] at hwt
  match cs, hlen with
  | [v0, v1, v2, v3], _ =>
    simp only [e0, e1, List.drop_zero, List.drop_succ_cons, List.take_succ_cons, List.take_zero] at g0 g1 g2 g3
    obtain ⟨ka, lk, ck, ks, rfl, ik, sk⟩ := in_row Try.underlying25 Try.underlying5 (by kernel_rfl) g0
    obtain ⟨p, hp0, _, wp⟩ := DataW.trod_int Try.underlying3 g1
    obtain ⟨l, hl0, _, wl⟩ := DataW.trod_int Try.underlying3 g2
    obtain ⟨m, hm0, _, wm⟩ := DataW.trod_int Try.underlying3 g3
    simp only [List.cons.injEq, and_true] at hp0 hl0 hm0
    subst hp0
    subst hl0
    subst hm0
    rw [show Try.prog.bytesOf 5 = 1 from by kernel_rfl] at sk
    have s1 := sk.1 reachBytes hwt.1
    simp only [reachBytes] at s1
    have hk := ik.hlen
    subst hk
    exact ⟨⟨ka, ck, ks, p, l, m⟩, rfl, ik.row, ik.hnone, ik.hcap, wf_b8 ik.wf, by show ks.length ≤ _; omega, wf_i64 wp, wf_i64 wl, wf_i64 wm⟩

set_option maxRecDepth 100000 in
theorem open_spans {H : Type} {enc : TypeId × Value → H} {W : World} {fuel : Nat} {a0 : Option Addr} {len cap : Nat} {y : DataW H × List MemPlace} (hwt : (DataW.weights Try.prog 23 y.1).all (· ≤ reachBytes) = true)
    (h : DataW.trod enc Try.prog W 0 (fun _ => true) true fuel 23 [.slice a0 len cap] = some y) : ∃ (b o : Nat) (L : List Spn), L.length = len ∧ (0 < len → a0 = some ⟨b, o, none⟩) ∧ Sps W b o L ∧ len * 48 ≤ 140737488351232 := by
  rcases open_slice Try.underlying23 h with ⟨hcs, _⟩ | ⟨a, l, c, m, n, D, Pl, hcs, _, hl, hm, hmm, hx, hel⟩
  · simp only [List.cons.injEq, and_true, Value.slice.injEq] at hcs
    obtain ⟨rfl, rfl, rfl⟩ := hcs
    exact ⟨0, 0, [], rfl, fun h => absurd h (by omega), ⟨fun i hi => absurd hi (Nat.not_lt_zero i), fun i hi => absurd hi (Nat.not_lt_zero i)⟩, by omega⟩
  · simp only [List.cons.injEq, and_true, Value.slice.injEq] at hcs
    obtain ⟨rfl, rfl, rfl⟩ := hcs
    simp only [if_true] at hmm
    subst hmm
    have e47 : Try.prog.cellsOf 33 = 4 := by kernel_rfl
    rw [hx] at hwt
    simp only [DataW.weights, Try.underlying23, List.all_cons, List.all_append, Bool.and_eq_true, decide_eq_true_eq, List.length_map, List.length_range] at hwt
    rw [show Try.prog.bytesOf 33 = 48 from by kernel_rfl] at hwt
    obtain ⟨w1, w2, _⟩ := hwt
    simp only [reachBytes] at w1
    have hwD : ∀ i, i < len → (DataW.weights Try.prog 33 (D i)).all (· ≤ reachBytes) = true := fun i hi => List.all_eq_true.2 fun x hx => List.all_eq_true.1 w2 x (weights_mem_allF (List.mem_map.2 ⟨i, List.mem_range.2 hi, rfl⟩) x hx)
    obtain ⟨q, hq⟩ := choose_lt (α := Spn) (n := len) (p := fun i q => W.cell? (a.add (i * 4)) = some q.kv ∧ W.cell? (a.add (i * 4 + 1)) = some (.int .i64 q.pl) ∧ W.cell? (a.add (i * 4 + 2)) = some (.int .i64 q.ln) ∧ W.cell? (a.add (i * 4 + 3)) = some (.int .i64 q.n) ∧ q.Ok W) (fun i hi => by
      obtain ⟨cs', h1, h2⟩ := hel i (by omega)
      rw [e47] at h1
      obtain ⟨_, hl3, hcell⟩ := World.cells?_some h1
      obtain ⟨qq, hcs, hok⟩ := open_span (hwD i hi) h2
      subst hcs
      have c0 := hcell 0 (by omega)
      have c1 := hcell 1 (by omega)
      have c2 := hcell 2 (by omega)
      have c3 := hcell 3 (by omega)
      rw [add_addF] at c0 c1 c2 c3
      exact ⟨qq, by simpa using c0, by simpa using c1, by simpa using c2, by simpa using c3, hok⟩)
    obtain ⟨b, o, sp⟩ := a
    have hsp : 0 < len → sp = none := fun h0 => by simpa [Addr.add] using World.cell?_spot (hq 0 h0).1
    refine ⟨b, o, (List.range len).map q, by simp, fun h0 => by rw [hsp h0], ⟨fun i hi => ?_, fun i hi => ?_⟩, by omega⟩
    all_goals
      have hi' : i < len := by simpa using hi
      obtain ⟨h1, h2, h3, h4, h5⟩ := hq i hi'
      obtain rfl := hsp (by omega)
      rw [Addr.add_lit] at h1 h2 h3 h4
    · exact ⟨by simpa using h1, by simpa [Nat.add_assoc] using h2, by simpa [Nat.add_assoc] using h3, by simpa [Nat.add_assoc] using h4⟩
    · simpa using h5

end Go.Proofs.Ytlachimmfjagbaa
