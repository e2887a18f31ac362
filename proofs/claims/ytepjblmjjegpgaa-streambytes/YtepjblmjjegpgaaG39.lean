/- What came in: a slice of entries. -/
import Derived.Test.YtepjblmjjegpgaaG12
import Derived.Test.YtepjblmjjegpgaaG29
import Derived.Deep.Slices
namespace Go.Proofs.Ytepjblmjjegpgaa
open Go.ChangeShapes Go.WideShapes Go.ChangeAt Go.RowKit Go.Deep

theorem add_addE (a : Addr) (i j : Nat) : (a.add i).add j = a.add (i + j) := by
  unfold Addr.add
  by_cases h : i = 0
  · simp [h]
  · by_cases h' : j = 0
    · simp [h, h']
    · simp [h, h', Nat.add_assoc]
instance : Inhabited Ent := ⟨⟨none, 0, [], none, 0, []⟩⟩
theorem weights_mem_all {H : Type} {P : Program} {e : TypeId} {d : DataW H} : ∀ {l : List (DataW H)}, d ∈ l → ∀ n ∈ d.weights P e, n ∈ DataW.weightsAll P e l
  | x :: l, hd, n, hn => by
    simp only [DataW.weightsAll, List.mem_append]
    rcases List.mem_cons.1 hd with rfl | h
    · exact Or.inl hn
    · exact Or.inr (weights_mem_all h n hn)

set_option maxRecDepth 100000 in
theorem open_entries {H : Type} {enc : TypeId × Value → H} {W : World} {fuel : Nat} {a0 : Option Addr} {len cap : Nat} {y : DataW H × List MemPlace} (hwt : (DataW.weights Try.prog 22 y.1).all (· ≤ reachBytes) = true)
    (h : DataW.trod enc Try.prog W 0 (fun _ => true) true fuel 22 [.slice a0 len cap] = some y) : ∃ (b o : Nat) (L : List Ent), L.length = len ∧ (0 < len → a0 = some ⟨b, o, none⟩) ∧ Ens W b o L ∧ len * 48 ≤ 140737488351232 := by
  rcases open_slice Try.underlying22 h with ⟨hcs, _⟩ | ⟨a, l, c, m, n, D, Pl, hcs, _, hl, hm, hmm, hx, hel⟩
  · simp only [List.cons.injEq, and_true, Value.slice.injEq] at hcs
    obtain ⟨rfl, rfl, rfl⟩ := hcs
    exact ⟨0, 0, [], rfl, fun h => absurd h (by omega), ⟨fun i hi => absurd hi (Nat.not_lt_zero i), fun i hi => absurd hi (Nat.not_lt_zero i), fun i hi => absurd hi (Nat.not_lt_zero i)⟩, by omega⟩
  · simp only [List.cons.injEq, and_true, Value.slice.injEq] at hcs
    obtain ⟨rfl, rfl, rfl⟩ := hcs
    simp only [if_true] at hmm
    subst hmm
    have e47 : Try.prog.cellsOf 35 = 2 := by kernel_rfl
    rw [hx] at hwt
    simp only [DataW.weights, Try.underlying22, List.all_cons, List.all_append, Bool.and_eq_true, decide_eq_true_eq, List.length_map, List.length_range] at hwt
    rw [show Try.prog.bytesOf 35 = 48 from by kernel_rfl] at hwt
    obtain ⟨w1, w2, _⟩ := hwt
    simp only [reachBytes] at w1
    have hwD : ∀ i, i < len → (DataW.weights Try.prog 35 (D i)).all (· ≤ reachBytes) = true := fun i hi => List.all_eq_true.2 fun x hx => List.all_eq_true.1 w2 x (weights_mem_all (List.mem_map.2 ⟨i, List.mem_range.2 hi, rfl⟩) x hx)
    obtain ⟨q, hq⟩ := choose_lt (α := Ent) (n := len) (p := fun i q => W.cell? (a.add (i * 2)) = some q.kv ∧ W.cell? (a.add (i * 2 + 1)) = some q.vv ∧ q.Ok W) (fun i hi => by
      obtain ⟨cs', h1, h2⟩ := hel i (by omega)
      rw [e47] at h1
      obtain ⟨_, hl3, hcell⟩ := World.cells?_some h1
      obtain ⟨ka, lk, ck, ks, va, lv, cv, vs, hcs, ik, iv, sk, sv⟩ := open_entry h2
      subst hcs
      have c0 := hcell 0 (by omega)
      have c1 := hcell 1 (by omega)
      rw [add_addE] at c0 c1
      have s1 := sk.1 reachBytes (hwD i hi)
      have s2 := sv.1 reachBytes (hwD i hi)
      simp only [reachBytes] at s1 s2
      have hk := ik.hlen
      have hv := iv.hlen
      subst hk
      subst hv
      exact ⟨⟨ka, ck, ks, va, cv, vs⟩, by show _ = some (Value.slice ka ks.length ck); simpa using c0, by show _ = some (Value.slice va vs.length cv); simpa using c1, ik.row, iv.row, ik.hnone, iv.hnone, ik.hcap, iv.hcap, wf_b8 ik.wf, wf_b8 iv.wf, by show ks.length ≤ _; omega, by show vs.length ≤ _; omega⟩)
    obtain ⟨b, o, sp⟩ := a
    have hsp : 0 < len → sp = none := fun h0 => by simpa [Addr.add] using World.cell?_spot (hq 0 h0).1
    refine ⟨b, o, (List.range len).map q, by simp, fun h0 => by rw [hsp h0], ⟨fun i hi => ?_, fun i hi => ?_, fun i hi => ?_⟩, by omega⟩
    all_goals
      have hi' : i < len := by simpa using hi
      obtain ⟨h1, h2, h3⟩ := hq i hi'
      obtain rfl := hsp (by omega)
      rw [Addr.add_lit] at h1 h2
    · simpa using h1
    · simpa [Nat.add_assoc] using h2
    · simpa using h3

end Go.Proofs.Ytepjblmjjegpgaa
