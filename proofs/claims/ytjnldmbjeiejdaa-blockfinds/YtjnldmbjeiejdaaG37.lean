/- What came in: a slice of texts. -/
import Derived.Test.YtjnldmbjeiejdaaG36
namespace Go.Proofs.Ytjnldmbjeiejdaa
open Go.ChangeShapes Go.WideShapes Go.ChangeAt Go.RowKit Go.Deep

structure Txt where
  a : Option Addr
  c : Nat
  s : List Int
def Txt.v (t : Txt) : Value := .slice t.a t.s.length t.c
structure Txt.Ok (W : World) (t : Txt) : Prop where
  r : Row W .u8 t.a t.s
  n : t.a = none → t.s.length = 0 ∧ t.c = 0
  lc : t.s.length ≤ t.c
  b8 : B8 t.s
  z : t.s.length ≤ 140737488351232
structure Txs (W : World) (b o : Nat) (L : List Txt) : Prop where
  at' : ∀ i (h : i < L.length), W.cell? ⟨b, o + i, none⟩ = some L[i].v
  ok : ∀ i (h : i < L.length), L[i].Ok W
theorem Txs.below {W W' : World} {b o : Nat} {L : List Txt} (h : Txs W b o L) (hb : Below W.heap.size W W') : Txs W' b o L :=
  ⟨fun i hi => (hb.cell (p := ⟨b, o + i, none⟩) (World.block_lt_of_cell? W ⟨b, o + i, none⟩ (h.at' i hi))).trans (h.at' i hi), fun i hi => ⟨(h.ok i hi).r.below2 hb, (h.ok i hi).n, (h.ok i hi).lc, (h.ok i hi).b8, (h.ok i hi).z⟩⟩
instance : Inhabited Txt := ⟨⟨none, 0, []⟩⟩

set_option maxRecDepth 100000 in
theorem open_texts {H : Type} {enc : TypeId × Value → H} {W : World} {fuel : Nat} {a0 : Option Addr} {len cap : Nat} {y : DataW H × List MemPlace} (hwt : (DataW.weights Try.prog 42 y.1).all (· ≤ reachBytes) = true)
    (h : DataW.trod enc Try.prog W 0 (fun _ => true) true fuel 42 [.slice a0 len cap] = some y) : ∃ (b o : Nat) (L : List Txt), L.length = len ∧ (0 < len → a0 = some ⟨b, o, none⟩) ∧ Txs W b o L ∧ len * 24 ≤ 140737488351232 := by
  rcases open_slice1 Try.underlying42 (by kernel_rfl) h with ⟨hcs, _⟩ | ⟨a, l, c, m, n, V, D, Pl, hcs, _, hl, hm, hmm, hx, hel⟩
  · simp only [List.cons.injEq, and_true, Value.slice.injEq] at hcs
    obtain ⟨rfl, rfl, rfl⟩ := hcs
    exact ⟨0, 0, [], rfl, fun h => absurd h (by omega), ⟨fun i hi => absurd hi (Nat.not_lt_zero i), fun i hi => absurd hi (Nat.not_lt_zero i)⟩, by omega⟩
  · simp only [List.cons.injEq, and_true, Value.slice.injEq] at hcs
    obtain ⟨rfl, rfl, rfl⟩ := hcs
    simp only [if_true] at hmm
    subst hmm
    rw [hx] at hwt
    simp only [DataW.weights, Try.underlying42, List.all_cons, List.all_append, Bool.and_eq_true, decide_eq_true_eq, List.length_map, List.length_range] at hwt
    rw [show Try.prog.bytesOf 23 = 24 from by kernel_rfl] at hwt
    obtain ⟨w1, w2, _⟩ := hwt
    simp only [reachBytes] at w1
    have hwD : ∀ i, i < len → (DataW.weights Try.prog 23 (D i)).all (· ≤ reachBytes) = true := fun i hi => List.all_eq_true.2 fun x hx => List.all_eq_true.1 w2 x (weights_mem_all (List.mem_map.2 ⟨i, List.mem_range.2 hi, rfl⟩) x hx)
    obtain ⟨q, hq⟩ := choose_lt (α := Txt) (n := len) (p := fun i q => W.cell? (a.add i) = some q.v ∧ q.Ok W) (fun i hi => by
      obtain ⟨h1, h2⟩ := hel i (by omega)
      obtain ⟨a', l', c', zs, hv, hr, hs⟩ := in_row Try.underlying23 Try.underlying5 (by kernel_rfl) h2
      rw [show Try.prog.bytesOf 5 = 1 from by kernel_rfl] at hs
      have s1 := hs.1 reachBytes (hwD i hi)
      simp only [reachBytes] at s1
      have hk := hr.hlen
      subst hk
      exact ⟨⟨a', c', zs⟩, by rw [h1, hv]; rfl, hr.row, hr.hnone, hr.hcap, wf_b8 hr.wf, by show zs.length ≤ _; omega⟩)
    obtain ⟨b, o, sp⟩ := a
    have hsp : 0 < len → sp = none := fun h0 => by simpa [Addr.add] using World.cell?_spot (hq 0 h0).1
    refine ⟨b, o, (List.range len).map q, by simp, fun h0 => by rw [hsp h0], ⟨fun i hi => ?_, fun i hi => ?_⟩, by omega⟩
    all_goals
      have hi' : i < len := by simpa using hi
      obtain ⟨h1, h3⟩ := hq i hi'
      obtain rfl := hsp (by omega)
      rw [Addr.add_lit] at h1
    · simpa using h1
    · simpa using h3

end Go.Proofs.Ytjnldmbjeiejdaa
