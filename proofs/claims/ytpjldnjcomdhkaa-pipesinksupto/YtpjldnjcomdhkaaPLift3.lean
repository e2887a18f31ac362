/- What came in: a slice of texts. -/
import Derived.Test.YtpjldnjcomdhkaaPLift
import Derived.Test.YtpjldnjcomdhkaaPSinks
namespace Go.Proofs.Ytpjldnjcomdhkaa
open Go.ChangeShapes Go.WideShapes Go.ChangeAt Go.RowKit Go.Deep

theorem bulk_append {H : Type} : ∀ l r : List (DataW H), Rows.uptoBulkAll (l ++ r) = Rows.uptoBulkAll l + Rows.uptoBulkAll r
  | [], r => by simp [Rows.uptoBulkAll]
  | x :: l, r => by
    have := bulk_append l r
    simp only [List.cons_append, Rows.uptoBulkAll]
    omega
theorem tot_bulk {H : Type} (Lf : Nat → Nat) (D : Nat → DataW H) : ∀ n, (∀ i, i < n → Lf i ≤ Rows.uptoBulk (D i)) → tot Lf n ≤ Rows.uptoBulkAll ((List.range n).map D)
  | 0, _ => Nat.zero_le _
  | n + 1, h => by
    have h1 := tot_bulk Lf D n (fun i hi => h i (by omega))
    have h2 := h n (by omega)
    rw [List.range_succ, List.map_append, bulk_append]
    simp only [tot, List.map_cons, List.map_nil, Rows.uptoBulkAll]
    omega

theorem open_u8ss {H : Type} {enc : TypeId × Value → H} {W : World} {fuel : Nat} {a0 : Option Addr} {len cap : Nat} {d : DataW H} {pl : List MemPlace} (hb : Rows.uptoBulk d ≤ 1048576)
    (h : DataW.trod enc Try.prog W 0 (fun _ => true) true fuel 48 [.slice a0 len cap] = some (d, pl)) : ∃ (Af : Nat → Option Addr) (Lf Cf : Nat → Nat) (Zf : Nat → List Int), len ≤ 1048576 ∧ IsTs W a0 len Af Lf Cf Zf ∧ tot Lf len ≤ 1048576 := by
  rcases open_slice1 Try.underlying48 (by kernel_rfl) h with ⟨hcs, _⟩ | ⟨a, l, c, m, n, V, D, Pl, hcs, _, hl, hm, hmm, hx, hel⟩
  · simp only [List.cons.injEq, and_true, Value.slice.injEq] at hcs
    obtain ⟨rfl, rfl, rfl⟩ := hcs
    exact ⟨fun _ => none, fun _ => 0, fun _ => 0, fun _ => [], by omega, ⟨fun i hi => absurd hi (Nat.not_lt_zero i), fun i hi => absurd hi (Nat.not_lt_zero i), fun i hi => absurd hi (Nat.not_lt_zero i), fun i hi => absurd hi (Nat.not_lt_zero i), fun i hi => absurd hi (Nat.not_lt_zero i)⟩, Nat.zero_le _⟩
  · simp only [List.cons.injEq, and_true, Value.slice.injEq] at hcs
    obtain ⟨rfl, rfl, rfl⟩ := hcs
    simp only [if_true] at hmm
    subst hmm
    obtain ⟨q, hq⟩ := choose_lt (α := Option Addr × Nat × Nat × List Int) (n := len) (p := fun i q => W.cell? (a.add i) = some (.slice q.1 q.2.1 q.2.2.1) ∧ InRow W .u8 q.1 q.2.1 q.2.2.1 q.2.2.2 ∧ q.2.1 ≤ Rows.uptoBulk (D i)) (fun i hi => by
      obtain ⟨h1, h2⟩ := hel i (by omega)
      obtain ⟨a', l', c', zs, hv, hr, hs⟩ := in_row Try.underlying23 Try.underlying5 (by kernel_rfl) h2
      exact ⟨(a', l', c', zs), by rw [h1, hv], hr, hs.2⟩)
    have hd := (Prod.mk.inj hx).1
    rw [hd] at hb
    simp only [Rows.uptoBulk] at hb
    have hb2 := bulk_len ((List.range len).map D)
    rw [List.length_map, List.length_range] at hb2
    have hb3 := tot_bulk (fun i => (q i).2.1) D len (fun i hi => (hq i hi).2.2)
    refine ⟨fun i => (q i).1, fun i => (q i).2.1, fun i => (q i).2.2.1, fun i => (q i).2.2.2, by omega, ⟨fun i hi => ?_, fun i hi => (hq i hi).2.1.hnone, fun i hi => (hq i hi).2.1.hlen, fun i hi => (hq i hi).2.1.hcap, fun i hi => (hq i hi).2.1.row⟩, by omega⟩
    have hc := (hq i hi).1
    have hsp := World.cell?_spot (hq 0 (by omega)).1
    obtain ⟨b, o, sp⟩ := a
    obtain rfl : sp = none := by simpa [Addr.add] using hsp
    rw [Addr.add_lit] at hc
    exact ⟨b, o, rfl, hc⟩

end Go.Proofs.Ytpjldnjcomdhkaa
