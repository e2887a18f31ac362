/- Texts of one's own. -/
import Derived.Test.YtealejbfloacpaaGreatM4
import Derived.Test.YtealejbfloacpaaGreatM7
import Derived.Test.YtealejbfloacpaaGreatM16
import Derived.Deep.Slices
namespace Go.Proofs.YtealejbfloacpaaGreat
open Go.ChangeShapes Go.WideShapes Go.ChangeAt Go.RowKit Go.Deep
theorem add_addA (a : Addr) (i j : Nat) : (a.add i).add j = a.add (i + j) := by
 unfold Addr.add
 by_cases h : i = 0
 ·simp [h]
 ·by_cases h' : j = 0
  ·simp [h, h']
  ·simp [h, h', Nat.add_assoc]
instance : Inhabited AOp := ⟨⟨0, 0, 0, 0, false, Nd.zero⟩⟩
end Go.Proofs.YtealejbfloacpaaGreat
namespace Go.Proofs.YtealejbfloacpaaGreat
open Go.ChangeShapes Go.WideShapes Go.ChangeAt Go.RowKit Go.Deep
theorem bulk_memU {H : Type} {d : DataW H} : ∀ {l : List (DataW H)}, d ∈ l → Rows.uptoBulk d ≤ Rows.uptoBulkAll l
 | x :: l, hd => by
  simp only [Rows.uptoBulkAll]
  rcases List.mem_cons.1 hd with rfl | h
  ·omega
  ·have := bulk_memU h
   omega
theorem bulk_lenU {H : Type} : ∀ l : List (DataW H), l.length ≤ Rows.uptoBulkAll l
 | [] => Nat.zero_le _
 | x :: r => by have := bulk_one x; have := bulk_lenU r; simp only [Rows.uptoBulkAll, List.length_cons]; omega
set_option maxRecDepth 100000 in
theorem open_txU {H : Type} {enc : TypeId × Value → H} {W : World} {fuel : Nat} {v : Value} {y : DataW H × List MemPlace} (hwt : Rows.uptoBulk y.1 ≤ 1048576) (h : DataW.trod enc Tryz.prog W 0 (fun _ => true) true fuel 23 [v] = some y) :
  ∃ t : Tx, v = t.v ∧ t.Ok W := by
 obtain ⟨a', l', c', zs, hv, hr, hs⟩ := in_row Tryz.underlying23 Tryz.underlying5 (by kernel_rfl) h
 rw [show Tryz.prog.bytesOf 5 = 1 from by kernel_rfl] at hs
 have s1 := Nat.le_trans hs.2 hwt
 have hk := hr.hlen
 subst hk
 exact ⟨⟨a', c', zs⟩, hv, hr.row, hr.hnone, hr.hcap, wf_b8 hr.wf, by show zs.length ≤ _; omega⟩
set_option maxRecDepth 100000 in
theorem open_tlU {H : Type} {enc : TypeId × Value → H} {W : World} {fuel : Nat} {v : Value} {y : DataW H × List MemPlace} (hwt : Rows.uptoBulk y.1 ≤ 1048576)
  (h : DataW.trod enc Tryz.prog W 0 (fun _ => true) true fuel 30 [v] = some y) : ∃ t : TL, v = t.v ∧ t.Ok W ∧ t.L.length ≤ 1048576 := by
 rcases open_slice1 Tryz.underlying30 (by kernel_rfl) h with ⟨hcs, _⟩ | ⟨a, l, c, m, n, V, D, Pl, hcs, _, hl, hm, hmm, hx, hel⟩
 ·simp only [List.cons.injEq, and_true] at hcs
  exact ⟨⟨none, 0, []⟩, hcs, TL.nil_ok W, by simp⟩
 ·simp only [List.cons.injEq, and_true] at hcs
  subst hcs
  simp only [if_true] at hmm
  subst hmm
  rw [hx] at hwt
  simp only [Rows.uptoBulk] at hwt
  have w1 : l ≤ 1048576 := by have := bulk_lenU ((List.range l).map D); simp only [List.length_map, List.length_range] at this; omega
  have hwD : ∀ i, i < l → Rows.uptoBulk (D i) ≤ 1048576 := fun i hi => by have := bulk_memU (List.mem_map.2 ⟨i, List.mem_range.2 hi, rfl⟩ : D i ∈ (List.range l).map D); omega
  obtain ⟨q, hq⟩ := choose_lt (α := Tx) (n := l) (p := fun i q => W.cell? (a.add i) = some q.v ∧ q.Ok W) (fun i hi => by
   obtain ⟨h1, h2⟩ := hel i (by omega)
   obtain ⟨t, ht, hok⟩ := open_txU (hwD i hi) h2
   exact ⟨t, by rw [h1, ht], hok⟩)
  obtain ⟨b, o, sp⟩ := a
  have hsp : 0 < l → sp = none := fun h0 => by simpa [Addr.add] using World.cell?_spot (hq 0 h0).1
  refine ⟨⟨some ⟨b, o, sp⟩, m, (List.range l).map q⟩, by simp [TL.v], ⟨fun i hi => ?_, fun x hx => ?_, fun e => (by cases e), by simpa using hl⟩, by simp only [List.length_map, List.length_range]; omega⟩
  ·have hi' : i < l := by simpa using hi
   obtain ⟨h1, h3⟩ := hq i hi'
   obtain rfl := hsp (by omega)
   rw [Addr.add_lit] at h1
   exact ⟨b, o, rfl, by simpa using h1⟩
  ·obtain ⟨i, hi, rfl⟩ := List.mem_map.1 hx
   exact (hq i (List.mem_range.1 hi)).2
end Go.Proofs.YtealejbfloacpaaGreat
