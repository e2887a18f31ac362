/- FootNames: the walk. -/
import Derived.Test.YtlachimmfjagbaaFWrites
import Derived.Test.YtlachimmfjagbaaFRead
import Derived.Test.YtlachimmfjagbaaFFind
import Derived.Lib.SlBytesConst
namespace Go.Proofs.Ytlachimmfjagbaa
open Go.RowKit

theorem row_new (w : World) (zs : List Int) (T : TypeId) (fz : Nat × Nat) : Row (w.alloc (.cells (zs.map (Value.int .u8)).toArray T fz)) .u8 (some ⟨w.heap.size, 0, none⟩) zs := by
  intro i hi
  refine ⟨w.heap.size, 0, rfl, ?_⟩
  rw [Nat.zero_add, cell_of_row _ _ _ _ _ _ (heap_alloc_new w _)]
  simp [List.getElem?_eq_getElem hi]

/-- The rows of the examples, as they stand. -/
structure Tw (W : World) (g k0 k1 : Nat) (kv : Value) (p0 l0 n0 p1 l1 n1 : Int) : Prop where
  b : W.heap[g]? = some (.cells #[kv, .int .i64 p0, .int .i64 l0, .int .i64 n0, .slice (some ⟨k1, 0, none⟩) 1 1, .int .i64 p1, .int .i64 l1, .int .i64 n1] 33 (0, 0))
  r0 : Row W .u8 (some ⟨k0, 0, none⟩) [97, 98]
  r1 : Row W .u8 (some ⟨k1, 0, none⟩) [99]
  d : k0 ≠ g ∧ k1 ≠ g
theorem row_upd {S : Nat → Prop} {W W' : World} {g : Nat} {zs : List Int} (h : Row W .u8 (some ⟨g, 0, none⟩) zs) (hu : Upd S W W') (hs : ¬ S g) : Row W' .u8 (some ⟨g, 0, none⟩) zs := fun i hi => by
  obtain ⟨b, o, e, hc⟩ := h i hi
  cases e
  exact ⟨g, 0, rfl, hu.cell hc hs⟩
theorem row_ltN {W : World} {g : Nat} {zs : List Int} (h : Row W .u8 (some ⟨g, 0, none⟩) zs) (hp : 0 < zs.length) : g < W.heap.size := by
  obtain ⟨b, o, e, hc⟩ := h 0 hp
  cases e
  exact World.block_lt_of_cell? W _ hc
section
variable {W W' : World} {g k0 k1 : Nat} {kv : Value} {p0 l0 n0 p1 l1 n1 : Int}
theorem Tw.below (h : Tw W g k0 k1 kv p0 l0 n0 p1 l1 n1) (hb : Below W.heap.size W W') : Tw W' g k0 k1 kv p0 l0 n0 p1 l1 n1 := ⟨(hb.block g (lt_of_block h.b)).trans h.b, h.r0.below2 hb, h.r1.below2 hb, h.d⟩
theorem Tw.upd {S : Nat → Prop} (h : Tw W g k0 k1 kv p0 l0 n0 p1 l1 n1) (hu : Upd S W W') (h1 : ¬ S g) (h2 : ¬ S k0) (h3 : ¬ S k1) : Tw W' g k0 k1 kv p0 l0 n0 p1 l1 n1 := ⟨hu.heap h.b h1, row_upd h.r0 hu h2, row_upd h.r1 hu h3, h.d⟩
theorem Tw.put (h : Tw W g k0 k1 kv p0 l0 n0 p1 l1 n1) (j : Nat) (x : Value) {kv' : Value} {p0' l0' n0' p1' l1' n1' : Int} (he : (#[kv, .int .i64 p0, .int .i64 l0, .int .i64 n0, .slice (some ⟨k1, 0, none⟩) 1 1, .int .i64 p1, .int .i64 l1, .int .i64 n1] : Array Value).setIfInBounds j x = #[kv', .int .i64 p0', .int .i64 l0', .int .i64 n0', .slice (some ⟨k1, 0, none⟩) 1 1, .int .i64 p1', .int .i64 l1', .int .i64 n1']) : Tw (W.setCell ⟨g, j, none⟩ x) g k0 k1 kv' p0' l0' n0' p1' l1' n1' := by
  have hu : Upd (fun k => k = g) W (W.setCell ⟨g, j, none⟩ x) := (Upd.refl (fun k => k = g) W).setCell ⟨g, j, none⟩ x (fun _ => rfl)
  exact ⟨by rw [← he]; exact block_setCell h.b j x, row_upd h.r0 hu h.d.1, row_upd h.r1 hu h.d.2, h.d⟩
theorem Tw.sps {ka : Option Addr} {kc : Nat} {ks : List Int} (h : Tw W g k0 k1 (.slice ka ks.length kc) p0 l0 n0 p1 l1 n1) (hk : (ka = some ⟨k0, 0, none⟩ ∧ kc = 2 ∧ ks = [97, 98]) ∨ (ka = none ∧ kc = 0 ∧ ks = [])) (i0 : I64 p0 ∧ I64 l0 ∧ I64 n0 ∧ I64 p1 ∧ I64 l1 ∧ I64 n1) : Sps W g 0 [⟨ka, kc, ks, p0, l0, n0⟩, ⟨some ⟨k1, 0, none⟩, 1, [99], p1, l1, n1⟩] := by
  have hc : ∀ j x, (#[.slice ka ks.length kc, .int .i64 p0, .int .i64 l0, .int .i64 n0, .slice (some ⟨k1, 0, none⟩) 1 1, .int .i64 p1, .int .i64 l1, .int .i64 n1] : Array Value)[j]? = some x → W.cell? ⟨g, j, none⟩ = some x := fun j x hx => by rw [cell_of_row _ _ _ _ _ _ h.b]; exact hx
  refine ⟨fun i hi => ?_, fun i hi => ?_⟩
  · match i, hi with
    | 0, _ => exact ⟨hc 0 _ rfl, hc 1 _ rfl, hc 2 _ rfl, hc 3 _ rfl⟩
    | 1, _ => exact ⟨hc 4 _ rfl, hc 5 _ rfl, hc 6 _ rfl, hc 7 _ rfl⟩
  · match i, hi with
    | 0, _ =>
      rcases hk with ⟨rfl, rfl, rfl⟩ | ⟨rfl, rfl, rfl⟩
      · exact ⟨h.r0, (fun e => by cases e), by show 2 ≤ 2; omega, fun u hu => by simp at hu; rcases hu with rfl | rfl <;> omega, by show 2 ≤ _; omega, i0.1, i0.2.1, i0.2.2.1⟩
      · exact ⟨row_nil _ _ _, fun _ => ⟨rfl, rfl⟩, by show 0 ≤ 0; omega, fun u hu => by simp at hu, by show 0 ≤ _; omega, i0.1, i0.2.1, i0.2.2.1⟩
    | 1, _ => exact ⟨h.r1, (fun e => by cases e), by show 1 ≤ 1; omega, fun u hu => by simp at hu; subst hu; omega, by show 1 ≤ _; omega, i0.2.2.2.1, i0.2.2.2.2.1, i0.2.2.2.2.2⟩
end

theorem conv1F (w : World) (o : Obj) (C : Array Value) (n c : Nat) : (convert 25 25 (.slice (some ⟨w.heap.size + 1, 0, none⟩) n c)).run Try.prog ((w.alloc o).alloc (.cells C 5)) = .ok (.slice (some ⟨w.heap.size + 1, 0, none⟩) n c) ((w.alloc o).alloc (.cells C 5 (C.size, C.size + 1))) := by
  have := Lib.run_convert_bytes_const (P := Try.prog) (w.alloc o) 25 5 C n c Try.underlying25 Try.underlying5
  rwa [World.size_alloc] at this
set_option maxHeartbeats 800000 in
theorem two_any (w : World) :
    Calls Try.prog 9 #[] w fun e w' => ∃ g k0 k1, e = .returned (.slice (some ⟨g, 0, none⟩) 2 2) ∧ Tw w' g k0 k1 (.slice (some ⟨k0, 0, none⟩) 2 2) 8 20 2 28 15 1 ∧ w.heap.size ≤ g ∧ Below w.heap.size w w' := by
  obtain ⟨w1, hw1⟩ : ∃ w1, w1 = w.alloc (.cells #[.int .u8 97, .int .u8 98] 5 (2, 3)) := ⟨_, rfl⟩
  obtain ⟨w2, hw2⟩ : ∃ w2, w2 = w1.alloc (.cells #[.int .u8 99] 5 (1, 2)) := ⟨_, rfl⟩
  have b1 : Below w.heap.size w w1 := by rw [hw1]; exact (Below.refl _ _).alloc (Nat.le_refl _) _
  have b2 : Below w1.heap.size w1 w2 := by rw [hw2]; exact (Below.refl _ _).alloc (Nat.le_refl _) _
  have r0 : Row w1 .u8 (some ⟨w.heap.size, 0, none⟩) [97, 98] := by rw [hw1]; exact row_new w [97, 98] _ _
  have r1 : Row w2 .u8 (some ⟨w1.heap.size, 0, none⟩) [99] := by rw [hw2]; exact row_new w1 [99] _ _
  have z1 : w1.heap.size = w.heap.size + 1 := by rw [hw1]; simp
  have z2 : w2.heap.size = w.heap.size + 2 := by rw [hw2]; simp; omega
  rw [z1] at r1
  obtain ⟨w3, hw3⟩ : ∃ w3, w3 = w2.alloc (.cells #[.slice (some ⟨w.heap.size, 0, none⟩) 2 2, .int .i64 8, .int .i64 20, .int .i64 2, .slice (some ⟨w.heap.size + 1, 0, none⟩) 1 1, .int .i64 28, .int .i64 15, .int .i64 1] 33) := ⟨_, rfl⟩
  have b3 : Below w2.heap.size w2 w3 := by rw [hw3]; exact (Below.refl _ _).alloc (Nat.le_refl _) _
  have hb3 : w3.heap[w.heap.size + 2]? = some (.cells #[.slice (some ⟨w.heap.size, 0, none⟩) 2 2, .int .i64 8, .int .i64 20, .int .i64 2, .slice (some ⟨w.heap.size + 1, 0, none⟩) 1 1, .int .i64 28, .int .i64 15, .int .i64 1] 33 (0, 0)) := by rw [← z2, hw3]; exact heap_alloc_new w2 _
  have HT : Hid (Tw w3 (w.heap.size + 2) w.heap.size (w.heap.size + 1) (.slice (some ⟨w.heap.size, 0, none⟩) 2 2) 8 20 2 28 15 1) := ⟨hb3, (r0.below2 b2).below2 b3, r1.below2 b3, by omega, by omega⟩
  have HB : Hid (Below w.heap.size w w3) := b1.trans ((b2.mono b1.size).trans (b3.mono (by omega)))
  rw [hw2, hw1] at hw3
  clear b1 b2 b3 r0 r1 hb3 hw1 hw2 z1 z2
  have kc := fun (C : Array Value) (n c : Nat) => Lib.run_convert_bytes_const (P := Try.prog) w 25 5 C n c Try.underlying25 Try.underlying5
  have kc1 := fun (o : Obj) (C : Array Value) (n c : Nat) => conv1F w o C n c
  go_enter Try.func9, Try.ntmps9
  go_wp2_with fail
  go_ret
  refine ⟨w.heap.size + 2, w.heap.size, w.heap.size + 1, ?_, ?_, by omega, ?_⟩
  · first | rfl | simp
  · have := HT.out; rw [hw3] at this; exact this
  · have := HB.out; rw [hw3] at this; exact this

def ex2 : List FRow := [⟨[97, 98], 8, 20, 2⟩, ⟨[99], 28, 15, 1⟩]
def exB : List Int := [2, 2, 97, 98, 8, 20, 2, 1, 99, 28, 15, 1, 3]
theorem ex_gd : Gd ex2 2 := fun j hj => by
  match j, hj with
  | 0, _ => decide +kernel
  | 1, _ => decide +kernel
theorem ex_chk : IsChk ex2 0 0 := .inr ⟨by decide, .inr ⟨ex_gd, rfl, rfl⟩⟩
theorem ex_bytes : fzs ex2 0 = exB := by decide +kernel
theorem ex_r1 : (rdF (exB.take 12 ++ [4])).2 = (76, 12) := by decide +kernel
theorem ex_r2 : (rdF (exB ++ [0])).2 = (78, 13) := by decide +kernel
theorem ex_r3 : (rdF [1, 2, 97]).2 = (77, 3) := by decide +kernel
theorem ex_c1 : IsChk [⟨[97, 98], 8, 20, 2⟩, ⟨[99], 29, 15, 1⟩] 1 73 := .inr ⟨by decide, .inl ⟨by decide, fun j hj => by
  match j, hj with
  | 0, _ => decide +kernel, by decide +kernel, by decide⟩⟩
theorem ex_c2 : IsChk [⟨[97, 98], 8, 20, 65⟩, ⟨[99], 29, 15, 1⟩] 0 75 := .inr ⟨by decide, .inl ⟨by decide, fun _ h => absurd h (Nat.not_lt_zero _), by decide +kernel, by decide⟩⟩
theorem ex_c3 : IsChk [⟨[97, 98], 8, 0, 65⟩, ⟨[99], 29, 15, 1⟩] 0 74 := .inr ⟨by decide, .inl ⟨by decide, fun _ h => absurd h (Nat.not_lt_zero _), by decide +kernel, by decide⟩⟩
theorem ex_c4 : IsChk [⟨[], 8, 0, 65⟩, ⟨[99], 29, 15, 1⟩] 0 72 := .inr ⟨by decide, .inl ⟨by decide, fun _ h => absurd h (Nat.not_lt_zero _), by decide +kernel, by decide⟩⟩
theorem ex_find : (1 ≤ 2 ∧ (∀ j, j < 1 → ¬ fnd ex2 [98] j) ∧ (1 < 2 → fnd ex2 [98] 1)) := ⟨by decide, fun j hj => by
  obtain rfl : j = 0 := by omega
  decide +kernel, fun _ => by decide +kernel⟩
theorem ex_tot : totW ex2 2 = 3 := by decide +kernel

end Go.Proofs.Ytlachimmfjagbaa
