/- node's lists: cut, headOff, inserted, removed, slices.Clone. Written by mkn.py. -/
import Derived.Test.YtlhphielnnpjgaaG13
import Derived.Test.YtlhphielnnpjgaaG12
import Derived.ArgAppend
import Derived.Deep.Upon
namespace Go.Proofs.Ytlhphielnnpjgaa
open Go.RowKit

/-- Cells one behind the other. -/
def VC (W : World) (a : Option Addr) (xs : List Value) : Prop := ∀ i (h : i < xs.length), ∃ b o, a = some ⟨b, o, none⟩ ∧ W.cell? ⟨b, o + i, none⟩ = some xs[i]
structure VOk (W : World) (a : Option Addr) (c : Nat) (xs : List Value) : Prop where
  r : VC W a xs
  n : a = none → xs.length = 0 ∧ c = 0
  lc : xs.length ≤ c
theorem VC.below {W W' : World} {a : Option Addr} {xs : List Value} (h : VC W a xs) (hb : Below W.heap.size W W') : VC W' a xs := by
  intro i hi
  obtain ⟨b, o, ha, hc⟩ := h i hi
  exact ⟨b, o, ha, (hb.cell (p := ⟨b, o + i, none⟩) (World.block_lt_of_cell? W ⟨b, o + i, none⟩ hc)).trans hc⟩
theorem VOk.below {W W' : World} {a : Option Addr} {c : Nat} {xs : List Value} (h : VOk W a c xs) (hb : Below W.heap.size W W') : VOk W' a c xs := ⟨h.r.below hb, h.n, h.lc⟩
theorem VC.nil (W : World) (a : Option Addr) : VC W a [] := fun i hi => absurd hi (Nat.not_lt_zero i)
theorem VC.take {W : World} {a : Option Addr} {xs : List Value} (h : VC W a xs) (n : Nat) : VC W a (xs.take n) := by
  intro i hi
  have hi' : i < n ∧ i < xs.length := by rw [List.length_take] at hi; omega
  obtain ⟨b, o, ha, hc⟩ := h i hi'.2
  refine ⟨b, o, ha, ?_⟩
  rw [List.getElem_take]; exact hc
theorem VC.drop {W : World} {a : Option Addr} {xs : List Value} (h : VC W a xs) (n m : Nat) (hm : xs.length ≤ m) : VC W (cutAt a n m) (xs.drop n) := by
  intro i hi
  have hi' : n + i < xs.length := by rw [List.length_drop] at hi; omega
  obtain ⟨b, o, rfl, hc⟩ := h (n + i) hi'
  refine ⟨b, o + n, ?_, ?_⟩
  · unfold cutAt; rw [if_neg (by omega)]; simp [Addr.add_lit]
  · rw [List.getElem_drop, Nat.add_assoc]; exact hc
theorem VC.news {W : World} {a : Option Addr} {xs : List Value} (h : VC W a xs) : ∀ ad, a = some ad → ∀ j u, xs[j]? = some u → W.cell? (ad.add j) = some u := by
  intro ad had j u hu
  obtain ⟨hj, hu⟩ := List.getElem?_eq_some_iff.1 hu
  obtain ⟨b, o, ha, hc⟩ := h j hj
  rw [had] at ha
  obtain rfl := Option.some.inj ha
  rw [Addr.add_lit, hc, hu]
theorem VC.upd {W W' : World} {S : Nat → Prop} {a : Option Addr} {xs : List Value} (h : VC W a xs) (hb : Upd S W W') (hs : ∀ x, a = some x → 0 < xs.length → ¬ S x.block) : VC W' a xs := by
  intro i hi
  obtain ⟨b, o, ha, hc⟩ := h i hi
  exact ⟨b, o, ha, hb.cell hc (hs ⟨b, o, none⟩ ha (by omega))⟩
theorem VOk.upd {W W' : World} {S : Nat → Prop} {a : Option Addr} {c : Nat} {xs : List Value} (h : VOk W a c xs) (hb : Upd S W W') (hs : ∀ x, a = some x → 0 < xs.length → ¬ S x.block) : VOk W' a c xs := ⟨h.r.upd hb hs, h.n, h.lc⟩
theorem VC.lt {W : World} {a : Option Addr} {xs : List Value} (h : VC W a xs) : ∀ x, a = some x → 0 < xs.length → x.block < W.heap.size := by
  intro x hx hp
  obtain ⟨b, o, ha, hc⟩ := h 0 hp
  rw [hx] at ha
  cases ha
  exact World.block_lt_of_cell? W ⟨b, o + 0, none⟩ hc
theorem cutAt_none {k : Option Addr} {n m : Nat} (h : cutAt k n m = none) : k = none := by
  unfold cutAt at h
  split at h
  · exact h
  · cases k with
    | none => rfl
    | some x => cases h
theorem VOk.cutL {W : World} {a : Option Addr} {c : Nat} {xs : List Value} (h : VOk W a c xs) (m : Nat) (hm : m ≤ xs.length) : VOk W a m (xs.take m) :=
  ⟨h.r.take m, fun e => by have := (h.n e).1; rw [List.length_take]; omega, by rw [List.length_take]; omega⟩
theorem VOk.cutR {W : World} {a : Option Addr} {c : Nat} {xs : List Value} (h : VOk W a c xs) (m : Nat) : VOk W (cutAt a m xs.length) (xs.length - m) (xs.drop m) :=
  ⟨h.r.drop m xs.length (Nat.le_refl _), fun e => by have := (h.n (cutAt_none e)).1; rw [List.length_drop]; omega, by rw [List.length_drop]; omega⟩
theorem vok_of_owns {w : World} {base : Nat} {e : TypeId} {v : Value} {n : Nat} {xs : List Value} (h : w.ownsRow base e 1 v n xs) : ∃ a c, v = .slice a n c ∧ VOk w a c xs ∧ ∀ x, a = some x → base ≤ x.block ∧ ∃ cur, w.heap[x.block]? = some (.cells cur e (0, 0)) ∧ x.off = 0 ∧ cur.size = c ∧ c ≤ maxLen := by
  have hl : xs.length = n := by simpa using h.1
  rcases h.2 with ⟨hv, h0⟩ | ⟨g, cap, cur, hv, hb, hh, h1, h2, h3, h4⟩
  · subst h0
    obtain rfl : xs = [] := List.eq_nil_of_length_eq_zero hl
    exact ⟨none, 0, hv, ⟨VC.nil _ _, fun _ => ⟨rfl, rfl⟩, Nat.le_refl _⟩, fun x hx => by cases hx⟩
  · refine ⟨some ⟨g, 0, none⟩, cap, hv, ⟨fun i hi => ⟨g, 0, rfl, ?_⟩, fun e => (by cases e), by omega⟩, fun x hx => by cases hx; exact ⟨hb, cur, hh, rfl, by omega, h2⟩⟩
    rw [Nat.zero_add, cell_of_row _ _ _ _ _ _ hh, ← Array.getElem?_toList]
    have : (cur.toList.take (n * 1))[i]? = some xs[i] := by rw [h4]; exact List.getElem?_eq_getElem hi
    rw [List.getElem?_take, if_pos (by omega)] at this
    exact this
theorem one_new (w : World) (x : Value) (T : TypeId) : ∀ j u, [x][j]? = some u → (w.alloc (.cells #[x] T)).cell? ((⟨w.heap.size, 0, none⟩ : Addr).add j) = some u := by
  intro j u hu
  rw [Addr.add_lit, Nat.zero_add, cell_of_row _ _ _ _ _ _ (heap_alloc_new w _)]
  match j, hu with
  | 0, hu => simpa using hu
theorem ownsB_any {w w' : World} {base : Nat} {e : TypeId} {v : Value} {n : Nat} {xs : List Value} (h : w.ownsRow base e 1 v n xs) (hb : Below w.heap.size w w') : w'.ownsRow base e 1 v n xs := owns_below h hb

/-! ### Lists of texts -/
theorem infoT : (Try.prog.info? 41).map (fun i => (i.zero, i.size, i.bytes)) = some (some (.slice none 0 0), 1, 24) := by kernel_rfl
theorem elemT : Try.prog.elem 44 = 41 := by kernel_rfl
theorem sizeT (W : World) : (sizeOf 41).run Try.prog W = .ok 1 W := by
  obtain ⟨i0, hi, hz0, hz1, hz2⟩ := info_parts infoT
  simp [sizeOf, typeInfo, hi, hz1]
theorem undT : Try.prog.underlying 44 = some (.slice (Try.prog.elem 44)) := by rw [elemT]; exact Try.underlying44
theorem hmT (k : Option Addr) (l c m : Nat) (hm : m ≤ c) (W : World) : (Instr.slice 44 (.slice k l c) none (some (.int .i64 (m : Int))) (some (.int .i64 (m : Int)))).run Try.prog W = .ok (.slice k m m) W := by
  rw [run_slice_hm (P := Try.prog) W 44 k l c undT .i64 .i64 (m : Int) (m : Int) (by omega) (by omega) (by omega), elemT, sizeT]
  cases k <;> simp [Result.andThen, sliced, Addr.add]
theorem lhmT (k : Option Addr) (l c n m : Nat) (hn : n ≤ m) (hm : m ≤ c) (W : World) : (Instr.slice 44 (.slice k l c) (some (.int .i64 (n : Int))) (some (.int .i64 (m : Int))) (some (.int .i64 (m : Int)))).run Try.prog W = .ok (.slice (cutAt k n m) (m - n) (m - n)) W := by
  rw [run_slice_lhm (P := Try.prog) W 44 k l c undT .i64 .i64 .i64 (n : Int) (m : Int) (m : Int) (by omega) (by omega) (by omega) (by omega), elemT, sizeT]
  simp [Result.andThen, sliced, cutAt]

/-- What inserted gives: a list of one's own. -/
def InsT (w : World) (xs : List Value) (at' : Nat) (x : Value) (e : Ending) (w' : World) : Prop :=
  ∃ v, e = .returned v ∧ w'.ownsRow w.heap.size 41 1 v (xs.length + 1) (xs.take at' ++ x :: xs.drop at') ∧ Below w.heap.size w w'
/-- What slices.Clone gives. -/
def ClnT (w : World) (xs : List Value) (e : Ending) (w' : World) : Prop :=
  ∃ v, e = .returned v ∧ w'.ownsRow w.heap.size 41 1 v xs.length xs ∧ Below w.heap.size w w'
/-! ### Lists of numbers -/
theorem infoI : (Try.prog.info? 3).map (fun i => (i.zero, i.size, i.bytes)) = some (some (.int .i64 0), 1, 8) := by kernel_rfl
theorem elemI : Try.prog.elem 45 = 3 := by kernel_rfl
theorem sizeI (W : World) : (sizeOf 3).run Try.prog W = .ok 1 W := by
  obtain ⟨i0, hi, hz0, hz1, hz2⟩ := info_parts infoI
  simp [sizeOf, typeInfo, hi, hz1]
theorem undI : Try.prog.underlying 45 = some (.slice (Try.prog.elem 45)) := by rw [elemI]; exact Try.underlying45
theorem hmI (k : Option Addr) (l c m : Nat) (hm : m ≤ c) (W : World) : (Instr.slice 45 (.slice k l c) none (some (.int .i64 (m : Int))) (some (.int .i64 (m : Int)))).run Try.prog W = .ok (.slice k m m) W := by
  rw [run_slice_hm (P := Try.prog) W 45 k l c undI .i64 .i64 (m : Int) (m : Int) (by omega) (by omega) (by omega), elemI, sizeI]
  cases k <;> simp [Result.andThen, sliced, Addr.add]
theorem lhmI (k : Option Addr) (l c n m : Nat) (hn : n ≤ m) (hm : m ≤ c) (W : World) : (Instr.slice 45 (.slice k l c) (some (.int .i64 (n : Int))) (some (.int .i64 (m : Int))) (some (.int .i64 (m : Int)))).run Try.prog W = .ok (.slice (cutAt k n m) (m - n) (m - n)) W := by
  rw [run_slice_lhm (P := Try.prog) W 45 k l c undI .i64 .i64 .i64 (n : Int) (m : Int) (m : Int) (by omega) (by omega) (by omega) (by omega), elemI, sizeI]
  simp [Result.andThen, sliced, cutAt]

/-- What inserted gives: a list of one's own. -/
def InsI (w : World) (xs : List Value) (at' : Nat) (x : Value) (e : Ending) (w' : World) : Prop :=
  ∃ v, e = .returned v ∧ w'.ownsRow w.heap.size 3 1 v (xs.length + 1) (xs.take at' ++ x :: xs.drop at') ∧ Below w.heap.size w w'
/-- What slices.Clone gives. -/
def ClnI (w : World) (xs : List Value) (e : Ending) (w' : World) : Prop :=
  ∃ v, e = .returned v ∧ w'.ownsRow w.heap.size 3 1 v xs.length xs ∧ Below w.heap.size w w'
/-- What removed gives: a list that reads so, wherever it lies. -/
def Rem (w : World) (a0 : Option Addr) (xs : List Value) (at' : Nat) (e : Ending) (w' : World) : Prop :=
  ∃ a c, e = .returned (.slice a (xs.take at' ++ xs.drop (at' + 1)).length c) ∧ VOk w' a c (xs.take at' ++ xs.drop (at' + 1)) ∧ Below w.heap.size w w' ∧ ∀ x, a = some x → (∃ y, a0 = some y ∧ y.block = x.block ∧ 0 < xs.length) ∨ w.heap.size ≤ x.block ∨ (xs.take at' ++ xs.drop (at' + 1)).length = 0
end Go.Proofs.Ytlhphielnnpjgaa
