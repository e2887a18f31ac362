/- Texts of one's own. -/
import Derived.Test.YtealejbfloacpaaGreatM7
import Derived.Test.YtealejbfloacpaaGreatM2
import Derived.ArgAppend
import Derived.Deep.Upon
namespace Go.Proofs.YtealejbfloacpaaGreat
open Go.RowKit
set_option maxRecDepth 100000
def VC (W : World) (a : Option Addr) (xs : List Value) : Prop := ∀ i (h : i < xs.length), ∃ b o, a = some ⟨b, o, none⟩ ∧ W.cell? ⟨b, o + i, none⟩ = some xs[i]
structure VOk (W : World) (a : Option Addr) (c : Nat) (xs : List Value) : Prop where
 r : VC W a xs
 n : a = none → xs.length = 0 ∧ c = 0
 lc : xs.length ≤ c
theorem VC.below {W W' : World} {a : Option Addr} {xs : List Value} (h : VC W a xs) (hb : Below W.heap.size W W') : VC W' a xs := by
 intro i hi
 obtain ⟨b, o, ha, hc⟩ := h i hi
 exact ⟨b, o, ha, (hb.cell (p := ⟨b, o + i, none⟩) (World.block_lt_of_cell? W ⟨b, o + i, none⟩ hc)).trans hc⟩
theorem VOk.below {W W' : World} {a : Option Addr} {c : Nat} {xs : List Value} (h : VOk W a c xs) (hb : Below W.heap.size W W') : VOk W' a c xs := ⟨h.r.below hb, h.n, h.lc⟩
theorem VC.nil (W : World) (a : Option Addr) : VC W a [] := fun i hi => absurd hi (Nat.not_lt_zero i)
theorem VC.news {W : World} {a : Option Addr} {xs : List Value} (h : VC W a xs) : ∀ ad, a = some ad → ∀ j u, xs[j]? = some u → W.cell? (ad.add j) = some u := by
 intro ad had j u hu
 obtain ⟨hj, hu⟩ := List.getElem?_eq_some_iff.1 hu
 obtain ⟨b, o, ha, hc⟩ := h j hj
 rw [had] at ha
 obtain rfl := Option.some.inj ha
 rw [Addr.add_lit, hc, hu]
theorem cutAt_none {k : Option Addr} {n m : Nat} (h : cutAt k n m = none) : k = none := by
 unfold cutAt at h
 split at h
 ·exact h
 ·cases k with
  | none => rfl
  | some x => cases h
theorem vok_of_owns {w : World} {base : Nat} {e : TypeId} {v : Value} {n : Nat} {xs : List Value} (h : w.ownsRow base e 1 v n xs) : ∃ a c, v = .slice a n c ∧ VOk w a c xs ∧ ∀ x, a = some x → base ≤ x.block ∧ ∃ cur, w.heap[x.block]? = some (.cells cur e (0, 0)) ∧ x.off = 0 ∧ cur.size = c ∧ c ≤ maxLen := by
 have hl : xs.length = n := by simpa using h.1
 rcases h.2 with ⟨hv, h0⟩ | ⟨g, cap, cur, hv, hb, hh, h1, h2, h3, h4⟩
 ·subst h0
  obtain rfl : xs = [] := List.eq_nil_of_length_eq_zero hl
  exact ⟨none, 0, hv, ⟨VC.nil _ _, fun _ => ⟨rfl, rfl⟩, Nat.le_refl _⟩, fun x hx => by cases hx⟩
 ·refine ⟨some ⟨g, 0, none⟩, cap, hv, ⟨fun i hi => ⟨g, 0, rfl, ?_⟩, fun e => (by cases e), by omega⟩, fun x hx => by cases hx; exact ⟨hb, cur, hh, rfl, by omega, h2⟩⟩
  rw [Nat.zero_add, cell_of_row _ _ _ _ _ _ hh, ← Array.getElem?_toList]
  have : (cur.toList.take (n * 1))[i]? = some xs[i] := by rw [h4]; exact List.getElem?_eq_getElem hi
  rw [List.getElem?_take, if_pos (by omega)] at this
  exact this
theorem one_new (w : World) (x : Value) (T : TypeId) : ∀ j u, [x][j]? = some u → (w.alloc (.cells #[x] T)).cell? ((⟨w.heap.size, 0, none⟩ : Addr).add j) = some u := by
 intro j u hu
 rw [Addr.add_lit, Nat.zero_add, cell_of_row _ _ _ _ _ _ (heap_alloc_new w _)]
 match j, hu with
 | 0, hu => simpa using hu
theorem infoT : (Tryz.prog.info? 23).map (fun i => (i.zero, i.size, i.bytes)) = some (some (.slice none 0 0), 1, 24) := by kernel_rfl
theorem elemT : Tryz.prog.elem 30 = 23 := by kernel_rfl
theorem sizeT (W : World) : (sizeOf 23).run Tryz.prog W = .ok 1 W := by
 obtain ⟨i0, hi, hz0, hz1, hz2⟩ := info_parts infoT
 simp [sizeOf, typeInfo, hi, hz1]
theorem undT : Tryz.prog.underlying 30 = some (.slice (Tryz.prog.elem 30)) := by rw [elemT]; exact Tryz.underlying30
def ClnT (w : World) (xs : List Value) (e : Ending) (w' : World) : Prop :=
 ∃ v, e = .returned v ∧ w'.ownsRow w.heap.size 23 1 v xs.length xs ∧ Below w.heap.size w w'
set_option maxHeartbeats 800000 in
theorem clnT_some (y : Addr) (l c : Nat) (xs : List Value) (w : World) (hl : xs.length = l) (hO : VOk w (some y) c xs) (h1 : ∀ u ∈ xs, u.oneCell' = true) (hm : l * 24 ≤ 140737488355328) :
  Calls Tryz.prog 189 #[.slice (some y) l c] w (ClnT w xs) := by
 obtain ⟨i0, hi, hz0, hz1, hz2⟩ := info_parts infoT
 have HO := hide hO
 have HN := hide hl
 clear hO hl
 have qn : ∀ w : World, (binOp .eql 30 (.slice (some y) l c) (.slice none 0 0)).run Tryz.prog w = .ok (.bool false) w := fun w => Lib.run_eql_slice_nil w _ _ _ _ _ _ _ Tryz.underlying30
 go_enter Tryz.func189, Tryz.ntmps189
 go_wp2_with (first
  | (at_builtin; refine append_own_any rfl (.tmp 5) (.tmp 6) 30 rfl w.heap.size 23 i0 (.slice none 0 0) 1 24 Tryz.underlying30 hi hz0 hz1 hz2 rfl (by decide) (.slice (some ⟨w.heap.size, 0, none⟩) 0 0) 0 [] rfl ⟨rfl, .inr ⟨w.heap.size, 0, #[], rfl, Nat.le_refl _, heap_alloc_new w _, Nat.le_refl _, by unfold maxLen; omega, rfl, rfl⟩⟩ (some y) l c xs rfl (by rw [HN.out]; omega) (by intro h; cases h) ((HO.out.below ((Below.refl _ _).alloc (Nat.le_refl _) _)).r.news) h1 (by unfold maxLen; omega) (by omega) (by simp) ?_; intro v4 w4 hown4 hg4; have HO4 := hide hown4; have HG4 := hide hg4; clear hown4 hg4)
  | fail)
 go_ret
 refine ⟨v4, rfl, ?_, ?_⟩
 ·have := HO4.out
  simp only [List.nil_append, Nat.zero_add] at this
  rw [HN.out]; exact this
 ·exact ((Below.refl _ _).alloc (Nat.le_refl _) _).grown HG4.out (by simp) (fun k h => by cases h; exact Nat.le_refl _)
set_option maxHeartbeats 400000 in
theorem clnT_nil (w : World) : Calls Tryz.prog 189 #[.slice none 0 0] w fun e w' => e = .returned (.slice none 0 0) ∧ w' = w := by
 have qn : ∀ w : World, (binOp .eql 30 (.slice none 0 0) (.slice none 0 0)).run Tryz.prog w = .ok (.bool true) w := fun w => Lib.run_eql_slice_nil w _ _ _ _ _ _ _ Tryz.underlying30
 go_enter Tryz.func189, Tryz.ntmps189
 go_wp2
 go_ret
 exact ⟨rfl, rfl⟩
theorem clnT_any (a : Option Addr) (l c : Nat) (xs : List Value) (w : World) (hl : xs.length = l) (hO : VOk w a c xs) (h1 : ∀ u ∈ xs, u.oneCell' = true) (hm : l * 24 ≤ 140737488355328) :
  Calls Tryz.prog 189 #[.slice a l c] w (ClnT w xs) := by
 cases a with
 | some y => exact clnT_some y l c xs w hl hO h1 hm
 | none =>
  obtain ⟨h0, rfl⟩ := hO.n rfl
  obtain rfl : xs = [] := List.eq_nil_of_length_eq_zero h0
  obtain rfl : l = 0 := by simpa using hl.symm
  refine (clnT_nil w).mono fun e w' ⟨h1, h2⟩ => ⟨_, h1, World.ownsRow_nil _ _ _ _, by rw [h2]; exact Below.refl _ _⟩
theorem infoI : (Tryz.prog.info? 3).map (fun i => (i.zero, i.size, i.bytes)) = some (some (.int .i64 0), 1, 8) := by kernel_rfl
theorem elemI : Tryz.prog.elem 31 = 3 := by kernel_rfl
theorem sizeI (W : World) : (sizeOf 3).run Tryz.prog W = .ok 1 W := by
 obtain ⟨i0, hi, hz0, hz1, hz2⟩ := info_parts infoI
 simp [sizeOf, typeInfo, hi, hz1]
theorem undI : Tryz.prog.underlying 31 = some (.slice (Tryz.prog.elem 31)) := by rw [elemI]; exact Tryz.underlying31
def ClnI (w : World) (xs : List Value) (e : Ending) (w' : World) : Prop :=
 ∃ v, e = .returned v ∧ w'.ownsRow w.heap.size 3 1 v xs.length xs ∧ Below w.heap.size w w'
set_option maxHeartbeats 800000 in
theorem clnI_some (y : Addr) (l c : Nat) (xs : List Value) (w : World) (hl : xs.length = l) (hO : VOk w (some y) c xs) (h1 : ∀ u ∈ xs, u.oneCell' = true) (hm : l * 8 ≤ 140737488355328) :
  Calls Tryz.prog 175 #[.slice (some y) l c] w (ClnI w xs) := by
 obtain ⟨i0, hi, hz0, hz1, hz2⟩ := info_parts infoI
 have HO := hide hO
 have HN := hide hl
 clear hO hl
 have qn : ∀ w : World, (binOp .eql 31 (.slice (some y) l c) (.slice none 0 0)).run Tryz.prog w = .ok (.bool false) w := fun w => Lib.run_eql_slice_nil w _ _ _ _ _ _ _ Tryz.underlying31
 go_enter Tryz.func175, Tryz.ntmps175
 go_wp2_with (first
  | (at_builtin; refine append_own_any rfl (.tmp 5) (.tmp 6) 31 rfl w.heap.size 3 i0 (.int .i64 0) 1 8 Tryz.underlying31 hi hz0 hz1 hz2 rfl (by decide) (.slice (some ⟨w.heap.size, 0, none⟩) 0 0) 0 [] rfl ⟨rfl, .inr ⟨w.heap.size, 0, #[], rfl, Nat.le_refl _, heap_alloc_new w _, Nat.le_refl _, by unfold maxLen; omega, rfl, rfl⟩⟩ (some y) l c xs rfl (by rw [HN.out]; omega) (by intro h; cases h) ((HO.out.below ((Below.refl _ _).alloc (Nat.le_refl _) _)).r.news) h1 (by unfold maxLen; omega) (by omega) (by simp) ?_; intro v4 w4 hown4 hg4; have HO4 := hide hown4; have HG4 := hide hg4; clear hown4 hg4)
  | fail)
 go_ret
 refine ⟨v4, rfl, ?_, ?_⟩
 ·have := HO4.out
  simp only [List.nil_append, Nat.zero_add] at this
  rw [HN.out]; exact this
 ·exact ((Below.refl _ _).alloc (Nat.le_refl _) _).grown HG4.out (by simp) (fun k h => by cases h; exact Nat.le_refl _)
set_option maxHeartbeats 400000 in
theorem clnI_nil (w : World) : Calls Tryz.prog 175 #[.slice none 0 0] w fun e w' => e = .returned (.slice none 0 0) ∧ w' = w := by
 have qn : ∀ w : World, (binOp .eql 31 (.slice none 0 0) (.slice none 0 0)).run Tryz.prog w = .ok (.bool true) w := fun w => Lib.run_eql_slice_nil w _ _ _ _ _ _ _ Tryz.underlying31
 go_enter Tryz.func175, Tryz.ntmps175
 go_wp2
 go_ret
 exact ⟨rfl, rfl⟩
theorem clnI_any (a : Option Addr) (l c : Nat) (xs : List Value) (w : World) (hl : xs.length = l) (hO : VOk w a c xs) (h1 : ∀ u ∈ xs, u.oneCell' = true) (hm : l * 8 ≤ 140737488355328) :
  Calls Tryz.prog 175 #[.slice a l c] w (ClnI w xs) := by
 cases a with
 | some y => exact clnI_some y l c xs w hl hO h1 hm
 | none =>
  obtain ⟨h0, rfl⟩ := hO.n rfl
  obtain rfl : xs = [] := List.eq_nil_of_length_eq_zero h0
  obtain rfl : l = 0 := by simpa using hl.symm
  refine (clnI_nil w).mono fun e w' ⟨h1, h2⟩ => ⟨_, h1, World.ownsRow_nil _ _ _ _, by rw [h2]; exact Below.refl _ _⟩
end Go.Proofs.YtealejbfloacpaaGreat
