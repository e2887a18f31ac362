/- foot: the table of rules, and what each asks. -/
import Derived.Test.YtlachimmfjagbaaFBase
namespace Go.Proofs.Ytlachimmfjagbaa
open Go.RowKit

/-- The table: at gt; the greatest lengths at g2, g3. -/
structure Tab (W : World) (gt g2 g3 : Nat) : Prop where
  t : W.heap[gt]? = some (.cells #[.func (.func 44) #[] #[], .func (.func 45) #[] #[], .int .i64 73, .func (.func 46) #[] #[], .func (.func 43) #[] #[.pointer (some ⟨g2, 0, none⟩)], .int .i64 74, .func (.func 47) #[] #[], .func (.func 43) #[] #[.pointer (some ⟨g3, 0, none⟩)], .int .i64 75] 57 (0, 0))
  b2 : W.cell? ⟨g2, 0, none⟩ = some (.int .u64 131072)
  b3 : W.cell? ⟨g3, 0, none⟩ = some (.int .u64 64)
theorem Tab.below {W W' : World} {gt g2 g3 : Nat} (h : Tab W gt g2 g3) (hb : Below W.heap.size W W') : Tab W' gt g2 g3 :=
  ⟨(hb.block gt (lt_of_block h.t)).trans h.t, (hb.cell (p := ⟨g2, 0, none⟩) (World.block_lt_of_cell? W ⟨g2, 0, none⟩ h.b2)).trans h.b2, (hb.cell (p := ⟨g3, 0, none⟩) (World.block_lt_of_cell? W ⟨g3, 0, none⟩ h.b3)).trans h.b3⟩
theorem Tab.upd {S : Nat → Prop} {W W' : World} {gt g2 g3 : Nat} (h : Tab W gt g2 g3) (hu : Upd S W W') (h1 : ¬ S gt) (h2 : ¬ S g2) (h3 : ¬ S g3) : Tab W' gt g2 g3 :=
  ⟨hu.heap h.t h1, hu.cell h.b2 h2, hu.cell h.b3 h3⟩

set_option maxHeartbeats 800000 in
theorem upto_mk (m : Int) (w : World) :
    Calls Try.prog 42 #[.int .u64 m] w fun e w' => e = .returned (.func (.func 43) #[] #[.pointer (some ⟨w.heap.size, 0, none⟩)]) ∧ w' = w.alloc (.cells #[.int .u64 m] 53) := by
  go_enter Try.func42, Try.ntmps42
  go_wp2_with fail
  go_ret
  exact ⟨rfl, rfl⟩

set_option maxHeartbeats 800000 in
theorem rules_any (w : World) :
    Calls Try.prog 28 #[] w fun e w' => e = .returned (.slice (some ⟨w.heap.size + 2, 0, none⟩) 3 3) ∧ Tab w' (w.heap.size + 2) w.heap.size (w.heap.size + 1) ∧ Below w.heap.size w w' := by
  go_enter Try.func28, Try.ntmps28
  go_wp2_with fail
  refine (upto_mk 131072 w).mono ?_
  rintro e w1 ⟨rfl, hw1⟩
  have z1 : w1.heap.size = w.heap.size + 1 := by rw [hw1]; simp
  have c1 : w1.cell? ⟨w.heap.size, 0, none⟩ = some (.int .u64 131072) := by rw [hw1, cell_of_row _ _ _ _ _ _ (heap_alloc_new w _)]; rfl
  have b1 : Below w.heap.size w w1 := by rw [hw1]; exact (Below.refl _ _).alloc (Nat.le_refl _) _
  replace c1 := hide c1
  replace b1 := hide b1
  clear hw1
  go_wp2_with fail
  refine (upto_mk 64 w1).mono ?_
  rintro e w2 ⟨rfl, hw2⟩
  have z2 : w2.heap.size = w.heap.size + 2 := by rw [hw2]; simp; omega
  have c2 : w2.cell? ⟨w.heap.size + 1, 0, none⟩ = some (.int .u64 64) := by rw [← z1, hw2, cell_of_row _ _ _ _ _ _ (heap_alloc_new w1 _)]; rfl
  have b2 : Below w1.heap.size w1 w2 := by rw [hw2]; exact (Below.refl _ _).alloc (Nat.le_refl _) _
  replace c2 := hide c2
  replace b2 := hide b2
  clear hw2
  rw [z1]
  go_wp2_with fail
  go_ret
  have b3 : ∀ o, Below w2.heap.size w2 (w2.alloc o) := fun o => (Below.refl _ _).alloc (Nat.le_refl _) o
  refine ⟨rfl, ⟨?_, ?_, ?_⟩, (b1.out.trans (b2.out.mono (by omega))).trans ((b3 _).mono (by omega))⟩
  · rw [← z2]; exact heap_alloc_new w2 _
  · exact (((b2.out.trans ((b3 _).mono (by omega))).cell (p := ⟨w.heap.size, 0, none⟩) (show w.heap.size < _ by omega)).trans c1.out)
  · exact ((b3 _).cell (p := ⟨w.heap.size + 1, 0, none⟩) (show w.heap.size + 1 < _ by omega)).trans c2.out

set_option maxHeartbeats 800000 in
theorem upto_any (n m g : Nat) (b : Int) (w : World) (hn : n ≤ 18446744073709551615) (h : w.cell? ⟨g, 0, none⟩ = some (.int .u64 (m : Int))) :
    Calls Try.prog 43 #[.int .u64 (n : Int), .int .u64 b, .pointer (some ⟨g, 0, none⟩)] w fun e w' => e = .returned (.bool (decide (1 ≤ n ∧ n ≤ m))) ∧ w' = w := by
  go_enter Try.func43, Try.ntmps43
  by_cases h1 : 1 ≤ n
  · have i1 : (1 : Int) ≤ (n : Int) := by omega
    by_cases h2 : n ≤ m
    · have i2 : (n : Int) ≤ (m : Int) := by omega
      rw [decide_eq_true ⟨h1, h2⟩]
      go_wp2_with fail
      go_ret
      exact ⟨rfl, rfl⟩
    · have i2 : ¬ (n : Int) ≤ (m : Int) := by omega
      rw [decide_eq_false (fun q => h2 q.2)]
      go_wp2_with fail
      go_ret
      exact ⟨rfl, rfl⟩
  · have i1 : ¬ (1 : Int) ≤ (n : Int) := by omega
    rw [decide_eq_false (fun q => h1 q.1)]
    go_wp2_with fail
    go_ret
    exact ⟨rfl, rfl⟩

set_option maxHeartbeats 800000 in
theorem place_any (n b : Nat) (w : World) :
    Calls Try.prog 45 #[.int .u64 (n : Int), .int .u64 (b : Int)] w fun e w' => e = .returned (.bool (decide (n = b))) ∧ w' = w := by
  go_enter Try.func45, Try.ntmps45
  have h : ((n : Int) == (b : Int)) = decide (n = b) := by
    by_cases h : n = b
    · subst h; simp
    · rw [decide_eq_false h]; simp; omega
  go_wp2_with fail
  go_ret
  first
    | (rw [h]; exact ⟨rfl, rfl⟩)
    | exact ⟨rfl, rfl⟩

set_option maxHeartbeats 800000 in
theorem in1_any (b o : Nat) (w : World) :
    Calls Try.prog 44 #[.pointer (some ⟨b, o, none⟩)] w fun e w' => e = .returned (.pointer (some ⟨b, o + 1, none⟩)) ∧ w' = w := by
  go_enter Try.func44, Try.ntmps44
  go_wp2_with fail
  go_ret
  exact ⟨rfl, rfl⟩
set_option maxHeartbeats 800000 in
theorem in2_any (b o : Nat) (w : World) :
    Calls Try.prog 46 #[.pointer (some ⟨b, o, none⟩)] w fun e w' => e = .returned (.pointer (some ⟨b, o + 2, none⟩)) ∧ w' = w := by
  go_enter Try.func46, Try.ntmps46
  go_wp2_with fail
  go_ret
  exact ⟨rfl, rfl⟩
set_option maxHeartbeats 800000 in
theorem in3_any (b o : Nat) (w : World) :
    Calls Try.prog 47 #[.pointer (some ⟨b, o, none⟩)] w fun e w' => e = .returned (.pointer (some ⟨b, o + 3, none⟩)) ∧ w' = w := by
  go_enter Try.func47, Try.ntmps47
  go_wp2_with fail
  go_ret
  exact ⟨rfl, rfl⟩

set_option maxHeartbeats 800000 in
theorem head_any (w : World) :
    Calls Try.prog 31 #[] w fun e w' => e = .returned (.agg #[.slice none 0 0, .int .i64 0, .int .i64 8, .int .i64 0]) ∧ Below w.heap.size w w' := by
  go_enter Try.func31, Try.ntmps31
  go_wp2_with fail
  exact bodyPost_ret (v := .agg #[.slice none 0 0, .int .i64 0, .int .i64 8, .int .i64 0]) (by simp [results, Try.results31, go_sem]) rfl ⟨rfl, (Below.refl _ _).alloc (Nat.le_refl _) _⟩

set_option maxHeartbeats 800000 in
theorem behind_any (v : Value) (p q : Nat) (n : Int) (w : World) (hp : p ≤ 2305843009213693952) (hq : q ≤ 2305843009213693952) :
    Calls Try.prog 53 #[.agg #[v, .int .i64 (p : Int), .int .i64 (q : Int), .int .i64 n]] w fun e w' => e = .returned (.int .u64 ((p + q : Nat) : Int)) ∧ Below w.heap.size w w' := by
  go_enter Try.func53, Try.ntmps53
  go_wp2_with fail
  go_ret
  refine ⟨?_, ?_⟩
  · first | rfl | go_num | (simp; omega)
  · exact ((Below.refl _ _).alloc (Nat.le_refl _) _)

set_option maxHeartbeats 800000 in
theorem rises_any (a b : Option Addr) (l1 c1 l2 c2 : Nat) (x y z : Int) (xs ys : List Int) (w : World) (h1 : xs.length = l1) (h2 : ys.length = l2) (r1 : Row w .u8 a xs) (r2 : Row w .u8 b ys) (b1 : B8 xs) (b2 : B8 ys) :
    Calls Try.prog 55 #[.agg #[.slice a l1 c1, .int .i64 x, .int .i64 y, .int .i64 z], .slice b l2 c2] w fun e w' => e = .returned (.bool (decide (cmpI xs ys < 0))) ∧ Below w.heap.size w w' := by
  obtain ⟨w1, hw1⟩ : ∃ w1, w1 = w.alloc (.cells #[.slice a l1 c1, .int .i64 x, .int .i64 y, .int .i64 z] 33) := ⟨_, rfl⟩
  have bb : Below w.heap.size w w1 := by rw [hw1]; exact (Below.refl _ _).alloc (Nat.le_refl _) _
  have HC := hide (compare_any a b l1 c1 l2 c2 xs ys w1 h1 h2 (r1.below2 bb) (r2.below2 bb) b1 b2)
  replace bb := hide bb
  obtain ⟨q1, q2⟩ := cmpI_fits xs ys
  generalize cmpI xs ys = cc at *
  clear r1 r2 b1 b2
  go_enter Try.func55, Try.ntmps55
  go_wp2_with fail
  rw [← hw1]
  refine keep HC.out ?_
  go_wp2_with fail
  go_ret
  exact ⟨rfl, by rw [← hw1]; exact bb.out⟩

end Go.Proofs.Ytlachimmfjagbaa
