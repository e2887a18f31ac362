/- VintWrites: the walk of no numbers, and of any numbers. -/
import Derived.Test.YtlphpcacngimhaaWrites
namespace Go.Proofs.Ytlphpcacngimhaa
open Go.RowKit

set_option maxRecDepth 100000 in
set_option maxHeartbeats 800000 in
theorem writes_nothing (a2 : Option Addr) (cap : Nat) (w : World) (hnone : a2 = none → cap = 0) :
    Calls Try.prog 4 #[.slice a2 0 cap] w fun e w' => e = .returned (.bool true) ∧ Below w.heap.size w w' := by
  have hl : ([] : List Int).length = 0 := rfl
  have HRW : Hid (Row w .u64 a2 []) := row_nil _ _ _
  have HNO : Hid (a2 = none → cap = 0) := hnone
  have h64 : Fits64 [] := fun i => by simp
  have HLL : Hid ((encs []).length = 0) := rfl
  clear hnone
  go_enter Try.func4, Try.ntmps4
  go_wp2_with (first
    | (go_at_call 9; refine (lives_any _).mono ?_; rintro e W0 ⟨rfl, hbel⟩))
  have hown : W0.ownsRow w.heap.size 5 1 (.slice none 0 0) 0 ((encs []).map (Value.int .u8)) := World.ownsRow_nil _ _ _ _
  refine wp_loop_rounds 1 ?_
  rw [rounds_succ]
  obtain ⟨j0, hj, hy0, hy1, hy2⟩ := info_parts infoN
  have HOW := hide hown
  have z0 := hbel.size
  have HRL := hide (HRW.out.below2 hbel)
  have h64' := h64
  clear hown
  go_wp2_with (first
    | (at_make; refine wpList_make_own _ rfl _ _ 29 rfl W0.heap.size 25 j0 (.int .u64 0) 1 Try.underlying29 hj hy0 hy1 .i64 .i64 _ 1 rfl rfl (by omega) (by rw [hy2]; omega) (by unfold maxLen; omega) (Nat.le_refl _) ?_; intro w1 hown1 hg1; have bw1 : Below W0.heap.size W0 w1 := (Below.refl _ _).grown hg1 (Nat.le_refl _) (fun k h => by cases h))
    | (at_builtin; refine wpList_append_fits_any _ rfl (.tmp 74) (.tmp 75) 29 rfl W0.heap.size 25 j0 1 Try.underlying29 hj hy1 W0.heap.size 0 1 _ rfl hown1 a2 0 cap (([] : List Int).map (Value.int .u64)) rfl (by simp) (fun h => ⟨rfl, HNO.out h⟩) (HRL.out.below2 bw1).cells (ints_oneCell _ _) (by omega) ?_; intro w2 hown2 hg2; simp only [Nat.zero_add, List.nil_append] at hown2; have bw2 : Below W0.heap.size W0 w2 := bw1.grown hg2 bw1.size (fun k h => by cases h; exact Nat.le_refl _))
    | (at_builtin; refine wpList_append_fits_any _ rfl (.tmp 76) (.tmp 77) 29 rfl W0.heap.size 25 j0 1 Try.underlying29 hj hy1 W0.heap.size 0 1 _ rfl (hown2.alloc _) _ 1 _ [.int .u64 77] rfl rfl (by intro h; cases h) (by intro ad had; cases had; exact one_cell _ _ _) (by intro u hu; simp at hu; subst hu; rfl) (by omega) ?_; intro w3 hown3 hg3; have bw3 : Below W0.heap.size W0 w3 := (bw2.alloc bw2.size _).grown hg3 (by have := bw2.size; simp; omega) (fun k h => by cases h; exact Nat.le_refl _)))
  have hrow3 := row_of_owns (k := .u64) (zs := [] ++ [77]) (by rw [List.map_append]; exact hown3)
  have HR3 := hide hrow3
  have hr3 : Row w3 .u64 (some ⟨W0.heap.size, 0, none⟩) [] := by
    have := hrow3.take 0
    rwa [List.take_left' hl] at this
  have HR3n := hide hr3
  have hlt3 := (hown3.lt W0.heap.size rfl).2
  have hbel3 : Below w.heap.size w w3 := hbel.trans (bw3.mono z0)
  have HA3 := hide (owns_below HOW.out bw3)
  have HAL := hide HOW.out.lt
  clear hrow3 hr3 hown1 hown2 hown3 hg1 hg2 hg3 bw1 bw2 bw3 HOW HRL hbel
  generalize W0.heap.size = g at *
  have HJ3 := hide (join_any (some ⟨g, 0, none⟩) 0 1 [] w3 hl (by omega) HR3n.out h64')
  refine HJ3.out.mono ?_
  rintro e w4 ⟨rfl, hown4, hbe4⟩
  have HR4n := hide (HR3n.out.below2 hbe4)
  have HR4 := hide (HR3.out.below2 hbe4)
  have HA4 := hide (owns_below HA3.out hbe4)
  have hbel4 : Below w.heap.size w w4 := hbel3.trans (hbe4.mono hbel3.size)
  have h4lt := hown4.lt w3.heap.size rfl
  have H4 := hide hown4
  have z4 := hbe4.size
  have HJ4 := hide (join_any (some ⟨g, 0, none⟩) 0 1 [] w4 hl (by omega) HR4n.out h64')
  rw [HLL.out] at HJ4 H4
  rw [HLL.out]
  clear hown4 HJ3 HR3n HR3 HA3 hbel3 hbe4
  generalize w3.heap.size = g4 at *
  go_wp2_with fail
  refine HJ4.out.mono ?_
  rintro e w5 ⟨rfl, hown5, hbe5⟩
  have HR5n := hide (HR4n.out.below2 hbe5)
  have HR5 := hide (HR4.out.below2 hbe5)
  have HA5 := hide (owns_below HA4.out hbe5)
  have H45 := hide (owns_below H4.out hbe5)
  have hbel5 : Below w.heap.size w w5 := hbel4.trans (hbe5.mono hbel4.size)
  have h5lt := hown5.lt w4.heap.size rfl
  have H5 := hide hown5
  have z5 := hbe5.size
  clear hown5 HJ4 HR4n HR4 HA4 hbel4 hbe5 H4
  generalize w4.heap.size = g5 at *
  have HSM := hide (same_any (some ⟨g4, 0, none⟩) none 0 0 0 0 (encs []) (encs []) w5 (by unfold maxLen; omega) HLL.out HLL.out (row_of_owns H45.out) (row_of_owns2 HA5.out))
  rw [decide_eq_true rfl] at HSM
  go_wp2_with fail
  refine HSM.out.mono ?_
  rintro e w6 ⟨rfl, hst6⟩
  have hcs := owns_cells (owns_still H45.out hst6)
  have HSP := hide (spoil_any g4 0 0 w6 (by unfold maxLen; omega) hcs.1 hcs.2.1)
  have hz6 : w6.heap.size = w5.heap.size := by rw [hst6.heap]
  clear hcs HSM
  go_wp2_with (first | (go_at_call 16; refine HSP.out.mono ?_; rintro e w7 ⟨rfl, hg7⟩))
  have hne : ∀ j, j < w6.heap.size → j ≠ g4 → w7.heap[j]? = w6.heap[j]? := fun j hj hn => hg7.block j hj (fun e => by cases e; exact hn rfl)
  have hob5 : ∀ j, (Value.slice (some ⟨g5, 0, none⟩) 0 0).ownBlock = some j → j = g5 := fun j hj => by cases hj; rfl
  have K5 := hide (owns_blk (w' := w7) (owns_still H5.out hst6) (fun j hj => by have := hob5 j hj; exact hne j (by omega) (by omega)))
  have KA := hide (owns_blk (w' := w7) (owns_still HA5.out hst6) (fun j hj => by have := HAL.out j hj; exact hne j (by omega) (by omega)))
  have hbel7 : Below w.heap.size w w7 := (hbel5.trans (hst6.below _)).grown hg7 (by have := hbel5.size; omega) (fun j e => by cases e; omega)
  have HR7n := hide ((hst6.row HR5n.out).kept' hne (by omega))
  have HR7 := hide ((hst6.row HR5.out).kept' hne (by omega))
  clear HSP H5 H45 HA5 HR5n HR5 hne hob5 hst6 hg7
  have HSM := hide (same_any (some ⟨g5, 0, none⟩) none 0 0 0 0 (encs []) (encs []) w7 (by unfold maxLen; omega) HLL.out HLL.out (row_of_owns K5.out) (row_of_owns2 KA.out))
  rw [decide_eq_true rfl] at HSM
  go_wp2_with (first
    | (go_at_call 13; refine HSM.out.mono ?_; rintro e w8 ⟨rfl, hst8⟩)
    | (go_at_call 18; refine (nsame_any (some ⟨g, 0, none⟩) a2 0 _ _ [] _ (by unfold maxLen; omega) hl (hst8.row HR7n.out) (hst8.row (HRW.out.below2 hbel7))).mono ?_; rintro e w9 ⟨rfl, hst9⟩; have h77 := cell_last hl (hst9.row (hst8.row HR7.out))))
  go_ret
  exact ⟨by simp, (hbel7.trans (hst8.below _)).trans (hst9.below _)⟩

theorem fits64_take {zs : List Int} (len : Nat) (h : ∀ n ∈ zs, (Lit.int .u64 n).wf = true) : Fits64 (zs.take len) := by
  intro i
  have := range_u64 h i
  simp only [List.getD_eq_getElem?_getD]
  rw [List.getElem?_take]
  split
  · exact this
  · simp

theorem writes_any (a : Option Addr) (len cap : Nat) (ns : List Int) (w : World) (hl : ns.length = len) (hm : len ≤ 1048576) (hnone : a = none → len = 0 ∧ cap = 0) (hr : Row w .u64 a ns) (h64 : Fits64 ns) :
    Calls Try.prog 4 #[.slice a len cap] w fun e w' => e = .returned (.bool true) ∧ Below w.heap.size w w' := by
  by_cases h0 : len = 0
  · subst h0; exact writes_nothing a cap w (fun h => (hnone h).2)
  · obtain ⟨b, off, rfl, hb, hc⟩ := hr.cons (by omega)
    exact writes_some b off len cap ns w hl hm hb (by rw [← hl]; exact hc) h64

end Go.Proofs.Ytlphpcacngimhaa
