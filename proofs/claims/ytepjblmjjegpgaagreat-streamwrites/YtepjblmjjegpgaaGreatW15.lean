/- What 'spoil' does: it turns one's own row alone. -/
import Derived.Test.YtepjblmjjegpgaaGreatW7
import Derived.Test.YtepjblmjjegpgaaGreatW5
namespace Go.Proofs.YtepjblmjjegpgaaGreat
open Go.RowKit
set_option maxRecDepth 100000

theorem isByte_set {cur : Array Value} (h : ∀ u ∈ cur.toList, IsByte u) (k : Nat) (x : Int) : ∀ u ∈ (cur.setIfInBounds k (.int .u8 x)).toList, IsByte u := by
  intro u hu
  rw [Array.toList_setIfInBounds] at hu
  rcases List.mem_or_eq_of_mem_set hu with h1 | h1
  · exact h u h1
  · exact ⟨x, h1⟩

set_option maxHeartbeats 800000 in
theorem spoil_nil (w : World) :
    Calls Tryz.prog 25 #[.slice none 0 0] w fun e w' => e = .returned (.tuple #[]) ∧ w' = w := by
  go_enter Tryz.func25, Tryz.ntmps25
  go_wp2
  refine wp_loop_rounds 1 ?_
  rw [rounds_succ]
  go_wp2
  go_end0
  exact ⟨rfl, rfl⟩

set_option maxHeartbeats 1600000 in
theorem spoil_some (g n cap : Nat) (cur : Array Value) (w : World) (hg : w.heap[g]? = some (.cells cur 5 (0, 0))) (hm : cap ≤ maxLen) (hs : cur.size = cap) (hb : ∀ u ∈ cur.toList, IsByte u) :
    Calls Tryz.prog 25 #[.slice (some ⟨g, 0, none⟩) n cap] w fun e w' => e = .returned (.tuple #[]) ∧ w.grownBy w' (some g) := by
  unfold maxLen at hm
  have i1 : (0 : Int) ≤ (cap : Int) := by omega
  go_enter Tryz.func25, Tryz.ntmps25
  go_wp2
  go_loopw [2] (fun i wr => ∃ (k : Nat) (cs : Array Value), k ≤ cap ∧ i = .int .i64 k ∧ wr.heap[g]? = some (.cells cs 5 (0, 0)) ∧ cs.size = cap ∧ Hid (∀ u ∈ cs.toList, IsByte u) ∧ w.grownBy wr (some g)) (fun i _ => cap - (intOf i).toNat)
  case atStart => exact ⟨0, cur, by omega, rfl, hg, hs, hb, grownBy_refl _ _⟩
  case round =>
    clear hg hs hb
    obtain ⟨k, cs, hk, rfl, hg, hs, HB, hgr⟩ := hrel
    by_cases hlt : k < cap
    · obtain ⟨x, hx⟩ := HB.out cs[k] (by simp)
      have hcell : wr.cell? ⟨g, k, none⟩ = some (.int .u8 x) := by rw [cell_of_row _ _ _ _ _ _ hg, Array.getElem?_eq_getElem (by omega), hx]
      have hfr : wr.frozen? ⟨g, k, none⟩ = false := by simp [World.frozen?, hg]
      have HG := hide hg
      clear hg hx
      go_wp2
      go_roundw
      case rel => exact ⟨k + 1, _, by omega, by go_num, block_setCell HG.out k _, by rw [Array.size_setIfInBounds]; exact hs, isByte_set HB.out k _, grownBy_setCell hgr k _⟩
      case measure => simp [intOf]; omega
    · have hge : ¬ (k : Int) < (cap : Int) := by omega
      go_wp2
      go_end0
      exact ⟨rfl, hgr⟩

theorem spoil_any {w : World} {base : Nat} {v : Value} {zs : List Int} (h : OwnB w base 5 v zs) :
    Calls Tryz.prog 25 #[v] w fun e w' => e = .returned (.tuple #[]) ∧ w.grownBy w' v.ownBlock := by
  rcases h with ⟨rfl, _⟩ | ⟨g, cap, cur, rfl, _, hg, _, hm, hs, _, hb⟩
  · exact (spoil_nil w).mono fun e w' ⟨h1, h2⟩ => ⟨h1, by rw [h2]; exact grownBy_refl _ _⟩
  · exact spoil_some g _ cap cur w hg hm hs hb

end Go.Proofs.YtepjblmjjegpgaaGreat
