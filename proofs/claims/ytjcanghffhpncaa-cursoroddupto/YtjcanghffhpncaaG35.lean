/- CursorOdd: alike, and what the walk stands on. -/
import Derived.Test.YtjcanghffhpncaaG26
import Derived.Test.YtjcanghffhpncaaG33
import Derived.Test.YtjcanghffhpncaaG34
namespace Go.Proofs.Ytjcanghffhpncaa
open Go.RowKit

set_option maxHeartbeats 400000 in
theorem alike_some (b1 o1 c1 b2 o2 c2 l : Nat) (xs : List Int) (w : World) (hl : l ≤ maxLen)
    (k1 : ∀ i, i < l → w.cell? ⟨b1, o1 + i, none⟩ = some (.int .i64 (xs.getD i 0))) (k2 : ∀ i, i < l → w.cell? ⟨b2, o2 + i, none⟩ = some (.int .i64 (xs.getD i 0))) :
    Calls Try.prog 29 #[.slice (some ⟨b1, o1, none⟩) l c1, .slice (some ⟨b2, o2, none⟩) l c2] w fun e w' => e = .returned (.bool true) ∧ ∃ m, w' = w.drewN m := by
  unfold maxLen at hl
  go_enter Try.func29, Try.ntmps29
  go_wp2
  go_loopw [5] (fun q wr => ∃ k m : Nat, k ≤ l ∧ q = .int .i64 (k : Int) ∧ wr = w.drewN m) (fun q _ => l - (intOf q).toNat)
  case atStart => exact ⟨0, 0, by omega, rfl, rfl⟩
  case round =>
    obtain ⟨k, m, hk, rfl, rfl⟩ := hrel
    by_cases hlt : k < l
    · have g1 : (w.drewN m).cell? ⟨b1, o1 + k, none⟩ = some (.int .i64 (xs.getD k 0)) := k1 k hlt
      have g2 : (w.drewN m).cell? ⟨b2, o2 + k, none⟩ = some (.int .i64 (xs.getD k 0)) := k2 k hlt
      have hi : (k : Int) < (l : Int) := by omega
      generalize xs.getD k 0 = c at *
      go_wp2
      go_quiet (fail)
      go_wp2
      go_roundw
      case rel => exact ⟨k + 1, _, by omega, by go_num, rfl⟩
      case measure => simp [intOf]; omega
    · have hge : ¬ (k : Int) < (l : Int) := by omega
      go_wp2
      go_ret
      exact ⟨rfl, _, rfl⟩
set_option maxHeartbeats 400000 in
theorem alike_nothing (a b : Option Addr) (c1 c2 : Nat) (w : World) :
    Calls Try.prog 29 #[.slice a 0 c1, .slice b 0 c2] w fun e w' => e = .returned (.bool true) ∧ ∃ m, w' = w.drewN m := by
  go_enter Try.func29, Try.ntmps29
  go_wp2
  go_loopw [5] (fun q wr => q = .int .i64 0 ∧ wr = w) (fun _ _ => 0)
  case atStart => exact ⟨rfl, rfl⟩
  case round =>
    obtain ⟨rfl, rfl⟩ := hrel
    go_wp2
    go_ret
    exact ⟨rfl, 0, rfl⟩
theorem alikeq (a b : Option Addr) (l c1 c2 : Nat) (xs : List Int) (w : World) (hl1 : l ≤ maxLen) (h1 : xs.length = l) (r1 : Row w .i64 a xs) (r2 : Row w .i64 b xs) :
    Calls Try.prog 29 #[.slice a l c1, .slice b l c2] w fun e w' => e = .returned (.bool true) ∧ ∃ m, w' = w.drewN m := by
  by_cases h0 : l = 0
  · subst h0
    exact alike_nothing a b c1 c2 w
  · obtain ⟨b1, o1, rfl, _, k1⟩ := r1.cons (by omega)
    obtain ⟨b2, o2, rfl, _, k2⟩ := r2.cons (by omega)
    exact alike_some b1 o1 c1 b2 o2 c2 l xs w hl1 (by rw [← h1]; exact k1) (by rw [← h1]; exact k2)

theorem lo_fam (ns es : List Int) (an : Option Addr) (ln cn : Nat) (ae : Option Addr) (le ce : Nat) (g B : Nat) (hln : ns.length = ln) (hle : es.length = le) : RFam (fun k => oRd ns es 37 k) oCnt (fun s => ns.length - s.c) (fun s => 4096 * (ns.length - s.c)) 88 (.pointer (some ⟨g, 0, none⟩)) B (LRd ns es an ln cn ae le ce g B) where
  R := fun k _ h => lo_reader ns es an ln cn ae le ce g B k hln hle (by omega)
  vol := fun k s _ h => o_vol ns es 37 k s h
theorem ro_fam (ns es : List Int) (an : Option Addr) (ln cn : Nat) (ae : Option Addr) (le ce : Nat) (g B : Nat) (hln : ns.length = ln) (hle : es.length = le) : RFam (fun k => oRd ns es 37 k) oCnt (fun s => ns.length - s.c) (fun s => 4096 * (ns.length - s.c)) 66 (.pointer (some ⟨g, 0, none⟩)) B (ORd ns es an ln cn ae le ce 37 g B) where
  R := fun k _ h => ro_reader ns es an ln cn ae le ce 37 g B k hln hle (by omega)
  vol := fun k s _ h => o_vol ns es 37 k s h
theorem o_new_ok (ns : List Int) (hn : ns.length ≤ 1048576) : InOk oCnt (fun s => ns.length - s.c) (fun s => 4096 * (ns.length - s.c)) (4611684918915760128 + 17 * ns.length + 16) 1048576 ⟨⟨0, 0, []⟩, 0, 0, 0, 1048576, []⟩ :=
  ⟨by simp, b8_nil, fun _ => by simp, fun _ => by have := oCnt_eq ⟨0, 0, []⟩; simp only at this ⊢; omega, fun _ => by simp, fun _ => by simp only [List.length_nil]; omega, Nat.zero_le _⟩
theorem o_new_out : OutOk oCntW (fun t : OWt => t.took.length) (4611684918915760128 + 16 + 17 * 0) 0 ⟨⟨0, [], []⟩, [], 0, 0, 0⟩ :=
  ⟨fun _ => by simp, fun _ => by have := oCntW_eq ⟨0, [], []⟩; simp only [List.length_nil] at this ⊢; omega, fun _ => by simp, by simp⟩

theorem four_newQ (W : World) (a b c d : Obj) : (((W.alloc a).alloc b |>.alloc c).alloc d).heap[W.heap.size]? = some a ∧ (((W.alloc a).alloc b |>.alloc c).alloc d).heap[W.heap.size + 1]? = some b ∧ (((W.alloc a).alloc b |>.alloc c).alloc d).heap[W.heap.size + 2]? = some c ∧ (((W.alloc a).alloc b |>.alloc c).alloc d).heap[W.heap.size + 3]? = some d := by
  have h3 := three_new W a b c
  have ho : ∀ (V : World) (x : Obj) (k : Nat), k < V.heap.size → (V.alloc x).heap[k]? = V.heap[k]? := fun V x k h => Below.heap_alloc V x k h
  have hz : ((W.alloc a).alloc b |>.alloc c).heap.size = W.heap.size + 3 := by simp
  refine ⟨?_, ?_, ?_, ?_⟩
  · rw [ho _ _ _ (by omega)]; exact h3.1
  · rw [ho _ _ _ (by omega)]; exact h3.2.1
  · rw [ho _ _ _ (by omega)]; exact h3.2.2
  · rw [← hz]; exact World.alloc_heap_new _ _

section
variable {ns es : List Int} {an : Option Addr} {ln cn : Nat} {ae : Option Addr} {le ce : Nat} {g g2 B gc gd most : Nat} {r : Value} {W : World}
/-- What both readers tell of the sizes. -/
theorem IsIn.szs {x : InS OSt} {F : Nat → Prop} (h : IsIn (LRd ns es an ln cn ae le ce g B) B gc r W x F) : ∃ ax cx, W.cell? ⟨g, 3, none⟩ = some (.slice ax x.s.szs.length cx) ∧ Row W .i64 ax x.s.szs ∧ x.s.szs.length = x.s.c := by
  obtain ⟨hv, M, _, hr, _⟩ := h
  obtain ⟨ax, cx, hz, _⟩ := hr
  exact ⟨ax, cx, (mkL_cells hz.blk).2.2.2.1, row_of_owns2 hz.own, hz.le⟩
theorem IsRIn.szs {x : InS OSt} {F : Nat → Prop} (h : IsRIn (ORd ns es an ln cn ae le ce 37 g2 B) B gd g2 most W x F) : ∃ ax cx, W.cell? ⟨g2, 11, none⟩ = some (.slice ax x.s.szs.length cx) ∧ Row W .i64 ax x.s.szs := by
  obtain ⟨hv, hs, i, M, _, hr, _⟩ := h
  obtain ⟨ax, cx, hz⟩ := hr
  exact ⟨ax, cx, (ob_cells hz.blk).2.2.2.2.2.2.1, row_of_owns2 hz.own⟩
theorem ownI_max {w : World} {base : Nat} {e : TypeId} {v : Value} {n : Nat} {xs : List Value} (h : w.ownsRow base e 1 v n xs) : n ≤ maxLen := by
  rcases h.2 with ⟨_, hn⟩ | ⟨g, cap, cur, _, h2⟩
  · rw [hn]; exact Nat.zero_le _
  · exact Nat.le_trans h2.2.2.1 h2.2.2.2.1
theorem IsOut.all {x : OutS OWt} {F : Nat → Prop} (h : IsOut (TAt (mkW (.slice an ln cn) (.slice ae le ce)) 83 an ns ae es g B) B gc r W x F) : ∃ ax cx ay cy, W.cell? ⟨g, 3, none⟩ = some (.slice ax x.t.szs.length cx) ∧ Row W .i64 ax x.t.szs ∧ W.cell? ⟨g, 5, none⟩ = some (.slice ay x.t.took.length cy) ∧ Row W .u8 ay x.t.took := by
  obtain ⟨wv, off, M, _, hr, _⟩ := h
  obtain ⟨ax, cx, ay, cy, hz⟩ := hr
  exact ⟨ax, cx, ay, cy, (mkL_cells hz.z.blk).2.2.2.1, row_of_owns2 hz.z.own, (mkL_cells hz.z.blk).2.2.2.2.2.1, row_of_owns2 hz.own⟩
theorem IsROut.all {x : OutS OWt} {F : Nat → Prop} (h : IsROut (TAt (mkS (.slice an ln cn) (.slice ae le ce)) 70 an ns ae es g2 B) B gd g2 W x F) : ∃ ax cx ay cy, W.cell? ⟨g2, 7, none⟩ = some (.slice ax x.t.szs.length cx) ∧ Row W .i64 ax x.t.szs ∧ W.cell? ⟨g2, 3, none⟩ = some (.slice ay x.t.took.length cy) ∧ Row W .u8 ay x.t.took ∧ x.t.szs.length ≤ maxLen ∧ x.t.took.length ≤ maxLen := by
  obtain ⟨wv, off, i, M, _, hr, _⟩ := h
  obtain ⟨ax, cx, ay, cy, hz⟩ := hr
  exact ⟨ax, cx, ay, cy, (mkS_cells hz.z.blk).2.2.2.2.2.1, row_of_owns2 hz.z.own, (mkS_cells hz.z.blk).2.1, row_of_owns2 hz.own, ownI_max hz.z.own, ownI_max hz.own⟩
theorem IsRIn.max {x : InS OSt} {F : Nat → Prop} (h : IsRIn (ORd ns es an ln cn ae le ce 37 g2 B) B gd g2 most W x F) : x.s.szs.length ≤ maxLen := by
  obtain ⟨hv, hs, i, M, _, hr, _⟩ := h
  obtain ⟨ax, cx, hz⟩ := hr
  exact ownI_max hz.own
end

end Go.Proofs.Ytjcanghffhpncaa
