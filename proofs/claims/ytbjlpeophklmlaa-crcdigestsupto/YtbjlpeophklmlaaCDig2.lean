/- What CrcDigests wants beside: lent with its block, Reset, an append in a region that draws. -/
import Derived.Test.YtbjlpeophklmlaaCDigest
import Derived.Test.YtbjlpeophklmlaaCLives
import Derived.Test.YtbjlpeophklmlaaCRef
import Derived.Test.YtbjlpeophklmlaaCSpoil
import Derived.Test.YtbjlpeophklmlaaLent
import Derived.Deep.AppendLies
import Derived.Deep.MidRow
namespace Go.Proofs.Ytbjlpeophklmlaa
open Go.RowKit

theorem lent_own {w : World} {base g len : Nat} {zs : List Int} (hl : zs.length = len) (h : w.ownsRow base 5 1 (.slice (some ⟨g, 0, none⟩) (len + 2) (len + 2)) (len + 2) ((zs ++ [77, 78]).map (Value.int .u8))) : OwnB w base 5 (.slice (some ⟨g, 0, none⟩) len (len + 2)) zs := by
  rcases h.2 with ⟨hv, _⟩ | ⟨g', cap', cur, hv, hb, hh, h1, h2, h3, h4⟩
  · cases hv
  · cases hv
    rw [Nat.mul_one] at h3 h4
    have hall : cur.toList = (zs ++ [77, 78]).map (Value.int .u8) := by
      rw [← h4, List.take_of_length_le (by rw [Array.length_toList]; omega)]
    refine .inr ⟨g, len + 2, cur, by rw [hl], hb, hh, by omega, h2, h3, ?_, ?_⟩
    · rw [hall, List.map_append, hl]
      exact List.take_left' (by rw [List.length_map, hl])
    · rw [hall]
      exact bytes_map _

set_option maxHeartbeats 800000 in
theorem lentB_any (a : Option Addr) (len cap : Nat) (zs : List Int) (w : World) (hl : zs.length = len) (hm : len ≤ 140737488351232) (hnone : a = none → len = 0 ∧ cap = 0) (hr : Row w .u8 a zs) :
    Calls Try.prog 15 #[.slice a len cap] w fun e w' => e = .returned (.slice (some ⟨w.heap.size, 0, none⟩) len (len + 2)) ∧ Lent w' w.heap.size zs ∧ OwnB w' w.heap.size 5 (.slice (some ⟨w.heap.size, 0, none⟩) len (len + 2)) zs ∧ Below w.heap.size w w' := by
  obtain ⟨i0, hi, hz0, hz1, hz2⟩ := info_parts infoU8
  have HR := hide hr
  have HN := hide hnone
  clear hr hnone
  go_enter Try.func15, Try.ntmps15
  go_wp2_with (first
    | (at_make; refine wpList_make_own _ rfl _ _ 23 rfl w.heap.size 5 i0 (.int .u8 0) 1 Try.underlying23 hi hz0 hz1 .i64 .i64 _ (len + 2) rfl rfl (by omega) (by rw [hz2]; omega) (by unfold maxLen; omega) (Nat.le_refl _) ?_; intro w1 hown1 hg1)
    | (at_builtin; refine wpList_append_fits_any _ rfl (.tmp 6) (.tmp 7) 23 rfl w.heap.size 5 i0 1 Try.underlying23 hi hz1 w.heap.size 0 (len + 2) _ rfl hown1 _ len _ (zs.map (Value.int .u8)) rfl (by simp [hl]) HN.out (row_cells (Row.kept HR.out hg1 (fun _ _ _ => by simp))) (ints_oneCell _ _) (by omega) ?_; intro w2 hown2 hg2; simp only [Nat.zero_add, List.nil_append] at hown2)
    | (at_builtin; refine wpList_append_fits_any _ rfl (.tmp 8) (.tmp 9) 23 rfl w.heap.size 5 i0 1 Try.underlying23 hi hz1 w.heap.size len (len + 2) _ rfl (hown2.alloc _) _ 2 _ [.int .u8 77, .int .u8 78] rfl rfl (by intro h; cases h) (by intro ad had; cases had; exact two_cells _ _ _ _) (by intro u hu; simp at hu; rcases hu with rfl | rfl <;> rfl) (by omega) ?_; intro w3 hown3 hg3))
  go_ret
  have e : (zs.map (Value.int .u8)) ++ [.int .u8 77, .int .u8 78] = (zs ++ [77, 78]).map (Value.int .u8) := by simp
  rw [e] at hown3
  have s1 := hg1.size
  have s2 := hg2.size
  have b1 : Below w.heap.size w w1 := (Below.refl _ _).grown hg1 (Nat.le_refl _) (fun k h => by cases h)
  have b2 : Below w.heap.size w w2 := b1.grown hg2 s1 (fun k h => by cases h; exact Nat.le_refl _)
  have b3 : Below w.heap.size w w3 := (b2.alloc (by omega) _).grown hg3 (by simp; omega) (fun k h => by cases h; exact Nat.le_refl _)
  exact ⟨rfl, lent_of_owns hown3, lent_own hl hown3, b3⟩

set_option maxHeartbeats 400000 in
theorem reset_any (g s n : Nat) (w : World) (hD : IsD w g s n) :
    Calls Try.prog 28 #[.pointer (some ⟨g, 0, none⟩)] w fun e w' => e = .returned (.tuple #[]) ∧ IsD w' g 0 0 ∧ w.grownBy w' (some g) := by
  have h0 := hD.sum
  have h1 := hD.count
  have f0 := hD.fr 0
  have f1 := hD.fr 1
  have HD := hide hD
  clear hD
  go_enter Try.func28, Try.ntmps28
  go_wp2
  go_end0
  refine ⟨rfl, ?_, grownBy_setCell (grownBy_setCell (grownBy_refl _ _) 0 _) 1 _⟩
  have hb := block_setCell (block_setCell HD.out 0 (.int .u32 0)) 1 (.int .i64 0)
  exact hb

/-- append of bytes, nil or not, none or some, onto a row of one's own: a step of a region that draws. -/
theorem step_app {P : Program} {ops : Array Oper} {o : Oper} {a : Act} {w : World} {K : Act → World → Prop} {Q : Exit → Act → World → Prop} {E : Prop} (hgd : o.guard = none) (s x : Operand) (t : TypeId)
    (ho : o.op = .call { callee := .builtin .append, args := #[s, x], argTypes := #[t, t] })
    (base : Nat) (e : TypeId) (i : TypeInfo) (ht : P.underlying t = some (.slice e)) (hi : P.info? e = some i) (hz : i.zero = some (.int .u8 0)) (hsize : i.size = 1) (hby : i.bytes = 1)
    (v : Value) (zs : List Int) (hs : a.eval s = v) (hown : w.ownsRow base e 1 v zs.length (zs.map (Value.int .u8)))
    (ao : Option Addr) (m c : Nat) (ys : List Int) (hx : a.eval x = .slice ao m c) (hl : ys.length = m) (hnone : ao = none → m = 0 ∧ c = 0) (hrow : Row w .u8 ao ys)
    (hbytes : zs.length + m ≤ 140737488355328) (hbase : base ≤ w.heap.size)
    (h : ∀ v' w', w'.ownsRow base e 1 v' (zs ++ ys).length ((zs ++ ys).map (Value.int .u8)) → w.grownBy w' v.ownBlock → (∀ k, v'.ownBlock = some k → v.ownBlock = some k ∨ w.heap.size ≤ k) → K (a.put o.dst v') w') :
    if Region.wanted o (yielded ops a.tmps) = true then Oper.wp P o a w K Q else E := by
  by_cases hm : m = 0
  · subst hm
    obtain rfl : ys = [] := List.eq_nil_of_length_eq_zero hl
    rw [List.append_nil] at h
    have hK := h v w hown (grownBy_refl _ _) (fun k hk => .inl hk)
    have hw : Region.wanted o (yielded ops a.tmps) = true := by simp [Region.wanted, hgd]
    rw [if_pos hw]
    have hrun : (Builtin.append_ #[t, t] o.type #[v, .slice ao 0 c]).run P w = .ok v w := by
      cases ao with
      | none =>
        obtain rfl := (hnone rfl).2
        exact run_append_owned_none w base t o.type e i 1 ht hi v _ _ hown
      | some ad =>
        rcases hown.2 with ⟨hv, _⟩ | ⟨g, cap, cur, hv, hb, hh, h1, h2, h3, h4⟩
        · rw [hv]
          simp [Builtin.append_, run_underlying ht, sizeOf, typeInfo, hi, Builtin.lenOf, Builtin.firstCells, loadCells, loadCellsFrom]
        · rw [hv]
          simp [Builtin.append_, run_underlying ht, sizeOf, typeInfo, hi, Builtin.lenOf, Builtin.firstCells, loadCells, loadCellsFrom, h1, storeCells]
    unfold Oper.wp
    simp [execOp, ho, resolve, invoke, builtin, hs, hx, hrun, Result.andThen]
    exact hK
  · cases ao with
    | none => exact absurd (hnone rfl).1 hm
    | some ad =>
      refine step_append_lies w hgd s x t ho base e i (.int .u8 0) 1 1 ht hi hz hsize hby rfl (by decide) v zs.length _ hs hown ad m c (ys.map (Value.int .u8)) hx (by rw [List.length_map, Nat.mul_one]; exact hl) (hrow.cells ad rfl) (fun u hu => by obtain ⟨y, rfl⟩ := bytes_map ys u hu; rfl) (by omega) (by unfold maxLen; omega) (by omega) hbase w.heap.size rfl ?_
      intro g cap w' h1 h2 h3 _
      refine h _ w' ?_ h2 (fun k hk => ?_)
      · rw [List.length_append, hl, List.map_append]; exact h1
      · have : g = k := by simpa [Value.ownBlock] using hk
        subst this
        rcases h3 with h3 | h3
        · exact .inl h3
        · exact .inr (by omega)

end Go.Proofs.Ytbjlpeophklmlaa
