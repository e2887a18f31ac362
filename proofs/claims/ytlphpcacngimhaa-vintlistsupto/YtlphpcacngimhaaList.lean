/- What List answers. -/
import Derived.Test.YtlphpcacngimhaaAll
namespace Go.Proofs.Ytlphpcacngimhaa
open Go.RowKit Go.Shelf
attribute [local go_sem] Oper.semAt_some

theorem infoW : (Try.prog.info? 25).map (fun i => (i.zero, i.size, i.bytes)) = some (some (.int .u64 0), 1, 8) := by kernel_rfl

/-- The place behind the numbers that have come. -/
def behind (pre : List VX) : Nat := match pre.getLast? with | none => 0 | some x => x.1.1 + (enc x.1.2).length
theorem behind_snoc (pre : List VX) (x : VX) : behind (pre ++ [x]) = x.1.1 + (enc x.1.2).length := by simp [behind]
def vals (pre : List VX) : List Value := pre.map fun x => Value.int .u64 (x.1.2 : Int)
theorem vals_len (pre : List VX) : (vals pre).length = pre.length := by simp [vals]
theorem vals_snoc (pre : List VX) (x : VX) : vals (pre ++ [x]) = vals pre ++ [Value.int .u64 (x.1.2 : Int)] := by simp [vals]

theorem row_lt {w : World} {k : IntKind} {a : Option Addr} {zs : List Int} (h : Row w k a zs) {x : Addr} (hx : a = some x) (hp : 0 < zs.length) : x.block < w.heap.size := by
  obtain ⟨b, off, ha, hb, _⟩ := h.cons hp
  rw [hx] at ha
  cases ha
  exact hb

/-- The place behind the last number. -/
def behindS (l : List (Nat × Nat)) : Nat := match l.getLast? with | none => 0 | some x => x.1 + (enc x.2).length
theorem behind_eq (pre : List VX) : behind pre = behindS (pre.map (·.1)) := by
  unfold behind behindS
  rw [List.getLast?_map]
  cases pre.getLast? <;> rfl

set_option maxRecDepth 100000 in
set_option maxHeartbeats 1000000 in
theorem list_ok_in (n : Nat) (hn : 5 ≤ n) (a : Option Addr) (len cap : Nat) (zs : List Int) (w : World) (hl : zs.length = len) (hm : len ≤ 1125899906842624) (h8 : ∀ c ∈ zs, 0 ≤ c ∧ c ≤ 255) (hr : Row w .u8 a zs) (hN : (seq zs).length * 8 ≤ 140737488355328) (hbh : behindS (seq zs) = len) :
    CallsIn Fence.wide n Try.prog 12 #[.slice a len cap] w fun e w' => ∃ v, e = .returned (.tuple #[v, .int .i64 0, .int .i64 0]) ∧ w'.ownsRow w.heap.size 25 1 v (seq zs).length ((seq zs).map fun x => Value.int .u64 (x.2 : Int)) ∧ Below w.heap.size w w' := by
  have h1 : 1 ≤ n := by omega
  obtain ⟨i0, hi, hz0, hz1, hz2⟩ := info_parts infoW
  have HR := hide hr
  have HH := hide hbh
  clear hr hbh
  refine callsIn_of_wp_marks Try.func12 rfl trivial ?_ rfl
  simp only [Try.ntmps12, List.size_toArray, List.length_cons, List.length_nil, Nat.reduceAdd, Nat.reduceSub, Array.replicate_succ, Array.replicate_zero, List.push_toArray, List.append_toArray, List.nil_append, List.cons_append]
  gi_wp2
  refine ⟨trivial, ((callsIn_wide (n := n - 1)).2 (all_in a len cap _)).mono ?_⟩
  rintro e w' ⟨rfl, rfl⟩
  gi_wp2
  have bO := ((Boxed.new w 29 (.slice none 0 0)).alloc (.cells #[.int .i64 0] 3)).alloc (.cells #[.slice a len cap] 23)
  have bH := (Boxed.new (w.alloc (.cells #[.slice none 0 0] 29)) 3 (.int .i64 0)).alloc (.cells #[.slice a len cap] 23)
  have bB := Boxed.new ((w.alloc (.cells #[.slice none 0 0] 29)).alloc (.cells #[.int .i64 0] 3)) 23 (.slice a len cap)
  rw [World.size_alloc] at bH
  rw [World.size_alloc, World.size_alloc] at bB
  have hB0 : Below w.heap.size w (((w.alloc (.cells #[.slice none 0 0] 29)).alloc (.cells #[.int .i64 0] 3)).alloc (.cells #[.slice a len cap] 23)) := (((Below.refl _ w).alloc (Nat.le_refl _) _).alloc (by simp) _).alloc (by simp; omega) _
  refine wpIn_rangeFunc_ownG rfl h1 (gf := 32) (lb := #[.pointer (some ⟨w.heap.size + 1 + 1, 0, none⟩)]) rfl trivial (enters_of Try.func32 (by kernel_rfl) rfl)
    (all_stops (n - 1) (by omega) (w.heap.size + 1 + 1) w.heap.size len cap a zs hl hm h8 _ (by simp) (by simp; omega) (seq zs).length (Nat.le_refl _) bB.cell (HR.out.below2 hB0) (fun x hx hp => row_lt HR.out hx (by omega)))
    Kb.t (Kb.b (by simp; omega) (by simp)) (Below.refl _ _) (fun _ => rfl)
    (fun pre W => (((∃ v, Boxed W w.heap.size 29 v ∧ W.ownsRow w.heap.size 25 1 v pre.length (vals pre) ∧ (v = .slice none 0 0 ↔ pre = [])) ∧ Boxed W (w.heap.size + 1) 3 (.int .i64 (behind pre : Int))) ∧ Boxed W (w.heap.size + 1 + 1) 23 (.slice a len cap)) ∧ Below w.heap.size w W)
    (fun _ _ _ => False)
    (OwnFrom.and (OwnFrom.and (OwnFrom.and (Own.from (holdsRow_own w.heap.size w.heap.size 29 25 1 (fun pre => pre.length) (fun pre => vals pre) (fun pre v => v = .slice none 0 0 ↔ pre = [])) _) (Own.from (boxed_own _ _ _) _)) (Own.from (boxed_own _ _ (fun _ => .slice a len cap)) _)) (ownFrom_below (Nat.le_refl _) (by simp; omega)))
    (fun _ _ _ _ _ hs _ _ => hs)
    ⟨⟨⟨⟨_, bO, World.ownsRow_nil _ _ _ _, by simp⟩, bH⟩, bB⟩, hB0⟩
    (fun x => { tmps := #[.slice a len cap, undef, .slice none 0 0, .int .i64 0, .int .i64 0, .pointer (some ⟨w.heap.size, 0, none⟩), .pointer (some ⟨w.heap.size + 1, 0, none⟩), .int .i64 (x.1.1 : Int), .int .u64 (x.1.2 : Int), undef, undef, undef, .slice a len cap, .func (.func 32) #[] #[.pointer (some ⟨w.heap.size + 1 + 1, 0, none⟩)], .int .i64 (x.1.1 : Int), .int .u64 (x.1.2 : Int),
      undef, undef, undef, undef, undef, undef, undef, undef, undef, undef, undef, undef, undef, undef, undef, undef, undef, undef, undef, undef, undef, undef], defers := [] }) ?assign ?body ?done ?stop
  case assign =>
    intro l x W K hK
    simp only [vxs]
    gi_wp2
    exact hK
  case body =>
    rintro l pre x W ⟨⟨⟨⟨v, hv, hrow, hnil⟩, hvH⟩, hvB⟩, hB⟩ hlt
    have hc := hv.cell
    have hx := x.2
    have hel := enc_len_le x.1.2 hx.2
    have hS := fun W' => size_any (x.1.2 : Int) W' (by omega) (by omega)
    rw [Int.toNat_natCast, vsize_enc _ hx.2] at hS
    have HS := hide hS
    have HB := hide (behind_snoc pre x)
    clear hS
    generalize hLx : (enc x.1.2).length = Lx at *
    have HLx := hide hLx
    clear hLx
    have hcH := hvH.cell
    gi_wp2_with (gi_at_builtin; refine wpListIn_append_own _ rfl _ _ 29 rfl w.heap.size 25 i0 (.int .u64 0) 1 8 Try.underlying29 hi hz0 hz1 hz2 rfl (by decide) _ _ _ rfl (hrow.alloc _) ⟨W.heap.size, 0, none⟩ 1 1 [.int .u64 (x.1.2 : Int)] rfl rfl (cell_one_new _ _ _) (by simp [Value.oneCell']) (by unfold maxLen; omega) (by omega) (by have := hB.size; simp; omega) ?_; intro v' w1 hown' hgrow _; obtain ⟨g', cap', rfl⟩ := ownsRow_succ hown'; obtain ⟨hv1, hv2, hr2, hk2, hb2⟩ := hv.appended (by decide) hrow hB.size (Nat.le_refl _) hown' hgrow; have hc1 := hv1.cell; have hf1 := hv1.frozen)
    have hvH1 : Boxed w1 (w.heap.size + 1) 3 (.int .i64 (behind pre : Int)) := (hvH.alloc _).kept hgrow (hvH.not_row (by decide) hrow)
    have hvB1 : Boxed w1 (w.heap.size + 1 + 1) 23 (.slice a len cap) := (hvB.alloc _).kept hgrow (hvB.not_row (by decide) hrow)
    have hvH2 := hvH1.other (B' := w.heap.size) (by omega) (.slice (some ⟨g', 0, none⟩) (pre.length + 1) cap')
    have hvB2 := hvB1.other (B' := w.heap.size) (by omega) (.slice (some ⟨g', 0, none⟩) (pre.length + 1) cap')
    have hcH2 := hvH2.cell
    have hfH2 := hvH2.frozen
    refine ⟨trivial, fun _ => by omega, (CallsIn.inRound l ((callsIn_wide (n := n - 1 - 1 - 1)).2 (HS.out _))).mono ?_⟩
    rintro e w2 ⟨rfl, hw2⟩
    have hw2' := hw2.symm
    subst hw2'
    clear hcH hc1 hf1 hc
    gi_wp2
    have hvB3 := hvB2.other (B' := w.heap.size + 1) (by omega) (.int .i64 ((x.1.1 : Int) + (Lx : Int)))
    refine ⟨(hk2.trans (KeepsOthers.setCell _ _ _)).from _, ⟨hb2.setCell (p := ⟨w.heap.size + 1, 0, none⟩) (by simp) _, (show _ = _ from hvB3).trans (show _ = _ from hvB).symm⟩, ⟨⟨⟨_, hv2.other (by omega) _, ?_, ?_⟩, ?_⟩, hvB3⟩, hB.trans (hb2.setCell (p := ⟨w.heap.size + 1, 0, none⟩) (by simp) _)⟩
    · rw [vals_snoc, List.length_append]
      exact hr2.kept (grownBy_setCell' _ (w.heap.size + 1) _) (.inr (hvH2.not_row (by decide) hr2).symm)
    · simp
    · rw [HB.out]
      have := hvH2.set (.int .i64 ((x.1.1 : Int) + (Lx : Int)))
      rw [Int.natCast_add]
      exact this
  case done =>
    rintro D ys W hD hys ⟨⟨⟨⟨v, hv, hrow, hnil⟩, hvH⟩, hvB⟩, hB⟩ hK
    have hc := hv.cell
    have hcH := hvH.cell
    have hbe : behind ys = len := by rw [behind_eq, hys]; exact HH.out
    rw [hbe] at hcH
    have HYS := hide hys
    clear hys hbe
    gi_wp2
    refine ⟨by simp, .inl ⟨_, _, rfl, run_takeDeferred hK, ?_⟩⟩
    refine ⟨_, results_tmp3 rfl _ _ _, v, rfl, ?_, hB.trans (belowK_b (w := w) (Nat.le_refl _) W D _ _ (by simp at hD; omega) hK rfl rfl)⟩
    have e1 : (seq zs).length = ys.length := by rw [← HYS.out]; simp
    have e2 : (seq zs).map (fun x => Value.int .u64 (x.2 : Int)) = vals ys := by rw [← HYS.out]; simp [vals]
    rw [e1, e2]
    exact ownsRow_putObj hrow _ hK rfl
  case stop =>
    rintro D c pre W _ _ h _
    exact h.elim

set_option maxRecDepth 100000 in
set_option maxHeartbeats 1000000 in
theorem list_bad_in (n : Nat) (hn : 5 ≤ n) (a : Option Addr) (len cap : Nat) (zs : List Int) (w : World) (hl : zs.length = len) (hm : len ≤ 1125899906842624) (h8 : ∀ c ∈ zs, 0 ≤ c ∧ c ≤ 255) (hr : Row w .u8 a zs) (hN : (seq zs).length * 8 ≤ 140737488355328) (bh : Nat) (hbh : behindS (seq zs) = bh) (hne : bh ≠ len) (er en : Int) (HER : Hid (rdErr zs (bh : Int) = er)) (HEN : Hid (rdEnd zs (bh : Int) = en)) :
    CallsIn Fence.wide n Try.prog 12 #[.slice a len cap] w fun e w' => e = .returned (.tuple #[.slice none 0 0, .int .i64 er, .int .i64 en]) ∧ Below w.heap.size w w' := by
  have h1 : 1 ≤ n := by omega
  obtain ⟨i0, hi, hz0, hz1, hz2⟩ := info_parts infoW
  have HR := hide hr
  have HH := hide hbh
  clear hr hbh
  refine callsIn_of_wp_marks Try.func12 rfl trivial ?_ rfl
  simp only [Try.ntmps12, List.size_toArray, List.length_cons, List.length_nil, Nat.reduceAdd, Nat.reduceSub, Array.replicate_succ, Array.replicate_zero, List.push_toArray, List.append_toArray, List.nil_append, List.cons_append]
  gi_wp2
  refine ⟨trivial, ((callsIn_wide (n := n - 1)).2 (all_in a len cap _)).mono ?_⟩
  rintro e w' ⟨rfl, rfl⟩
  gi_wp2
  have bO := ((Boxed.new w 29 (.slice none 0 0)).alloc (.cells #[.int .i64 0] 3)).alloc (.cells #[.slice a len cap] 23)
  have bH := (Boxed.new (w.alloc (.cells #[.slice none 0 0] 29)) 3 (.int .i64 0)).alloc (.cells #[.slice a len cap] 23)
  have bB := Boxed.new ((w.alloc (.cells #[.slice none 0 0] 29)).alloc (.cells #[.int .i64 0] 3)) 23 (.slice a len cap)
  rw [World.size_alloc] at bH
  rw [World.size_alloc, World.size_alloc] at bB
  have hB0 : Below w.heap.size w (((w.alloc (.cells #[.slice none 0 0] 29)).alloc (.cells #[.int .i64 0] 3)).alloc (.cells #[.slice a len cap] 23)) := (((Below.refl _ w).alloc (Nat.le_refl _) _).alloc (by simp) _).alloc (by simp; omega) _
  refine wpIn_rangeFunc_ownG rfl h1 (gf := 32) (lb := #[.pointer (some ⟨w.heap.size + 1 + 1, 0, none⟩)]) rfl trivial (enters_of Try.func32 (by kernel_rfl) rfl)
    (all_stops (n - 1) (by omega) (w.heap.size + 1 + 1) w.heap.size len cap a zs hl hm h8 _ (by simp) (by simp; omega) (seq zs).length (Nat.le_refl _) bB.cell (HR.out.below2 hB0) (fun x hx hp => row_lt HR.out hx (by omega)))
    Kb.t (Kb.b (by simp; omega) (by simp)) (Below.refl _ _) (fun _ => rfl)
    (fun pre W => (((∃ v, Boxed W w.heap.size 29 v ∧ W.ownsRow w.heap.size 25 1 v pre.length (vals pre) ∧ (v = .slice none 0 0 ↔ pre = [])) ∧ Boxed W (w.heap.size + 1) 3 (.int .i64 (behind pre : Int))) ∧ Boxed W (w.heap.size + 1 + 1) 23 (.slice a len cap)) ∧ Below w.heap.size w W)
    (fun _ _ _ => False)
    (OwnFrom.and (OwnFrom.and (OwnFrom.and (Own.from (holdsRow_own w.heap.size w.heap.size 29 25 1 (fun pre => pre.length) (fun pre => vals pre) (fun pre v => v = .slice none 0 0 ↔ pre = [])) _) (Own.from (boxed_own _ _ _) _)) (Own.from (boxed_own _ _ (fun _ => .slice a len cap)) _)) (ownFrom_below (Nat.le_refl _) (by simp; omega)))
    (fun _ _ _ _ _ hs _ _ => hs)
    ⟨⟨⟨⟨_, bO, World.ownsRow_nil _ _ _ _, by simp⟩, bH⟩, bB⟩, hB0⟩
    (fun x => { tmps := #[.slice a len cap, undef, .slice none 0 0, .int .i64 0, .int .i64 0, .pointer (some ⟨w.heap.size, 0, none⟩), .pointer (some ⟨w.heap.size + 1, 0, none⟩), .int .i64 (x.1.1 : Int), .int .u64 (x.1.2 : Int), undef, undef, undef, .slice a len cap, .func (.func 32) #[] #[.pointer (some ⟨w.heap.size + 1 + 1, 0, none⟩)], .int .i64 (x.1.1 : Int), .int .u64 (x.1.2 : Int),
      undef, undef, undef, undef, undef, undef, undef, undef, undef, undef, undef, undef, undef, undef, undef, undef, undef, undef, undef, undef, undef, undef], defers := [] }) ?assign ?body ?done ?stop
  case assign =>
    intro l x W K hK
    simp only [vxs]
    gi_wp2
    exact hK
  case body =>
    rintro l pre x W ⟨⟨⟨⟨v, hv, hrow, hnil⟩, hvH⟩, hvB⟩, hB⟩ hlt
    have hc := hv.cell
    have hx := x.2
    have hel := enc_len_le x.1.2 hx.2
    have hS := fun W' => size_any (x.1.2 : Int) W' (by omega) (by omega)
    rw [Int.toNat_natCast, vsize_enc _ hx.2] at hS
    have HS := hide hS
    have HB := hide (behind_snoc pre x)
    clear hS
    generalize hLx : (enc x.1.2).length = Lx at *
    have HLx := hide hLx
    clear hLx
    have hcH := hvH.cell
    gi_wp2_with (gi_at_builtin; refine wpListIn_append_own _ rfl _ _ 29 rfl w.heap.size 25 i0 (.int .u64 0) 1 8 Try.underlying29 hi hz0 hz1 hz2 rfl (by decide) _ _ _ rfl (hrow.alloc _) ⟨W.heap.size, 0, none⟩ 1 1 [.int .u64 (x.1.2 : Int)] rfl rfl (cell_one_new _ _ _) (by simp [Value.oneCell']) (by unfold maxLen; omega) (by omega) (by have := hB.size; simp; omega) ?_; intro v' w1 hown' hgrow _; obtain ⟨g', cap', rfl⟩ := ownsRow_succ hown'; obtain ⟨hv1, hv2, hr2, hk2, hb2⟩ := hv.appended (by decide) hrow hB.size (Nat.le_refl _) hown' hgrow; have hc1 := hv1.cell; have hf1 := hv1.frozen)
    have hvH1 : Boxed w1 (w.heap.size + 1) 3 (.int .i64 (behind pre : Int)) := (hvH.alloc _).kept hgrow (hvH.not_row (by decide) hrow)
    have hvB1 : Boxed w1 (w.heap.size + 1 + 1) 23 (.slice a len cap) := (hvB.alloc _).kept hgrow (hvB.not_row (by decide) hrow)
    have hvH2 := hvH1.other (B' := w.heap.size) (by omega) (.slice (some ⟨g', 0, none⟩) (pre.length + 1) cap')
    have hvB2 := hvB1.other (B' := w.heap.size) (by omega) (.slice (some ⟨g', 0, none⟩) (pre.length + 1) cap')
    have hcH2 := hvH2.cell
    have hfH2 := hvH2.frozen
    refine ⟨trivial, fun _ => by omega, (CallsIn.inRound l ((callsIn_wide (n := n - 1 - 1 - 1)).2 (HS.out _))).mono ?_⟩
    rintro e w2 ⟨rfl, hw2⟩
    have hw2' := hw2.symm
    subst hw2'
    clear hcH hc1 hf1 hc
    gi_wp2
    have hvB3 := hvB2.other (B' := w.heap.size + 1) (by omega) (.int .i64 ((x.1.1 : Int) + (Lx : Int)))
    refine ⟨(hk2.trans (KeepsOthers.setCell _ _ _)).from _, ⟨hb2.setCell (p := ⟨w.heap.size + 1, 0, none⟩) (by simp) _, (show _ = _ from hvB3).trans (show _ = _ from hvB).symm⟩, ⟨⟨⟨_, hv2.other (by omega) _, ?_, ?_⟩, ?_⟩, hvB3⟩, hB.trans (hb2.setCell (p := ⟨w.heap.size + 1, 0, none⟩) (by simp) _)⟩
    · rw [vals_snoc, List.length_append]
      exact hr2.kept (grownBy_setCell' _ (w.heap.size + 1) _) (.inr (hvH2.not_row (by decide) hr2).symm)
    · simp
    · rw [HB.out]
      have := hvH2.set (.int .i64 ((x.1.1 : Int) + (Lx : Int)))
      rw [Int.natCast_add]
      exact this
  case done =>
    rintro D ys W hD hys ⟨⟨⟨⟨v, hv, hrow, hnil⟩, hvH⟩, hvB⟩, hB⟩ hK
    have hcH := hvH.cell
    have hbe : behind ys = bh := by rw [behind_eq, hys]; exact HH.out
    rw [hbe] at hcH
    have hDlt : D < W.heap.size := (Array.getElem?_eq_some_iff.1 hK).1
    have hRD := read_any a len cap (bh : Int) zs W hl (by unfold maxLen; omega) (HR.out.below2 hB) (fits8_of_mem h8)
    rw [HER.out, HEN.out] at hRD
    have HRD := hide ((callsIn_wide (n := n - 1)).2 hRD)
    have hbI : ((bh : Int) == (len : Int)) = false := beq_eq_false_iff_ne.2 (by omega)
    have HK := hide hK
    generalize rdNum zs bh = nu at *
    clear hys hbe hRD hK hrow hv hnil
    gi_wp2
    refine ⟨trivial, HRD.out.mono ?_⟩
    rintro e w4 ⟨rfl, hb4⟩
    gi_wp2
    have hK4 : w4.heap[D]? = some (.deferred (some [])) := (hb4.block D hDlt).trans HK.out
    refine ⟨by simp, .inl ⟨_, _, rfl, run_takeDeferred hK4, ?_⟩⟩
    have hz := hB.size
    exact ⟨_, results_tmp3 rfl _ _ _, rfl, (hB.trans (hb4.mono hz)).trans (belowK_b (w := w) (Nat.le_refl _) w4 D _ _ (by simp at hD; omega) hK4 rfl rfl)⟩
  case stop =>
    rintro D c pre W _ _ h _
    exact h.elim

end Go.Proofs.Ytlphpcacngimhaa
