/- pair: Read. -/
import Derived.Test.YtepjblmjjegpgaaGreatW26
import Derived.Deep.RegionHeld3
import Derived.BigRegion
import Derived.Handy
namespace Go.Proofs.YtepjblmjjegpgaaGreat
open Go.RowKit
set_option maxRecDepth 100000

/-- An entry's two slices in a block. -/
def E2 (W : World) (g : Nat) (k v : Value) : Prop := W.heap[g]? = some (.cells #[k, v] 38 (0, 0))
theorem E2.cells {W : World} {g : Nat} {k v : Value} (h : E2 W g k v) : W.cell? ⟨g, 0, none⟩ = some k ∧ W.cell? ⟨g, 1, none⟩ = some v := by
  unfold E2 at h
  refine ⟨?_, ?_⟩ <;> (rw [cell_of_row _ _ _ _ _ _ h]; rfl)
theorem E2.fr {W : World} {g : Nat} {k v : Value} (h : E2 W g k v) (j : Nat) : W.frozen? ⟨g, j, none⟩ = false := by unfold E2 at h; simp [World.frozen?, h]
theorem E2.below {W W' : World} {g : Nat} {k v : Value} (h : E2 W g k v) (hb : Below W.heap.size W W') : E2 W' g k v := (hb.block g (lt_of_block h)).trans h
theorem E2.set {W : World} {g : Nat} {k v : Value} (h : E2 W g k v) (k' v' : Value) : E2 ((W.setCell ⟨g, 0, none⟩ k').setCell ⟨g, 1, none⟩ v') g k' v' := by
  have h1 : (W.setCell ⟨g, 0, none⟩ k').heap[g]? = some (.cells #[k', v] 38 (0, 0)) := block_setCell h 0 _
  exact block_setCell h1 1 _

/-- What Read told: an entry of one's own, a place, an error. -/
def RdPost (w : World) (K V : List Int) (pl : Nat) (er : Int) (e : Ending) (w' : World) : Prop :=
  ∃ ka kc va vc M, e = .returned (.tuple #[.agg #[.slice ka K.length kc, .slice va V.length vc], .int .i64 (pl : Int), .int .i64 er]) ∧ OwnB w' w.heap.size 5 (.slice ka K.length kc) K ∧ OwnB w' M 5 (.slice va V.length vc) V ∧ w.heap.size ≤ M ∧ M ≤ w'.heap.size ∧ (∀ i, (Value.slice ka K.length kc).ownBlock = some i → i < M) ∧ Below w.heap.size w w'

theorem rd_end {w W : World} {act : Act} {K V : List Int} {pl : Nat} {er : Int} {ka va : Option Addr} {kc vc M : Nat} (hE : E2 W w.heap.size (.slice ka K.length kc) (.slice va V.length vc)) (hk : OwnB W w.heap.size 5 (.slice ka K.length kc) K) (hv : OwnB W M 5 (.slice va V.length vc) V) (hM : w.heap.size ≤ M) (hM2 : M ≤ W.heap.size) (hlt : ∀ i, (Value.slice ka K.length kc).ownBlock = some i → i < M) (hb : Below w.heap.size w W)
    (h6 : act.tmps[6]?.getD undef = .pointer (some ⟨w.heap.size, 0, none⟩)) (h7 : act.tmps[7]?.getD undef = .int .i64 (pl : Int)) (h8 : act.tmps[8]?.getD undef = .int .i64 er) (hd : act.defers = []) :
    bodyPost Tryz.prog Tryz.f185 (RdPost w K V pl er) Exit.ret act W := by
  obtain ⟨q0, q1⟩ := hE.cells
  obtain ⟨tm, df⟩ := act
  simp only at h6 h7 h8 hd
  subst hd
  exact bodyPost_ret (v := .tuple #[.agg #[.slice ka K.length kc, .slice va V.length vc], .int .i64 (pl : Int), .int .i64 er]) (by simp [results, Tryz.results185, go_sem, h6, h7, h8, q0, q1]) rfl ⟨ka, kc, va, vc, M, rfl, hk, hv, hM, hM2, hlt, hb⟩
theorem rd_none {w W : World} {act : Act} {pl : Nat} {er : Int} (hE : E2 W w.heap.size (.slice none 0 0) (.slice none 0 0)) (hb : Below w.heap.size w W)
    (h6 : act.tmps[6]?.getD undef = .pointer (some ⟨w.heap.size, 0, none⟩)) (h7 : act.tmps[7]?.getD undef = .int .i64 (pl : Int)) (h8 : act.tmps[8]?.getD undef = .int .i64 er) (hd : act.defers = []) :
    bodyPost Tryz.prog Tryz.f185 (RdPost w [] [] pl er) Exit.ret act W :=
  rd_end (ka := none) (kc := 0) (va := none) (vc := 0) (M := w.heap.size) hE (OwnB.nil _ _ _) (OwnB.nil _ _ _) (Nat.le_refl _) hb.size (fun i h => by cases h) hb h6 h7 h8 hd
theorem rd_bad {w W : World} {act : Act} {pl : Nat} {er : Int} (hE : E2 W w.heap.size (.slice none 0 0) (.slice none 0 0)) (hb : Below w.heap.size w W)
    (h6 : act.tmps[6]?.getD undef = .pointer (some ⟨w.heap.size, 0, none⟩)) (h7 : act.tmps[7]?.getD undef = .int .i64 (pl : Int)) (h8 : act.tmps[8]?.getD undef = .int .i64 er) (hd : act.defers = []) :
    bodyPost Tryz.prog Tryz.f185 (RdPost w [] [] pl er) Exit.ret act ((W.setCell ⟨w.heap.size, 0, none⟩ (.slice none 0 0)).setCell ⟨w.heap.size, 1, none⟩ (.slice none 0 0)) :=
  rd_none (hE.set _ _) ((hb.setCell (p := ⟨w.heap.size, 0, none⟩) (Nat.le_refl _) _).setCell (p := ⟨w.heap.size, 1, none⟩) (Nat.le_refl _) _) h6 h7 h8 hd

set_option maxHeartbeats 800000 in
theorem read_out (a b : Option Addr) (la ca lb cb : Nat) (p : Int) (w : World) (h : p < 0 ∨ (lb : Int) < p) :
    Calls Tryz.prog 185 #[.slice a la ca, .slice b lb cb, .int .i64 p] w (RdPost w [] [] 0 1) := by
  have hx : Hid (E2 (w.alloc (.cells #[.slice none 0 0, .slice none 0 0] 38)) w.heap.size (.slice none 0 0) (.slice none 0 0)) := heap_alloc_new w _
  have hb : Hid (Below w.heap.size w (w.alloc (.cells #[.slice none 0 0, .slice none 0 0] 38))) := (Below.refl _ _).alloc (Nat.le_refl _) _
  by_cases h1 : p < 0
  · go_enter Tryz.func185, Tryz.ntmps185
    go_wp2_with fail
    exact rd_none hx.out hb.out rfl rfl rfl rfl
  · have h2 : (lb : Int) < p := by omega
    have h3 : 0 ≤ p := by omega
    clear h h1
    go_enter Tryz.func185, Tryz.ntmps185
    go_wp2_with fail
    exact rd_none hx.out hb.out rfl rfl rfl rfl

set_option maxRecDepth 100000 in
set_option maxHeartbeats 6400000 in
theorem read_in (a b : Option Addr) (la ca lb cb p : Nat) (xs zs : List Int) (w : World) (h1 : xs.length = la) (h2 : zs.length = lb) (m1 : la ≤ 140737488351232) (m2 : lb ≤ 140737488400000) (hca : la ≤ ca) (hcb : lb ≤ cb) (hp : p ≤ lb) (r1 : Row w .u8 a xs) (r2 : Row w .u8 b zs) (x8 : B8 xs) (z8 : B8 zs) (nb : b = none → lb = 0 ∧ cb = 0) :
    Calls Tryz.prog 185 #[.slice a la ca, .slice b lb cb, .int .i64 (p : Int)] w (RdPost w (rKy xs zs p) (rVl xs zs p) (rPl xs zs p) (rEr xs zs p)) := by
  have HH := hide (fun (W : World) (hb : Below w.heap.size w W) => readHead_any b lb cb p zs W h2 (by omega) hp (r2.below2 hb) z8)
  have R1 := hide (fun (W : World) (hb : Below w.heap.size w W) => r1.below2 hb)
  have R2 := hide (fun (W : World) (hb : Below w.heap.size w W) => r2.below2 hb)
  have X8 := hide x8
  have Z8 := hide z8
  have NB := hide nb
  have hpl := hP_le zs p z8 (by omega)
  have n1 := (rd_at zs p z8 (by omega)).2.2.2
  have n2 := (rd_at zs (nx zs p) z8 n1.1).2.2.2
  have n3 := (rd_at zs (nx zs (nx zs p)) z8 n2.1).2.2.2
  have HER : Hid (rEr xs zs p = if hE zs p ≠ 0 then hE zs p else if fltE (nm zs p) (nm zs (nx zs p)) (nm zs (nx zs (nx zs p))) la ≠ 0 then fltE (nm zs p) (nm zs (nx zs p)) (nm zs (nx zs (nx zs p))) la
    else if lb < hP zs p + nm zs (nx zs p) + nm zs (nx zs (nx zs p)) then 53 else kfE xs (keyOf xs zs p) (nm zs p)) := by show _ = _; unfold rEr; rw [h1, h2]
  have HPL : Hid (rPl xs zs p = if hE zs p ≠ 0 then hP zs p else if fltE (nm zs p) (nm zs (nx zs p)) (nm zs (nx zs (nx zs p))) la ≠ 0 then p
    else if lb < hP zs p + nm zs (nx zs p) + nm zs (nx zs (nx zs p)) then lb else if kfE xs (keyOf xs zs p) (nm zs p) ≠ 0 then p else hP zs p + nm zs (nx zs p) + nm zs (nx zs (nx zs p))) := by show _ = _; unfold rPl; rw [h1, h2]
  have HKY : Hid (rKy xs zs p = if rEr xs zs p = 0 then keyOf xs zs p else []) := rfl
  have HVL : Hid (rVl xs zs p = if rEr xs zs p = 0 then (zs.drop (hP zs p + nm zs (nx zs p))).take (nm zs (nx zs (nx zs p))) else []) := rfl
  have HKO : Hid (keyOf xs zs p = xs.take (nm zs p) ++ (zs.drop (hP zs p)).take (nm zs (nx zs p))) := rfl
  have HOK := hide (fun h => @fltE_ok (nm zs p) (nm zs (nx zs p)) (nm zs (nx zs (nx zs p))) la h)
  have HFL := hide (fun (W : World) => fault_pair (nm zs p) (nm zs (nx zs p)) (nm zs (nx zs (nx zs p))) la W n1.2.2 n2.2.2 n3.2.2 (by omega))
  rw [h2] at hpl
  clear r1 r2 x8 z8 nb n1 n2 n3
  generalize rEr xs zs p = ER at *
  generalize rPl xs zs p = PL at *
  generalize rKy xs zs p = KY at *
  generalize rVl xs zs p = VL at *
  generalize keyOf xs zs p = ko at *
  generalize nm zs (nx zs (nx zs p)) = z at *
  generalize nm zs (nx zs p) = y at *
  generalize nm zs p = x at *
  generalize hE zs p = eH at *
  generalize hP zs p = pH at *
  have hpp : ¬ (p : Int) < 0 := by omega
  have hpb : ¬ (lb : Int) < (p : Int) := by omega
  have X0 : Hid (E2 (w.alloc (.cells #[.slice none 0 0, .slice none 0 0] 38)) w.heap.size (.slice none 0 0) (.slice none 0 0)) := heap_alloc_new w _
  have t0 : Below w.heap.size w (w.alloc (.cells #[.slice none 0 0, .slice none 0 0] 38)) := (Below.refl _ _).alloc (Nat.le_refl _) _
  go_enter Tryz.func185, Tryz.ntmps185
  go_wp2_with fail
  refine (HH.out _ t0).mono ?_
  rintro e w1 ⟨x', y', z', rfl, hxyz, b1⟩
  have t1 := t0.trans (b1.mono t0.size)
  have X1 := hide (X0.out.below b1)
  generalize w.alloc (.cells #[.slice none 0 0, .slice none 0 0] 38) = w0 at *
  clear t0 b1 X0 w0
  have X2 : Hid (E2 (w1.alloc (.cells #[.int .u64 x', .int .u64 y', .int .u64 z'] 175)) w.heap.size (.slice none 0 0) (.slice none 0 0)) := X1.out.below ((Below.refl _ _).alloc (Nat.le_refl _) _)
  have Q2 : Hid (H3 (w1.alloc (.cells #[.int .u64 x', .int .u64 y', .int .u64 z'] 175)) w1.heap.size x' y' z') := heap_alloc_new w1 _
  have t2 : Below w.heap.size w (w1.alloc (.cells #[.int .u64 x', .int .u64 y', .int .u64 z'] 175)) := t1.alloc t1.size _
  have hs1 := t1.size
  have hs2 : (w1.alloc (.cells #[.int .u64 x', .int .u64 y', .int .u64 z'] 175)).heap.size = w1.heap.size + 1 := by simp
  by_cases qE : eH = 0
  · obtain ⟨rfl, rfl, rfl⟩ := hxyz qE
    subst qE
    simp only [ne_eq, not_true_eq_false, if_false] at HER HPL
    clear hxyz HH
    go_wp2_with fail
    by_cases qF : fltE x y z la = 0
    · have F := hide (HFL.out (w1.alloc (.cells #[.int .u64 (x : Int), .int .u64 (y : Int), .int .u64 (z : Int)] 175)))
      rw [qF] at F
      obtain ⟨o1, o2, o3, o4, o5⟩ := HOK.out qF
      rw [qF] at HER HPL
      simp only [not_true_eq_false, if_false] at HER HPL
      clear HOK HFL qF
      refine F.out.mono ?_
      rintro e w3 ⟨rfl, b3⟩
      have t3 := t2.trans (b3.mono t2.size)
      have X3 := hide (X2.out.below b3)
      have Q3 := hide (Q2.out.below b3)
      have hs3 := b3.size
      rw [hs2] at hs3
      clear t2 b3 X2 Q2 X1 F hs2
      obtain ⟨c0, c1, c2⟩ := Q3.out.cells
      obtain ⟨u0, u1⟩ := X3.out.cells
      have uf := X3.out.fr
      by_cases qS : lb < pH + y + z
      · have qi : (lb : Int) < (pH : Int) + (y : Int) + (z : Int) := by omega
        rw [if_pos qS] at HER HPL
        rw [HER.out, if_neg (by decide)] at HKY HVL
        go_wp2_with fail
        rw [HER.out, HPL.out, HKY.out, HVL.out]
        exact rd_bad X3.out t3 rfl rfl rfl rfl
      · have qi : ¬ (lb : Int) < (pH : Int) + (y : Int) + (z : Int) := by omega
        rw [if_neg qS] at HER HPL
        have hup := run_upto a la ca x (by omega) .u64
        have hpart := run_part b lb cb pH (pH + y) (by omega) (by omega) .i64 .i64
        have hpart2 := run_part b lb cb (pH + y) (pH + y + z) (by omega) (by omega) .i64 .i64
        rw [show pH + y - pH = y by omega, show ((pH + y : Nat) : Int) = (pH : Int) + (y : Int) by omega] at hpart
        rw [show pH + y + z - (pH + y) = z by omega, show ((pH + y + z : Nat) : Int) = (pH : Int) + (y : Int) + (z : Int) by omega, show ((pH + y : Nat) : Int) = (pH : Int) + (y : Int) by omega] at hpart2
        have hk1 : (xs.take x).length = x := by rw [List.length_take]; omega
        have hk2 : ((zs.drop pH).take y).length = y := by rw [List.length_take, List.length_drop]; omega
        have hv2 : ((zs.drop (pH + y)).take z).length = z := by rw [List.length_take, List.length_drop]; omega
        have hkl : ko.length = x + y := by rw [HKO.out, List.length_append, hk1, hk2]
        have ko8 : B8 ko := by
          rw [HKO.out]
          intro c hc
          rcases List.mem_append.1 hc with h | h
          · exact X8.out c (List.mem_of_mem_take h)
          · exact Z8.out c (List.mem_of_mem_drop (List.mem_of_mem_take h))
        have JN : Hid (∀ W, Below w.heap.size w W → Calls Tryz.prog 188 #[.slice a x ca, .slice (cutAt b pH cb) y (cb - pH)] W fun e w' => ∃ v, e = .returned v ∧ OwnB w' W.heap.size 5 v ko ∧ Below W.heap.size W w') := fun W hW => by
          rw [HKO.out]
          exact join_pair a (cutAt b pH cb) x ca y (cb - pH) (xs.take x) ((zs.drop pH).take y) W hk1 hk2 (by omega) (by omega) ((R1.out W hW).take x) (cut_part (by omega) (R2.out W hW))
        have KF : Hid (∀ W ka kc, Below w.heap.size w W → Row W .u8 ka ko → Calls Tryz.prog 189 #[.slice a la ca, .slice ka ko.length kc, .int .i64 (x : Int)] W fun e w' => e = .returned (.int .i64 (kfE xs ko x)) ∧ ∃ m, w' = W.drewN m) := fun W ka kc hW hr => keyFault_any a ka la ca ko.length kc x xs ko W (by omega) (by omega) h1 rfl (R1.out W hW) hr X8.out ko8
        have CL : Hid (∀ W, Below w.heap.size w W → Calls Tryz.prog 63 #[.slice (cutAt b (pH + y) cb) z (cb - (pH + y))] W fun e w' => ∃ v, e = .returned v ∧ OwnB w' W.heap.size 5 v ((zs.drop (pH + y)).take z) ∧ Below W.heap.size W w') := fun W hW => bclone_any _ z _ _ W hv2 (by omega) (fun h => by have := cut_none (pH + y) NB.out h; omega) (cut_part (by omega) (R2.out W hW))
        have HV2 := hide hv2
        have HKL := hide hkl
        clear hk1 hk2 hv2 hkl ko8 HKO
        generalize cutAt b pH cb = bk at *
        generalize cutAt b (pH + y) cb = bv at *
        generalize (zs.drop (pH + y)).take z = vo at *
        have T3 := hide t3
        clear t3
        have hlt3 : w1.heap.size < w3.heap.size := by omega
        go_wp2_with fail
        go_region_held3 (fun W => W.cell? ⟨w1.heap.size, 0, none⟩ = some (.int .u64 (x : Int))) (go_keep) (first
          | (go_at_call 188; refine (JN.out _ T3.out.drew).mono ?_; rintro e w4 ⟨v4, rfl, o4, b4⟩; obtain ⟨k4, kc4, rfl, _, _, l4⟩ := o4.sliceN rfl; have d0 := (b4.cell (p := ⟨w1.heap.size, 0, none⟩) hlt3).trans c0; have O4 := hide o4; have L4 := hide l4; have B4 := hide b4; clear o4 b4 l4)
          | fail)
        have b4 : Below w3.heap.size w3 w4 := ⟨B4.out.os, B4.out.tape, B4.out.output, B4.out.size, B4.out.block⟩
        have t4 := T3.out.trans (b4.mono T3.out.size)
        have X4 := hide (X3.out.below b4)
        have hs4 := b4.size
        have Q4 := hide (Q3.out.below b4)
        clear B4 T3 X3 Q3 c0 c1 c2 u0 u1 uf b4
        have K4 := hide (KF.out w4 k4 kc4 t4 O4.out.row)
        by_cases qK : kfE xs ko x = 0
        · rw [qK] at K4 HPL HER
          simp only [not_true_eq_false, if_false] at HPL
          rw [HER.out, if_pos rfl] at HKY HVL
          go_wp2_with fail
          refine K4.out.mono ?_
          rintro e w5 ⟨rfl, m5, hw5⟩
          have b5 : Below w4.heap.size w4 w5 := by rw [hw5]; exact drewB (Below.refl _ _) m5
          have t5 := t4.trans (b5.mono t4.size)
          have X5 := hide (X4.out.below b5)
          have O5 := hide (O4.out.below b5)
          have hs5 : w5.heap.size = w4.heap.size := by rw [hw5]; rfl
          clear hw5 t4 X4 O4 Q4 d0 K4
          go_wp2_with fail
          refine (CL.out w5 t5).mono ?_
          rintro e w6 ⟨v6, rfl, o6, b6⟩
          obtain ⟨k6, kc6, rfl, _, _, l6⟩ := o6.sliceN rfl
          have t6 := t5.trans (b6.mono t5.size)
          have X6 := X5.out.below b6
          have O6 := hide (O5.out.below b6)
          have P6 := hide o6
          have hs6 := b6.size
          obtain ⟨u0, u1⟩ := X6.cells
          have uf := X6.fr
          have XX := hide X6
          clear X6 b6 b5 t5 o6 O5 X5
          go_wp2_with fail
          have hu : Upd (fun i => i = w.heap.size) w6 ((w6.setCell ⟨w.heap.size, 0, none⟩ (.slice k4 ko.length kc4)).setCell ⟨w.heap.size, 1, none⟩ (.slice k6 vo.length kc6)) := ((Upd.refl (fun i => i = w.heap.size) w6).setCell ⟨w.heap.size, 0, none⟩ (.slice k4 ko.length kc4) (fun _ => rfl)).setCell ⟨w.heap.size, 1, none⟩ (.slice k6 vo.length kc6) (fun _ => rfl)
          rw [HER.out, HPL.out, HKY.out, HVL.out]
          refine rd_end (M := w5.heap.size) (XX.out.set _ _) ((O6.out.upd hu (fun k hk e => ?_)).mono ?_) (P6.out.upd hu (fun k hk e => ?_)) ?_ ?_ (fun i hi => ?_) ((t6.setCell (p := ⟨w.heap.size, 0, none⟩) (Nat.le_refl _) _).setCell (p := ⟨w.heap.size, 1, none⟩) (Nat.le_refl _) _) rfl ?_ rfl rfl
          · have := (O6.out.owns.lt k hk).1
            simp only [World.drew] at this
            omega
          · simp only [World.drew]; omega
          · have := (P6.out.owns.lt k hk).1
            omega
          · omega
          · simp [World.setCell]; omega
          · have := (L4.out i hi).2
            omega
          · show Value.int .i64 ((pH : Int) + (y : Int) + (z : Int)) = Value.int .i64 ((pH + y + z : Nat) : Int)
            congr 1
        · have qb : (kfE xs ko x != 0) = true := by rw [bne_iff_ne]; exact qK
          rw [if_pos qK] at HPL
          rw [HER.out, if_neg qK] at HKY HVL
          go_wp2_with fail
          refine K4.out.mono ?_
          rintro e w5 ⟨rfl, m5, hw5⟩
          have b5 : Below w4.heap.size w4 w5 := by rw [hw5]; exact drewB (Below.refl _ _) m5
          have t5 := t4.trans (b5.mono t4.size)
          have X5 := X4.out.below b5
          obtain ⟨u0, u1⟩ := X5.cells
          have uf := X5.fr
          have XX := hide X5
          clear hw5 t4 X4 O4 Q4 d0 K4 X5 b5
          generalize kfE xs ko x = kf at *
          go_wp2_with fail
          rw [HER.out, HPL.out, HKY.out, HVL.out]
          exact rd_bad XX.out t5 rfl rfl rfl rfl
    · have F := hide (HFL.out (w1.alloc (.cells #[.int .u64 (x : Int), .int .u64 (y : Int), .int .u64 (z : Int)] 175)))
      have qb : (fltE x y z la != 0) = true := by rw [bne_iff_ne]; exact qF
      rw [if_pos qF] at HER HPL
      rw [HER.out, if_neg qF] at HKY HVL
      clear HOK HFL
      refine F.out.mono ?_
      rintro e w3 ⟨rfl, b3⟩
      have t3 := t2.trans (b3.mono t2.size)
      have X3 := X2.out.below b3
      obtain ⟨u0, u1⟩ := X3.cells
      have uf := X3.fr
      have XX := hide X3
      clear X3 t2 b3 X2 Q2 X1 F hs2
      generalize fltE x y z la = fl at *
      go_wp2_with fail
      rw [HER.out, HPL.out, HKY.out, HVL.out]
      exact rd_bad XX.out t3 rfl rfl rfl rfl
  · have qb : (eH != 0) = true := by rw [bne_iff_ne]; exact qE
    rw [if_pos qE] at HER HPL
    rw [HER.out, if_neg qE] at HKY HVL
    clear hxyz
    obtain ⟨u0, u1⟩ := X2.out.cells
    have uf := X2.out.fr
    go_wp2_with fail
    rw [HER.out, HPL.out, HKY.out, HVL.out]
    exact rd_bad X2.out t2 rfl rfl rfl rfl

end Go.Proofs.YtepjblmjjegpgaaGreat
