/- The document's source. -/
import Derived.Test.YtcffekhlnidjnaaPLaw
import Derived.BigRegion
namespace Go.Proofs.Ytcffekhlnidjnaa
open Go.RowKit

theorem most_swap (gs : List Int) (c size L : Nat) : min (mostN gs c size) L = min size (mostN gs c L) := by
  unfold mostN
  split <;> omega

set_option maxHeartbeats 800000 in
theorem most_any (am : Option Addr) (lm cm : Nat) (gs : List Int) (c n : Nat) (w : World) (hl : gs.length = lm) (hn : n ≤ maxLen) (hc0 : 1 ≤ c) (hc : c ≤ 9223372036854775807) (hr : Row w .i64 am gs) :
    Calls Try.prog 33 #[.slice am lm cm, .int .i64 (c : Int), .int .i64 (n : Int)] w fun e w' => e = .returned (.int .i64 (mostN gs c n : Nat)) ∧ w' = w := by
  unfold maxLen at hn
  by_cases hA : lm < c
  · have hz : mostN gs c n = n := by unfold mostN; rw [if_neg (by omega)]
    rw [hz]
    have i1 : ¬ (c : Int) ≤ (lm : Int) := by omega
    go_enter Try.func33, Try.ntmps33
    go_wp2
    go_ret
    exact ⟨rfl, rfl⟩
  · obtain ⟨j, rfl⟩ : ∃ j, c = j + 1 := ⟨c - 1, by omega⟩
    have hz : mostN gs (j + 1) n = min n (gs.getD j 0).toNat := by unfold mostN; rw [if_pos (by omega)]; rfl
    rw [hz]
    obtain ⟨b, off, rfl, hcell⟩ := hr j (by omega)
    clear hr hz
    generalize gs.getD j 0 = x at *
    have i1 : ((j + 1 : Nat) : Int) ≤ (lm : Int) := by omega
    have i2 : ((j + 1 : Nat) : Int) - 1 = (j : Int) := by omega
    have i3 : (j : Int) < (lm : Int) := by omega
    have i4 : (0 : Int) ≤ (j : Int) := by omega
    generalize ((j + 1 : Nat) : Int) = cc at *
    go_enter Try.func33, Try.ntmps33
    go_wp2
    all_goals go_ret
    all_goals exact ⟨ret_int (by omega), rfl⟩

theorem rsrc_cells {W : World} {g : Nat} {x y : Value} {fail : Int} {eager : Bool} {c k : Nat} (h : RSrc0 W g x y fail eager c k) : W.cell? ⟨g, 0, none⟩ = some x ∧ W.cell? ⟨g, 1, none⟩ = some y ∧ W.cell? ⟨g, 2, none⟩ = some (.int .i64 fail) ∧ W.cell? ⟨g, 3, none⟩ = some (.bool eager) ∧ W.cell? ⟨g, 4, none⟩ = some (.int .i64 (c : Int)) ∧ W.cell? ⟨g, 5, none⟩ = some (.int .i64 (k : Int)) ∧ W.cell? ⟨g, 6, none⟩ = some (.bool false) ∧ ∀ j, W.frozen? ⟨g, j, none⟩ = false := by
  refine ⟨?_, ?_, ?_, ?_, ?_, ?_, ?_, fun j => frozen_blk h j⟩ <;> (rw [cell_of_row _ _ _ _ _ _ h]; rfl)
theorem RSrc0.upd {S : Nat → Prop} {W W' : World} {g : Nat} {x y : Value} {fail : Int} {eager : Bool} {c k : Nat} (h : RSrc0 W g x y fail eager c k) (hu : Upd S W W') (hs : ¬ S g) : RSrc0 W' g x y fail eager c k := hu.heap h hs
theorem RSrc0.called {W : World} {g : Nat} {x y : Value} {fail : Int} {eager : Bool} {c k : Nat} (h : RSrc0 W g x y fail eager c k) : RSrc0 (W.setCell ⟨g, 4, none⟩ (.int .i64 ((c : Int) + 1))) g x y fail eager (c + 1) k := block_setCell h 4 _
theorem RSrc0.given {W : World} {g : Nat} {x y : Value} {fail : Int} {eager : Bool} {c k : Nat} (h : RSrc0 W g x y fail eager c k) (n : Nat) : RSrc0 (W.setCell ⟨g, 5, none⟩ (.int .i64 ((k : Int) + (n : Int)))) g x y fail eager c (k + n) := block_setCell h 5 _

theorem fill_next (X : List Int) (cur : List Value) (i : Nat) (h1 : i < X.length) (h2 : i < cur.length) : ((X.take i).map (Value.int .u8) ++ cur.drop i).toArray.setIfInBounds i (.int .u8 (X.getD i 0)) = ((X.take (i + 1)).map (Value.int .u8) ++ cur.drop (i + 1)).toArray := by
  have hl : ((X.take i).map (Value.int .u8)).length = i := by rw [List.length_map, List.length_take]; omega
  rw [List.setIfInBounds_toArray, List.set_append_right _ _ (by omega), hl, Nat.sub_self, List.drop_eq_getElem_cons h2, List.set_cons_zero, List.take_add_one, List.map_append]
  simp [h1]
theorem fill_cell {W : World} {r : Nat} {X : List Int} {cur : List Value} {i : Nat} (h : W.heap[r]? = some (.cells ((X.take i).map (Value.int .u8) ++ cur.drop i).toArray 5 (0, 0))) (h0 : i ≤ X.length) (h2 : i < cur.length) (h8 : ∀ u ∈ cur, IsByte u) : ∃ x, W.cell? ⟨r, i, none⟩ = some (.int .u8 x) := by
  have hl : ((X.take i).map (Value.int .u8)).length = i := by rw [List.length_map, List.length_take]; omega
  obtain ⟨x, hx⟩ := h8 cur[i] (List.getElem_mem _)
  refine ⟨x, ?_⟩
  rw [cell_of_row _ _ _ _ _ _ h, List.getElem?_toArray, List.getElem?_append_right (by omega), hl, Nat.sub_self, List.getElem?_drop, Nat.add_zero, List.getElem?_eq_getElem h2, hx]

def RReadPost (zs : List Int) (fail : Int) (eager : Bool) (x y : Value) (g c k n : Nat) (er : Int) (p : Option Addr) (size r : Nat) (cur : List Value) (W : World) (e : Ending) (W' : World) : Prop :=
  e = .returned (.tuple #[.int .i64 (n : Int), .int .i64 er]) ∧ RSrc0 W' g x y fail eager (c + 1) (k + n) ∧ Room W' p size r (((zs.drop k).take n).map (Value.int .u8) ++ cur.drop n) ∧ Upd (fun i => i = g ∨ i = r) W W'

set_option maxRecDepth 100000 in
set_option maxHeartbeats 3200000 in
theorem rread_any (ab ag : Option Addr) (lb cb lg cg : Nat) (zs gs : List Int) (fail : Int) (eager : Bool) (g c k : Nat) (p : Option Addr) (size pc r : Nat) (cur : List Value) (W : World) (n : Nat) (er : Int)
    (hn : n = srcN zs gs fail (c + 1) k size) (her : er = srcErr zs fail eager (c + 1) k n) (hlb : zs.length = lb) (hlg : gs.length = lg) (hm : lb ≤ 140737488355328) (hs : size ≤ 140737488355328) (hk : k ≤ lb) (hc : c < 4611686018427387904)
    (h : RSrc0 W g (.slice ab lb cb) (.slice ag lg cg) fail eager c k) (rb : Row W .u8 ab zs) (rg : Row W .i64 ag gs) (hroom : Room W p size r cur) (hgr : g ≠ r) (hab : ∀ x, ab = some x → 0 < lb → x.block ≠ g ∧ x.block ≠ r) (hag : ∀ x, ag = some x → 0 < lg → x.block ≠ g) (h8 : ∀ u ∈ cur, IsByte u) :
    Calls Try.prog 16 #[.pointer (some ⟨g, 0, none⟩), .slice p size pc] W fun e W' => RReadPost zs fail eager (.slice ab lb cb) (.slice ag lg cg) g c k n er p size r cur W e W' := by
  have h4 := (rsrc_cells h).2.2.2.2.1
  have f4 := (rsrc_cells h).2.2.2.2.2.2.2 4
  have H1 := hide h.called
  have hu1 : Upd (fun i => i = g) W (W.setCell ⟨g, 4, none⟩ (.int .i64 ((c : Int) + 1))) := (Upd.refl _ _).set1 4 _
  have HRB := hide (rb.upd hu1 (fun x hx h0 => (hab x hx (by omega)).1))
  have HRG := hide (rg.upd hu1 (fun x hx h0 => hag x hx (by omega)))
  have HRM := hide (hroom.upd hu1 (fun e => hgr e.symm))
  have HU1 := hide hu1
  have HN := hide hn
  have HER := hide her
  have HAB := hide hab
  have H8 := hide h8
  clear h rb rg hroom hu1 hn her hab hag h8
  go_enter Try.func16, Try.ntmps16
  go_upto_region 2 with fail
  generalize W.setCell ⟨g, 4, none⟩ (.int .i64 ((c : Int) + 1)) = w1 at *
  have hcl := rsrc_cells H1.out
  have c0 := hcl.1
  have c1 := hcl.2.1
  have c2 := hcl.2.2.1
  have c3 := hcl.2.2.2.1
  have c4 := hcl.2.2.2.2.1
  have c5 := hcl.2.2.2.2.2.1
  have c6 := hcl.2.2.2.2.2.2.1
  have f5 := hcl.2.2.2.2.2.2.2 5
  clear hcl h4 f4
  have e1 : ((c + 1 : Nat) : Int) = (c : Int) + 1 := by omega
  rw [e1] at c4
  by_cases hf : failsAt fail (c + 1) = true
  · have hn0 : n = 0 := by rw [HN.out]; unfold srcN; rw [if_pos hf]
    have he0 : er = 32 := by rw [HER.out]; unfold srcErr; rw [if_pos hf]
    subst hn0
    subst he0
    have hf1 : (1 : Int) ≤ fail ∧ fail ≤ (c : Int) + 1 := by
      have := of_decide_eq_true hf
      omega
    have i1 := hf1.1
    have i2 := hf1.2
    have HFIN : Hid (∀ m, Still w1 m → RReadPost zs fail eager (.slice ab lb cb) (.slice ag lg cg) g c k 0 32 p size r cur W (.returned (.tuple #[.int .i64 0, .int .i64 32])) m) := hide fun m hm => ⟨rfl, H1.out.upd (hm.upd Noth) (fun e => e), by simpa using HRM.out.upd (hm.upd Noth) (fun e => e), (HU1.out.mono (fun _ _ e => .inl e)).trans (hm.upd _)⟩
    clear hf hf1
    go_wp2_with fail
    go_quiet (fail)
    go_wp2_with fail
    go_ret2
    first | exact HFIN.out _ ((Still.refl w1).drewN _) | exact HFIN.out _ (((Still.refl w1).drewN _).drewN _)
  · have hf' : ¬ ((1 : Int) ≤ fail ∧ fail ≤ (c : Int) + 1) := fun e => hf (by unfold failsAt; rw [e1]; exact decide_eq_true e)
    have hgo : (∀ (K : Prop), (fail < 1 → K) → ((c : Int) + 1 < fail → ¬ fail < 1 → K) → K) := fun K h1 h2 => by
      by_cases h : fail < 1
      · exact h1 h
      · exact h2 (by omega) h
    by_cases hkl : k = lb
    · have hn0 : n = 0 := by rw [HN.out]; unfold srcN; rw [if_neg hf, if_pos (by omega)]
      have he0 : er = 31 := by rw [HER.out]; unfold srcErr; rw [if_neg hf, if_pos (by omega)]
      subst hn0
      subst he0
      have HFIN : Hid (∀ m, Still w1 m → RReadPost zs fail eager (.slice ab lb cb) (.slice ag lg cg) g c k 0 31 p size r cur W (.returned (.tuple #[.int .i64 0, .int .i64 31])) m) := hide fun m hm => ⟨rfl, H1.out.upd (hm.upd Noth) (fun e => e), by simpa using HRM.out.upd (hm.upd Noth) (fun e => e), (HU1.out.mono (fun _ _ e => .inl e)).trans (hm.upd _)⟩
      subst hkl
      refine hgo _ (fun i1 => ?_) (fun i1 i2 => ?_)
      · have i2 : ((1 : Int) ≤ fail) = False := eq_false (by omega)
        clear hf hf' hgo i1
        go_wp2_with fail
        go_quiet (fail)
        go_wp2_with fail
        go_quiet (fail)
        go_wp2_with fail
        go_ret2
        first | exact HFIN.out _ ((Still.refl w1).drewN _) | exact HFIN.out _ (((Still.refl w1).drewN _).drewN _)
      · have i3 : (1 : Int) ≤ fail := by omega
        have i4 : ¬ fail ≤ (c : Int) + 1 := by omega
        clear hf hf' hgo
        go_wp2_with fail
        go_quiet (fail)
        go_wp2_with fail
        go_quiet (fail)
        go_wp2_with fail
        go_ret2
        first | exact HFIN.out _ ((Still.refl w1).drewN _) | exact HFIN.out _ (((Still.refl w1).drewN _).drewN _)
    · have hnm : n = min size (mostN gs (c + 1) (lb - k)) := by rw [HN.out]; unfold srcN; rw [if_neg hf, if_neg (by omega), hlb]
      have hle := srcN_le zs gs fail (c + 1) k size
      rw [← HN.out] at hle
      have hsw : n = min (mostN gs (c + 1) size) (lb - k) := by rw [hnm, most_swap]
      have hee : er = if eager = true ∧ k + n = lb then 31 else 0 := by rw [HER.out]; unfold srcErr; rw [if_neg hf, if_neg (by omega), hlb]
      have hXl : ((zs.drop k).take n).length = n := by rw [List.length_take, List.length_drop]; omega
      have HMO : Hid (∀ q a, Calls Try.prog 33 #[.slice ag lg cg, .int .i64 ((c : Int) + 1), .int .i64 (size : Int)] (w1.drewN (q + a)) fun e w'' => e = .returned (.int .i64 (mostN gs (c + 1) size : Nat)) ∧ ∃ n, w'' = w1.drewN (q + n)) := hide fun q a => by
        have h := most_any ag lg cg gs (c + 1) size (w1.drewN (q + a)) hlg (by unfold maxLen; omega) (by omega) (by omega) (HRG.out.upd (((Still.refl w1).drewN (q + a)).upd Noth) (fun _ _ _ e => e))
        rw [e1] at h
        exact h.mono fun e w' ⟨h1, h2⟩ => ⟨h1, a, h2⟩
      have hmb := mostN_le gs (c + 1) size
      have HSW := hide hsw
      have HEE := hide hee
      have HXL := hide hXl
      have HNM := hide hnm
      generalize mostN gs (c + 1) size = B at *
      have hkI : ¬ (k : Int) = (lb : Int) := by omega
      have hkB : ((k : Int) == (lb : Int)) = false := by simp; omega
      have hdI : (lb : Int) - (k : Int) = ((lb - k : Nat) : Int) := by omega
      clear hsw hee hXl hnm hf hkl
      generalize hD : lb - k = D at *
      replace hD := hide hD
      have hif : (if D < B then (D : Int) else (B : Int)) = (n : Int) := by
        have := HSW.out
        have := hD.out
        split <;> omega
      replace hif := hide hif
      have hX8 : ∀ i, i < n → ∃ b o, ab = some ⟨b, o, none⟩ ∧ b ≠ g ∧ b ≠ r ∧ w1.cell? ⟨b, o + (k + i), none⟩ = some (.int .u8 (((zs.drop k).take n).getD i 0)) := fun i hi => by
        obtain ⟨b, o, ha, hc⟩ := HRB.out (k + i) (by omega)
        have h := HAB.out _ ha (by omega)
        refine ⟨b, o, ha, h.1, h.2, ?_⟩
        rw [hc]
        simp only [List.getD_eq_getElem?_getD]
        rw [List.getElem?_take, if_pos hi, List.getElem?_drop]
      replace hX8 := hide hX8
      have hpr : 0 < n → p = some ⟨r, 0, none⟩ := fun h => HRM.out.1 (by omega)
      have hcl : n ≤ cur.length := by have := HRM.out.2.2; omega
      have HRM2 := hide HRM.out.2.1
      have HFIN : Hid (∀ wr w4, Upd (fun j => j = r) w1 wr → wr.heap[r]? = some (.cells (((((zs.drop k).take n).take n)).map (Value.int .u8) ++ cur.drop n).toArray 5 (0, 0)) → Still (wr.setCell ⟨g, 5, none⟩ (.int .i64 ((k : Int) + (n : Int)))) w4 → RReadPost zs fail eager (.slice ab lb cb) (.slice ag lg cg) g c k n er p size r cur W (.returned (.tuple #[.int .i64 (n : Int), .int .i64 er])) w4) := hide fun wr w4 hu hr hst => by
        have hu5 : Upd (fun j => j = g) wr w4 := ((Upd.refl _ _).set1 5 _).trans (hst.upd _)
        refine ⟨rfl, ?_, ⟨HRM.out.1, ?_, ?_⟩, ?_⟩
        · have := (H1.out.upd hu (fun e => hgr e)).given n
          exact this.upd (hst.upd Noth) (fun e => e)
        · rw [List.take_take, Nat.min_self] at hr
          exact hu5.heap hr (fun e => hgr e.symm)
        · have := HRM.out.2.2
          have := HXL.out
          simp only [List.length_append, List.length_map, List.length_drop]
          omega
        · exact ((HU1.out.mono (fun _ _ e => .inl e)).trans (hu.mono (fun _ _ e => .inr e))).trans (hu5.mono (fun _ _ e => .inl e))
      obtain ⟨X, hX⟩ : ∃ X, X = (zs.drop k).take n := ⟨_, rfl⟩
      rw [← hX] at hX8 HXL HFIN
      replace hX := hide hX
      refine hgo _ (fun i1 => ?_) (fun i1 i2 => ?_)
      · have i2 : ((1 : Int) ≤ fail) = False := eq_false (by omega)
        clear hf' hgo i1
        go_wp2_with fail
        go_quiet (fail)
        go_wp2_with fail
        go_quiet (fail)
        go_wp2_with fail
        go_quiet ((go_at_call 33; with_reducible exact HMO.out _ _))
        rw [hif.out]
        go_wp2_with fail
        go_loopw [7] (fun q wr => ∃ i : Nat, i ≤ n ∧ q = .int .i64 (i : Int) ∧ Hid (Upd (fun j => j = r) w1 wr) ∧ Hid (wr.heap[r]? = some (.cells ((X.take i).map (Value.int .u8) ++ cur.drop i).toArray 5 (0, 0)))) (fun q _ => n - (intOf q).toNat)
        case atStart => exact ⟨0, by omega, rfl, ((((Still.refl w1).drewN _).drewN _).drewN _).upd _, by show _ = _; simpa using HRM2.out⟩
        case round =>
          obtain ⟨i, hi, rfl, HU, HR⟩ := hrel
          have e0 := HU.out.cell c0 (fun e => hgr e)
          have e5 := HU.out.cell c5 (fun e => hgr e)
          by_cases hlt : i < n
          · obtain ⟨b, o, rfl, hb1, hb2, hsc⟩ := hX8.out i hlt
            have hsc' := HU.out.cell hsc (fun e => hb2 e)
            obtain ⟨x, hpc⟩ := fill_cell HR.out (by rw [HXL.out]; omega) (by omega) H8.out
            have hfr := frozen_blk HR.out i
            have hp := hpr (by omega)
            subst hp
            have HNX := hide (fill_next X cur i (by rw [HXL.out]; omega) (by omega))
            generalize X.getD i 0 = y at *
            have j1 : (i : Int) < (n : Int) := by omega
            have j2 : (0 : Int) ≤ (i : Int) := by omega
            have j3 : (i : Int) < (size : Int) := by omega
            have j4 : (k : Int) + (i : Int) < (lb : Int) := by have := hD.out; omega
            have j5 : (0 : Int) ≤ (k : Int) + (i : Int) := by omega
            have j6 : ((k : Int) + (i : Int)).toNat = k + i := by omega
            have HU' : Hid (Upd (fun j => j = r) w1 (wr.setCell ⟨r, i, none⟩ (.int .u8 y)).drew) := hide (HU.out.set1 i _).drew
            have HR' : Hid ((wr.setCell ⟨r, i, none⟩ (.int .u8 y)).drew.heap[r]? = some (.cells ((X.take (i + 1)).map (Value.int .u8) ++ cur.drop (i + 1)).toArray 5 (0, 0))) := hide (by rw [← HNX.out]; exact block_setCell HR.out i _)
            go_wp2_with fail
            go_region
            go_wp2_with fail
            go_roundw
            case rel => exact ⟨i + 1, by omega, by go_num, HU', HR'⟩
            case measure => simp [intOf]; omega
          · obtain rfl : i = n := by omega
            have hge : ¬ (i : Int) < (i : Int) := by omega
            have e3 := HU.out.cell c3 (fun e => hgr e)
            have f5' := frozen_blk (HU.out.heap H1.out (fun e => hgr e)) 5
            have hkn : (k : Int) + (i : Int) ≤ 140737488355328 := by have := hD.out; omega
            have HF2 := hide (fun w4 => HFIN.out wr w4 HU.out HR.out)
            clear hX8 hpr HMO HFIN
            by_cases hend : k + i = lb
            · have hendI : (k : Int) + (i : Int) = (lb : Int) := by omega
              cases eager
              · have hev : er = 0 := by rw [HEE.out]; simp
                subst hev
                go_wp2_with fail
                go_quiet (fail)
                go_wp2_with fail
                go_ret2
                exact HF2.out _ (by rw [hendI]; exact (Still.refl _).drewN _)
              · have hev : er = 31 := by rw [HEE.out, if_pos ⟨rfl, hend⟩]
                subst hev
                go_wp2_with fail
                go_quiet (fail)
                go_wp2_with fail
                go_ret2
                exact HF2.out _ (by rw [hendI]; exact (Still.refl _).drewN _)
            · have hev : er = 0 := by rw [HEE.out, if_neg (fun e => hend e.2)]
              subst hev
              have hendI : ((k : Int) + (i : Int) == (lb : Int)) = false := by simp; omega
              cases eager
              · go_wp2_with fail
                go_quiet (fail)
                go_wp2_with fail
                go_ret2
                exact HF2.out _ ((Still.refl _).drewN _)
              · go_wp2_with fail
                go_quiet (fail)
                go_wp2_with fail
                go_ret2
                exact HF2.out _ ((Still.refl _).drewN _)
      · have i3 : (1 : Int) ≤ fail := by omega
        have i4 : (fail ≤ (c : Int) + 1) = False := eq_false (by omega)
        clear hf' hgo i1 i2
        go_wp2_with fail
        go_quiet (fail)
        go_wp2_with fail
        go_quiet (fail)
        go_wp2_with fail
        go_quiet ((go_at_call 33; with_reducible exact HMO.out _ _))
        rw [hif.out]
        go_wp2_with fail
        go_loopw [7] (fun q wr => ∃ i : Nat, i ≤ n ∧ q = .int .i64 (i : Int) ∧ Hid (Upd (fun j => j = r) w1 wr) ∧ Hid (wr.heap[r]? = some (.cells ((X.take i).map (Value.int .u8) ++ cur.drop i).toArray 5 (0, 0)))) (fun q _ => n - (intOf q).toNat)
        case atStart => exact ⟨0, by omega, rfl, ((((Still.refl w1).drewN _).drewN _).drewN _).upd _, by show _ = _; simpa using HRM2.out⟩
        case round =>
          obtain ⟨i, hi, rfl, HU, HR⟩ := hrel
          have e0 := HU.out.cell c0 (fun e => hgr e)
          have e5 := HU.out.cell c5 (fun e => hgr e)
          by_cases hlt : i < n
          · obtain ⟨b, o, rfl, hb1, hb2, hsc⟩ := hX8.out i hlt
            have hsc' := HU.out.cell hsc (fun e => hb2 e)
            obtain ⟨x, hpc⟩ := fill_cell HR.out (by rw [HXL.out]; omega) (by omega) H8.out
            have hfr := frozen_blk HR.out i
            have hp := hpr (by omega)
            subst hp
            have HNX := hide (fill_next X cur i (by rw [HXL.out]; omega) (by omega))
            generalize X.getD i 0 = y at *
            have j1 : (i : Int) < (n : Int) := by omega
            have j2 : (0 : Int) ≤ (i : Int) := by omega
            have j3 : (i : Int) < (size : Int) := by omega
            have j4 : (k : Int) + (i : Int) < (lb : Int) := by have := hD.out; omega
            have j5 : (0 : Int) ≤ (k : Int) + (i : Int) := by omega
            have j6 : ((k : Int) + (i : Int)).toNat = k + i := by omega
            have HU' : Hid (Upd (fun j => j = r) w1 (wr.setCell ⟨r, i, none⟩ (.int .u8 y)).drew) := hide (HU.out.set1 i _).drew
            have HR' : Hid ((wr.setCell ⟨r, i, none⟩ (.int .u8 y)).drew.heap[r]? = some (.cells ((X.take (i + 1)).map (Value.int .u8) ++ cur.drop (i + 1)).toArray 5 (0, 0))) := hide (by rw [← HNX.out]; exact block_setCell HR.out i _)
            go_wp2_with fail
            go_region
            go_wp2_with fail
            go_roundw
            case rel => exact ⟨i + 1, by omega, by go_num, HU', HR'⟩
            case measure => simp [intOf]; omega
          · obtain rfl : i = n := by omega
            have hge : ¬ (i : Int) < (i : Int) := by omega
            have e3 := HU.out.cell c3 (fun e => hgr e)
            have f5' := frozen_blk (HU.out.heap H1.out (fun e => hgr e)) 5
            have hkn : (k : Int) + (i : Int) ≤ 140737488355328 := by have := hD.out; omega
            have HF2 := hide (fun w4 => HFIN.out wr w4 HU.out HR.out)
            clear hX8 hpr HMO HFIN
            by_cases hend : k + i = lb
            · have hendI : (k : Int) + (i : Int) = (lb : Int) := by omega
              cases eager
              · have hev : er = 0 := by rw [HEE.out]; simp
                subst hev
                go_wp2_with fail
                go_quiet (fail)
                go_wp2_with fail
                go_ret2
                exact HF2.out _ (by rw [hendI]; exact (Still.refl _).drewN _)
              · have hev : er = 31 := by rw [HEE.out, if_pos ⟨rfl, hend⟩]
                subst hev
                go_wp2_with fail
                go_quiet (fail)
                go_wp2_with fail
                go_ret2
                exact HF2.out _ (by rw [hendI]; exact (Still.refl _).drewN _)
            · have hev : er = 0 := by rw [HEE.out, if_neg (fun e => hend e.2)]
              subst hev
              have hendI : ((k : Int) + (i : Int) == (lb : Int)) = false := by simp; omega
              cases eager
              · go_wp2_with fail
                go_quiet (fail)
                go_wp2_with fail
                go_ret2
                exact HF2.out _ ((Still.refl _).drewN _)
              · go_wp2_with fail
                go_quiet (fail)
                go_wp2_with fail
                go_ret2
                exact HF2.out _ ((Still.refl _).drewN _)

end Go.Proofs.Ytcffekhlnidjnaa
