/- The law's own reader and writer of any behaviour (cursor). -/
import Derived.Test.YtjcanghffhpncaaG24
namespace Go.Proofs.Ytjcanghffhpncaa
open Go.RowKit

def mkL (vn ve x4 x5 : Value) (c : Nat) (vs : Value) : Array Value := #[vn, ve, .int .i64 (c : Int), vs, x4, x5]
theorem mkL_cells {W : World} {g : Nat} {vn ve x4 x5 vs : Value} {c : Nat} (h : W.heap[g]? = some (.cells (mkL vn ve x4 x5 c vs) 83 (0, 0))) : W.cell? ⟨g, 0, none⟩ = some vn ∧ W.cell? ⟨g, 1, none⟩ = some ve ∧ W.cell? ⟨g, 2, none⟩ = some (.int .i64 (c : Int)) ∧ W.cell? ⟨g, 3, none⟩ = some vs ∧ W.cell? ⟨g, 4, none⟩ = some x4 ∧ W.cell? ⟨g, 5, none⟩ = some x5 ∧ ∀ j, W.frozen? ⟨g, j, none⟩ = false := by
  refine ⟨?_, ?_, ?_, ?_, ?_, ?_, fun j => frozen_blk h j⟩ <;> (rw [cell_of_row _ _ _ _ _ _ h]; rfl)

def LTold (mk : Nat → Value → Array Value) (B : Nat) (an : Option Addr) (ns : List Int) (ae : Option Addr) (es : List Int) (g c : Nat) (szs : List Int) (ax : Option Addr) (l cx : Nat) (k n0 e0 : Int) (W : World) (e : Ending) (W' : World) : Prop :=
  e = .returned (.tuple #[.int .i64 (toldE ns es (c + 1) n0 e0).1, .int .i64 (toldE ns es (c + 1) n0 e0).2]) ∧ ∃ g4 c4, IsZ mk 83 W' B an ns ae es g (c + 1) (szs ++ [k]) (some ⟨g4, 0, none⟩) c4 ∧ Upd (fun i => i = g ∨ (Value.slice ax l cx).ownBlock = some i) W W' ∧ ((Value.slice ax l cx).ownBlock = some g4 ∨ W.heap.size ≤ g4)

set_option maxRecDepth 100000 in
set_option maxHeartbeats 3200000 in
theorem ltold_any {an : Option Addr} {ln cn : Nat} {ns : List Int} {ae : Option Addr} {le ce : Nat} {es : List Int} {g B c : Nat} {W : World} {szs : List Int} {ax : Option Addr} {cx : Nat} {x4 x5 : Value} (k n0 e0 : Int) (l : Nat) (hl' : l = szs.length) (hln : ns.length = ln) (hle : es.length = le) (h : IsZ (mkL (.slice an ln cn) (.slice ae le ce) x4 x5) 83 W B an ns ae es g c szs ax cx) (hc : c < 1099511627776) :
    Calls Try.prog 90 #[.pointer (some ⟨g, 0, none⟩), .int .i64 k, .int .i64 n0, .int .i64 e0] W fun e W' => LTold (mkL (.slice an ln cn) (.slice ae le ce) x4 x5) B an ns ae es g c szs ax l cx k n0 e0 W e W' := by
  obtain ⟨i0, hi0, hz0, hz1, hz2⟩ := info_partsO infoIntO
  have HA := hide (z_app 2 3 k h (fun _ => rfl) (fun _ _ => rfl) hc l hl' _ rfl)
  have h2 := (mkL_cells h.blk).2.2.1
  have f2 := (mkL_cells h.blk).2.2.2.2.2.2 2
  replace hl' := hide hl'
  clear h
  go_enter Try.func90, Try.ntmps90
  go_upto_region 2 with fail
  generalize W.setCell ⟨g, 2, none⟩ (.int .i64 ((c : Int) + 1)) = w1 at *
  have hcl := mkL_cells HA.out.1.1
  have c3 := hcl.2.2.2.1
  have f3 := hcl.2.2.2.2.2.2 3
  clear hcl h2 f2
  go_upto_region 5 with (first
    | (at_builtin; refine app_liesO rfl (.tmp 23) (.tmp 25) 24 rfl B 3 i0 (.int .i64 0) 1 8 Try.underlying24 hi0 hz0 hz1 hz2 rfl (by decide) (.slice ax l cx) l (szs.map (Value.int .i64)) rfl HA.out.2.1 ⟨w1.heap.size, 0, none⟩ 1 [.int .i64 k] rfl rfl HA.out.2.2.1 (by intro u hu; simp at hu; rcases hu with rfl; rfl) HA.out.2.2.2.1.1 HA.out.2.2.2.1.2.1 HA.out.2.2.2.1.2.2 ?_; intro g4 c4 w4 o4 gr4 k4; have HF4 := hide (HA.out.2.2.2.2 g4 c4 w4 o4 gr4 k4); have k3 := (mkL_cells HF4.out.1).2.2.2.1; have f3' := (mkL_cells HF4.out.1).2.2.2.2.2.2 3; clear o4 gr4 k4)
    | fail)
  obtain ⟨_, hzz, huu, h44⟩ := HF4.out
  have HFIN : Hid (∀ w', Still (w4.setCell ⟨g, 3, none⟩ (.slice (some ⟨g4, 0, none⟩) (l + 1) c4)) w' → LTold (mkL (.slice an ln cn) (.slice ae le ce) x4 x5) B an ns ae es g c szs ax l cx k n0 e0 W (.returned (.tuple #[.int .i64 (toldE ns es (c + 1) n0 e0).1, .int .i64 (toldE ns es (c + 1) n0 e0).2])) w') := hide fun w' hst => ⟨rfl, g4, c4, hzz.upd (hst.upd Noth) (fun _ e => e.elim), huu.trans (hst.upd _), h44⟩
  have hcd := mkL_cells hzz.blk
  have d0 := hcd.1
  have d1 := hcd.2.1
  have d2 := hcd.2.2.1
  rw [show ((c + 1 : Nat) : Int) = (c : Int) + 1 by omega] at d2
  have HRN := hide hzz.rn
  have HRE := hide hzz.re
  clear hzz huu h44 k3 f3' HA HF4 hcd c3 f3
  generalize w4.setCell ⟨g, 3, none⟩ (.slice (some ⟨g4, 0, none⟩) (l + 1) c4) = w5 at *
  have HST : Hid (∀ m, Still w5 (w5.drewN m)) := hide fun m => (Still.refl w5).drewN m
  by_cases h1 : ln < c + 1
  · have ht : toldE ns es (c + 1) n0 e0 = (n0, e0) := by unfold toldE; rw [if_pos (by omega)]
    rw [ht] at HFIN
    have j1 : ¬ (c : Int) + 1 ≤ (ln : Int) := by omega
    clear ht HRN HRE
    go_quiet (fail)
    go_wp2_with fail
    go_ret2
    exact HFIN.out _ (HST.out _)
  · obtain ⟨bn, on, rfl, cn0⟩ := HRN.out c (by omega)
    have j1 : (c : Int) + 1 ≤ (ln : Int) := by omega
    have j2 : (0 : Int) ≤ (c : Int) := by omega
    have j3 : (c : Int) < (ln : Int) := by omega
    by_cases h2 : le < c + 1
    · have ht : toldE ns es (c + 1) n0 e0 = (ns.getD c 0, 0) := by unfold toldE; rw [if_neg (by omega), if_pos (by omega)]; rfl
      rw [ht] at HFIN
      have j4 : ¬ (c : Int) + 1 ≤ (le : Int) := by omega
      generalize ns.getD c 0 = x at *
      clear ht HRN HRE
      go_quiet (fail)
      go_wp2_with fail
      go_quiet (fail)
      go_wp2_with fail
      go_quiet (fail)
      go_wp2_with fail
      go_ret2
      exact HFIN.out _ (((HST.out _).drewN _).drewN _)
    · obtain ⟨be, oe, rfl, ce0⟩ := HRE.out c (by omega)
      have ht : toldE ns es (c + 1) n0 e0 = (ns.getD c 0, es.getD c 0) := by unfold toldE; rw [if_neg (by omega), if_neg (by omega)]; rfl
      rw [ht] at HFIN
      have j4 : (c : Int) + 1 ≤ (le : Int) := by omega
      have j5 : (c : Int) < (le : Int) := by omega
      generalize ns.getD c 0 = x at *
      generalize es.getD c 0 = y at *
      clear ht HRN HRE
      go_quiet (fail)
      go_wp2_with fail
      go_quiet (fail)
      go_wp2_with fail
      go_quiet (fail)
      go_wp2_with fail
      go_quiet (fail)
      go_wp2_with fail
      go_ret2
      exact HFIN.out _ ((((HST.out _).drewN _).drewN _).drewN _)

def LRd (ns es : List Int) (an : Option Addr) (ln cn : Nat) (ae : Option Addr) (le ce : Nat) (g B : Nat) (W : World) (s : OSt) (M : Nat → Prop) : Prop :=
  ∃ ax cx, IsZ (mkL (.slice an ln cn) (.slice ae le ce) (.int .u8 (s.nx : Int)) (.slice none 0 0)) 83 W B an ns ae es g s.c s.szs ax cx ∧ (∀ i, M i ↔ i = g ∨ (Value.slice ax s.szs.length cx).ownBlock = some i) ∧ s.nx < 256
theorem LRd.upd {ns es : List Int} {an : Option Addr} {ln cn : Nat} {ae : Option Addr} {le ce : Nat} {g B : Nat} {W W' : World} {s : OSt} {M S : Nat → Prop} (h : LRd ns es an ln cn ae le ce g B W s M) (hu : Upd S W W') (hs : ∀ i, S i → B ≤ i ∧ ¬ M i) : LRd ns es an ln cn ae le ce g B W' s M := by
  obtain ⟨ax, cx, h1, h2, h3⟩ := h
  exact ⟨ax, cx, h1.upd hu (fun i e => ⟨(hs i e).1, fun e' => (hs i e).2 ((h2 i).2 (.inl e')), fun e' => (hs i e).2 ((h2 i).2 (.inr e'))⟩), h2, h3⟩
theorem LRd.lt {ns es : List Int} {an : Option Addr} {ln cn : Nat} {ae : Option Addr} {le ce : Nat} {g B : Nat} {W : World} {s : OSt} {M : Nat → Prop} (h : LRd ns es an ln cn ae le ce g B W s M) : ∀ i, M i → B ≤ i ∧ i < W.heap.size := by
  obtain ⟨ax, cx, h1, h2, h3⟩ := h
  intro i hi
  rcases (h2 i).1 hi with rfl | e
  · exact ⟨h1.gb, lt_of_block h1.blk⟩
  · exact h1.own.lt i e

def LRdPost (ns es : List Int) (an : Option Addr) (ln cn : Nat) (ae : Option Addr) (le ce : Nat) (g B : Nat) (M : Nat → Prop) (s : OSt) (size r : Nat) (cur : List Value) (W : World) (e : Ending) (W' : World) : Prop :=
  ∃ M', e = .returned (.tuple #[.int .i64 (oRd ns es 37 size s).1, .int .i64 (oRd ns es 37 size s).2.1]) ∧ LRd ns es an ln cn ae le ce g B W' (oRd ns es 37 size s).2.2.2 M' ∧ Room W' (some ⟨r, 0, none⟩) size r ((oRd ns es 37 size s).2.2.1.map (Value.int .u8) ++ cur.drop (oRd ns es 37 size s).2.2.1.length) ∧ Upd (fun i => M i ∨ i = r) W W' ∧ (∀ i, M' i → M i ∨ W.heap.size ≤ i) ∧ ¬ M' r

set_option maxRecDepth 100000 in
set_option maxHeartbeats 3200000 in
theorem loread_any {an : Option Addr} {ln cn : Nat} {ns : List Int} {ae : Option Addr} {le ce : Nat} {es : List Int} {g B : Nat} {W : World} {s : OSt} {M : Nat → Prop} (size r : Nat) (cur : List Value) (h : LRd ns es an ln cn ae le ce g B W s M) (hln : ns.length = ln) (hle : es.length = le) (hc : s.c < 1099511627776)
    (hroom : Room W (some ⟨r, 0, none⟩) size r cur) (h8 : ∀ u ∈ cur, IsByte u) (hr : ¬ M r) (hBr : B ≤ r) (hs : size ≤ 140737488355328) :
    Calls Try.prog 88 #[.pointer (some ⟨g, 0, none⟩), .slice (some ⟨r, 0, none⟩) size size] W fun e W' => LRdPost ns es an ln cn ae le ce g B M s size r cur W e W' := by
  obtain ⟨ax, cx, hz, hM, hnx⟩ := h
  have HTO := hide (ltold_any (size : Int) 0 31 s.szs.length rfl hln hle hz hc)
  have hgr : g ≠ r := fun e => hr ((hM r).2 (.inl e.symm))
  have hrl : r < W.heap.size := lt_of_block hroom.2.1
  have HB : Hid (B ≤ g) := hide hz.gb
  have HM := hide hM
  have HR := hide hr
  have HRM := hide hroom
  have H8 := hide h8
  clear hz hroom h8 hM hr
  go_enter Try.func88, Try.ntmps88
  go_wp2_with fail
  refine HTO.out.mono ?_
  rintro e w5 ⟨rfl, g4, c4, hz, hu, h4⟩
  have hzs := hu.size
  have HG4 : Hid (g4 ≠ r ∧ (∀ i, i = g ∨ i = g4 → M i ∨ W.heap.size ≤ i)) := hide ⟨fun e => h4.elim (fun e' => HR.out ((HM.out r).2 (.inr (e ▸ e')))) (fun e' => by omega), fun i hi => hi.elim (fun e => .inl ((HM.out i).2 (.inl e))) (fun e => h4.imp (fun e' => (HM.out i).2 (.inr (e ▸ e'))) (fun e' => by omega))⟩
  have HMW : Hid (Upd M W w5) := hide (hu.mono (fun i _ e => (HM.out i).2 e))
  have HRR : Hid (w5.heap[r]? = some (.cells cur.toArray 5 (0, 0))) := hide (HMW.out.heap HRM.out.2.1 (fun e => HR.out e))
  have hXl := oBytes_len 37 s.nx (min (toldE ns es (s.c + 1) 0 31).1.toNat size)
  have hXb := oBytes_get 37 s.nx (min (toldE ns es (s.c + 1) 0 31).1.toNat size)
  have ul : (s.szs ++ [(size : Int)]).length = s.szs.length + 1 := by rw [List.length_append]; rfl
  have HOB : Hid (w5.heap[g]? = some (.cells (mkL (.slice an ln cn) (.slice ae le ce) (.int .u8 (s.nx : Int)) (.slice none 0 0) (s.c + 1) (.slice (some ⟨g4, 0, none⟩) (s.szs.length + 1) c4)) 83 (0, 0))) := hide (by rw [← ul]; exact hz.blk)
  have HFIN : Hid (∀ wr, Upd (fun j => j = g ∨ j = r) w5 wr → wr.heap[g]? = some (.cells (mkL (.slice an ln cn) (.slice ae le ce) (.int .u8 (((s.nx + 37 * min (toldE ns es (s.c + 1) 0 31).1.toNat size) % 256 : Nat) : Int)) (.slice none 0 0) (s.c + 1) (.slice (some ⟨g4, 0, none⟩) (s.szs.length + 1) c4)) 83 (0, 0)) → wr.heap[r]? = some (.cells (((oBytes 37 s.nx (min (toldE ns es (s.c + 1) 0 31).1.toNat size)).take (min (toldE ns es (s.c + 1) 0 31).1.toNat size)).map (Value.int .u8) ++ cur.drop (min (toldE ns es (s.c + 1) 0 31).1.toNat size)).toArray 5 (0, 0)) →
      LRdPost ns es an ln cn ae le ce g B M s size r cur W (.returned (.tuple #[.int .i64 (toldE ns es (s.c + 1) 0 31).1, .int .i64 (toldE ns es (s.c + 1) 0 31).2])) wr) := hide fun wr hur hb hh => by
    refine ⟨fun i => i = g ∨ i = g4, rfl, ⟨some ⟨g4, 0, none⟩, c4, ?_, fun i => ?_, Nat.mod_lt _ (by omega)⟩, ⟨fun _ => rfl, ?_, ?_⟩, ?_, HG4.out.2, ?_⟩
    · refine hz.blk2 hur ?_ ?_
      · rintro i (rfl | rfl)
        · exact ⟨HB.out, hz.ng⟩
        · refine ⟨?_, fun e => HG4.out.1 (by simp only [Value.ownBlock, Option.some.injEq] at e; exact e)⟩
          exact hBr
      · rw [ul]
        exact hb
    · exact ⟨fun e => e.imp id (fun e => by rw [e]; rfl), fun e => e.imp id (fun e => by simp only [Value.ownBlock, Option.some.injEq] at e; exact e.symm)⟩
    · rw [List.take_of_length_le (by rw [hXl]; exact Nat.le_refl _)] at hh
      simp only [oRd, hXl]
      exact hh
    · have := HRM.out.2.2
      simp only [oRd, List.length_append, List.length_map, List.length_drop, hXl]
      omega
    · exact (HMW.out.mono (fun _ _ e => .inl e)).trans (hur.mono (fun i _ e => e.elim (fun e => .inl ((HM.out i).2 (.inl e))) .inr))
    · rintro (e | e)
      · exact hgr e.symm
      · exact HG4.out.1 e.symm
  have HCL : Hid (size ≤ cur.length) := hide HRM.out.2.2
  generalize s.szs.length + 1 = l at *
  generalize toldE ns es (s.c + 1) 0 31 = tl at *
  obtain ⟨n, er⟩ := tl
  simp only at hXl hXb HFIN
  obtain ⟨m, hm⟩ : ∃ m, m = min n.toNat size := ⟨_, rfl⟩
  rw [← hm] at hXl hXb HFIN
  generalize oBytes 37 s.nx m = X at *
  have HXL := hide hXl
  have HXB := hide hXb
  replace hm := hide hm
  clear hz hu h4 hzs hXl hXb ul HTO HRM HMW HM HR HG4
  go_wp2_with fail
  go_loopw [8] (fun q wr => ∃ i : Nat, i ≤ m ∧ q = .int .i64 (i : Int) ∧ Hid (Upd (fun j => j = g ∨ j = r) w5 wr) ∧ Hid (wr.heap[g]? = some (.cells (mkL (.slice an ln cn) (.slice ae le ce) (.int .u8 (((s.nx + 37 * i) % 256 : Nat) : Int)) (.slice none 0 0) (s.c + 1) (.slice (some ⟨g4, 0, none⟩) l c4)) 83 (0, 0))) ∧ Hid (wr.heap[r]? = some (.cells ((X.take i).map (Value.int .u8) ++ cur.drop i).toArray 5 (0, 0)))) (fun q _ => m - (intOf q).toNat)
  case atStart => exact ⟨0, by omega, rfl, Upd.refl _ _, hide (by have h := HOB.out; rw [← Nat.mod_eq_of_lt hnx] at h; exact h), by show _ = _; simpa using HRR.out⟩
  case round =>
    obtain ⟨i, hi, rfl, HU, HO, HR⟩ := hrel
    by_cases hlt : i < m
    · have j1 : (i : Int) < n := by have := hm.out; omega
      have j2 : (i : Int) < (size : Int) := by have := hm.out; omega
      have j0 : (0 : Int) ≤ (i : Int) := by omega
      have hoc := mkL_cells HO.out
      have o4 := hoc.2.2.2.2.1
      have g4' := hoc.2.2.2.2.2.2 4
      obtain ⟨y, hy⟩ : ∃ y : Int, y = (((s.nx + 37 * (i + 1)) % 256 : Nat) : Int) := ⟨_, rfl⟩
      have HXI : Hid (X.getD i 0 = y) := hide (by rw [HXB.out i hlt, hy])
      have HY : Hid (((s.nx : Int) + 37 * (i : Int) + 37) % 256 = y) := hide (by rw [hy]; push_cast; omega)
      have hcl6 := HCL.out
      have hXl6 := HXL.out
      have hms : m ≤ size := by have := hm.out; omega
      have u6 : Upd (fun j => j = g) wr (wr.setCell ⟨g, 4, none⟩ (.int .u8 y)) := (Upd.refl _ _).set1 4 _
      have HO6 : Hid ((wr.setCell ⟨g, 4, none⟩ (.int .u8 y)).heap[g]? = some (.cells (mkL (.slice an ln cn) (.slice ae le ce) (.int .u8 y) (.slice none 0 0) (s.c + 1) (.slice (some ⟨g4, 0, none⟩) l c4)) 83 (0, 0))) := hide (block_setCell HO.out 4 _)
      have hR6 : (wr.setCell ⟨g, 4, none⟩ (.int .u8 y)).heap[r]? = some (.cells ((X.take i).map (Value.int .u8) ++ cur.drop i).toArray 5 (0, 0)) := u6.heap HR.out (fun e => hgr e.symm)
      obtain ⟨x6, hp6⟩ := fill_cell hR6 (by omega) (by omega) H8.out
      have f6 := frozen_blk hR6 i
      have k10 := (mkL_cells HO6.out).2.2.2.2.1
      have HR6 := hide hR6
      have HU6 := hide (HU.out.trans (u6.mono (fun _ _ e => .inl e)))
      replace hy := hide hy
      clear hoc u6 hR6 hcl6 hXl6
      go_upto_region 6 with fail
      rw [HY.out]
      generalize (wr.setCell ⟨g, 4, none⟩ (.int .u8 y)) = w6 at *
      have HNX := hide (fill_next X cur i (by rw [HXL.out]; omega) (by have := HCL.out; omega))
      have HU' : Hid (Upd (fun j => j = g ∨ j = r) w5 (w6.setCell ⟨r, i, none⟩ (.int .u8 y))) := hide (HU6.out.trans (((Upd.refl _ _).set1 i _).mono (fun _ _ e => .inr e)))
      have HO' : Hid ((w6.setCell ⟨r, i, none⟩ (.int .u8 y)).heap[g]? = some (.cells (mkL (.slice an ln cn) (.slice ae le ce) (.int .u8 (((s.nx + 37 * (i + 1)) % 256 : Nat) : Int)) (.slice none 0 0) (s.c + 1) (.slice (some ⟨g4, 0, none⟩) l c4)) 83 (0, 0))) := hide (by rw [← hy.out]; exact (((Upd.refl (fun j => j = r) w6).set1 i (.int .u8 y))).heap HO6.out (fun e => hgr e))
      have HR' : Hid ((w6.setCell ⟨r, i, none⟩ (.int .u8 y)).heap[r]? = some (.cells ((X.take (i + 1)).map (Value.int .u8) ++ cur.drop (i + 1)).toArray 5 (0, 0))) := hide (by rw [← HNX.out, HXI.out]; exact block_setCell HR6.out i _)
      go_wp2_with fail
      go_roundw
      case rel => exact ⟨i + 1, by omega, by go_num, HU', HO', HR'⟩
      case measure => simp [intOf]; omega
    · obtain rfl : i = m := by omega
      have HF2 := hide (HFIN.out wr HU.out HO.out HR.out)
      by_cases hn : (i : Int) < n
      · have hge : ¬ (i : Int) < (size : Int) := by have := hm.out; omega
        go_wp2_with fail
        go_ret2
        exact HF2.out
      · go_wp2_with fail
        go_ret2
        exact HF2.out

theorem lo_reader (ns es : List Int) (an : Option Addr) (ln cn : Nat) (ae : Option Addr) (le ce : Nat) (g B size : Nat) (hln : ns.length = ln) (hle : es.length = le) (hs : size ≤ 140737488355328) :
    Reader size (oRd ns es 37 size) oCnt (fun s => ns.length - s.c) 88 (.pointer (some ⟨g, 0, none⟩)) B (LRd ns es an ln cn ae le ce g B) where
  upd := fun h hu hs => h.upd hu hs
  lt := fun h => h.lt
  fit := fun s h0 h1 => o_fit ns es 37 size s h0 h1
  len := fun s => o_len ns es 37 size s
  b8 := fun s => oBytes_b8 _ _ _
  cnt1 := fun s => by have h1 := oCnt_eq s; have h2 := oCnt_eq (oRd ns es 37 size s).2.2.2; have h3 : (oRd ns es 37 size s).2.2.2.c = s.c + 1 := rfl; omega
  dec := fun s he _ _ => by have := o_dec ns es 37 size s he; simp only [oRd]; omega
  mle := fun s => by simp only [oRd]; omega
  read := fun W s M r cur h hc hroom hcur hr hBr => by
    refine (loread_any size r cur h hln hle (by rw [oCnt_eq] at hc; omega) hroom hcur hr hBr hs).mono fun e W' ⟨M', h1, h2, h3, h4, h5, h6⟩ => ⟨M', h1, h2, h3, h4, h5, h6⟩

end Go.Proofs.Ytjcanghffhpncaa
