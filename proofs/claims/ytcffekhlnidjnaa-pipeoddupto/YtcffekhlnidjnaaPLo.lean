/- The law's own reader and writer of any behaviour (pipe). -/
import Derived.Test.YtcffekhlnidjnaaOWr
namespace Go.Proofs.Ytcffekhlnidjnaa
open Go.RowKit

def PO5 (vn ve x3 x4 : Value) (c : Nat) : Array Value := #[vn, ve, .int .i64 (c : Int), x3, x4]
theorem po_cells {W : World} {g : Nat} {vn ve x3 x4 : Value} {c : Nat} (h : W.heap[g]? = some (.cells (PO5 vn ve x3 x4 c) 69 (0, 0))) : W.cell? ⟨g, 0, none⟩ = some vn ∧ W.cell? ⟨g, 1, none⟩ = some ve ∧ W.cell? ⟨g, 2, none⟩ = some (.int .i64 (c : Int)) ∧ W.cell? ⟨g, 3, none⟩ = some x3 ∧ W.cell? ⟨g, 4, none⟩ = some x4 ∧ ∀ j, W.frozen? ⟨g, j, none⟩ = false := by
  refine ⟨?_, ?_, ?_, ?_, ?_, fun j => frozen_blk h j⟩ <;> (rw [cell_of_row _ _ _ _ _ _ h]; rfl)

/-- Its block, and the rows that it tells from. -/
structure IsQ (W : World) (B : Nat) (an : Option Addr) (ln cn : Nat) (ns : List Int) (ae : Option Addr) (le ce : Nat) (es : List Int) (x3 x4 : Value) (g c : Nat) : Prop where
  blk : W.heap[g]? = some (.cells (PO5 (.slice an ln cn) (.slice ae le ce) x3 x4 c) 69 (0, 0))
  rn : Row W .i64 an ns
  re : Row W .i64 ae es
  bn : ∀ x, an = some x → 0 < ns.length → x.block < B
  be : ∀ x, ae = some x → 0 < es.length → x.block < B
  gb : B ≤ g
theorem IsQ.blk2 {W W' : World} {B : Nat} {an : Option Addr} {ln cn : Nat} {ns : List Int} {ae : Option Addr} {le ce : Nat} {es : List Int} {x3 x4 y3 y4 : Value} {g c c' : Nat} {S : Nat → Prop} (h : IsQ W B an ln cn ns ae le ce es x3 x4 g c) (hu : Upd S W W') (hs : ∀ i, S i → B ≤ i) (hb : W'.heap[g]? = some (.cells (PO5 (.slice an ln cn) (.slice ae le ce) y3 y4 c') 69 (0, 0))) : IsQ W' B an ln cn ns ae le ce es y3 y4 g c' :=
  ⟨hb, h.rn.upd hu (fun x hx h0 e => by have := h.bn x hx h0; have := hs _ e; omega), h.re.upd hu (fun x hx h0 e => by have := h.be x hx h0; have := hs _ e; omega), h.bn, h.be, h.gb⟩
theorem IsQ.upd {W W' : World} {B : Nat} {an : Option Addr} {ln cn : Nat} {ns : List Int} {ae : Option Addr} {le ce : Nat} {es : List Int} {x3 x4 : Value} {g c : Nat} {S : Nat → Prop} (h : IsQ W B an ln cn ns ae le ce es x3 x4 g c) (hu : Upd S W W') (hs : ∀ i, S i → B ≤ i ∧ i ≠ g) : IsQ W' B an ln cn ns ae le ce es x3 x4 g c :=
  h.blk2 hu (fun i e => (hs i e).1) (hu.heap h.blk (fun e => (hs _ e).2 rfl))

def PTold (B : Nat) (an : Option Addr) (ln cn : Nat) (ns : List Int) (ae : Option Addr) (le ce : Nat) (es : List Int) (x3 x4 : Value) (g c : Nat) (n0 e0 : Int) (W : World) (e : Ending) (W' : World) : Prop :=
  e = .returned (.tuple #[.int .i64 (toldE ns es (c + 1) n0 e0).1, .int .i64 (toldE ns es (c + 1) n0 e0).2]) ∧ IsQ W' B an ln cn ns ae le ce es x3 x4 g (c + 1) ∧ Upd (fun i => i = g) W W'
set_option maxRecDepth 100000 in
set_option maxHeartbeats 1600000 in
theorem ptold_any {an : Option Addr} {ln cn : Nat} {ns : List Int} {ae : Option Addr} {le ce : Nat} {es : List Int} {g B c : Nat} {W : World} {x3 x4 : Value} (n0 e0 : Int) (hln : ns.length = ln) (hle : es.length = le) (h : IsQ W B an ln cn ns ae le ce es x3 x4 g c) (hc : c < 1099511627776) :
    Calls Try.prog 57 #[.pointer (some ⟨g, 0, none⟩), .int .i64 n0, .int .i64 e0] W fun e W' => PTold B an ln cn ns ae le ce es x3 x4 g c n0 e0 W e W' := by
  have hu1 : Upd (fun i => i = g) W (W.setCell ⟨g, 2, none⟩ (.int .i64 ((c : Int) + 1))) := (Upd.refl _ _).set1 2 _
  have hz1 : IsQ (W.setCell ⟨g, 2, none⟩ (.int .i64 ((c : Int) + 1))) B an ln cn ns ae le ce es x3 x4 g (c + 1) := h.blk2 hu1 (fun i e => by have := h.gb; omega) (block_setCell h.blk 2 _)
  have h2 := (po_cells h.blk).2.2.1
  have f2 := (po_cells h.blk).2.2.2.2.2 2
  have HFIN : Hid (∀ w', Still (W.setCell ⟨g, 2, none⟩ (.int .i64 ((c : Int) + 1))) w' → PTold B an ln cn ns ae le ce es x3 x4 g c n0 e0 W (.returned (.tuple #[.int .i64 (toldE ns es (c + 1) n0 e0).1, .int .i64 (toldE ns es (c + 1) n0 e0).2])) w') := hide fun w' hst => ⟨rfl, hz1.upd (hst.upd Noth) (fun _ e => e.elim), hu1.trans (hst.upd _)⟩
  have hcd := po_cells hz1.blk
  have d0 := hcd.1
  have d1 := hcd.2.1
  have d2 := hcd.2.2.1
  rw [show ((c + 1 : Nat) : Int) = (c : Int) + 1 by omega] at d2
  have HRN := hide hz1.rn
  have HRE := hide hz1.re
  clear h hz1 hu1 hcd
  go_enter Try.func57, Try.ntmps57
  go_upto_region 2 with fail
  generalize W.setCell ⟨g, 2, none⟩ (.int .i64 ((c : Int) + 1)) = w5 at *
  clear h2 f2
  have HST : Hid (∀ m, Still w5 (w5.drewN m)) := hide fun m => (Still.refl w5).drewN m
  by_cases h1 : ln < c + 1
  · have ht : toldE ns es (c + 1) n0 e0 = (n0, e0) := by unfold toldE; rw [if_pos (by omega)]
    rw [ht] at HFIN
    have j1 : ¬ (c : Int) + 1 ≤ (ln : Int) := by omega
    clear ht HRN HRE
    go_wp2_with fail
    go_quiet (fail)
    go_wp2_with fail
    go_ret2
    exact HFIN.out _ (HST.out _)
  · obtain ⟨bn, on, rfl, cn0⟩ := HRN.out c (by omega)
    have j1 : (c : Int) + 1 ≤ (ln : Int) := by omega
    have j2 : (0 : Int) ≤ (c : Int) := by omega
    have j3 : (c : Int) < (ln : Int) := by omega
    by_cases h2 : le < c + 1
    · have ht : toldE ns es (c + 1) n0 e0 = (ns.getD c 0, 0) := by unfold toldE; rw [if_neg (by omega), if_pos (by omega)]; rfl
      rw [ht] at HFIN
      have j4 : ¬ (c : Int) + 1 ≤ (le : Int) := by omega
      generalize ns.getD c 0 = x at *
      clear ht HRN HRE
      go_wp2_with fail
      go_quiet (fail)
      go_wp2_with fail
      go_quiet (fail)
      go_wp2_with fail
      go_quiet (fail)
      go_wp2_with fail
      go_ret2
      exact HFIN.out _ (((HST.out _).drewN _).drewN _)
    · obtain ⟨be, oe, rfl, ce0⟩ := HRE.out c (by omega)
      have ht : toldE ns es (c + 1) n0 e0 = (ns.getD c 0, es.getD c 0) := by unfold toldE; rw [if_neg (by omega), if_neg (by omega)]; rfl
      rw [ht] at HFIN
      have j4 : (c : Int) + 1 ≤ (le : Int) := by omega
      have j5 : (c : Int) < (le : Int) := by omega
      generalize ns.getD c 0 = x at *
      generalize es.getD c 0 = y at *
      clear ht HRN HRE
      go_wp2_with fail
      go_quiet (fail)
      go_wp2_with fail
      go_quiet (fail)
      go_wp2_with fail
      go_quiet (fail)
      go_wp2_with fail
      go_quiet (fail)
      go_wp2_with fail
      go_ret2
      exact HFIN.out _ ((((HST.out _).drewN _).drewN _).drewN _)

def PRd (ns es : List Int) (an : Option Addr) (ln cn : Nat) (ae : Option Addr) (le ce : Nat) (g B : Nat) (M0 : Nat → Prop) (W : World) (s : OSt) (M : Nat → Prop) : Prop :=
  M = M0 ∧ (∀ i, M0 i ↔ i = g) ∧ IsQ W B an ln cn ns ae le ce es (.int .u8 (s.nx : Int)) (.slice none 0 0) g s.c ∧ s.nx < 256
theorem PRd.upd {ns es : List Int} {an : Option Addr} {ln cn : Nat} {ae : Option Addr} {le ce : Nat} {g B : Nat} {M0 : Nat → Prop} {W W' : World} {s : OSt} {M S : Nat → Prop} (h : PRd ns es an ln cn ae le ce g B M0 W s M) (hu : Upd S W W') (hs : ∀ i, S i → B ≤ i ∧ ¬ M i) : PRd ns es an ln cn ae le ce g B M0 W' s M := by
  obtain ⟨rfl, h1, h2, h3⟩ := h
  exact ⟨rfl, h1, h2.upd hu (fun i e => ⟨(hs i e).1, fun e' => (hs i e).2 ((h1 i).2 e')⟩), h3⟩

def PRdPost (ns es : List Int) (an : Option Addr) (ln cn : Nat) (ae : Option Addr) (le ce : Nat) (g B : Nat) (M0 M : Nat → Prop) (s : OSt) (size r : Nat) (cur : List Value) (W : World) (e : Ending) (W' : World) : Prop :=
  e = .returned (.tuple #[.int .i64 (oRd ns es 1 size s).1, .int .i64 (oRd ns es 1 size s).2.1]) ∧ PRd ns es an ln cn ae le ce g B M0 W' (oRd ns es 1 size s).2.2.2 M ∧ Room W' (some ⟨r, 0, none⟩) size r ((oRd ns es 1 size s).2.2.1.map (Value.int .u8) ++ cur.drop (oRd ns es 1 size s).2.2.1.length) ∧ Upd (fun i => M i ∨ i = r) W W'
set_option maxRecDepth 100000 in
set_option maxHeartbeats 3200000 in
theorem poread_any {an : Option Addr} {ln cn : Nat} {ns : List Int} {ae : Option Addr} {le ce : Nat} {es : List Int} {g B : Nat} {W : World} {s : OSt} {M0 M : Nat → Prop} (size r : Nat) (cur : List Value) (h : PRd ns es an ln cn ae le ce g B M0 W s M) (hln : ns.length = ln) (hle : es.length = le) (hc : s.c < 1099511627776)
    (hroom : Room W (some ⟨r, 0, none⟩) size r cur) (h8 : ∀ u ∈ cur, IsByte u) (hr : ¬ M r) (hBr : B ≤ r) (hs : size ≤ 140737488355328) :
    Calls Try.prog 55 #[.pointer (some ⟨g, 0, none⟩), .slice (some ⟨r, 0, none⟩) size size] W fun e W' => PRdPost ns es an ln cn ae le ce g B M0 M s size r cur W e W' := by
  obtain ⟨rfl, hM, hz, hnx⟩ := h
  have HTO := hide (ptold_any 0 31 hln hle hz hc)
  have hgr : g ≠ r := fun e => hr ((hM r).2 e.symm)
  have hrl : r < W.heap.size := lt_of_block hroom.2.1
  have HB : Hid (B ≤ g) := hide hz.gb
  have HM := hide hM
  have HR := hide hr
  have HRM := hide hroom
  have H8 := hide h8
  clear hz hroom h8 hM hr
  go_enter Try.func55, Try.ntmps55
  go_wp2_with fail
  refine HTO.out.mono ?_
  rintro e w5 ⟨rfl, hz, hu⟩
  have HMW : Hid (Upd M W w5) := hide (hu.mono (fun i _ e => (HM.out i).2 e))
  have HRR : Hid (w5.heap[r]? = some (.cells cur.toArray 5 (0, 0))) := hide (hu.heap HRM.out.2.1 (fun e => hgr e.symm))
  have hXl := oBytes_len 1 s.nx (min (toldE ns es (s.c + 1) 0 31).1.toNat size)
  have hXb := oBytes_get 1 s.nx (min (toldE ns es (s.c + 1) 0 31).1.toNat size)
  have HOB := hide hz.blk
  have HFIN : Hid (∀ wr, Upd (fun j => j = g ∨ j = r) w5 wr → wr.heap[g]? = some (.cells (PO5 (.slice an ln cn) (.slice ae le ce) (.int .u8 (((s.nx + 1 * min (toldE ns es (s.c + 1) 0 31).1.toNat size) % 256 : Nat) : Int)) (.slice none 0 0) (s.c + 1)) 69 (0, 0)) → wr.heap[r]? = some (.cells (((oBytes 1 s.nx (min (toldE ns es (s.c + 1) 0 31).1.toNat size)).take (min (toldE ns es (s.c + 1) 0 31).1.toNat size)).map (Value.int .u8) ++ cur.drop (min (toldE ns es (s.c + 1) 0 31).1.toNat size)).toArray 5 (0, 0)) →
      PRdPost ns es an ln cn ae le ce g B M M s size r cur W (.returned (.tuple #[.int .i64 (toldE ns es (s.c + 1) 0 31).1, .int .i64 (toldE ns es (s.c + 1) 0 31).2])) wr) := hide fun wr hur hb hh => by
    refine ⟨rfl, ⟨rfl, HM.out, hz.blk2 hur ?_ hb, Nat.mod_lt _ (by omega)⟩, ⟨fun _ => rfl, ?_, ?_⟩, ?_⟩
    · rintro i (rfl | rfl)
      · exact HB.out
      · exact hBr
    · rw [List.take_of_length_le (by rw [hXl]; exact Nat.le_refl _)] at hh
      simp only [oRd, hXl]
      exact hh
    · have := HRM.out.2.2
      simp only [oRd, List.length_append, List.length_map, List.length_drop, hXl]
      omega
    · exact (HMW.out.mono (fun _ _ e => .inl e)).trans (hur.mono (fun i _ e => e.elim (fun e => .inl ((HM.out i).2 e)) .inr))
  have HCL : Hid (size ≤ cur.length) := hide HRM.out.2.2
  generalize toldE ns es (s.c + 1) 0 31 = tl at *
  obtain ⟨n, er⟩ := tl
  simp only at hXl hXb HFIN
  obtain ⟨m, hm⟩ : ∃ m, m = min n.toNat size := ⟨_, rfl⟩
  rw [← hm] at hXl hXb HFIN
  generalize oBytes 1 s.nx m = X at *
  have HXL := hide hXl
  have HXB := hide hXb
  replace hm := hide hm
  clear hz hu hXl hXb HTO HRM HMW HM HR
  go_wp2_with fail
  go_loopw [8] (fun q wr => ∃ i : Nat, i ≤ m ∧ q = .int .i64 (i : Int) ∧ Hid (Upd (fun j => j = g ∨ j = r) w5 wr) ∧ Hid (wr.heap[g]? = some (.cells (PO5 (.slice an ln cn) (.slice ae le ce) (.int .u8 (((s.nx + 1 * i) % 256 : Nat) : Int)) (.slice none 0 0) (s.c + 1)) 69 (0, 0))) ∧ Hid (wr.heap[r]? = some (.cells ((X.take i).map (Value.int .u8) ++ cur.drop i).toArray 5 (0, 0)))) (fun q _ => m - (intOf q).toNat)
  case atStart => exact ⟨0, by omega, rfl, Upd.refl _ _, hide (by have h := HOB.out; rw [← Nat.mod_eq_of_lt hnx] at h; exact h), by show _ = _; simpa using HRR.out⟩
  case round =>
    obtain ⟨i, hi, rfl, HU, HO, HR⟩ := hrel
    by_cases hlt : i < m
    · have j1 : (i : Int) < n := by have := hm.out; omega
      have j2 : (i : Int) < (size : Int) := by have := hm.out; omega
      have j0 : (0 : Int) ≤ (i : Int) := by omega
      obtain ⟨y0, hy0⟩ : ∃ y0 : Int, y0 = (((s.nx + 1 * i) % 256 : Nat) : Int) := ⟨_, rfl⟩
      obtain ⟨y, hy⟩ : ∃ y : Int, y = (((s.nx + 1 * (i + 1)) % 256 : Nat) : Int) := ⟨_, rfl⟩
      have HY : Hid ((y0 + 1) % 256 = y) := hide (by rw [hy, hy0]; push_cast; omega)
      rw [← hy0] at HO
      have hoc := po_cells HO.out
      have o4 := hoc.2.2.2.1
      have g4' := hoc.2.2.2.2.2 3
      have HXI : Hid (X.getD i 0 = y) := hide (by rw [HXB.out i hlt, hy])
      have hcl6 := HCL.out
      have hXl6 := HXL.out
      have hms : m ≤ size := by have := hm.out; omega
      have u6 : Upd (fun j => j = g) wr (wr.setCell ⟨g, 3, none⟩ (.int .u8 y)) := (Upd.refl _ _).set1 3 _
      have HO6 : Hid ((wr.setCell ⟨g, 3, none⟩ (.int .u8 y)).heap[g]? = some (.cells (PO5 (.slice an ln cn) (.slice ae le ce) (.int .u8 y) (.slice none 0 0) (s.c + 1)) 69 (0, 0))) := hide (block_setCell HO.out 3 _)
      have hR6 : (wr.setCell ⟨g, 3, none⟩ (.int .u8 y)).heap[r]? = some (.cells ((X.take i).map (Value.int .u8) ++ cur.drop i).toArray 5 (0, 0)) := u6.heap HR.out (fun e => hgr e.symm)
      obtain ⟨x6, hp6⟩ := fill_cell hR6 (by omega) (by omega) H8.out
      have f6 := frozen_blk hR6 i
      have k10 := (po_cells HO6.out).2.2.2.1
      have HR6 := hide hR6
      have HU6 := hide (HU.out.trans (u6.mono (fun _ _ e => .inl e)))
      replace hy := hide hy
      replace hy0 := hide hy0
      clear hoc u6 hR6 hcl6 hXl6
      go_upto_region 6 with fail
      rw [HY.out]
      generalize (wr.setCell ⟨g, 3, none⟩ (.int .u8 y)) = w6 at *
      have HNX := hide (fill_next X cur i (by rw [HXL.out]; omega) (by have := HCL.out; omega))
      have HU' : Hid (Upd (fun j => j = g ∨ j = r) w5 (w6.setCell ⟨r, i, none⟩ (.int .u8 y))) := hide (HU6.out.trans (((Upd.refl _ _).set1 i _).mono (fun _ _ e => .inr e)))
      have HO' : Hid ((w6.setCell ⟨r, i, none⟩ (.int .u8 y)).heap[g]? = some (.cells (PO5 (.slice an ln cn) (.slice ae le ce) (.int .u8 (((s.nx + 1 * (i + 1)) % 256 : Nat) : Int)) (.slice none 0 0) (s.c + 1)) 69 (0, 0))) := hide (by rw [← hy.out]; exact (((Upd.refl (fun j => j = r) w6).set1 i (.int .u8 y))).heap HO6.out (fun e => hgr e))
      have HR' : Hid ((w6.setCell ⟨r, i, none⟩ (.int .u8 y)).heap[r]? = some (.cells ((X.take (i + 1)).map (Value.int .u8) ++ cur.drop (i + 1)).toArray 5 (0, 0))) := hide (by rw [← HNX.out, HXI.out]; exact block_setCell HR6.out i _)
      go_wp2_with fail
      go_roundw
      case rel => exact ⟨i + 1, by omega, by go_num, HU', HO', HR'⟩
      case measure => simp [intOf]; omega
    · obtain rfl : i = m := by omega
      have HF2 := hide (HFIN.out wr HU.out HO.out HR.out)
      by_cases hn : (i : Int) < n
      · have hge : ¬ (i : Int) < (size : Int) := by have := hm.out; omega
        go_wp2_with fail
        go_ret2
        exact HF2.out
      · go_wp2_with fail
        go_ret2
        exact HF2.out

theorem po_reader (ns es : List Int) (an : Option Addr) (ln cn : Nat) (ae : Option Addr) (le ce : Nat) (g B : Nat) (M0 : Nat → Prop) (size : Nat) (hln : ns.length = ln) (hle : es.length = le) (hs : size ≤ 140737488355328) :
    Reader size (oRd ns es 1 size) oCnt (fun s => ns.length - s.c) 55 (.pointer (some ⟨g, 0, none⟩)) B (PRd ns es an ln cn ae le ce g B M0) where
  upd := fun h hu hs => h.upd hu hs
  lt := fun ⟨h1, h2, h3, h4⟩ i hi => by
    subst h1
    have := (h2 i).1 hi
    subst this
    exact ⟨h3.gb, lt_of_block h3.blk⟩
  fit := fun s h0 h1 => o_fit ns es 1 size s h0 h1
  len := fun s => o_len ns es 1 size s
  b8 := fun s => oBytes_b8 _ _ _
  cnt1 := fun s => by have h1 := oCnt_eq s; have h2 := oCnt_eq (oRd ns es 1 size s).2.2.2; have h3 : (oRd ns es 1 size s).2.2.2.c = s.c + 1 := rfl; omega
  dec := fun s he _ _ => by have := o_dec ns es 1 size s he; simp only [oRd]; omega
  mle := fun s => by simp only [oRd]; omega
  read := fun W s M r cur h hc hroom hcur hr hBr => by
    refine (poread_any size r cur h hln hle (by rw [oCnt_eq] at hc; omega) hroom hcur hr hBr hs).mono fun e W' ⟨h1, h2, h3, h4⟩ => ⟨M, h1, h2, h3, h4, fun _ h => .inl h, hr⟩

end Go.Proofs.Ytcffekhlnidjnaa
