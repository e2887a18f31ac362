/- stepsBack, slices.Backward, comeOut. -/
import Derived.RangeFuncBox
import Derived.RangeFuncNested
import Derived.RangeFuncBound
import Derived.RangeFuncCalls
import Derived.RangeFuncLeaves
import Derived.Shelf.Abstract
import Derived.Shelf.RegionOpen
import Derived.WalkKit
import Derived.OwnWalkIn
import Derived.TacticsInMore
import Derived.LoopNIn
import Derived.LoopIn
import Derived.Maps.AppendAt
import Derived.Test.YtbjlpeophklmlaaCSteps
import Derived.Test.YtbjlpeophklmlaaCRow
namespace Go.Proofs.Ytbjlpeophklmlaa
open Go.RowKit Go.Shelf
attribute [local go_sem] Oper.semAt_some

/-! ### stepsBack -/
theorem hi_one {s : Nat} (h : s < 4294967296) (hb : 2147483648 ≤ s) : ((s : Int) / 2147483648) = 1 := by omega
theorem hi_none {s : Nat} (hb : ¬ 2147483648 ≤ s) : ((s : Int) / 2147483648) = 0 := by omega
theorem poly_xor {s : Nat} (h : s < 4294967296) : bits .xor .u32 (s : Int) 3988292384 = ((s ^^^ poly : Nat) : Int) := by
  rw [show (3988292384 : Int) = ((poly : Nat) : Int) from rfl, u32_xor_nat _ _ h (by decide)]
theorem or_one {x : Nat} (h : x < 2147483648) : bits .or .u32 ((x : Int) * 2) 1 = ((2 * x + 1 : Nat) : Int) := by
  rw [show (x : Int) * 2 = ((2 * x : Nat) : Int) by omega, show (1 : Int) = ((1 : Nat) : Int) from rfl, u32_or_nat _ _ (by omega) (by decide), nat_join 1 (2 * x) 1 (by omega) (by decide)]
theorem or_zero {x : Nat} (h : x < 2147483648) : bits .or .u32 ((x : Int) * 2) 0 = ((2 * x : Nat) : Int) := by
  rw [show (x : Int) * 2 = ((2 * x : Nat) : Int) by omega, show (0 : Int) = ((0 : Nat) : Int) from rfl, u32_or_nat _ _ (by omega) (by decide), Nat.or_zero]
theorem bk_hi {s : Nat} (hb : 2147483648 ≤ s) : bk s = 2 * (s ^^^ poly) + 1 := by unfold bk; rw [if_pos hb]
theorem bk_lo {s : Nat} (hb : ¬ 2147483648 ≤ s) : bk s = 2 * s := by unfold bk; rw [if_neg hb]

set_option maxHeartbeats 800000 in
theorem stepsBack_any (r k : Nat) (w : World) (hr : r < 4294967296) (hk : k ≤ 100) :
    Calls Try.prog 36 #[.int .u32 r, .int .i64 k] w fun e w' => e = .returned (.int .u32 (bkn k r : Nat)) ∧ w' = w := by
  go_enter Try.func36, Try.ntmps36
  go_wp2
  go_loop [0, 7] (fun q i => ∃ j s : Nat, j ≤ k ∧ s < 4294967296 ∧ i = .int .i64 j ∧ q = .int .u32 s ∧ Hid (bkn k r = bkn (k - j) s)) (fun _ i => k - (intOf i).toNat)
  case atStart => exact ⟨0, r, by omega, hr, rfl, rfl, rfl⟩
  case round =>
    obtain ⟨j, s, hj, hs, rfl, rfl, HS⟩ := hrel
    by_cases hlt : j < k
    · have HN : Hid (bkn k r = bkn (k - (j + 1)) (bk s)) := by
        show _ = _
        rw [HS.out, show k - j = (k - (j + 1)) + 1 by omega]; rfl
      by_cases hb : 2147483648 ≤ s
      · have h1 := hi_one hs hb
        have h2 := poly_xor hs
        have hx := xor_poly_lo hs hb
        have h3 := or_one hx
        have HE := hide (bk_hi hb)
        have hbl := bk_lt hs
        clear hb
        generalize s ^^^ poly = x at *
        go_wp2
        go_round
        case rel => exact ⟨j + 1, bk s, by omega, hbl, by go_num, by rw [HE.out]; go_num, HN⟩
        case measure => simp [intOf]; omega
      · have h1 := hi_none hb
        have h3 := or_zero (show s < 2147483648 by omega)
        have HE := hide (bk_lo hb)
        have hbl := bk_lt hs
        have hs2 : s < 2147483648 := by omega
        clear hb
        go_wp2
        go_round
        case rel => exact ⟨j + 1, bk s, by omega, hbl, by go_num, by rw [HE.out]; go_num, HN⟩
        case measure => simp [intOf]; omega
    · go_wp2
      go_ret
      exact ⟨ret_int (by rw [HS.out, show k - j = 0 by omega]; rfl), rfl⟩

/-! ### slices.Backward -/
theorem grown_of_below {W W' : World} (h : Below W.heap.size W W') (row : Option Nat) : W.grownBy W' row := ⟨h.os, h.tape, h.output, h.size, fun k hk _ => h.block k hk⟩

/-- What a round keeps: all below n0, and the box of the bytes. -/
def Kb (n0 Bs : Nat) (W W' : World) : Prop := Below n0 W W' ∧ W'.heap[Bs]? = W.heap[Bs]?
theorem Kb.t {n0 Bs : Nat} {A B C : World} (h : Kb n0 Bs A B) (k : Kb n0 Bs B C) : Kb n0 Bs A C := ⟨h.1.trans k.1, k.2.trans h.2⟩
theorem Kb.b {n0 Bs : Nat} {w : World} (hn : n0 ≤ w.heap.size) (hB : Bs < w.heap.size) (W : World) (l : Nat) (o o' : Obj) (hl : w.heap.size ≤ l) (h : W.heap[l]? = some o) (h1 : o.isCells = false) (h2 : o.isWalk = false) : Kb n0 Bs W (W.putObj l o') :=
  ⟨belowK_b hn W l o o' hl h h1 h2, World.putObj_heap_other (by omega)⟩

/-- A place and a byte. -/
abbrev VB := { x : Nat × Int // 0 ≤ x.2 ∧ x.2 ≤ 255 }
def vbs (x : VB) : Array Value := #[.int .i64 (x.1.1 : Int), .int .u8 x.1.2]
/-- The last k bytes, from the last on, each with its place. -/
def bq (zs : List Int) (k : Nat) : List (Nat × Int) := (List.range k).map fun j => (zs.length - 1 - j, zs.getD (zs.length - 1 - j) 0)
theorem bq_succ (zs : List Int) (k : Nat) : bq zs (k + 1) = bq zs k ++ [(zs.length - 1 - k, zs.getD (zs.length - 1 - k) 0)] := by
  unfold bq; rw [List.range_succ, List.map_append]; rfl
theorem bq_len (zs : List Int) (k : Nat) : (bq zs k).length = k := by simp [bq]

set_option maxHeartbeats 1000000 in
theorem backward_any (a : Option Addr) (len cap : Nat) (w : World) :
    Calls Try.prog 46 #[.slice a len cap] w fun e w' => e = .returned (.func (.func 48) #[] #[.pointer (some ⟨w.heap.size, 0, none⟩)]) ∧ w' = w.alloc (.cells #[.slice a len cap] 23) := by
  have hmf : ∀ (fn : Fn) (first cap : Array Value) (w : World), (Instr.makeFunc fn first cap).run Try.prog w = .ok (.func fn first cap) w := fun _ _ _ _ => rfl
  go_enter Try.func46, Try.ntmps46
  go_wp2
  go_ret
  exact ⟨rfl, rfl⟩

set_option maxRecDepth 100000 in
set_option maxHeartbeats 1000000 in
theorem back1_in (n : Nat) (hn : 1 ≤ n) (l Bs n0 b off len cap : Nat) (zs : List Int) (hl : zs.length = len) (hm : len ≤ maxLen) (hb : b < n0) (h8 : B8 zs) (J Jx : List VB → World → Prop)
    (W : World)
    (hY : ∀ pre x W, J pre W → pre.length < len → YieldAt Fence.wide (n - 1) Try.prog l (vbs x) W fun e W' =>
      (e = .returned (.bool true) ∧ J (pre ++ [x]) W' ∧ Kb n0 Bs W W') ∨ (e = .returned (.bool false) ∧ Jx (pre ++ [x]) W'))
    (hBs : W.cell? ⟨Bs, 0, none⟩ = some (.slice (some ⟨b, off, none⟩) len cap)) (hc : ∀ j, j < len → W.cell? ⟨b, off + j, none⟩ = some (.int .u8 (zs.getD j 0))) (h0 : J [] W) :
    CallsIn Fence.wide n Try.prog 48 #[.func (.yield l) #[] #[], .pointer (some ⟨Bs, 0, none⟩)] W fun e W' => (∃ v, e = .returned v) ∧
      ((∃ ys : List VB, ys.map (·.1) = bq zs len ∧ J ys W') ∨ (∃ pre : List VB, True ∧ Jx pre W')) := by
  unfold maxLen at hm
  have HC := hide hc
  have HY := hide hY
  clear hc hY
  refine callsIn_of_wp Try.func48 rfl trivial ?_ rfl
  simp only [Try.ntmps48, List.size_toArray, List.length_cons, List.length_nil, Nat.reduceAdd, Nat.reduceSub, Array.replicate_succ, Array.replicate_zero, List.push_toArray, List.append_toArray, List.nil_append, List.cons_append]
  gi_wp2
  gi_loopw [3] (fun i wr => ∃ (k : Nat) (pre : List VB), k ≤ len ∧ i = .int .i64 ((len : Int) - 1 - (k : Int)) ∧ Hid (pre.map (·.1) = bq zs k) ∧ J pre wr ∧ Below n0 W wr ∧ Hid (wr.heap[Bs]? = W.heap[Bs]?))
    (fun i _ => (intOf i + 1).toNat)
  case atStart => exact ⟨0, [], by omega, by go_num, rfl, h0, Below.refl _ _, rfl⟩
  case round =>
    obtain ⟨k, pre, hk, rfl, HS, hJs, hnx, HBX⟩ := hrel
    have hBs' : wr.cell? ⟨Bs, 0, none⟩ = some (.slice (some ⟨b, off, none⟩) len cap) := (World.cell?_of_block (w := W) (w' := wr) (a := ⟨Bs, 0, none⟩) HBX.out).trans hBs
    by_cases hlt : k < len
    · obtain ⟨q, hq⟩ : ∃ q, len = q + 1 + k := ⟨len - 1 - k, by omega⟩
      have e1 : (len : Int) - 1 - (k : Int) = (q : Int) := by omega
      rw [e1]
      have hcell : wr.cell? ⟨b, off + q, none⟩ = some (.int .u8 (zs.getD q 0)) := (hnx.cell (p := ⟨b, off + q, none⟩) hb).trans (HC.out q (by omega))
      have hb8 := h8 (zs.getD q 0) (by rw [List.getD_eq_getElem?_getD, List.getElem?_eq_getElem (by omega)]; exact List.getElem_mem _)
      have hpl : pre.length = k := by
        have := congrArg List.length HS.out
        simpa [bq_len] using this
      have HSQ : Hid ((pre ++ [(⟨(q, zs.getD q 0), hb8.1, hb8.2⟩ : VB)]).map (·.1) = bq zs (k + 1)) := by
        show _ = _
        rw [List.map_append, HS.out, bq_succ, show zs.length - 1 - k = q by omega]
        rfl
      obtain ⟨fn, tmps, assign, body, hy, hR⟩ := HY.out pre ⟨(q, zs.getD q 0), hb8.1, hb8.2⟩ wr hJs (by omega)
      simp only [vbs] at hy
      have g1 : (0 : Int) ≤ (q : Int) := by omega
      have g2 : (q : Int) < (len : Int) := by omega
      have HQ := hide hq
      have e2 : ((len : Int) - 1 - ((k + 1 : Nat) : Int)) = (q : Int) - 1 := by omega
      have HE2 := hide e2
      clear e1 e2 hq
      generalize zs.getD q 0 = c at *
      gi_wp2
      refine hR.mono ?_
      rintro e W3 (⟨rfl, hJ3, hk3⟩ | ⟨rfl, hJx3⟩)
      · gi_wp2
        go_roundw
        case rel => exact ⟨k + 1, _, by omega, by rw [HE2.out], HSQ, hJ3, hnx.trans hk3.1, hk3.2.trans HBX.out⟩
        case measure => simp [intOf]
      · gi_wp2
        refine bodyPost_ret (results_none rfl _ _ _) rfl ?_
        exact ⟨⟨_, rfl⟩, .inr ⟨_, trivial, hJx3⟩⟩
    · obtain rfl : k = len := by omega
      have e1 : (k : Int) - 1 - (k : Int) = -1 := by omega
      rw [e1]
      clear e1 hBs'
      gi_wp2
      refine bodyPost_end (results_none rfl _ _ _) rfl ?_
      exact ⟨⟨_, rfl⟩, .inl ⟨pre, HS.out, hJs⟩⟩

set_option maxRecDepth 100000 in
set_option maxHeartbeats 1000000 in
/-- .. of no bytes: no round. -/
theorem back1_nothing_in (n : Nat) (l Bs cap : Nat) (a : Option Addr) (J : List VB → World → Prop) (W : World) (hBs : W.cell? ⟨Bs, 0, none⟩ = some (.slice a 0 cap)) (h0 : J [] W) :
    CallsIn Fence.wide n Try.prog 48 #[.func (.yield l) #[] #[], .pointer (some ⟨Bs, 0, none⟩)] W fun e W' => (∃ v, e = .returned v) ∧ J [] W' := by
  refine callsIn_of_wp Try.func48 rfl trivial ?_ rfl
  simp only [Try.ntmps48, List.size_toArray, List.length_cons, List.length_nil, Nat.reduceAdd, Nat.reduceSub, Array.replicate_succ, Array.replicate_zero, List.push_toArray, List.append_toArray, List.nil_append, List.cons_append]
  gi_wp2
  gi_loopw [3] (fun i wr => i = .int .i64 (-1) ∧ wr = W) (fun _ _ => 0)
  case atStart => exact ⟨rfl, rfl⟩
  case round =>
    obtain ⟨rfl, rfl⟩ := hrel
    gi_wp2
    refine bodyPost_end (results_none rfl _ _ _) rfl ?_
    exact ⟨⟨_, rfl⟩, h0⟩

/-- What Backward hands back goes through all the bytes from the last on. -/
theorem back_stops (n : Nat) (hn : 1 ≤ n) (Bs n0 len cap : Nat) (a : Option Addr) (zs : List Int) (hl : zs.length = len) (hm : len ≤ maxLen) (h8 : B8 zs) (w : World) (hBs : Bs < w.heap.size)
    (hc : w.cell? ⟨Bs, 0, none⟩ = some (.slice a len cap)) (hr : Row w .u8 a zs) (hlt : ∀ x, a = some x → 0 < len → x.block < n0) :
    SeqStopsK Fence.wide n Try.prog 48 #[.pointer (some ⟨Bs, 0, none⟩)] vbs (Kb n0 Bs) (fun ys => ys.map (·.1) = bq zs len) (fun _ => True) len w := fun l J Jx W hW _ _ hY h0 => by
  have hc' := (hW.cell (p := ⟨Bs, 0, none⟩) (by show Bs < _; omega)).trans hc
  by_cases hz : len = 0
  · subst hz
    have hz' : zs = [] := List.eq_nil_of_length_eq_zero hl
    subst hz'
    exact (back1_nothing_in n l Bs cap a J W hc' h0).mono fun e W' ⟨he, hj⟩ => ⟨he, .inl ⟨[], rfl, hj⟩⟩
  · have hr' := hr.below2 hW
    obtain ⟨b, off, rfl, hb, hcs⟩ := hr'.cons (by omega)
    exact back1_in n hn l Bs n0 b off len cap zs hl hm (hlt _ rfl (by omega)) h8 J Jx W hY hc' (by rw [← hl]; exact hcs) h0

/-! ### comeOut -/
def outL : Nat → List (Nat × Int) → Nat
  | r, [] => r
  | r, x :: t => outL (bkn 8 r ^^^ x.2.toNat) t
theorem outL_snoc : ∀ (l : List (Nat × Int)) (r : Nat) (x : Nat × Int), outL r (l ++ [x]) = bkn 8 (outL r l) ^^^ x.2.toNat
  | [], r, x => by rw [List.nil_append, outL, outL, outL]
  | y :: t, r, x => by rw [List.cons_append, outL, outL_snoc t, outL]
theorem outL_lt : ∀ (l : List VB) {r : Nat}, r < 4294967296 → outL r (l.map (·.1)) < 4294967296
  | [], _, h => h
  | x :: t, r, h => by
    rw [List.map_cons, outL]
    exact outL_lt t (xor_lt (bkn_lt 8 h) (by have := x.2; omega))
theorem outL_bq (zs : List Int) (r : Nat) : ∀ k, k ≤ zs.length → outL r (bq zs k) = outR r (zs.drop (zs.length - k))
  | 0, _ => by
    rw [Nat.sub_zero, List.drop_length]
    rfl
  | k + 1, hk => by
    rw [bq_succ, outL_snoc, outL_bq zs r k (by omega)]
    have e : zs.length - k = (zs.length - (k + 1)) + 1 := by omega
    rw [getD_drop zs (zs.length - (k + 1)) (by omega), outR_cons, e, show zs.length - 1 - k = zs.length - (k + 1) by omega]
theorem outL_all (zs : List Int) (r : Nat) : outL r (bq zs zs.length) = outR r zs := by
  rw [outL_bq zs r zs.length (Nat.le_refl _), Nat.sub_self, List.drop_zero]
theorem row_lt {w : World} {k : IntKind} {a : Option Addr} {zs : List Int} (h : Row w k a zs) {x : Addr} (hx : a = some x) (hp : 0 < zs.length) : x.block < w.heap.size := by
  obtain ⟨b, off, ha, hb, _⟩ := h.cons hp
  rw [hx] at ha
  cases ha
  exact hb

set_option maxRecDepth 100000 in
set_option maxHeartbeats 1000000 in
theorem comeOut_in (n : Nat) (hn : 5 ≤ n) (r : Nat) (a : Option Addr) (len cap : Nat) (zs : List Int) (w : World) (hr0 : r < 4294967296) (hl : zs.length = len) (hm : len ≤ maxLen) (h8 : B8 zs) (hr : Row w .u8 a zs) :
    CallsIn Fence.wide n Try.prog 37 #[.int .u32 r, .slice a len cap] w fun e w' => e = .returned (.int .u32 (outR r zs : Nat)) ∧ Below w.heap.size w w' := by
  have h1 : 1 ≤ n := by omega
  have HR := hide hr
  clear hr
  refine callsIn_of_wp_marks Try.func37 rfl trivial ?_ rfl
  simp only [Try.ntmps37, List.size_toArray, List.length_cons, List.length_nil, Nat.reduceAdd, Nat.reduceSub, Array.replicate_succ, Array.replicate_zero, List.push_toArray, List.append_toArray, List.nil_append, List.cons_append]
  gi_wp2
  refine ⟨trivial, ((callsIn_wide (n := n - 1)).2 (backward_any a len cap _)).mono ?_⟩
  rintro e w' ⟨rfl, rfl⟩
  gi_wp2
  have bO := (Boxed.new w 24 (.int .u32 (r : Int))).alloc (.cells #[.slice a len cap] 23)
  have bB := Boxed.new (w.alloc (.cells #[.int .u32 (r : Int)] 24)) 23 (.slice a len cap)
  rw [World.size_alloc] at bB
  have hB0 : Below w.heap.size w ((w.alloc (.cells #[.int .u32 (r : Int)] 24)).alloc (.cells #[.slice a len cap] 23)) := ((Below.refl _ w).alloc (Nat.le_refl _) _).alloc (by simp) _
  refine wpIn_rangeFunc_ownG rfl h1 (gf := 48) (lb := #[.pointer (some ⟨w.heap.size + 1, 0, none⟩)]) rfl trivial (enters_of Try.func48 (by kernel_rfl) rfl)
    (back_stops (n - 1) (by omega) (w.heap.size + 1) w.heap.size len cap a zs hl hm h8 _ (by simp) bB.cell (HR.out.below2 hB0) (fun x hx hp => row_lt HR.out hx (by omega)))
    Kb.t (Kb.b (by simp; omega) (by simp)) (Below.refl _ _) (fun _ => rfl)
    (fun pre W => (Boxed W w.heap.size 24 (.int .u32 (outL r (pre.map (·.1)) : Nat)) ∧ Boxed W (w.heap.size + 1) 23 (.slice a len cap)) ∧ Below w.heap.size w W)
    (fun _ _ _ => False)
    (OwnFrom.and (OwnFrom.and (Own.from (boxed_own _ _ _) _) (Own.from (boxed_own _ _ (fun _ => .slice a len cap)) _)) (ownFrom_below (Nat.le_refl _) (by simp; omega)))
    (fun _ _ _ _ _ hs _ _ => hs)
    ⟨⟨bO, bB⟩, hB0⟩
    (fun x => { tmps := #[.int .u32 (r : Int), .slice a len cap, .pointer (some ⟨w.heap.size, 0, none⟩), undef, .int .u32 0, undef, .int .u8 x.1.2, .slice a len cap, .func (.func 48) #[] #[.pointer (some ⟨w.heap.size + 1, 0, none⟩)], .int .i64 (x.1.1 : Int), .int .u8 x.1.2,
      undef, undef, undef, undef, undef, undef], defers := [] }) ?assign ?body ?done ?stop
  case assign =>
    intro l x W K hK
    simp only [vbs]
    gi_wp2
    exact hK
  case body =>
    rintro l pre x W ⟨⟨hv, hvB⟩, hB⟩ hlt
    have hx := x.2
    have ho := outL_lt pre hr0
    have HE : Hid (outL r ((pre ++ [x]).map (·.1)) = bkn 8 (outL r (pre.map (·.1))) ^^^ x.1.2.toNat) := by
      show _ = _
      rw [List.map_append]; exact outL_snoc _ _ _
    generalize outL r (pre.map (·.1)) = s at *
    have hc := hv.cell
    have hf := hv.frozen
    have HST := hide (stepsBack_any s 8 W ho (by omega))
    have hxb := xor_byte (bkn_lt 8 ho) hx.1 hx.2
    generalize bkn 8 s = t at *
    gi_wp2
    refine ⟨trivial, fun _ => by omega, (CallsIn.inRound l ((callsIn_wide (n := n - 1 - 1 - 1)).2 HST.out)).mono ?_⟩
    rintro e w2 ⟨rfl, hw2⟩
    have hw2' := hw2.symm
    subst hw2'
    gi_wp2
    have hvB2 := hvB.other (B' := w.heap.size) (by omega) (.int .u32 ((t ^^^ x.1.2.toNat : Nat) : Int))
    refine ⟨(KeepsOthers.setCell _ _ _).from _, ⟨(Below.refl _ W).setCell (p := ⟨w.heap.size, 0, none⟩) (by simp) _, (show _ = _ from hvB2).trans (show _ = _ from hvB).symm⟩, ⟨?_, hvB2⟩, hB.setCell (p := ⟨w.heap.size, 0, none⟩) (by simp) _⟩
    rw [HE.out]
    exact hv.set _
  case done =>
    rintro D ys W hD hys ⟨⟨hv, hvB⟩, hB⟩ hK
    have HE : Hid (outL r (ys.map (·.1)) = outR r zs) := by
      show _ = _
      rw [hys, ← hl, outL_all]
    rw [HE.out] at hv
    have hc := hv.cell
    clear hys hv
    gi_wp2
    refine ⟨by simp, .inl ⟨_, _, rfl, run_takeDeferred hK, ?_⟩⟩
    exact ⟨_, results_tmp rfl _ _ _, rfl, hB.trans (belowK_b (w := w) (Nat.le_refl _) W D _ _ (by simp at hD; omega) hK rfl rfl)⟩
  case stop =>
    rintro D c pre W _ _ h _
    exact h.elim

theorem comeOut_any (r : Nat) (a : Option Addr) (len cap : Nat) (zs : List Int) (w : World) (hr0 : r < 4294967296) (hl : zs.length = len) (hm : len ≤ maxLen) (h8 : B8 zs) (hr : Row w .u8 a zs) :
    Calls Try.prog 37 #[.int .u32 r, .slice a len cap] w fun e w' => e = .returned (.int .u32 (outR r zs : Nat)) ∧ Below w.heap.size w w' :=
  callsIn_wide.1 (comeOut_in 5 (Nat.le_refl _) r a len cap zs w hr0 hl hm h8 hr)

end Go.Proofs.Ytbjlpeophklmlaa
