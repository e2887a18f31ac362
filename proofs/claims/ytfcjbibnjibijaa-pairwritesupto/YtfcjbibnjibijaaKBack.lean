/- slices.Backward over bytes: a range over it. -/
import Derived.RangeFuncBox
import Derived.RangeFuncNested
import Derived.RangeFuncBound
import Derived.RangeFuncCalls
import Derived.RangeFuncLeaves
import Derived.Shelf.Abstract
import Derived.Shelf.RegionOpen
import Derived.WalkKit
import Derived.OwnWalkIn
import Derived.TacticsInMore
import Derived.LoopNIn
import Derived.LoopIn
import Derived.Maps.AppendAt
import Derived.Test.YtfcjbibnjibijaaPUpd
import Derived.Test.YtfcjbibnjibijaaKBetw
namespace Go.Proofs.Ytfcjbibnjibijaa
open Go.RowKit Go.Shelf
attribute [local go_sem] Oper.semAt_some

/-- A place and a byte. -/
def vbw (x : Nat × Int) : Array Value := #[.int .i64 (x.1 : Int), .int .u8 x.2]
/-- The last k bytes, from the last on, each with its place. -/
def bq (zs : List Int) (k : Nat) : List (Nat × Int) := (List.range k).map fun j => (zs.length - 1 - j, zs.getD (zs.length - 1 - j) 0)
theorem bq_succ (zs : List Int) (k : Nat) : bq zs (k + 1) = bq zs k ++ [(zs.length - 1 - k, zs.getD (zs.length - 1 - k) 0)] := by
  unfold bq; rw [List.range_succ, List.map_append]; rfl
theorem bq_len (zs : List Int) (k : Nat) : (bq zs k).length = k := by simp [bq]
theorem bq_mem (zs : List Int) (k j : Nat) (hj : j < k) : (zs.length - 1 - j, zs.getD (zs.length - 1 - j) 0) ∈ bq zs k := by
  unfold bq
  exact List.mem_map.2 ⟨j, List.mem_range.2 hj, rfl⟩

/-- A box of one cell. -/
def Bx (W : World) (g : Nat) (t : TypeId) (v : Value) : Prop := W.heap[g]? = some (.cells #[v] t (0, 0))
theorem Bx.cell {W : World} {g : Nat} {t : TypeId} {v : Value} (h : Bx W g t v) : W.cell? ⟨g, 0, none⟩ = some v := by rw [cell_of_row _ _ _ _ _ _ h]; rfl
theorem Bx.fr {W : World} {g : Nat} {t : TypeId} {v : Value} (h : Bx W g t v) : W.frozen? ⟨g, 0, none⟩ = false := by unfold Bx at h; simp [World.frozen?, h]
theorem Bx.upd {S : Nat → Prop} {W W' : World} {g : Nat} {t : TypeId} {v : Value} (h : Bx W g t v) (hu : Upd S W W') (hs : ¬ S g) : Bx W' g t v := hu.heap h hs
theorem Bx.set {W : World} {g : Nat} {t : TypeId} {v : Value} (h : Bx W g t v) (v' : Value) : Bx (W.setCell ⟨g, 0, none⟩ v') g t v' := block_setCell h 0 v'
theorem Bx.set' {W : World} {g g' : Nat} {t : TypeId} {v : Value} (h : Bx W g t v) (hne : g ≠ g') (v' : Value) : Bx (W.setCell ⟨g', 0, none⟩ v') g t v := (Below.heap_setCell _ _ _ _ hne).trans h
theorem Bx.lt {W : World} {g : Nat} {t : TypeId} {v : Value} (h : Bx W g t v) : g < W.heap.size := lt_of_block h
theorem Bx.new (W : World) (t : TypeId) (v : Value) : Bx (W.alloc (.cells #[v] t)) W.heap.size t v := heap_alloc_new W _
theorem Bx.alloc {W : World} {g : Nat} {t : TypeId} {v : Value} (h : Bx W g t v) (o : Obj) : Bx (W.alloc o) g t v := (Below.heap_alloc _ _ _ h.lt).trans h

set_option maxHeartbeats 1000000 in
theorem backward_any (a : Option Addr) (len cap : Nat) (w : World) :
    Calls Try.prog 48 #[.slice a len cap] w fun e w' => e = .returned (.func (.func 56) #[] #[.pointer (some ⟨w.heap.size, 0, none⟩)]) ∧ w' = w.alloc (.cells #[.slice a len cap] 23) := by
  have hmf : ∀ (fn : Fn) (first cap : Array Value) (w : World), (Instr.makeFunc fn first cap).run Try.prog w = .ok (.func fn first cap) w := fun _ _ _ _ => rfl
  go_enter Try.func48, Try.ntmps48
  go_wp2
  go_ret
  exact ⟨rfl, rfl⟩

/-- What is told of the next byte. -/
def BkD (zs : List Int) (pre : List (Nat × Int)) (x : Nat × Int) : Prop := pre.length < zs.length ∧ pre = bq zs pre.length ∧ x = (zs.length - 1 - pre.length, zs.getD (zs.length - 1 - pre.length) 0)

set_option maxRecDepth 100000 in
set_option maxHeartbeats 1000000 in
theorem back_seq (n : Nat) (hn : 1 ≤ n) (Bs b off len cap : Nat) (zs : List Int) (hl : zs.length = len) (hm : len ≤ maxLen) (w : World)
    (hBs : w.cell? ⟨Bs, 0, none⟩ = some (.slice (some ⟨b, off, none⟩) len cap)) (hc : ∀ j, j < len → w.cell? ⟨b, off + j, none⟩ = some (.int .u8 (zs.getD j 0))) :
    SeqW Fence.wide n Try.prog 56 #[.pointer (some ⟨Bs, 0, none⟩)] vbw Noth (fun k => k = Bs ∨ k = b) (fun pre x _ _ => BkD zs pre x) (fun xs _ => xs = bq zs len) w := fun l J Jx W hu hY h0 => by
  have hBs0 := hu.cell hBs (fun e => e)
  have HC : Hid (∀ j, j < len → W.cell? ⟨b, off + j, none⟩ = some (.int .u8 (zs.getD j 0))) := fun j hj => hu.cell (hc j hj) (fun e => e)
  have HY := hide hY
  clear hc hY hBs hu
  unfold maxLen at hm
  refine callsIn_of_wp Try.func56 rfl trivial ?_ rfl
  simp only [Try.ntmps56, List.size_toArray, List.length_cons, List.length_nil, Nat.reduceAdd, Nat.reduceSub, Array.replicate_succ, Array.replicate_zero, List.push_toArray, List.append_toArray, List.nil_append, List.cons_append]
  gi_wp2
  gi_loopw [3] (fun i wr => ∃ (k : Nat) (pre : List (Nat × Int)), k ≤ len ∧ i = .int .i64 ((len : Int) - 1 - (k : Int)) ∧ Hid (pre = bq zs k) ∧ J pre wr ∧ Hid (Upd (fun k => ¬ (k = Bs ∨ k = b)) W wr))
    (fun i _ => (intOf i + 1).toNat)
  case atStart => exact ⟨0, [], by omega, by go_num, rfl, h0, Upd.refl _ _⟩
  case round =>
    obtain ⟨k, pre, hk, rfl, HS, hJs, HU⟩ := hrel
    have hBs' : wr.cell? ⟨Bs, 0, none⟩ = some (.slice (some ⟨b, off, none⟩) len cap) := HU.out.cell hBs0 (fun e => e (.inl rfl))
    by_cases hlt : k < len
    · obtain ⟨q, hq⟩ : ∃ q, len = q + 1 + k := ⟨len - 1 - k, by omega⟩
      have e1 : (len : Int) - 1 - (k : Int) = (q : Int) := by omega
      rw [e1]
      have hcell : wr.cell? ⟨b, off + q, none⟩ = some (.int .u8 (zs.getD q 0)) := HU.out.cell (HC.out q (by omega)) (fun e => e (.inr rfl))
      have hpl : pre.length = k := by rw [HS.out, bq_len]
      have HSQ : Hid (pre ++ [(q, zs.getD q 0)] = bq zs (k + 1)) := by
        show _ = _
        rw [HS.out, bq_succ, show zs.length - 1 - k = q by omega]
      obtain ⟨fn, tmps, assign, body, hy, hR⟩ := HY.out pre (q, zs.getD q 0) wr wr hJs (Upd.refl _ _) ⟨by omega, by rw [hpl]; exact HS.out, by rw [hpl, show zs.length - 1 - k = q by omega]⟩
      simp only [vbw] at hy
      have g1 : (0 : Int) ≤ (q : Int) := by omega
      have g2 : (q : Int) < (len : Int) := by omega
      have HQ := hide hq
      have e2 : ((len : Int) - 1 - ((k + 1 : Nat) : Int)) = (q : Int) - 1 := by omega
      have HE2 := hide e2
      clear e1 e2 hq
      generalize zs.getD q 0 = c at *
      gi_wp2
      refine hR.mono ?_
      rintro e W3 (⟨rfl, hJ3, hk3⟩ | ⟨rfl, hJx3⟩)
      · gi_wp2
        go_roundw
        case rel => exact ⟨k + 1, _, by omega, by rw [HE2.out], HSQ, hJ3, HU.out.trans hk3⟩
        case measure => simp [intOf]
      · gi_wp2
        refine bodyPost_ret (results_none rfl _ _ _) rfl ?_
        exact ⟨⟨_, rfl⟩, .inr ⟨_, hJx3⟩⟩
    · obtain rfl : k = len := by omega
      have e1 : (k : Int) - 1 - (k : Int) = -1 := by omega
      rw [e1]
      clear e1 hBs'
      gi_wp2
      refine bodyPost_end (results_none rfl _ _ _) rfl ?_
      exact ⟨⟨_, rfl⟩, .inl ⟨pre, _, hJs, Upd.refl _ _, HS.out⟩⟩

end Go.Proofs.Ytfcjbibnjibijaa
