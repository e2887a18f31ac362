/- What All hands back: a function that goes through the numbers, each with its place. -/
import Derived.RangeFuncBox
import Derived.RangeFuncNested
import Derived.RangeFuncBound
import Derived.RangeFuncCalls
import Derived.RangeFuncLeaves
import Derived.Shelf.Abstract
import Derived.Shelf.RegionOpen
import Derived.WalkKit
import Derived.OwnWalkIn
import Derived.TacticsInMore
import Derived.LoopNIn
import Derived.LoopIn
import Derived.Maps.AppendAt
import Derived.Test.YtlphpcacngimhaaSeq
import Derived.Test.YtlphpcacngimhaaRead
import Derived.Test.YtlphpcacngimhaaApart0
namespace Go.Proofs.Ytlphpcacngimhaa
open Go.RowKit Go.Shelf
attribute [local go_sem] Oper.semAt_some

theorem grown_of_below {W W' : World} (h : Below W.heap.size W W') (row : Option Nat) : W.grownBy W' row := ⟨h.os, h.tape, h.output, h.size, fun k hk _ => h.block k hk⟩

/-- What a round keeps: all below n0, and the box of the bytes. -/
def Kb (n0 Bs : Nat) (W W' : World) : Prop := Below n0 W W' ∧ W'.heap[Bs]? = W.heap[Bs]?
theorem Kb.t {n0 Bs : Nat} {A B C : World} (h : Kb n0 Bs A B) (k : Kb n0 Bs B C) : Kb n0 Bs A C := ⟨h.1.trans k.1, k.2.trans h.2⟩
theorem Kb.b {n0 Bs : Nat} {w : World} (hn : n0 ≤ w.heap.size) (hB : Bs < w.heap.size) (W : World) (l : Nat) (o o' : Obj) (hl : w.heap.size ≤ l) (h : W.heap[l]? = some o) (h1 : o.isCells = false) (h2 : o.isWalk = false) : Kb n0 Bs W (W.putObj l o') :=
  ⟨belowK_b hn W l o o' hl h h1 h2, World.putObj_heap_other (by omega)⟩

/-- What yield is handed. -/
def vxs (x : VX) : Array Value := #[.int .i64 (x.1.1 : Int), .int .u64 (x.1.2 : Int)]

set_option maxRecDepth 100000 in
set_option maxHeartbeats 1000000 in
theorem all1_in (n : Nat) (hn : 1 ≤ n) (l Bs n0 b off len cap : Nat) (zs : List Int) (hl : zs.length = len) (hm : len ≤ 1125899906842624) (hb : b < n0) (h8 : ∀ c ∈ zs, 0 ≤ c ∧ c ≤ 255) (N : Nat) (hN : (seq zs).length ≤ N) (J Jx : List VX → World → Prop)
    (W : World) (hn0 : n0 ≤ W.heap.size) (hBn : Bs < W.heap.size) (hJ : AbidesFrom W.heap.size J)
    (hY : ∀ pre x W, J pre W → pre.length < N → YieldAt Fence.wide (n - 1) Try.prog l (vxs x) W fun e W' =>
      (e = .returned (.bool true) ∧ J (pre ++ [x]) W' ∧ Kb n0 Bs W W') ∨ (e = .returned (.bool false) ∧ Jx (pre ++ [x]) W'))
    (hBs : W.cell? ⟨Bs, 0, none⟩ = some (.slice (some ⟨b, off, none⟩) len cap)) (hc : ∀ j, j < len → W.cell? ⟨b, off + j, none⟩ = some (.int .u8 (zs.getD j 0))) (h0 : J [] W) :
    CallsIn Fence.wide n Try.prog 32 #[.func (.yield l) #[] #[], .pointer (some ⟨Bs, 0, none⟩)] W fun e W' => (∃ v, e = .returned v) ∧
      ((∃ ys : List VX, ys.map (·.1) = seq zs ∧ J ys W') ∨ (∃ pre : List VX, pre.map (·.1) <+: seq zs ∧ Jx pre W')) := by
  have h8' := fits8_of_mem h8
  have HC := hide hc
  have HY := hide hY
  have HJ := hide hJ
  clear hc hY hJ
  refine callsIn_of_wp Try.func32 rfl trivial ?_ rfl
  simp only [Try.ntmps32, List.size_toArray, List.length_cons, List.length_nil, Nat.reduceAdd, Nat.reduceSub, Array.replicate_succ, Array.replicate_zero, List.push_toArray, List.append_toArray, List.nil_append, List.cons_append]
  gi_wp2
  gi_loopw [3] (fun i wr => ∃ (p : Nat) (f : Nat) (pre : List VX), p ≤ len ∧ len < f + p ∧ i = .int .i64 (p : Int) ∧ Hid (pre.map (·.1) ++ seqF zs f p = seq zs) ∧ J pre wr ∧ Below n0 W wr ∧ Hid (wr.heap[Bs]? = W.heap[Bs]?))
    (fun i _ => len - (intOf i).toNat)
  case atStart => exact ⟨0, zs.length + 1, [], by omega, by omega, rfl, rfl, h0, Below.refl _ _, rfl⟩
  case round =>
    obtain ⟨p, f, pre, hp, hf, rfl, HS, hJs, hnx, HBX⟩ := hrel
    have hBs' : wr.cell? ⟨Bs, 0, none⟩ = some (.slice (some ⟨b, off, none⟩) len cap) := (World.cell?_of_block (w := W) (w' := wr) (a := ⟨Bs, 0, none⟩) HBX.out).trans hBs
    have hsz := hnx.size
    have hrd := read_some b off len cap p zs wr hl (by unfold maxLen; omega) hp (by omega) (fun i hi => (hnx.cell (p := ⟨b, off + i, none⟩) hb).trans (HC.out i hi)) h8'
    have hb0 := scan_bound0 (zs.drop p) (fun c hc => h8 c (List.mem_of_mem_drop hc))
    rw [List.length_drop] at hb0
    obtain ⟨f, rfl⟩ : ∃ g, f = g + 1 := ⟨f - 1, by omega⟩
    have hsq := HS.out
    rw [seqF] at hsq
    generalize scan 0 0 (zs.drop p) = r at *
    obtain ⟨rn, rm, re⟩ := r
    dsimp only at *
    obtain ⟨M, rfl⟩ := Int.eq_ofNat_of_zero_le hb0.1
    have HRD := hide ((callsIn_wide (n := n - 1)).2 hrd)
    clear hrd
    have hadd : (p : Int) + (rm : Int) = ((p + rm : Nat) : Int) := by omega
    rw [hadd] at HRD
    clear hadd
    by_cases he : re = 0
    · subst he
      rw [if_pos rfl, Int.toNat_natCast] at hsq
      have h1 := hb0.2.2.2 rfl
      have hmem : pre.length < N := by
        have := congrArg List.length hsq
        simp at this
        omega
      have HSQ : Hid ((pre ++ [(⟨(p, M), by omega, by omega⟩ : VX)]).map (·.1) ++ seqF zs f (p + rm) = seq zs) := by
        show _ = _
        rw [← hsq]; simp
      clear hsq
      gi_wp2
      refine ⟨trivial, HRD.out.mono ?_⟩
      rintro e w3 ⟨rfl, hb3⟩
      obtain ⟨fn, tmps, assign, body, hy, hR⟩ := HY.out pre ⟨(p, M), by omega, by omega⟩ w3 (HJ.out _ _ _ none hJs (grown_of_below hb3 none) (fun r e => by cases e)) hmem
      simp only [vxs] at hy
      have hnx3 : Below n0 W w3 := hnx.trans (hb3.mono (by omega))
      clear HRD hBs'
      gi_wp2
      refine hR.mono ?_
      rintro e W3 (⟨rfl, hJ3, hk3⟩ | ⟨rfl, hJx3⟩)
      · gi_wp2
        go_roundw
        case rel => exact ⟨p + rm, f, _, by omega, by omega, rfl, HSQ, hJ3, hnx3.trans hk3.1, hk3.2.trans ((hb3.block Bs (by omega)).trans HBX.out)⟩
        case measure => simp [intOf]; omega
      · gi_wp2
        refine bodyPost_ret (results_none rfl _ _ _) rfl ?_
        exact ⟨⟨_, rfl⟩, .inr ⟨_, ⟨_, HSQ.out⟩, hJx3⟩⟩
    · rw [if_neg he, List.append_nil] at hsq
      have HSQ := hide hsq
      have heb : (re != 0) = true := by simpa using he
      clear hsq he
      gi_wp2
      refine ⟨trivial, HRD.out.mono ?_⟩
      rintro e w3 ⟨rfl, hb3⟩
      gi_wp2
      refine ⟨fun _ h => (by cases h), ?_⟩
      gi_wp2
      refine bodyPost_ret (results_none rfl _ _ _) rfl ?_
      exact ⟨⟨_, rfl⟩, .inl ⟨pre, HSQ.out, HJ.out _ _ _ none hJs (grown_of_below hb3 none) (fun r e => by cases e)⟩⟩

set_option maxRecDepth 100000 in
set_option maxHeartbeats 1000000 in
/-- .. of no bytes: no round. -/
theorem all1_nothing_in (n : Nat) (hn : 1 ≤ n) (l Bs cap : Nat) (a : Option Addr) (J : List VX → World → Prop) (W : World) (hJ : AbidesFrom W.heap.size J) (hBs : W.cell? ⟨Bs, 0, none⟩ = some (.slice a 0 cap)) (h0 : J [] W) :
    CallsIn Fence.wide n Try.prog 32 #[.func (.yield l) #[] #[], .pointer (some ⟨Bs, 0, none⟩)] W fun e W' => (∃ v, e = .returned v) ∧ J [] W' := by
  have HRD := hide ((callsIn_wide (n := n - 1)).2 (read_nothing a cap W))
  have HJ := hide hJ
  clear hJ
  refine callsIn_of_wp Try.func32 rfl trivial ?_ rfl
  simp only [Try.ntmps32, List.size_toArray, List.length_cons, List.length_nil, Nat.reduceAdd, Nat.reduceSub, Array.replicate_succ, Array.replicate_zero, List.push_toArray, List.append_toArray, List.nil_append, List.cons_append]
  gi_wp2
  gi_loopw [3] (fun i wr => i = .int .i64 0 ∧ wr = W) (fun _ _ => 0)
  case atStart => exact ⟨rfl, rfl⟩
  case round =>
    obtain ⟨rfl, rfl⟩ := hrel
    gi_wp2
    refine ⟨trivial, HRD.out.mono ?_⟩
    rintro e w3 ⟨rfl, hb3⟩
    gi_wp2
    refine ⟨fun _ h => (by cases h), ?_⟩
    gi_wp2
    refine bodyPost_ret (results_none rfl _ _ _) rfl ?_
    exact ⟨⟨_, rfl⟩, HJ.out _ _ _ none h0 (grown_of_below hb3 none) (fun r e => by cases e)⟩

set_option maxHeartbeats 1000000 in
/-- All: the bytes' slice is boxed; the function captures the box. -/
theorem all_in (a : Option Addr) (len cap : Nat) (w : World) :
    Calls Try.prog 23 #[.slice a len cap] w fun e w' => e = .returned (.func (.func 32) #[] #[.pointer (some ⟨w.heap.size, 0, none⟩)]) ∧ w' = w.alloc (.cells #[.slice a len cap] 23) := by
  have hmf : ∀ (fn : Fn) (first cap : Array Value) (w : World), (Instr.makeFunc fn first cap).run Try.prog w = .ok (.func fn first cap) w := fun _ _ _ _ => rfl
  go_enter Try.func23, Try.ntmps23
  go_wp2
  go_ret
  exact ⟨rfl, rfl⟩

/-- What All hands back goes through all the numbers, or through the first of them. -/
theorem all_stops (n : Nat) (hn : 1 ≤ n) (Bs n0 len cap : Nat) (a : Option Addr) (zs : List Int) (hl : zs.length = len) (hm : len ≤ 1125899906842624) (h8 : ∀ c ∈ zs, 0 ≤ c ∧ c ≤ 255) (w : World) (hBs : Bs < w.heap.size) (hn0 : n0 ≤ w.heap.size) (N : Nat) (hN : (seq zs).length ≤ N)
    (hc : w.cell? ⟨Bs, 0, none⟩ = some (.slice a len cap)) (hr : Row w .u8 a zs) (hlt : ∀ x, a = some x → 0 < len → x.block < n0) :
    SeqStopsK Fence.wide n Try.prog 32 #[.pointer (some ⟨Bs, 0, none⟩)] vxs (Kb n0 Bs) (fun ys => ys.map (·.1) = seq zs) (fun pre => pre.map (·.1) <+: seq zs) N w := fun l J Jx W hW hJ _ hY h0 => by
  have hc' := (hW.cell (p := ⟨Bs, 0, none⟩) (by show Bs < _; omega)).trans hc
  by_cases hz : len = 0
  · subst hz
    have hz' : zs = [] := List.eq_nil_of_length_eq_zero hl
    subst hz'
    exact (all1_nothing_in n hn l Bs cap a J W hJ hc' h0).mono fun e W' ⟨he, hj⟩ => ⟨he, .inl ⟨[], rfl, hj⟩⟩
  · have hr' := hr.below2 hW
    obtain ⟨b, off, rfl, hb, hcs⟩ := hr'.cons (by omega)
    exact all1_in n hn l Bs n0 b off len cap zs hl hm (hlt _ rfl (by omega)) h8 N hN J Jx W (by have := hW.size; omega) (by have := hW.size; omega) hJ hY hc' (by rw [← hl]; exact hcs) h0

end Go.Proofs.Ytlphpcacngimhaa
