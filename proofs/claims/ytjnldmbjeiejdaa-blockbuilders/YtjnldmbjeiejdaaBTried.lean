/- block: giving up, and being tried. -/
import Derived.Test.YtjnldmbjeiejdaaBAdd
import Derived.Recover
import Derived.Laws.Pointers
namespace Go.Proofs.Ytjnldmbjeiejdaa
open Go.RowKit

theorem run_ta (v : Value) (w : World) : (Instr.typeAssert (.iface 69 v) 20 69 true).run Try.prog w = .ok (.tuple #[v, .bool true]) w := by
  simp [Instr.typeAssert, go_sem]
/-- What is given up with. -/
def flt (e : Int) (p : Int) : Value := .iface 69 (.agg #[.int .i64 e, .int .i64 p])
def fallen (e : Int) (p : Int) : Ending := .panicked [{ v := flt e p, recovered := false }]

set_option maxHeartbeats 400000 in
theorem giveUp_any (e p : Int) (w : World) :
    Calls Try.prog 68 #[.int .i64 e, .int .i64 p] w fun r w' => r = fallen e p ∧ w' = w := by
  go_enter Try.func68, Try.ntmps68
  go_wp2
  exact ⟨rfl, rfl, rfl⟩

theorem catch_idle (p : Addr) (w : World) :
    CallsD Try.prog 65 #[.pointer (some p)] .returning w fun e u' w' => e = .returned (.tuple #[]) ∧ u' = .returning ∧ w' = w := by
  refine callsD_of_wpS Try.func65 rfl fun c₀ cs hu => ?_
  apply wpS_seq
  apply wpS_region
  simp [wpOpsS, go_sem, recoverD, hu, Try.ntmps65, Exit.thenS]
  refine wpS_of_wp ?_
  simp only [Array.replicate_succ, Array.replicate_zero, List.push_toArray, List.append_toArray, List.nil_append, List.cons_append, List.setIfInBounds_toArray, List.set_cons_succ, List.set_cons_zero]
  go_wp2
  cases c₀
  simp_all [bodyPostS, results, Try.results65]

set_option maxRecDepth 100000 in
set_option maxHeartbeats 400000 in
theorem catch_fallen (g : Nat) (e p : Int) (older : List PanicEntry) (w : World) (x y : Value) (hg : w.heap[g]? = some (.cells #[x, y] 69 (0, 0))) :
    CallsD Try.prog 65 #[.pointer (some ⟨g, 0, none⟩)] (.panicking ({ v := flt e p, recovered := false } :: older)) w fun r u' w' =>
      r = .returned (.tuple #[]) ∧ u' = .panicking ({ v := flt e p, recovered := true } :: older) ∧ w' = ((w.alloc (.cells #[.int .i64 e, .int .i64 p] 69)).setCell ⟨g, 0, none⟩ (.int .i64 e)).setCell ⟨g, 1, none⟩ (.int .i64 p) := by
  refine callsD_of_wpS Try.func65 rfl fun c₀ cs hu => ?_
  apply wpS_seq
  apply wpS_region
  simp [wpOpsS, go_sem, recoverD, hu, Try.ntmps65, Exit.thenS]
  refine wpS_of_wp ?_
  simp only [Array.replicate_succ, Array.replicate_zero, List.push_toArray, List.append_toArray, List.nil_append, List.cons_append, List.setIfInBounds_toArray, List.set_cons_succ, List.set_cons_zero]
  unfold flt
  have hg' : (w.alloc (.cells #[.int .i64 e, .int .i64 p] 69)).heap[g]? = some (.cells #[x, y] 69 (0, 0)) := (Below.heap_alloc _ _ _ (lt_of_block hg)).trans hg
  have c0 : (w.alloc (.cells #[.int .i64 e, .int .i64 p] 69)).cell? ⟨g, 0, none⟩ = some x := by rw [cell_of_row _ _ _ _ _ _ hg']; rfl
  have c1 : (w.alloc (.cells #[.int .i64 e, .int .i64 p] 69)).cell? ⟨g, 1, none⟩ = some y := by rw [cell_of_row _ _ _ _ _ _ hg']; rfl
  have f0 : (w.alloc (.cells #[.int .i64 e, .int .i64 p] 69)).frozen? ⟨g, 0, none⟩ = false := by simp [World.frozen?, hg']
  have f1 : (w.alloc (.cells #[.int .i64 e, .int .i64 p] 69)).frozen? ⟨g, 1, none⟩ = false := by simp [World.frozen?, hg']
  clear hg hg'
  have hta := run_ta
  go_wp2
  cases c₀
  simp_all [bodyPostS, results, Try.results65, flt]

/-- What tried tells: nothing, or what was given up with; N: where it is told. -/
def TriedPost (Q0 : World → Prop) (Q1 : Int → Int → World → Prop) (N : Nat) (e : Ending) (w' : World) : Prop :=
  (e = .returned (.agg #[.int .i64 0, .int .i64 0]) ∧ ∃ w0, Q0 w0 ∧ N < w0.heap.size ∧ Upd (fun i => i = N) w0 w') ∨
  ∃ er p w0, e = .returned (.agg #[.int .i64 er, .int .i64 p]) ∧ Q1 er p w0 ∧ N < w0.heap.size ∧ Upd (fun i => i = N) w0 w'

set_option maxRecDepth 100000 in
set_option maxHeartbeats 800000 in
theorem tried_any (k : FuncId) (cap : Array Value) (w : World) (Q0 : World → Prop) (Q1 : Int → Int → World → Prop) (hen : ∀ (args : Array Value) (w : World), (callFunc k args).run Try.prog w = .ok (.enter k args) w)
    (hk : Calls Try.prog k cap (w.alloc (.cells #[.int .i64 0, .int .i64 0] 69)) fun e w' => ((∃ v, e = .returned v ∧ Q0 w') ∨ ∃ er p, e = fallen er p ∧ Q1 er p w') ∧ w'.heap[w.heap.size]? = some (.cells #[.int .i64 0, .int .i64 0] 69 (0, 0))) :
    Calls Try.prog 35 #[.func (.func k) #[] cap] w (TriedPost Q0 Q1 w.heap.size) := by
  have hmf : ∀ (fn : Fn) (first cap : Array Value) (w : World), (Instr.makeFunc fn first cap).run Try.prog w = .ok (.func fn first cap) w := fun _ _ _ _ => rfl
  have HK := hide hk
  clear hk
  go_enter_defers Try.func35, Try.ntmps35
  go_wp2_with fail
  refine HK.out.mono ?_
  rintro e w1 ⟨hq, hb⟩
  have hlt : w.heap.size < w1.heap.size := lt_of_block hb
  have hres : ∀ (W : World) (x y : Value), W.heap[w.heap.size]? = some (.cells #[x, y] 69 (0, 0)) → ∀ a : Array Value, a[2]?.getD undef = .pointer (some ⟨w.heap.size, 0, none⟩) → (results Try.f35 a).run Try.prog W = .ok (.agg #[x, y]) W := fun W x y hW a ha => by
    have c0 : W.cell? ⟨w.heap.size, 0, none⟩ = some x := by rw [cell_of_row _ _ _ _ _ _ hW]; rfl
    have c1 : W.cell? ⟨w.heap.size, 1, none⟩ = some y := by rw [cell_of_row _ _ _ _ _ _ hW]; rfl
    simp [results, Try.results35, go_sem, ha, c0, c1]
  rcases hq with ⟨v, rfl, hq⟩ | ⟨er, p, rfl, hq⟩
  · have c0 : w1.cell? ⟨w.heap.size, 0, none⟩ = some (.int .i64 0) := by rw [cell_of_row _ _ _ _ _ _ hb]; rfl
    have c1 : w1.cell? ⟨w.heap.size, 1, none⟩ = some (.int .i64 0) := by rw [cell_of_row _ _ _ _ _ _ hb]; rfl
    have f0 : w1.frozen? ⟨w.heap.size, 0, none⟩ = false := by simp [World.frozen?, hb]
    have f1 : w1.frozen? ⟨w.heap.size, 1, none⟩ = false := by simp [World.frozen?, hb]
    have HQ := hide hq
    have HB := hide hb
    have HR := hide hres
    clear hq hb hres
    go_wp2_with fail
    refine leaves_cons (f := 65) (args := #[.pointer (some ⟨w.heap.size, 0, none⟩)]) (by simp) (by simp [go_sem]) ?_
    refine (catch_idle ⟨w.heap.size, 0, none⟩ _).mono ?_
    rintro e u' w'' ⟨rfl, rfl, rfl⟩
    have hw2 : Upd (fun i => i = w.heap.size) w1 ((w1.setCell ⟨w.heap.size, 0, none⟩ (.int .i64 0)).setCell ⟨w.heap.size, 1, none⟩ (.int .i64 0)) := (set_upd w1 w.heap.size 0 _).trans (set_upd _ w.heap.size 1 _)
    simp only [Leaves, settle]
    exact ⟨_, HR.out _ _ _ (block_setCell (block_setCell HB.out 0 _) 1 _) _ rfl, .inl ⟨rfl, w1, HQ.out, hlt, hw2⟩⟩
  · have HQ := hide hq
    have HB := hide hb
    have HR := hide hres
    clear hq hb hres
    unfold fallen
    simp only [bodyPostD]
    refine leaves_cons (f := 65) (args := #[.pointer (some ⟨w.heap.size, 0, none⟩)]) (by simp) (by simp [go_sem]) ?_
    refine (catch_fallen w.heap.size er p [] w1 _ _ HB.out).mono ?_
    rintro e u' w'' ⟨rfl, rfl, rfl⟩
    have hw2 : Upd (fun i => i = w.heap.size) w1 (((w1.alloc (.cells #[.int .i64 er, .int .i64 p] 69)).setCell ⟨w.heap.size, 0, none⟩ (.int .i64 er)).setCell ⟨w.heap.size, 1, none⟩ (.int .i64 p)) := (((Upd.refl _ w1).alloc _).trans (set_upd _ w.heap.size 0 _)).trans (set_upd _ w.heap.size 1 _)
    simp only [Leaves, settle, List.dropWhile_nil]
    exact ⟨_, HR.out _ _ _ (block_setCell (block_setCell ((Below.heap_alloc _ _ _ hlt).trans HB.out) 0 _) 1 _) _ rfl, .inr ⟨er, p, w1, rfl, HQ.out, hlt, hw2⟩⟩

end Go.Proofs.Ytjnldmbjeiejdaa
