/- block: giving up, and being tried. -/
import Derived.Test.YtepjblmjjegpgaaGreatW34
import Derived.Recover
import Derived.Laws.Pointers
import Derived.Test.YtepjblmjjegpgaaGreatW6
namespace Go.Proofs.YtepjblmjjegpgaaGreat
open Go.RowKit
set_option maxRecDepth 100000

theorem run_ta (v : Value) (w : World) : (Instr.typeAssert (.iface 114 v) 20 114 true).run Tryz.prog w = .ok (.tuple #[v, .bool true]) w := by
  simp [Instr.typeAssert, go_sem]
/-- What is given up with. -/
def bfltV (e : Int) (p : Int) : Value := .iface 114 (.agg #[.int .i64 e, .int .i64 p])
def fallen (e : Int) (p : Int) : Ending := .panicked [{ v := bfltV e p, recovered := false }]

set_option maxHeartbeats 400000 in
theorem giveUp_any (e p : Int) (w : World) :
    Calls Tryz.prog 184 #[.int .i64 e, .int .i64 p] w fun r w' => r = fallen e p ∧ w' = w := by
  go_enter Tryz.func184, Tryz.ntmps184
  go_wp2
  exact ⟨rfl, rfl, rfl⟩

theorem catch_idle (p : Addr) (w : World) :
    CallsD Tryz.prog 175 #[.pointer (some p)] .returning w fun e u' w' => e = .returned (.tuple #[]) ∧ u' = .returning ∧ w' = w := by
  refine callsD_of_wpS Tryz.func175 rfl fun c₀ cs hu => ?_
  apply wpS_seq
  apply wpS_region
  simp [wpOpsS, go_sem, recoverD, hu, Tryz.ntmps175, Exit.thenS]
  refine wpS_of_wp ?_
  simp only [Array.replicate_succ, Array.replicate_zero, List.push_toArray, List.append_toArray, List.nil_append, List.cons_append, List.setIfInBounds_toArray, List.set_cons_succ, List.set_cons_zero]
  go_wp2
  cases c₀
  simp_all [bodyPostS, results, Tryz.results175]

set_option maxRecDepth 100000 in
set_option maxHeartbeats 400000 in
theorem catch_fallen (g : Nat) (e p : Int) (older : List PanicEntry) (w : World) (x y : Value) (hg : w.heap[g]? = some (.cells #[x, y] 114 (0, 0))) :
    CallsD Tryz.prog 175 #[.pointer (some ⟨g, 0, none⟩)] (.panicking ({ v := bfltV e p, recovered := false } :: older)) w fun r u' w' =>
      r = .returned (.tuple #[]) ∧ u' = .panicking ({ v := bfltV e p, recovered := true } :: older) ∧ w' = ((w.alloc (.cells #[.int .i64 e, .int .i64 p] 114)).setCell ⟨g, 0, none⟩ (.int .i64 e)).setCell ⟨g, 1, none⟩ (.int .i64 p) := by
  refine callsD_of_wpS Tryz.func175 rfl fun c₀ cs hu => ?_
  apply wpS_seq
  apply wpS_region
  simp [wpOpsS, go_sem, recoverD, hu, Tryz.ntmps175, Exit.thenS]
  refine wpS_of_wp ?_
  simp only [Array.replicate_succ, Array.replicate_zero, List.push_toArray, List.append_toArray, List.nil_append, List.cons_append, List.setIfInBounds_toArray, List.set_cons_succ, List.set_cons_zero]
  unfold bfltV
  have hg' : (w.alloc (.cells #[.int .i64 e, .int .i64 p] 114)).heap[g]? = some (.cells #[x, y] 114 (0, 0)) := (Below.heap_alloc _ _ _ (lt_of_block hg)).trans hg
  have c0 : (w.alloc (.cells #[.int .i64 e, .int .i64 p] 114)).cell? ⟨g, 0, none⟩ = some x := by rw [cell_of_row _ _ _ _ _ _ hg']; rfl
  have c1 : (w.alloc (.cells #[.int .i64 e, .int .i64 p] 114)).cell? ⟨g, 1, none⟩ = some y := by rw [cell_of_row _ _ _ _ _ _ hg']; rfl
  have f0 : (w.alloc (.cells #[.int .i64 e, .int .i64 p] 114)).frozen? ⟨g, 0, none⟩ = false := by simp [World.frozen?, hg']
  have f1 : (w.alloc (.cells #[.int .i64 e, .int .i64 p] 114)).frozen? ⟨g, 1, none⟩ = false := by simp [World.frozen?, hg']
  clear hg hg'
  have hta := run_ta
  go_wp2
  cases c₀
  simp_all [bodyPostS, results, Tryz.results175, bfltV]

/-- What tried tells: nothing, or what was given up with; N: where it is told. -/
def TriedPost (Q0 : World → Prop) (Q1 : Int → Int → World → Prop) (N : Nat) (e : Ending) (w' : World) : Prop :=
  (e = .returned (.agg #[.int .i64 0, .int .i64 0]) ∧ ∃ w0, Q0 w0 ∧ N < w0.heap.size ∧ Upd (fun i => i = N) w0 w') ∨
  ∃ er p w0, e = .returned (.agg #[.int .i64 er, .int .i64 p]) ∧ Q1 er p w0 ∧ N < w0.heap.size ∧ Upd (fun i => i = N) w0 w'

set_option maxRecDepth 100000 in
set_option maxHeartbeats 800000 in
theorem tried_any (k : FuncId) (cap : Array Value) (w : World) (Q0 : World → Prop) (Q1 : Int → Int → World → Prop) (hen : ∀ (args : Array Value) (w : World), (callFunc k args).run Tryz.prog w = .ok (.enter k args) w)
    (hk : Calls Tryz.prog k cap (w.alloc (.cells #[.int .i64 0, .int .i64 0] 114)) fun e w' => ((∃ v, e = .returned v ∧ Q0 w') ∨ ∃ er p, e = fallen er p ∧ Q1 er p w') ∧ w'.heap[w.heap.size]? = some (.cells #[.int .i64 0, .int .i64 0] 114 (0, 0))) :
    Calls Tryz.prog 163 #[.func (.func k) #[] cap] w (TriedPost Q0 Q1 w.heap.size) := by
  have hmf : ∀ (fn : Fn) (first cap : Array Value) (w : World), (Instr.makeFunc fn first cap).run Tryz.prog w = .ok (.func fn first cap) w := fun _ _ _ _ => rfl
  have HK := hide hk
  clear hk
  go_enter_defers Tryz.func163, Tryz.ntmps163
  go_wp2_with fail
  refine HK.out.mono ?_
  rintro e w1 ⟨hq, hb⟩
  have hlt : w.heap.size < w1.heap.size := lt_of_block hb
  have hres : ∀ (W : World) (x y : Value), W.heap[w.heap.size]? = some (.cells #[x, y] 114 (0, 0)) → ∀ a : Array Value, a[2]?.getD undef = .pointer (some ⟨w.heap.size, 0, none⟩) → (results Tryz.f163 a).run Tryz.prog W = .ok (.agg #[x, y]) W := fun W x y hW a ha => by
    have c0 : W.cell? ⟨w.heap.size, 0, none⟩ = some x := by rw [cell_of_row _ _ _ _ _ _ hW]; rfl
    have c1 : W.cell? ⟨w.heap.size, 1, none⟩ = some y := by rw [cell_of_row _ _ _ _ _ _ hW]; rfl
    simp [results, Tryz.results163, go_sem, ha, c0, c1]
  rcases hq with ⟨v, rfl, hq⟩ | ⟨er, p, rfl, hq⟩
  · have c0 : w1.cell? ⟨w.heap.size, 0, none⟩ = some (.int .i64 0) := by rw [cell_of_row _ _ _ _ _ _ hb]; rfl
    have c1 : w1.cell? ⟨w.heap.size, 1, none⟩ = some (.int .i64 0) := by rw [cell_of_row _ _ _ _ _ _ hb]; rfl
    have f0 : w1.frozen? ⟨w.heap.size, 0, none⟩ = false := by simp [World.frozen?, hb]
    have f1 : w1.frozen? ⟨w.heap.size, 1, none⟩ = false := by simp [World.frozen?, hb]
    have HQ := hide hq
    have HB := hide hb
    have HR := hide hres
    clear hq hb hres
    go_wp2_with fail
    refine leaves_cons (f := 175) (args := #[.pointer (some ⟨w.heap.size, 0, none⟩)]) (by simp) (by simp [go_sem]) ?_
    refine (catch_idle ⟨w.heap.size, 0, none⟩ _).mono ?_
    rintro e u' w'' ⟨rfl, rfl, rfl⟩
    have hw2 : Upd (fun i => i = w.heap.size) w1 ((w1.setCell ⟨w.heap.size, 0, none⟩ (.int .i64 0)).setCell ⟨w.heap.size, 1, none⟩ (.int .i64 0)) := (set_upd w1 w.heap.size 0 _).trans (set_upd _ w.heap.size 1 _)
    simp only [Leaves, settle]
    exact ⟨_, HR.out _ _ _ (block_setCell (block_setCell HB.out 0 _) 1 _) _ rfl, .inl ⟨rfl, w1, HQ.out, hlt, hw2⟩⟩
  · have HQ := hide hq
    have HB := hide hb
    have HR := hide hres
    clear hq hb hres
    unfold fallen
    simp only [bodyPostD]
    refine leaves_cons (f := 175) (args := #[.pointer (some ⟨w.heap.size, 0, none⟩)]) (by simp) (by simp [go_sem]) ?_
    refine (catch_fallen w.heap.size er p [] w1 _ _ HB.out).mono ?_
    rintro e u' w'' ⟨rfl, rfl, rfl⟩
    have hw2 : Upd (fun i => i = w.heap.size) w1 (((w1.alloc (.cells #[.int .i64 er, .int .i64 p] 114)).setCell ⟨w.heap.size, 0, none⟩ (.int .i64 er)).setCell ⟨w.heap.size, 1, none⟩ (.int .i64 p)) := (((Upd.refl _ w1).alloc _).trans (set_upd _ w.heap.size 0 _)).trans (set_upd _ w.heap.size 1 _)
    simp only [Leaves, settle, List.dropWhile_nil]
    exact ⟨_, HR.out _ _ _ (block_setCell (block_setCell ((Below.heap_alloc _ _ _ hlt).trans HB.out) 0 _) 1 _) _ rfl, .inr ⟨er, p, w1, rfl, HQ.out, hlt, hw2⟩⟩

end Go.Proofs.YtepjblmjjegpgaaGreat

namespace Go.Proofs.YtepjblmjjegpgaaGreat
open Go.RowKit
set_option maxRecDepth 100000

/-- A walker's cells: the bytes, the place, how many entries, the next one's number, the key ahead. -/
structure WkR (W : World) (B g : Nat) (a : Option Addr) (l c p n num : Nat) (ls : List Int) (va : Value) : Prop where
  blk : W.heap[g]? = some (.cells #[.slice a l c, .int .i64 (p : Int), .int .i64 (n : Int), .int .i64 (num : Int), va] 208 (0, 0))
  own : W.ownsRow B 5 1 va ls.length (ls.map (Value.int .u8))
  dva : ∀ i, va.ownBlock = some i → i ≠ g
  gB : B ≤ g
def WkM (g : Nat) (va : Value) (i : Nat) : Prop := i = g ∨ va.ownBlock = some i
theorem WkR.lt {W : World} {B g : Nat} {a : Option Addr} {l c p n num : Nat} {ls : List Int} {va : Value} (h : WkR W B g a l c p n num ls va) : ∀ i, WkM g va i → B ≤ i ∧ i < W.heap.size := by
  rintro i (rfl | hi)
  · exact ⟨h.gB, lt_of_block h.blk⟩
  · exact h.own.lt i hi
theorem WkR.upd {W W' : World} {B g : Nat} {a : Option Addr} {l c p n num : Nat} {ls : List Int} {va : Value} {S : Nat → Prop} (h : WkR W B g a l c p n num ls va) (hu : Upd S W W') (hs : ∀ i, WkM g va i → ¬ S i) : WkR W' B g a l c p n num ls va :=
  ⟨hu.heap h.blk (hs _ (.inl rfl)), owns_upd h.own hu (fun _ hi => hs _ (.inr hi)), h.dva, h.gB⟩
theorem WkR.cells {W : World} {B g : Nat} {a : Option Addr} {l c p n num : Nat} {ls : List Int} {va : Value} (h : WkR W B g a l c p n num ls va) :
    W.cell? ⟨g, 0, none⟩ = some (.slice a l c) ∧ W.cell? ⟨g, 1, none⟩ = some (.int .i64 (p : Int)) ∧ W.cell? ⟨g, 2, none⟩ = some (.int .i64 (n : Int)) ∧ W.cell? ⟨g, 3, none⟩ = some (.int .i64 (num : Int)) ∧ W.cell? ⟨g, 4, none⟩ = some va ∧ ∀ j, W.frozen? ⟨g, j, none⟩ = false := by
  have hb := h.blk
  refine ⟨?_, ?_, ?_, ?_, ?_, fun j => by simp [World.frozen?, hb]⟩ <;> (rw [cell_of_row _ _ _ _ _ _ hb]; rfl)

def stE (zs : List Int) : Int := if er zs 0 ≠ 0 then er zs 0 else if nm zs 0 < 1 ∨ 64 < nm zs 0 then 61 else 0
def stP (zs : List Int) : Nat := if er zs 0 ≠ 0 then nx zs 0 else 0
def StPost (w : World) (a : Option Addr) (l c : Nat) (zs : List Int) (e : Ending) (w' : World) : Prop :=
  Below w.heap.size w w' ∧ ((stE zs = 0 ∧ ∃ g, w.heap.size ≤ g ∧ e = .returned (.pointer (some ⟨g, 0, none⟩)) ∧ WkR w' w.heap.size g a l c (nx zs 0) (nm zs 0) 0 [] (.slice none 0 0)) ∨ (stE zs ≠ 0 ∧ e = fallen (stE zs) (stP zs : Nat)))
theorem b8_fits {zs : List Int} (h : B8 zs) : Fits8 zs := fits8_of_mem h

set_option maxRecDepth 100000 in
set_option maxHeartbeats 800000 in
theorem start_any (a : Option Addr) (l c : Nat) (zs : List Int) (w : World) (hl : zs.length = l) (hm : l ≤ 140737488400000) (hr : Row w .u8 a zs) (z8 : B8 zs) :
    Calls Tryz.prog 176 #[.slice a l c] w (StPost w a l c zs) := by
  obtain ⟨q1, q2, q3, q4, q5, q6⟩ := rd_at zs 0 z8 (Nat.zero_le _)
  have HR := hide (read_any a l c 0 zs w hl (by unfold maxLen; omega) hr (b8_fits z8))
  rw [show ((0 : Nat) : Int) = 0 from rfl] at q1 q2 q3
  rw [q1, q2, q3] at HR
  have hP : Hid (∀ e w', StPost w a l c zs e w' ↔ (Below w.heap.size w w' ∧ ((stE zs = 0 ∧ ∃ g, w.heap.size ≤ g ∧ e = .returned (.pointer (some ⟨g, 0, none⟩)) ∧ WkR w' w.heap.size g a l c (nx zs 0) (nm zs 0) 0 [] (.slice none 0 0)) ∨ (stE zs ≠ 0 ∧ e = fallen (stE zs) (stP zs : Nat))))) := fun _ _ => Iff.rfl
  unfold stE stP at hP
  generalize nm zs 0 = n at *
  generalize nx zs 0 = x at *
  generalize er zs 0 = r at *
  clear q1 q2 q3 hr
  go_enter Tryz.func176, Tryz.ntmps176
  go_wp2_with fail
  refine HR.out.mono ?_
  rintro e w1 ⟨rfl, hb⟩
  have HB := hide hb
  clear hb
  by_cases hr0 : r = 0
  · subst hr0
    by_cases hn : n < 1 ∨ 64 < n
    · have HF : Hid (∀ w', Below w.heap.size w w' → StPost w a l c zs (fallen 61 0) w') := fun w' hb => by
        rw [hP.out]
        exact ⟨hb, .inr ⟨by rw [if_neg (by simp), if_pos hn]; decide, by rw [if_neg (by simp), if_pos hn, if_neg (by simp)]; rfl⟩⟩
      rcases hn with hn | hn
      · have h1 : (n : Int) < 1 := by omega
        go_wp2_with fail
        refine (giveUp_any 61 0 w1).mono ?_
        rintro e w2 ⟨rfl, rfl⟩
        exact ⟨rfl, HF.out _ HB.out⟩
      · have h1 : ¬ (n : Int) < 1 := by omega
        have h2 : (64 : Int) < (n : Int) := by omega
        go_wp2_with fail
        refine (giveUp_any 61 0 w1).mono ?_
        rintro e w2 ⟨rfl, rfl⟩
        exact ⟨rfl, HF.out _ HB.out⟩
    · have h1 : ¬ (n : Int) < 1 := by omega
      have h2 : ¬ (64 : Int) < (n : Int) := by omega
      have hw : IntKind.i64.wrap (n : Int) = (n : Int) := by rw [IntKind.wrap_i64]; omega
      go_wp2_with fail
      go_ret
      refine (hP.out _ _).2 ⟨HB.out.alloc HB.out.size _, .inl ⟨by rw [if_neg (by simp), if_neg hn], w1.heap.size, HB.out.size, rfl, heap_alloc_new w1 _, World.ownsRow_nil _ _ _ _, (fun i h => by cases h), HB.out.size⟩⟩
  · have hne : (r != 0) = true := by simp [hr0]
    go_wp2_with fail
    refine (giveUp_any r x w1).mono ?_
    rintro e w2 ⟨rfl, rfl⟩
    exact ⟨rfl, (hP.out _ _).2 ⟨HB.out, .inr ⟨by rw [if_pos hr0]; exact hr0, by rw [if_pos hr0, if_pos hr0]; rfl⟩⟩⟩

end Go.Proofs.YtepjblmjjegpgaaGreat
