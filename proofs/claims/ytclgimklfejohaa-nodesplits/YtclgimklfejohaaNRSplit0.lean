/- The document's Split: its lists cut in two, its boxes. -/
import Derived.Test.YtclgimklfejohaaNSplit0
import Derived.Test.YtclgimklfejohaaNRClone2
import Derived.Test.YtclgimklfejohaaNRef
import Derived.Test.YtclgimklfejohaaABase
import Derived.Test.YtclgimklfejohaaNHalfP
namespace Go.Proofs.Ytclgimklfejohaa
open Go.RowKit

theorem rsFromT (k : Option Addr) (lk ck n : Nat) (hn : n ≤ lk) (W : World) : (Instr.slice 25 (.slice k lk ck) (some (.int .i64 (n : Int))) none none).run Try.prog W = .ok (.slice (cutAt k n ck) (lk - n) (ck - n)) W := by
  rw [run_slice_l (P := Try.prog) W 25 k lk ck undT .i64 (n : Int) (by omega) (by omega), elemT, sizeT]
  simp [Result.andThen, sliced, cutAt]
theorem rsUptoT (k : Option Addr) (lk ck m : Nat) (hm : m ≤ ck) (W : World) : (Instr.slice 25 (.slice k lk ck) none (some (.int .i64 (m : Int))) none).run Try.prog W = .ok (.slice k m ck) W := by
  rw [run_slice_h (P := Try.prog) W 25 k lk ck undT .i64 (m : Int) (by omega) (by omega), elemT, sizeT]
  cases k <;> simp [Result.andThen, sliced, Addr.add]
theorem rsFromI (k : Option Addr) (lk ck n : Nat) (hn : n ≤ lk) (W : World) : (Instr.slice 26 (.slice k lk ck) (some (.int .i64 (n : Int))) none none).run Try.prog W = .ok (.slice (cutAt k n ck) (lk - n) (ck - n)) W := by
  rw [run_slice_l (P := Try.prog) W 26 k lk ck undI .i64 (n : Int) (by omega) (by omega), elemI, sizeI]
  simp [Result.andThen, sliced, cutAt]
theorem rsUptoI (k : Option Addr) (lk ck m : Nat) (hm : m ≤ ck) (W : World) : (Instr.slice 26 (.slice k lk ck) none (some (.int .i64 (m : Int))) none).run Try.prog W = .ok (.slice k m ck) W := by
  rw [run_slice_h (P := Try.prog) W 26 k lk ck undI .i64 (m : Int) (by omega) (by omega), elemI, sizeI]
  cases k <;> simp [Result.andThen, sliced, Addr.add]
theorem TL.Ok.upto {W : World} {a : Option Addr} {c : Nat} {L : List Tx} (h : (⟨a, c, L⟩ : TL).Ok W) (m : Nat) (hm : m ≤ L.length) : (⟨a, c, L.take m⟩ : TL).Ok W :=
  ⟨h.r.takeN m, fun x hx => h.ok x (List.mem_of_mem_take hx), fun e => by have := h.n e; simp only [List.length_take] at this ⊢; omega, by have := h.lc; simp only [List.length_take] at this ⊢; omega⟩
theorem TL.Ok.from_ {W : World} {a : Option Addr} {c : Nat} {L : List Tx} (h : (⟨a, c, L⟩ : TL).Ok W) (m : Nat) : (⟨cutAt a m c, c - m, L.drop m⟩ : TL).Ok W :=
  ⟨h.r.dropN m c h.lc, fun x hx => h.ok x (List.mem_of_mem_drop hx), fun e => by have := h.n (cutAt_none e); simp only [List.length_drop] at this ⊢; omega, by have := h.lc; simp only [List.length_drop] at this ⊢; omega⟩
theorem IL.Ok.upto {W : World} {a : Option Addr} {c : Nat} {s : List Int} (h : (⟨a, c, s⟩ : IL).Ok W) (m : Nat) (hm : m ≤ s.length) : (⟨a, c, s.take m⟩ : IL).Ok W :=
  ⟨row_takeN h.r m, fun e => by have := h.n e; simp only [List.length_take] at this ⊢; omega, by have := h.lc; simp only [List.length_take] at this ⊢; omega⟩
theorem IL.Ok.from_ {W : World} {a : Option Addr} {c : Nat} {s : List Int} (h : (⟨a, c, s⟩ : IL).Ok W) (m : Nat) : (⟨cutAt a m c, c - m, s.drop m⟩ : IL).Ok W :=
  ⟨row_dropN h.r m c h.lc, fun e => by have := h.n (cutAt_none e); simp only [List.length_drop] at this ⊢; omega, by have := h.lc; simp only [List.length_drop] at this ⊢; omega⟩
/-- What the document's Split gives. -/
def RspP (w : World) (p1 p2 : NP) (bt : List Int) (e : Ending) (w' : World) : Prop :=
  ∃ (l r : Nd) (k : Tx), e = .returned (.tuple #[l.v, r.v, k.v]) ∧ l.p = p1 ∧ r.p = p2 ∧ k.s = bt ∧ l.Own w' w.heap.size ∧ r.Own w' w.heap.size ∧ k.Ok w' ∧ Below w.heap.size w w'
/-- The boxes of Split while it goes on: the node's, the results', the left half's, the right half's. -/
def RSb (b a1 a2 : Nat) (k : Nat) : Prop := k = b + 1 ∨ k = b + 1 + 1 ∨ k = a1 ∨ k = a2
structure RSp (w : World) (A : Array Value) (a1 a2 : Nat) (W : World) (L R : Array Value) : Prop where
  bw : Below w.heap.size w W
  ga : W.heap[w.heap.size]? = some (.cells A 30 (0, 0))
  g4 : W.heap[w.heap.size + 1]? = some (.cells #[.int .i64 0, .slice none 0 0, .int .i64 0, .slice none 0 0, .slice none 0 0, .slice none 0 0] 30 (0, 0))
  g5 : W.heap[w.heap.size + 1 + 1]? = some (.cells #[.int .i64 0, .slice none 0 0, .int .i64 0, .slice none 0 0, .slice none 0 0, .slice none 0 0] 30 (0, 0))
  g8 : W.heap[a1]? = some (.cells L 30 (0, 0))
  g10 : W.heap[a2]? = some (.cells R 30 (0, 0))
  lt : w.heap.size + 1 + 1 < a1 ∧ a1 < a2
section
variable {w W W' : World} {A L R : Array Value} {a1 a2 : Nat}
theorem RSp.below (h : RSp w A a1 a2 W L R) (hb : Below W.heap.size W W') : RSp w A a1 a2 W' L R :=
  ⟨h.bw.trans (hb.mono h.bw.size), (hb.block _ (lt_of_block h.ga)).trans h.ga, (hb.block _ (lt_of_block h.g4)).trans h.g4, (hb.block _ (lt_of_block h.g5)).trans h.g5, (hb.block _ (lt_of_block h.g8)).trans h.g8, (hb.block _ (lt_of_block h.g10)).trans h.g10, h.lt⟩
theorem RSp.set8 (h : RSp w A a1 a2 W L R) (j : Nat) (v : Value) : RSp w A a1 a2 (W.setCell ⟨a1, j, none⟩ v) (L.setIfInBounds j v) R := by
  have hu : Upd (fun k => k = a1) W (W.setCell ⟨a1, j, none⟩ v) := (Upd.refl _ _).setCell _ _ (fun _ => rfl)
  have hl := h.lt
  exact ⟨h.bw.trans (hu.below h.bw.size (fun k hk e => by omega)), hu.heap h.ga (fun e => by omega), hu.heap h.g4 (fun e => by omega), hu.heap h.g5 (fun e => by omega), block_setCell h.g8 j v, hu.heap h.g10 (fun e => by omega), h.lt⟩
theorem RSp.set10 (h : RSp w A a1 a2 W L R) (j : Nat) (v : Value) : RSp w A a1 a2 (W.setCell ⟨a2, j, none⟩ v) L (R.setIfInBounds j v) := by
  have hu : Upd (fun k => k = a2) W (W.setCell ⟨a2, j, none⟩ v) := (Upd.refl _ _).setCell _ _ (fun _ => rfl)
  have hl := h.lt
  exact ⟨h.bw.trans (hu.below h.bw.size (fun k hk e => by omega)), hu.heap h.ga (fun e => by omega), hu.heap h.g4 (fun e => by omega), hu.heap h.g5 (fun e => by omega), hu.heap h.g8 (fun e => by omega), block_setCell h.g10 j v, h.lt⟩
theorem sp_set8 (W : World) (b a1 a2 j : Nat) (v : Value) : Upd (RSb b a1 a2) W (W.setCell ⟨a1, j, none⟩ v) := (Upd.refl _ _).setCell _ _ (fun _ => .inr (.inr (.inl rfl)))
theorem sp_set10 (W : World) (b a1 a2 j : Nat) (v : Value) : Upd (RSb b a1 a2) W (W.setCell ⟨a2, j, none⟩ v) := (Upd.refl _ _).setCell _ _ (fun _ => .inr (.inr (.inr rfl)))
end
end Go.Proofs.Ytclgimklfejohaa
