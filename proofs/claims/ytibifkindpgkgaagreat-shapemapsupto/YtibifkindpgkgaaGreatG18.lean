/- node: With, Without, Joined. -/
import Derived.Test.YtibifkindpgkgaaGreatG17
namespace Go.Proofs.YtibifkindpgkgaaGreat
open Go.RowKit
set_option maxRecDepth 100000

/-- A list with one more, without one. -/
def insL {α : Type} (l : List α) (i : Nat) (x : α) : List α := l.take i ++ x :: l.drop i
def remL {α : Type} (l : List α) (i : Nat) : List α := l.take i ++ l.drop (i + 1)
theorem insL_map {α β : Type} (f : α → β) (l : List α) (i : Nat) (x : α) : (insL l i x).map f = insL (l.map f) i (f x) := by simp [insL, List.map_take, List.map_drop]
theorem remL_map {α β : Type} (f : α → β) (l : List α) (i : Nat) : (remL l i).map f = remL (l.map f) i := by simp [remL, List.map_take, List.map_drop]
theorem insL_len {α : Type} (l : List α) (i : Nat) (x : α) : (insL l i x).length = l.length + 1 := by simp only [insL, List.length_append, List.length_take, List.length_cons, List.length_drop]; omega
theorem remL_len {α : Type} (l : List α) (i : Nat) : (remL l i).length ≤ l.length := by simp only [remL, List.length_append, List.length_take, List.length_drop]; omega
theorem insL_mem {α : Type} {l : List α} {i : Nat} {x y : α} (h : y ∈ insL l i x) : y = x ∨ y ∈ l := by
  rcases List.mem_append.1 h with h | h
  · exact .inr (List.mem_of_mem_take h)
  · rcases List.mem_cons.1 h with h | h
    · exact .inl h
    · exact .inr (List.mem_of_mem_drop h)
theorem remL_mem {α : Type} {l : List α} {i : Nat} {y : α} (h : y ∈ remL l i) : y ∈ l := by
  rcases List.mem_append.1 h with h | h
  · exact List.mem_of_mem_take h
  · exact List.mem_of_mem_drop h

/-- inserted, removed, their answers opened. -/
def InTP (W : World) (L : List Tx) (i : Nat) (x : Tx) (l : Nat) (e : Ending) (w' : World) : Prop :=
  ∃ a c, e = .returned (.slice a (l + 1) c) ∧ VOk w' a c ((insL L i x).map Tx.v) ∧ (∀ y, a = some y → W.heap.size ≤ y.block) ∧ Below W.heap.size W w'
def ReTP (W : World) (a0 : Option Addr) (L : List Tx) (i : Nat) (e : Ending) (w' : World) : Prop :=
  ∃ a c, e = .returned (.slice a (remL L i).length c) ∧ VOk w' a c ((remL L i).map Tx.v) ∧ (∀ x, a = some x → (∃ y, a0 = some y ∧ y.block = x.block ∧ 0 < L.length) ∨ W.heap.size ≤ x.block ∨ (remL L i).length = 0) ∧ Below W.heap.size W w'
/-- With, Without, Joined, of what a node says. -/
def NP.with_ (p : NP) (key value : List Int) : NP :=
  if isIn p.ks key then { p with vs := insL (remL p.vs (cntB p.ks key)) (cntB p.ks key) value }
  else { p with ks := insL p.ks (cntB p.ks key) key, vs := insL p.vs (cntB p.ks key) value }
def NP.without (p : NP) (key : List Int) : NP :=
  if isIn p.ks key then { p with ks := remL p.ks (cntB p.ks key), vs := remL p.vs (cntB p.ks key) } else p
def NP.joined (p : NP) (key : List Int) (kid : Int) : NP :=
  if isIn p.ks key then p else { p with ks := insL p.ks (cntB p.ks key) key, cs := insL p.cs (cntB p.ks key + 1) kid }

theorem blk_one {W : World} {b : Nat} {T : TypeId} {x0 x1 x2 x3 x4 x5 : Value} (h : W.heap[b]? = some (.cells #[x0, x1, x2, x3, x4, x5] T (0, 0))) (y : Value) :
    (W.setCell ⟨b, 3, none⟩ y).heap[b]? = some (.cells #[x0, x1, x2, y, x4, x5] T (0, 0)) ∧ (W.setCell ⟨b, 4, none⟩ y).heap[b]? = some (.cells #[x0, x1, x2, x3, y, x5] T (0, 0)) ∧ (W.setCell ⟨b, 5, none⟩ y).heap[b]? = some (.cells #[x0, x1, x2, x3, x4, y] T (0, 0)) :=
  ⟨block_setCell h 3 y, block_setCell h 4 y, block_setCell h 5 y⟩

/-- What a call that gives a node gives. -/
def NdPost (w : World) (p : NP) (e : Ending) (w' : World) : Prop :=
  ∃ m : Nd, e = .returned m.v ∧ m.p = p ∧ m.Own w' w.heap.size ∧ Below w.heap.size w w'

/-- A node is laid into its six cells, and handed back. -/
def sixN (W : World) (b : Nat) (m : Nd) : World := six6 W b (.int .i64 m.lv) m.hi.v (.int .i64 m.ri) m.ks.v m.vs.v m.cs.v
theorem tail_six {w w5 : World} {m : Nd} {p : NP} {b N : Nat} {T : TypeId} {a0 a1 a2 a3 a4 a5 : Value} (hG : w5.heap[b]? = some (.cells #[a0, a1, a2, a3, a4, a5] T (0, 0))) (hown : m.Own w5 N) (hp : m.p = p) (hw : w.heap.size ≤ b) (hN : b < N) (hb : Below w.heap.size w w5) :
    NdPost w p (.returned m.v) (sixN w5 b m) ∧ Six (sixN w5 b m) b (.int .i64 m.lv) m.hi.v (.int .i64 m.ri) m.ks.v m.vs.v m.cs.v := by
  have U : Upd (fun i => i = b) w5 (sixN w5 b m) := six_upd _ _ _ _ _ _ _ _ _ rfl
  exact ⟨⟨m, rfl, hp, (hown.upd U (fun i h1 _ e => by omega)).mono (by omega), hb.trans (U.below hb.size (fun k hk e => by omega))⟩, Six.of (six_block hG _ _ _ _ _ _)⟩
/-- What a call that gives a node and a bool gives. -/
def NdBPost (w : World) (p : NP) (b : Bool) (e : Ending) (w' : World) : Prop :=
  ∃ v, e = .returned (.tuple #[v, .bool b]) ∧ NdPost w p (.returned v) w'

end Go.Proofs.YtibifkindpgkgaaGreat
