/- The document's own taker: what Take and Number do. -/
import Derived.Test.YteindoemdonagaaG10
import Derived.Test.YteindoemdonagaaG3
namespace Go.Proofs.Yteindoemdonagaa
open Go.RowKit

theorem infoU : (Try.prog.info? 5).map (fun i => (i.zero, i.size, i.bytes)) = some (some (.int .u8 0), 1, 1) := by kernel_rfl

/-- 'append(s, ..)' of something onto a row of one's own: the row stays in its block, or moves to a new one. -/
theorem append_mine {P : Program} {w : World} {ops : Array Oper} {rest : List Oper} {o : Oper} {a : Act} {Q : Exit → Act → World → Prop} (hgd : o.guard = none) (s x : Operand) (t : TypeId)
    (ho : o.op = .call { callee := .builtin .append, args := #[s, x], argTypes := #[t, t] })
    (base : Nat) (e : TypeId) (i : TypeInfo) (z : Value) (bytes : Nat) (ht : P.underlying t = some (.slice e)) (hi : P.info? e = some i) (hz : i.zero = some z)
    (hsize : i.size = 1) (hby : i.bytes = bytes) (hzs : z.cells.size = 1)
    (v : Value) (n : Nat) (xs : List Value) (hs : a.eval s = v) (hown : w.ownsRow base e 1 v n xs)
    (ad : Addr) (m c : Nat) (news : List Value) (hx : a.eval x = .slice (some ad) m c) (hl : news.length = m * 1) (hnews : ∀ j u, news[j]? = some u → w.cell? (ad.add j) = some u) (h1 : ∀ u ∈ news, u.oneCell' = true)
    (hm : 0 < m) (h63 : n + m ≤ maxLen) (hbytes : (n + m) * bytes ≤ 140737488355328) (hbase : base ≤ w.heap.size)
    (h : ∀ g' cap' w', w'.ownsRow base e 1 (.slice (some ⟨g', 0, none⟩) (n + m) cap') (n + m) (xs ++ news) → w.grownBy w' v.ownBlock → (v.ownBlock = some g' ∨ w.heap.size ≤ g') →
      wpList P ops Q rest (a.put o.dst (.slice (some ⟨g', 0, none⟩) (n + m) cap')) w') : wpList P ops Q (o :: rest) a w := by
  have grow : ∀ (ao : Option Addr) (cap : Nat), v = .slice ao n cap → (ao = none → n = 0 ∧ cap = 0) → (∀ b, ao = some b → ∀ j u, xs[j]? = some u → w.cell? (b.add j) = some u) → cap < n + m → wpList P ops Q (o :: rest) a w := by
    intro ao cap hv hnone hcells hfull
    refine wpList_append_grows w hgd s x t ho e i z 1 bytes ht hi hz hsize hby hzs (by decide) ao n cap xs (by rw [hs, hv]) hnone hown.1 hcells ad m c news hx hl hnews h1 hfull h63 hbytes ?_
    intro v' w' r1 r2
    rcases r1.2 with ⟨_, h0⟩ | ⟨g, cap', cur, rfl, hg, r⟩
    · omega
    · refine h g cap' w' (owns_mono r1 hbase) ⟨r2.os, r2.tape, r2.output, r2.size, fun k hk _ => r2.block k hk (by simp)⟩ (.inr hg)
  rcases hown.2 with ⟨hv, hn0⟩ | ⟨g, cap, cur, hv, hb, hg, hn, hcm, hsz, htake⟩
  · subst hn0
    exact grow none 0 hv (fun _ => ⟨rfl, rfl⟩) (fun b h => by cases h) (by omega)
  · by_cases hroom : n + m ≤ cap
    · refine wpList_append_fits w hgd s x t ho base e i 1 ht hi hsize g n cap xs (by rw [hs, hv]) (by rw [← hv]; exact hown) ad m c news hx hl hnews h1 hroom ?_
      intro w' r1 r2
      have hob : v.ownBlock = some g := by rw [hv]; rfl
      exact h g cap w' r1 (by rw [hob]; exact r2) (.inl hob)
    · refine grow (some ⟨g, 0, none⟩) cap hv (fun h => by cases h) (fun b h => ?_) (by omega)
      cases h
      exact hown.cells (by rw [hv]; rfl)

/-- Old memory but for two blocks is as it was. -/
structure Grown2 (w w' : World) (r1 r2 : Option Nat) : Prop where
  os : w'.os = w.os
  tape : w'.tape = w.tape
  output : w'.output = w.output
  size : w.heap.size ≤ w'.heap.size
  block : ∀ k, k < w.heap.size → some k ≠ r1 → some k ≠ r2 → w'.heap[k]? = w.heap[k]?

theorem Grown2.refl (w : World) (r1 r2 : Option Nat) : Grown2 w w r1 r2 := ⟨rfl, rfl, rfl, Nat.le_refl _, fun _ _ _ _ => rfl⟩
theorem Grown2.setCell {a w : World} {b : Nat} {r2 : Option Nat} (h : Grown2 a w (some b) r2) (k : Nat) (u : Value) : Grown2 a (w.setCell ⟨b, k, none⟩ u) (some b) r2 :=
  ⟨h.os, h.tape, h.output, by have := h.size; simp [World.setCell]; omega, fun i hi h1 h2 => (Below.heap_setCell _ _ _ _ (fun e => h1 (by rw [e]))).trans (h.block i hi h1 h2)⟩
theorem Grown2.of {a w w' : World} {o : Obj} {r1 r2 : Option Nat} (h : (w.alloc o).grownBy w' r2) (ha : Grown2 a w r1 r2) : Grown2 a w' r1 r2 :=
  ⟨h.os.trans ha.os, h.tape.trans ha.tape, h.output.trans ha.output, by have := h.size; have := ha.size; simp at *; omega,
   fun k hk h1 h2 => by
    have hs := ha.size
    rw [h.block k (by simp; omega) h2, Below.heap_alloc _ _ _ (by omega)]
    exact ha.block k hk h1 h2⟩
theorem Grown2.below {w w' : World} {b B : Nat} {r2 : Option Nat} (h : Grown2 w w' (some b) r2) (hb : B ≤ b) (h2 : ∀ k, r2 = some k → B ≤ k) (hB : B ≤ w.heap.size) : Below B w w' :=
  ⟨h.os, h.tape, h.output, h.size, fun k hk => h.block k (by omega) (fun e => by cases e; omega) (fun e => by have := h2 k e.symm; omega)⟩

/-- Two of the document's takers in one block. -/
def RY (w : World) (b : Nat) (cs : Array Value) (T : TypeId) : Prop := w.heap[b]? = some (.cells cs T (0, 0))

theorem RY.cell {w : World} {b o : Nat} {cs : Array Value} {T : TypeId} {v : Value} (h : RY w b cs T) (hv : cs[o]? = some v) : w.cell? ⟨b, o, none⟩ = some v := by unfold RY at h; simp [World.cell?, h, hv]
theorem RY.free {w : World} {b : Nat} {cs : Array Value} {T : TypeId} (h : RY w b cs T) (o : Nat) : w.frozen? ⟨b, o, none⟩ = false := by unfold RY at h; simp [World.frozen?, h]
theorem RY.kept {w w1 : World} {b : Nat} {cs : Array Value} {T : TypeId} {o : Obj} {r : Option Nat} (h : RY w b cs T) (hg : (w.alloc o).grownBy w1 r) (hr : some b ≠ r) : RY w1 b cs T := by
  have hlt := lt_of_block h
  unfold RY at *
  rw [hg.block b (by simp; omega) hr, Below.heap_alloc _ _ _ hlt]; exact h
theorem RY.set {w : World} {b : Nat} {cs : Array Value} {T : TypeId} (h : RY w b cs T) (k : Nat) (u : Value) : RY (w.setCell ⟨b, k, none⟩ u) b (cs.setIfInBounds k u) T := block_setCell h k u
theorem owns_setCell {w : World} {base : Nat} {e : TypeId} {v : Value} {n : Nat} {xs : List Value} {b : Nat} (h : w.ownsRow base e 1 v n xs) (hb : b < base) (k : Nat) (u : Value) : (w.setCell ⟨b, k, none⟩ u).ownsRow base e 1 v n xs :=
  ownsRow_setCell_below h (a := ⟨b, k, none⟩) hb u

def dOf (n : Nat) (c : Int) : Bool := decide (faultOf n c = 0 ∧ c < 128)
def sOf (n : Nat) (c : Int) : Int := if faultOf n c ≠ 0 then 2 else if c < 128 then 1 else 0
/-- What the document's Take leaves. -/
def RPost (b o T n : Nat) (cs : Array Value) (v : Value) (xs : List Value) (c : Int) (w w' : World) : Prop :=
  ∃ g' cap', RY w' b ((cs.setIfInBounds o (.slice (some ⟨g', 0, none⟩) (n + 1) cap')).setIfInBounds (o + 1) (.int .i64 (sOf n c))) T ∧
    w'.ownsRow (b + 1) 5 1 (.slice (some ⟨g', 0, none⟩) (n + 1) cap') (n + 1) (xs ++ [.int .u8 c]) ∧ (v.ownBlock = some g' ∨ w.heap.size ≤ g') ∧ Grown2 w w' (some b) v.ownBlock

theorem own_or {w : World} {o : Obj} {v : Value} {g' : Nat} (h : v.ownBlock = some g' ∨ (w.alloc o).heap.size ≤ g') : v.ownBlock = some g' ∨ w.heap.size ≤ g' := by
  rcases h with h | h
  · exact .inl h
  · exact .inr (by simp at h; omega)

theorem arr_same {cs : Array Value} {o : Nat} {v x : Value} (hx : cs[o + 1]? = some x) : (cs.setIfInBounds o v).setIfInBounds (o + 1) x = cs.setIfInBounds o v := by
  apply Array.ext_getElem?
  intro i
  rw [Array.getElem?_setIfInBounds]
  by_cases e : o + 1 = i
  · subst e
    have hlt : o + 1 < cs.size := (Array.getElem?_eq_some_iff.1 hx).1
    rw [if_pos rfl, if_pos (by simpa using hlt), Array.getElem?_setIfInBounds]
    rw [if_neg (by omega), hx]
  · rw [if_neg e]

theorem fits8_of_mem' {zs : List Int} (h : ∀ c ∈ zs, 0 ≤ c ∧ c ≤ 255) : Fits8 zs := by
  intro i
  by_cases hi : i < zs.length
  · have := h zs[i] (List.getElem_mem hi)
    simpa [List.getD, hi] using this
  · simp [List.getD, hi]

theorem row_of_owns' {w : World} {base : Nat} {e : TypeId} {v : Value} {n : Nat} {zs : List Int} (h : w.ownsRow base e 1 v n (zs.map (Value.int .u8))) : ∃ a cap, v = .slice a n cap ∧ Row w .u8 a zs := by
  rcases h.2 with ⟨hv, hn⟩ | ⟨g, cap, cur, hv, r⟩
  · subst hn
    have hz : zs = [] := List.eq_nil_of_length_eq_zero (by simpa using h.1)
    subst hz
    exact ⟨none, 0, hv, row_nil _ _ _⟩
  · refine ⟨some ⟨g, 0, none⟩, cap, hv, fun i hi => ⟨g, 0, rfl, ?_⟩⟩
    have hc := h.cells (g := g) (by rw [hv]; rfl) i (.int .u8 (zs.getD i 0)) (by
      rw [List.getElem?_map, List.getD, List.getElem?_eq_getElem hi]; rfl)
    rwa [Addr.add_lit] at hc

end Go.Proofs.Yteindoemdonagaa
