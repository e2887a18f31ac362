/- block: a Builder; Add. -/
import Derived.Test.YtepjblmjjegpgaaGreatW27
import Derived.Test.YtepjblmjjegpgaaGreatW22
import Derived.Test.YtepjblmjjegpgaaGreatW29
namespace Go.Proofs.YtepjblmjjegpgaaGreat
open Go.RowKit
set_option maxRecDepth 100000

/-- A Builder's cells: how many entries, their bytes, the table, the last key. -/
structure BdR (W : World) (B g n : Nat) (bs ts ls : List Int) (vb vt vl : Value) : Prop where
  blk : W.heap[g]? = some (.cells #[.int .i64 (n : Int), vb, vt, vl] 135 (0, 0))
  ob : W.ownsRow B 5 1 vb bs.length (bs.map (Value.int .u8))
  ot : W.ownsRow B 5 1 vt ts.length (ts.map (Value.int .u8))
  ol : W.ownsRow B 5 1 vl ls.length (ls.map (Value.int .u8))
  db : ∀ i, vb.ownBlock = some i → i ≠ g ∧ vt.ownBlock ≠ some i ∧ vl.ownBlock ≠ some i
  dt : ∀ i, vt.ownBlock = some i → i ≠ g ∧ vl.ownBlock ≠ some i
  dl : ∀ i, vl.ownBlock = some i → i ≠ g
  gB : B ≤ g
def BdM (g : Nat) (vb vt vl : Value) (i : Nat) : Prop := i = g ∨ vb.ownBlock = some i ∨ vt.ownBlock = some i ∨ vl.ownBlock = some i

theorem BdR.lt {W : World} {B g n : Nat} {bs ts ls : List Int} {vb vt vl : Value} (h : BdR W B g n bs ts ls vb vt vl) : ∀ i, BdM g vb vt vl i → B ≤ i ∧ i < W.heap.size := by
  rintro i (rfl | hi | hi | hi)
  · exact ⟨h.gB, lt_of_block h.blk⟩
  · exact h.ob.lt i hi
  · exact h.ot.lt i hi
  · exact h.ol.lt i hi
theorem BdR.cells {W : World} {B g n : Nat} {bs ts ls : List Int} {vb vt vl : Value} (h : BdR W B g n bs ts ls vb vt vl) :
    W.cell? ⟨g, 0, none⟩ = some (.int .i64 (n : Int)) ∧ W.cell? ⟨g, 1, none⟩ = some vb ∧ W.cell? ⟨g, 2, none⟩ = some vt ∧ W.cell? ⟨g, 3, none⟩ = some vl ∧ ∀ j, W.frozen? ⟨g, j, none⟩ = false := by
  have hb := h.blk
  refine ⟨?_, ?_, ?_, ?_, fun j => by simp [World.frozen?, hb]⟩ <;> (rw [cell_of_row _ _ _ _ _ _ hb]; rfl)
theorem BdR.upd {W W' : World} {B g n : Nat} {bs ts ls : List Int} {vb vt vl : Value} {S : Nat → Prop} (h : BdR W B g n bs ts ls vb vt vl) (hu : Upd S W W') (hs : ∀ i, BdM g vb vt vl i → ¬ S i) : BdR W' B g n bs ts ls vb vt vl :=
  ⟨hu.heap h.blk (hs _ (.inl rfl)), owns_upd h.ob hu (fun _ hi => hs _ (.inr (.inl hi))), owns_upd h.ot hu (fun _ hi => hs _ (.inr (.inr (.inl hi)))), owns_upd h.ol hu (fun _ hi => hs _ (.inr (.inr (.inr hi)))), h.db, h.dt, h.dl, h.gB⟩
theorem frozen_blk {W : World} {g : Nat} {cs : Array Value} {t : TypeId} (h : W.heap[g]? = some (.cells cs t (0, 0))) (j : Nat) : W.frozen? ⟨g, j, none⟩ = false := by simp [World.frozen?, h]
theorem set_upd (W : World) (g j : Nat) (v : Value) : Upd (fun i => i = g) W (W.setCell ⟨g, j, none⟩ v) := (Upd.refl _ _).setCell _ _ (fun _ => rfl)
theorem owns_open {W : World} {B : Nat} {e : TypeId} {v : Value} {zs : List Int} (h : W.ownsRow B e 1 v zs.length (zs.map (Value.int .u8))) : ∃ a c, v = .slice a zs.length c ∧ Row W .u8 a zs ∧ (a = none → zs.length = 0 ∧ c = 0) ∧ zs.length ≤ c := by
  rcases h.2 with ⟨hv, hn⟩ | ⟨g, cap, cur, hv, _, _, h1, _⟩
  · obtain rfl : zs = [] := List.eq_nil_of_length_eq_zero hn
    exact ⟨none, 0, hv, row_nil _ _ _, fun _ => ⟨rfl, rfl⟩, Nat.le_refl _⟩
  · subst hv
    exact ⟨_, cap, rfl, row_of_owns h, (fun e => by cases e), h1⟩
theorem owns_openN {W : World} {B n : Nat} {e : TypeId} {v : Value} {zs : List Int} (h : W.ownsRow B e 1 v zs.length (zs.map (Value.int .u8))) (hn : zs.length = n) : ∃ a c, v = .slice a n c ∧ (a = none → n = 0 ∧ c = 0) ∧ n ≤ c := by
  obtain ⟨a, c, h1, _, h2, h3⟩ := owns_open h
  rw [hn] at h1 h2 h3
  exact ⟨a, c, h1, h2, h3⟩
/-- The table has grown. -/
theorem BdR.table {W w3 : World} {B g n : Nat} {bs ts ls ts' : List Int} {vb vt vl v' : Value} (h : BdR W B g n bs ts ls vb vt vl) (ho : w3.ownsRow B 5 1 v' ts'.length (ts'.map (Value.int .u8))) (hg : W.grownBy w3 vt.ownBlock) (hk : ∀ k, v'.ownBlock = some k → vt.ownBlock = some k ∨ W.heap.size ≤ k) :
    BdR (w3.setCell ⟨g, 2, none⟩ v') B g n bs ts' ls vb v' vl ∧ Upd (BdM g vb vt vl) W (w3.setCell ⟨g, 2, none⟩ v') ∧ ∀ i, BdM g vb v' vl i → BdM g vb vt vl i ∨ W.heap.size ≤ i := by
  have hu3 : Upd (fun i => vt.ownBlock = some i) W w3 := Upd.of_grown hg (fun k hk _ => hk)
  have hu4 := set_upd w3 g 2 v'
  have hlt := h.lt
  have hne : ∀ i, v'.ownBlock = some i → i ≠ g ∧ vl.ownBlock ≠ some i ∧ vb.ownBlock ≠ some i := fun i hi => by
    rcases hk i hi with h1 | h1
    · exact ⟨(h.dt i h1).1, (h.dt i h1).2, fun e => (h.db i e).2.1 h1⟩
    · exact ⟨fun e => by have := hlt i (.inl e); omega, fun e => by have := hlt i (.inr (.inr (.inr e))); omega, fun e => by have := hlt i (.inr (.inl e)); omega⟩
  refine ⟨⟨block_setCell (hu3.heap h.blk (fun e => (h.dt g e).1 rfl)) 2 _, owns_upd (owns_upd h.ob hu3 (fun i hi => (h.db i hi).2.1)) hu4 (fun i hi => (h.db i hi).1), owns_upd ho hu4 (fun i hi => (hne i hi).1), owns_upd (owns_upd h.ol hu3 (fun i hi e => (h.dt i e).2 hi)) hu4 (fun i hi => h.dl i hi), fun i hi => ⟨(h.db i hi).1, fun e => (hne i e).2.2 hi, (h.db i hi).2.2⟩, fun i hi => ⟨(hne i hi).1, (hne i hi).2.1⟩, h.dl, h.gB⟩, (hu3.mono (fun i _ e => .inr (.inr (.inl e)))).trans (hu4.mono (fun i _ e => .inl e)), ?_⟩
  rintro i (h1 | h1 | h1 | h1)
  · exact .inl (.inl h1)
  · exact .inl (.inr (.inl h1))
  · exact (hk i h1).imp (fun e => .inr (.inr (.inl e))) id
  · exact .inl (.inr (.inr (.inr h1)))
/-- The bytes have grown. -/
theorem BdR.body {W w3 : World} {B g n : Nat} {bs ts ls bs' : List Int} {vb vt vl v' : Value} (h : BdR W B g n bs ts ls vb vt vl) (ho : w3.ownsRow B 5 1 v' bs'.length (bs'.map (Value.int .u8))) (hg : W.grownBy w3 vb.ownBlock) (hk : ∀ k, v'.ownBlock = some k → vb.ownBlock = some k ∨ W.heap.size ≤ k) :
    BdR (w3.setCell ⟨g, 1, none⟩ v') B g n bs' ts ls v' vt vl ∧ Upd (BdM g vb vt vl) W (w3.setCell ⟨g, 1, none⟩ v') ∧ ∀ i, BdM g v' vt vl i → BdM g vb vt vl i ∨ W.heap.size ≤ i := by
  have hu3 : Upd (fun i => vb.ownBlock = some i) W w3 := Upd.of_grown hg (fun k hk _ => hk)
  have hu4 := set_upd w3 g 1 v'
  have hlt := h.lt
  have hne : ∀ i, v'.ownBlock = some i → i ≠ g ∧ vt.ownBlock ≠ some i ∧ vl.ownBlock ≠ some i := fun i hi => by
    rcases hk i hi with h1 | h1
    · exact h.db i h1
    · exact ⟨fun e => by have := hlt i (.inl e); omega, fun e => by have := hlt i (.inr (.inr (.inl e))); omega, fun e => by have := hlt i (.inr (.inr (.inr e))); omega⟩
  refine ⟨⟨block_setCell (hu3.heap h.blk (fun e => (h.db g e).1 rfl)) 1 _, owns_upd ho hu4 (fun i hi => (hne i hi).1), owns_upd (owns_upd h.ot hu3 (fun i hi e => (h.db i e).2.1 hi)) hu4 (fun i hi => (h.dt i hi).1), owns_upd (owns_upd h.ol hu3 (fun i hi e => (h.db i e).2.2 hi)) hu4 (fun i hi => h.dl i hi), hne, h.dt, h.dl, h.gB⟩, (hu3.mono (fun i _ e => .inr (.inl e))).trans (hu4.mono (fun i _ e => .inl e)), ?_⟩
  rintro i (h1 | h1 | h1 | h1)
  · exact .inl (.inl h1)
  · exact (hk i h1).imp (fun e => .inr (.inl e)) id
  · exact .inl (.inr (.inr (.inl h1)))
  · exact .inl (.inr (.inr (.inr h1)))
/-- A new last key; one entry more. -/
theorem BdR.lastly {W w3 : World} {B g n : Nat} {bs ts ls ls' : List Int} {vb vt vl v' : Value} (h : BdR W B g n bs ts ls vb vt vl) (ho : OwnB w3 W.heap.size 5 v' ls') (hb : Below W.heap.size W w3) :
    BdR ((w3.setCell ⟨g, 3, none⟩ v').setCell ⟨g, 0, none⟩ (.int .i64 ((n + 1 : Nat) : Int))) B g (n + 1) bs ts ls' vb vt v' ∧ Upd (BdM g vb vt vl) W ((w3.setCell ⟨g, 3, none⟩ v').setCell ⟨g, 0, none⟩ (.int .i64 ((n + 1 : Nat) : Int))) ∧ ∀ i, BdM g vb vt v' i → BdM g vb vt vl i ∨ W.heap.size ≤ i := by
  have hu3 : Upd Noth W w3 := Upd.of_below hb Noth
  have hu4 := (set_upd w3 g 3 v').trans (set_upd (w3.setCell ⟨g, 3, none⟩ v') g 0 (.int .i64 ((n + 1 : Nat) : Int)))
  have hlt := h.lt
  have hge : ∀ i, v'.ownBlock = some i → W.heap.size ≤ i := fun i hi => (ho.owns.lt i hi).1
  have hne : ∀ i, v'.ownBlock = some i → i ≠ g ∧ vt.ownBlock ≠ some i ∧ vb.ownBlock ≠ some i := fun i hi => by
    have h1 := hge i hi
    exact ⟨fun e => by have := hlt i (.inl e); omega, fun e => by have := hlt i (.inr (.inr (.inl e))); omega, fun e => by have := hlt i (.inr (.inl e)); omega⟩
  have hB : B ≤ W.heap.size := Nat.le_of_lt (Nat.lt_of_le_of_lt h.gB (hlt g (.inl rfl)).2)
  refine ⟨⟨block_setCell (block_setCell (hu3.heap h.blk (fun e => e)) 3 _) 0 _, owns_upd (owns_upd h.ob hu3 (fun _ _ e => e)) hu4 (fun i hi => (h.db i hi).1), owns_upd (owns_upd h.ot hu3 (fun _ _ e => e)) hu4 (fun i hi => (h.dt i hi).1), owns_upd (owns_mono ho.owns hB) hu4 (fun i hi => (hne i hi).1), fun i hi => ⟨(h.db i hi).1, (h.db i hi).2.1, fun e => (hne i e).2.2 hi⟩, fun i hi => ⟨(h.dt i hi).1, fun e => (hne i e).2.1 hi⟩, fun i hi => (hne i hi).1, h.gB⟩, hu3.noth.trans (hu4.mono (fun i _ e => .inl e)), ?_⟩
  rintro i (h1 | h1 | h1 | h1)
  · exact .inl (.inl h1)
  · exact .inl (.inr (.inl h1))
  · exact .inl (.inr (.inr (.inl h1)))
  · exact .inr (hge i h1)

/-- A Builder with these entries; M: the blocks that it has. -/
def BdAt (W : World) (B : Nat) (M : Nat → Prop) (g : Nat) (l : List KV) : Prop :=
  Good l ∧ ∃ vb vt vl, BdR W B g l.length (bod l l.length) (tab l l.length) (ahd l) vb vt vl ∧ ∀ i, M i ↔ BdM g vb vt vl i
theorem BdAt.upd {W W' : World} {B g : Nat} {M S : Nat → Prop} {l : List KV} (h : BdAt W B M g l) (hu : Upd S W W') (hs : ∀ i, M i → ¬ S i) : BdAt W' B M g l := by
  obtain ⟨hg, vb, vt, vl, h, hM⟩ := h
  exact ⟨hg, vb, vt, vl, h.upd hu (fun i hi => hs i ((hM i).2 hi)), hM⟩
theorem BdAt.lt {W : World} {B g : Nat} {M : Nat → Prop} {l : List KV} (h : BdAt W B M g l) : ∀ i, M i → B ≤ i ∧ i < W.heap.size := by
  obtain ⟨hg, vb, vt, vl, h, hM⟩ := h
  exact fun i hi => h.lt i ((hM i).1 hi)
def addE (l : List KV) (ks vs : List Int) : Int := if chkE ks.length vs.length ≠ 0 then chkE ks.length vs.length else if l.length = 64 then 61 else if cmpI (ahd l) ks < 0 then 0 else 51
def addL (l : List KV) (ks vs : List Int) : List KV := if addE l ks vs = 0 then l ++ [(ks, vs)] else l
def AddPost (W : World) (B : Nat) (M : Nat → Prop) (g : Nat) (r : Int) (l' : List KV) (e : Ending) (W' : World) : Prop :=
  e = .returned (.int .i64 r) ∧ ∃ M', BdAt W' B M' g l' ∧ Upd M W W' ∧ ∀ i, M' i → M i ∨ W.heap.size ≤ i

end Go.Proofs.YtepjblmjjegpgaaGreat
