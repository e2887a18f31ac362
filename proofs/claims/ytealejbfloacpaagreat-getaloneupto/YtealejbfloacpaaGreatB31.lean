/- Texts of one's own. -/
import Derived.Test.YtealejbfloacpaaGreatB22
import Derived.Test.YtealejbfloacpaaGreatB6
import Derived.Deep.CutBlock
import Derived.Test.YtealejbfloacpaaGreatB3
namespace Go.Proofs.YtealejbfloacpaaGreat
open Go.RowKit
set_option maxRecDepth 100000
abbrev z6 : Array Value := #[.int .i64 0, .slice none 0 0, .int .i64 0, .slice none 0 0, .slice none 0 0, .slice none 0 0]
theorem PX.below {W W' : World} {A : Nat} {F : Nat → Prop} {s : AS} (h : PX W A F s) (hb : Below W.heap.size W W') : PX W' A F s := h.upd (S := Noth) (Upd.of_below hb _) (fun _ _ e => e)
end Go.Proofs.YtealejbfloacpaaGreat

namespace Go.Proofs.YtealejbfloacpaaGreat
open Go.RowKit
set_option maxRecDepth 100000
/-- What a look keeps of a node: its number, its low, and the node as it was read. -/
structure Sp where
  id : Int
  low : Tx
  n : Nd
def Sp.w (x : Sp) : Nat := if 0 < x.n.lv then x.n.cs.s.length else x.n.ks.L.length
def Sp.kv (x : Sp) : Value := if 0 < x.n.lv then x.n.ks.v else .slice none 0 0
def Sp.cv (x : Sp) : Value := if 0 < x.n.lv then x.n.cs.v else .slice none 0 0
def Sp.v (x : Sp) : Value := .agg #[.int .i64 x.n.lv, x.low.v, .int .i64 (x.w : Nat), x.kv, x.cv]
/-- Blocks that a look writes: its own, the map's, the chains', the last chain's. -/
def LMut (B m : Nat) (ga la : Option Addr) (k : Nat) : Prop := k = B ∨ k = m ∨ (∃ y, ga = some y ∧ y.block = k) ∨ (∃ y, la = some y ∧ y.block = k)
/-- Blocks that what a look has read does not lie in: those that it writes, and those of others (X). -/
def LAv (X : Nat → Prop) (B m : Nat) (ga la : Option Addr) (k : Nat) : Prop := LMut B m ga la k ∨ X k
structure Sp.Ok (W : World) (S : Nat → Prop) (s : AS) (x : Sp) : Prop where
  n : x.n.Ok W
  l : x.low.Ok W
  ni : x.n.In (fun k => ¬ S k)
  li : ∀ y, x.low.a = some y → 0 < x.low.s.length → ¬ S y.block
  p : x.n.p = s.n x.id
theorem Nd.In.both {D E : Nat → Prop} {n : Nd} (h : n.In D) (g : n.In E) : n.In (fun k => D k ∧ E k) :=
  ⟨fun x e l => ⟨h.h x e l, g.h x e l⟩, fun x e l => ⟨h.k x e l, g.k x e l⟩, fun t ht x e l => ⟨h.ke t ht x e l, g.ke t ht x e l⟩, fun x e l => ⟨h.v x e l, g.v x e l⟩, fun t ht x e l => ⟨h.ve t ht x e l, g.ve t ht x e l⟩, fun x e l => ⟨h.c x e l, g.c x e l⟩⟩
theorem row_lt {W : World} {k : IntKind} {a : Option Addr} {zs : List Int} (r : Row W k a zs) : ∀ x, a = some x → 0 < zs.length → x.block < W.heap.size := fun x e l => by
  obtain ⟨b, o, ha, hc⟩ := r 0 l
  rw [e] at ha
  cases ha
  exact World.block_lt_of_cell? W ⟨b, o + 0, none⟩ hc
theorem Sp.Ok.move {W W' : World} {S S' T : Nat → Prop} {s : AS} {x : Sp} (h : x.Ok W S s) (hu : Upd T W W') (hT : ∀ k, k < W.heap.size → T k → S k) (hS : ∀ k, k < W.heap.size → S' k → S k) : x.Ok W' S' s := by
  have hi := h.ni.both h.n.in_
  refine ⟨h.n.upd hi hu (fun k hk e => hk.1 (hT k hk.2 e)), h.l.updL hu (fun y e l e2 => h.li y e l (hT _ (row_lt h.l.r y e l) e2)), hi.mono (fun k hk e => hk.1 (hS k hk.2 e)), fun y e l e2 => h.li y e l (hS _ (row_lt h.l.r y e l) e2), h.p⟩
def spE (L : List Sp) : List (Int × Value) := L.map fun x => (x.id, x.v)
theorem spE_ids (L : List Sp) : (spE L).map (·.1) = L.map (·.id) := by simp [spE]
def lookC (A : Nat) (nd lf inn fl bk : Int) (m : Nat) (v : Value) : Array Value := #[.pointer (some ⟨A, 0, none⟩), .int .i64 nd, .int .i64 lf, .int .i64 inn, .int .i64 fl, .int .i64 bk, .map (some m), v]
/-- The lists of a look's chains that are through. -/
structure Olds (W : World) (S : Nat → Prop) (O : List (List Sp)) (ov : List IL) : Prop where
  ok : ∀ v ∈ ov, v.Ok W
  ap : ∀ v ∈ ov, ∀ y, v.a = some y → 0 < v.s.length → ¬ S y.block
  s : ov.map (·.s) = O.map fun c => c.map (·.id)
theorem Olds.len {W : World} {S : Nat → Prop} {O : List (List Sp)} {ov : List IL} (h : Olds W S O ov) : ov.length = O.length := by have := congrArg List.length h.s; simpa using this
theorem Olds.move {W W' : World} {S S' T : Nat → Prop} {O : List (List Sp)} {ov : List IL} (h : Olds W S O ov) (hu : Upd T W W') (hT : ∀ k, k < W.heap.size → T k → S k) (hS : ∀ k, k < W.heap.size → S' k → S k) : Olds W' S' O ov :=
  ⟨fun v hv => (h.ok v hv).upd hu (fun y e l e2 => h.ap v hv y e l (hT _ (row_lt (h.ok v hv).r y e l) e2)), fun v hv y e l e2 => h.ap v hv y e l (hS _ (row_lt (h.ok v hv).r y e l) e2), h.s⟩
/-- A look between two levels, or behind all. -/
structure LQ (W : World) (X : Nat → Prop) (B m N A : Nat) (ga : Option Addr) (gc : Nat) (nd lf inn fl bk : Int) (s : AS) (O : List (List Sp)) (ov : List IL) : Prop where
  b : W.heap[B]? = some (.cells (lookC A nd lf inn fl bk m (.slice ga O.length gc)) 220 (0, 0))
  im : IM W m (spE O.flatten)
  row : W.ownsRow N 31 1 (.slice ga O.length gc) O.length (ov.map IL.v)
  old : Olds W (LAv X B m ga none) O ov
  sp : ∀ x ∈ O.flatten, x.Ok W (LAv X B m ga none) s
  x : ∀ k, X k → k < W.heap.size ∧ ¬ LMut B m ga none k
  nB : N ≤ B
  nm : N ≤ m
  bm : B ≠ m
  gB : ∀ y, ga = some y → y.block ≠ B ∧ y.block ≠ m
/-- A look within a level. -/
structure LW (W : World) (X : Nat → Prop) (B m N A : Nat) (ga : Option Addr) (gc : Nat) (la : Option Addr) (lc : Nat) (nd lf inn fl bk : Int) (s : AS) (O : List (List Sp)) (ov : List IL) (cur : List Sp) : Prop where
  b : W.heap[B]? = some (.cells (lookC A nd lf inn fl bk m (.slice ga (O.length + 1) gc)) 220 (0, 0))
  im : IM W m (spE (O.flatten ++ cur))
  row : W.ownsRow N 31 1 (.slice ga (O.length + 1) gc) (O.length + 1) (ov.map IL.v ++ [.slice la cur.length lc])
  last : W.ownsRow N 3 1 (.slice la cur.length lc) cur.length (cur.map fun x => .int .i64 x.id)
  old : Olds W (LAv X B m ga la) O ov
  sp : ∀ x ∈ O.flatten ++ cur, x.Ok W (LAv X B m ga la) s
  x : ∀ k, X k → k < W.heap.size ∧ ¬ LMut B m ga la k
  nB : N ≤ B
  nm : N ≤ m
  bm : B ≠ m
  gB : ∀ y, ga = some y → y.block ≠ B ∧ y.block ≠ m
  lB : ∀ y, la = some y → y.block ≠ B ∧ y.block ≠ m ∧ ∀ z, ga = some z → y.block ≠ z.block
section
variable {W W' : World} {X : Nat → Prop} {B m N A : Nat} {ga la : Option Addr} {gc lc : Nat} {nd lf inn fl bk : Int} {s : AS} {O : List (List Sp)} {ov : List IL} {cur : List Sp}
theorem LQ.below (h : LQ W X B m N A ga gc nd lf inn fl bk s O ov) (hb : Below W.heap.size W W') : LQ W' X B m N A ga gc nd lf inn fl bk s O ov := by
  have hu : Upd Noth W W' := Upd.of_below hb _
  exact ⟨hu.heap h.b (fun e => e), h.im.below hb, owns_below h.row hb, h.old.move hu (fun _ _ e => e.elim) (fun _ _ e => e), fun x hx => (h.sp x hx).move hu (fun _ _ e => e.elim) (fun _ _ e => e), fun k hk => ⟨Nat.lt_of_lt_of_le (h.x k hk).1 hb.size, (h.x k hk).2⟩, h.nB, h.nm, h.bm, h.gB⟩
theorem LW.below (h : LW W X B m N A ga gc la lc nd lf inn fl bk s O ov cur) (hb : Below W.heap.size W W') : LW W' X B m N A ga gc la lc nd lf inn fl bk s O ov cur := by
  have hu : Upd Noth W W' := Upd.of_below hb _
  exact ⟨hu.heap h.b (fun e => e), h.im.below hb, owns_below h.row hb, owns_below h.last hb, h.old.move hu (fun _ _ e => e.elim) (fun _ _ e => e), fun x hx => (h.sp x hx).move hu (fun _ _ e => e.elim) (fun _ _ e => e), fun k hk => ⟨Nat.lt_of_lt_of_le (h.x k hk).1 hb.size, (h.x k hk).2⟩, h.nB, h.nm, h.bm, h.gB, h.lB⟩
/-- Others' blocks are written. -/
theorem LW.other (h : LW W X B m N A ga gc la lc nd lf inn fl bk s O ov cur) (hu : Upd X W W') : LW W' X B m N A ga gc la lc nd lf inn fl bk s O ov cur := by
  have hx : ∀ k, LMut B m ga la k → ¬ X k := fun k hk e => (h.x k e).2 hk
  exact ⟨hu.heap h.b (hx _ (.inl rfl)), h.im.upd hu (hx _ (.inr (.inl rfl))), owns_upd h.row hu (fun k hk => hx k (.inr (.inr (.inl (by cases hg : ga with
      | none => rw [hg] at hk; cases hk
      | some y => rw [hg] at hk; exact ⟨y, rfl, Option.some.inj hk⟩))))), owns_upd h.last hu (fun k hk => hx k (.inr (.inr (.inr (by cases hg : la with
      | none => rw [hg] at hk; cases hk
      | some y => rw [hg] at hk; exact ⟨y, rfl, Option.some.inj hk⟩))))), h.old.move hu (fun _ _ e => .inr e) (fun _ _ e => e), fun x hx => (h.sp x hx).move hu (fun _ _ e => .inr e) (fun _ _ e => e), fun k hk => ⟨Nat.lt_of_lt_of_le (h.x k hk).1 hu.size, (h.x k hk).2⟩, h.nB, h.nm, h.bm, h.gB, h.lB⟩
theorem LQ.other (h : LQ W X B m N A ga gc nd lf inn fl bk s O ov) (hu : Upd X W W') : LQ W' X B m N A ga gc nd lf inn fl bk s O ov := by
  have hx : ∀ k, LMut B m ga none k → ¬ X k := fun k hk e => (h.x k e).2 hk
  exact ⟨hu.heap h.b (hx _ (.inl rfl)), h.im.upd hu (hx _ (.inr (.inl rfl))), owns_upd h.row hu (fun k hk => hx k (.inr (.inr (.inl (by cases hg : ga with
      | none => rw [hg] at hk; cases hk
      | some y => rw [hg] at hk; exact ⟨y, rfl, Option.some.inj hk⟩))))), h.old.move hu (fun _ _ e => .inr e) (fun _ _ e => e), fun x hx => (h.sp x hx).move hu (fun _ _ e => .inr e) (fun _ _ e => e), fun k hk => ⟨Nat.lt_of_lt_of_le (h.x k hk).1 hu.size, (h.x k hk).2⟩, h.nB, h.nm, h.bm, h.gB⟩
/-- New blocks are others'. -/
theorem LW.more (h : LW W X B m N A ga gc la lc nd lf inn fl bk s O ov cur) (hb : Below W.heap.size W W') {X' : Nat → Prop} (hX : ∀ k, X' k → X k ∨ (W.heap.size ≤ k ∧ k < W'.heap.size)) (hm : ∀ k, LMut B m ga la k → k < W.heap.size) : LW W' X' B m N A ga gc la lc nd lf inn fl bk s O ov cur := by
  have hu : Upd Noth W W' := Upd.of_below hb _
  have hS : ∀ k, k < W.heap.size → LAv X' B m ga la k → LAv X B m ga la k := fun k hk e => by
    rcases e with e | e
    · exact .inl e
    · rcases hX k e with e | e
      · exact .inr e
      · omega
  refine ⟨hu.heap h.b (fun e => e), h.im.below hb, owns_below h.row hb, owns_below h.last hb, h.old.move hu (fun _ _ e => e.elim) hS, fun x hx => (h.sp x hx).move hu (fun _ _ e => e.elim) hS, fun k hk => ?_, h.nB, h.nm, h.bm, h.gB, h.lB⟩
  rcases hX k hk with e | e
  · exact ⟨Nat.lt_of_lt_of_le (h.x k e).1 hb.size, (h.x k e).2⟩
  · exact ⟨e.2, fun e2 => by have := hm k e2; omega⟩
theorem LQ.more (h : LQ W X B m N A ga gc nd lf inn fl bk s O ov) (hb : Below W.heap.size W W') {X' : Nat → Prop} (hX : ∀ k, X' k → X k ∨ (W.heap.size ≤ k ∧ k < W'.heap.size)) (hm : ∀ k, LMut B m ga none k → k < W.heap.size) : LQ W' X' B m N A ga gc nd lf inn fl bk s O ov := by
  have hu : Upd Noth W W' := Upd.of_below hb _
  have hS : ∀ k, k < W.heap.size → LAv X' B m ga none k → LAv X B m ga none k := fun k hk e => by
    rcases e with e | e
    · exact .inl e
    · rcases hX k e with e | e
      · exact .inr e
      · omega
  refine ⟨hu.heap h.b (fun e => e), h.im.below hb, owns_below h.row hb, h.old.move hu (fun _ _ e => e.elim) hS, fun x hx => (h.sp x hx).move hu (fun _ _ e => e.elim) hS, fun k hk => ?_, h.nB, h.nm, h.bm, h.gB⟩
  rcases hX k hk with e | e
  · exact ⟨Nat.lt_of_lt_of_le (h.x k e).1 hb.size, (h.x k e).2⟩
  · exact ⟨e.2, fun e2 => by have := hm k e2; omega⟩
theorem LQ.cells (h : LQ W X B m N A ga gc nd lf inn fl bk s O ov) : W.cell? ⟨B, 0, none⟩ = some (.pointer (some ⟨A, 0, none⟩)) ∧ W.cell? ⟨B, 6, none⟩ = some (.map (some m)) ∧ W.cell? ⟨B, 7, none⟩ = some (.slice ga O.length gc) :=
  ⟨by rw [cell_of_row _ _ _ _ _ _ h.b]; rfl, by rw [cell_of_row _ _ _ _ _ _ h.b]; rfl, by rw [cell_of_row _ _ _ _ _ _ h.b]; rfl⟩
theorem LQ.cfg (h : LQ W X B m N A ga gc nd lf inn fl bk s O ov) : W.cell? ⟨B, 1, none⟩ = some (.int .i64 nd) ∧ W.cell? ⟨B, 2, none⟩ = some (.int .i64 lf) ∧ W.cell? ⟨B, 3, none⟩ = some (.int .i64 inn) ∧ W.cell? ⟨B, 4, none⟩ = some (.int .i64 fl) ∧ W.cell? ⟨B, 5, none⟩ = some (.int .i64 bk) :=
  ⟨by rw [cell_of_row _ _ _ _ _ _ h.b]; rfl, by rw [cell_of_row _ _ _ _ _ _ h.b]; rfl, by rw [cell_of_row _ _ _ _ _ _ h.b]; rfl, by rw [cell_of_row _ _ _ _ _ _ h.b]; rfl, by rw [cell_of_row _ _ _ _ _ _ h.b]; rfl⟩
/-- What the map says of a number. -/
theorem LQ.at (h : LQ W X B m N A ga gc nd lf inn fl bk s O ov) {x : Sp} (hx : x ∈ O.flatten) : imAt (spE O.flatten) x.id = some x.v := imAt_some h.im.nd (List.mem_map.2 ⟨x, hx, rfl⟩)
theorem LQ.uniq (h : LQ W X B m N A ga gc nd lf inn fl bk s O ov) : (O.flatten.map (·.id)).Nodup := by have := h.im.nd; rwa [spE_ids] at this
end
/-- The chains as such. -/
def Sp.q (x : Sp) : Int × List Int := (x.id, x.low.s)
end Go.Proofs.YtealejbfloacpaaGreat

namespace Go.Proofs.YtealejbfloacpaaGreat
open Go.RowKit
set_option maxRecDepth 100000
def rpt (b : Bool) (id er lv no en : Int) : Value := .agg #[.bool b, .int .i64 id, .int .i64 er, .int .i64 lv, .int .i64 no, .int .i64 en]
section
variable {W : World} {X : Nat → Prop} {B m N A : Nat} {ga : Option Addr} {gc : Nat} {nd lf inn fl bk : Int} {s : AS} {O : List (List Sp)} {ov : List IL}
/-- How many the nodes of a chain have. -/
def wdS (c : List Sp) : Nat := (c.map Sp.w).sum
end
end Go.Proofs.YtealejbfloacpaaGreat
