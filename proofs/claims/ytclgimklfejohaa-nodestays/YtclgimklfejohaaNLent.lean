/- The law's lent: a node in new memory, each list with marks behind it. What holds between its steps. -/
import Derived.Test.YtclgimklfejohaaNRClone2
import Derived.Test.YtclgimklfejohaaNHead
namespace Go.Proofs.Ytclgimklfejohaa
open Go.RowKit

/-- A text in a block of bytes. -/
structure TxT (W : World) (x : Tx) : Prop where
  ok : x.Ok W
  ty : ∀ ad, x.a = some ad → ∃ cur fz, W.heap[ad.block]? = some (.cells cur 5 fz)
theorem TxT.blk {W W' : World} {x : Tx} (h : TxT W x) (hb : ∀ ad, x.a = some ad → W'.heap[ad.block]? = W.heap[ad.block]?) : TxT W' x := by
  refine ⟨⟨fun i hi => ?_, h.ok.n, h.ok.lc, h.ok.b8, h.ok.z⟩, fun ad had => ?_⟩
  · obtain ⟨b, o, ha, hc⟩ := h.ok.r i hi
    have h2 : W'.heap[b]? = W.heap[b]? := hb ⟨b, o, none⟩ ha
    exact ⟨b, o, ha, by rw [← hc]; exact World.cell?_of_block h2⟩
  · obtain ⟨cur, fz, hh⟩ := h.ty ad had
    exact ⟨cur, fz, by rw [hb ad had]; exact hh⟩
theorem TxT.below {W W' : World} {x : Tx} (h : TxT W x) (hb : Below W.heap.size W W') : TxT W' x := h.blk fun ad had => by
  obtain ⟨cur, fz, hh⟩ := h.ty ad had
  exact hb.block _ (lt_of_block hh)
/-- Blocks of another kind turn, and it stays. -/
theorem TxT.upd {W W' : World} {S : Nat → Prop} {x : Tx} (h : TxT W x) (hb : Upd S W W') (hs : ∀ b, S b → ∀ cur fz, W.heap[b]? ≠ some (.cells cur 5 fz)) : TxT W' x := h.blk fun ad had => by
  obtain ⟨cur, fz, hh⟩ := h.ty ad had
  exact hb.block _ (lt_of_block hh) (fun e => hs _ e cur fz hh)
theorem ownB_T {W : World} {N : Nat} {x : Tx} (h : OwnB W N 5 x.v x.s) (h8 : B8 x.s) (hz : x.s.length ≤ 140737488351232) : TxT W x := by
  refine ⟨ownB_ok h h8 hz, fun ad had => ?_⟩
  rcases h with ⟨hv, _⟩ | ⟨g, c, cur, hv, _, hh, _⟩
  · simp only [Tx.v, Value.slice.injEq] at hv; rw [had] at hv; cases hv.1
  · simp only [Tx.v, Value.slice.injEq] at hv
    rw [had] at hv
    cases hv.1
    exact ⟨cur, (0, 0), hh⟩
theorem owns_ty {W : World} {N : Nat} {e : TypeId} {a : Option Addr} {n m c : Nat} {xs : List Value} (h : W.ownsRow N e 1 (.slice a n c) m xs) : ∀ ad, a = some ad → ∃ cur, W.heap[ad.block]? = some (.cells cur e (0, 0)) := by
  intro ad had
  rcases h.2 with ⟨hv, _⟩ | ⟨g, c', cur, hv, _, hh, _⟩
  · cases hv; cases had
  · cases hv; cases had; exact ⟨cur, hh⟩
/-- A row whose kind is another than what turns. -/
theorem owns_apart {W W' : World} {N : Nat} {S : Nat → Prop} {e : TypeId} {a : Option Addr} {n c : Nat} {xs : List Value} (h : W.ownsRow N e 1 (.slice a n c) n xs) (hb : Upd S W W') (hs : ∀ b, S b → ∀ cur, W.heap[b]? ≠ some (.cells cur e (0, 0))) : W'.ownsRow N e 1 (.slice a n c) n xs := by
  refine owns_upd h hb fun k hk e' => ?_
  rcases h.2 with ⟨hv, _⟩ | ⟨g, c', cur, hv, _, hh, _⟩
  · cases hv; cases hk
  · cases hv; cases hk; exact hs _ e' cur hh

/-- While lent works: its box, what it will hand back, its rows with the marks laid so far. -/
structure LtS (w W : World) (X : Nat) (lv ri : Int) (ha ka va ca : Option Addr) (hc kc vc cc : Nat) (hs hx : List Int) (K kx V vx : List Tx) (C cx : List Int) : Prop where
  box : W.heap[X]? = some (.cells #[.int .i64 lv, .slice ha hs.length hc, .int .i64 ri, .slice ka K.length kc, .slice va V.length vc, .slice ca C.length cc] 30 (0, 0))
  res : W.heap[w.heap.size + 1]? = some (.cells #[.int .i64 0, .slice none 0 0, .int .i64 0, .slice none 0 0, .slice none 0 0, .slice none 0 0] 30 (0, 0))
  bel : Below w.heap.size w W
  hX : w.heap.size + 2 ≤ X
  h : W.ownsRow (w.heap.size + 2) 5 1 (.slice ha (hs ++ hx).length hc) (hs ++ hx).length ((hs ++ hx).map (Value.int .u8))
  k : W.ownsRow (w.heap.size + 2) 22 1 (.slice ka (K ++ kx).length kc) (K ++ kx).length ((K ++ kx).map Tx.v)
  v : W.ownsRow (w.heap.size + 2) 22 1 (.slice va (V ++ vx).length vc) (V ++ vx).length ((V ++ vx).map Tx.v)
  c : W.ownsRow (w.heap.size + 2) 3 1 (.slice ca (C ++ cx).length cc) (C ++ cx).length ((C ++ cx).map (Value.int .i64))
  kt : ∀ x ∈ K ++ kx, TxT W x
  vt : ∀ x ∈ V ++ vx, TxT W x
  kv : ∀ x y, ka = some x → va = some y → x.block ≠ y.block
theorem LtS.below {w W W' : World} {X : Nat} {lv ri : Int} {ha ka va ca : Option Addr} {hc kc vc cc : Nat} {hs hx : List Int} {K kx V vx : List Tx} {C cx : List Int} (s : LtS w W X lv ri ha ka va ca hc kc vc cc hs hx K kx V vx C cx) (hb : Below W.heap.size W W') : LtS w W' X lv ri ha ka va ca hc kc vc cc hs hx K kx V vx C cx :=
  ⟨(hb.block _ (lt_of_block s.box)).trans s.box, (hb.block _ (lt_of_block s.res)).trans s.res, s.bel.trans (hb.mono s.bel.size), s.hX, owns_below s.h hb, owns_below s.k hb, owns_below s.v hb, owns_below s.c hb, fun x hx => (s.kt x hx).below hb, fun x hx => (s.vt x hx).below hb, s.kv⟩

/-- Behind an append onto one of the rows, and the store into the box: which blocks may have turned. -/
theorem turned {W1 W2 : World} {a : Option Addr} {n c X j : Nat} {u : Value} (hg : W1.grownBy W2 (Value.slice a n c).ownBlock) : Upd (fun b => b = X ∨ (Value.slice a n c).ownBlock = some b) W1 (W2.setCell ⟨X, j, none⟩ u) :=
  (Upd.of_grown (S := fun b => b = X ∨ (Value.slice a n c).ownBlock = some b) hg (fun _ hk _ => .inr hk)).trans ((Upd.refl _ W2).setCell _ _ (fun _ => .inl rfl))
theorem block_of {a : Option Addr} {n c b : Nat} (h : (Value.slice a n c).ownBlock = some b) : ∃ ad, a = some ad ∧ ad.block = b := by
  cases a with
  | none => cases h
  | some ad => exact ⟨ad, rfl, by simpa [Value.ownBlock] using h⟩

section
variable {w W W2 : World} {X : Nat} {lv ri : Int} {ha ka va ca : Option Addr} {hc kc vc cc : Nat} {hs hx : List Int} {K kx V vx : List Tx} {C cx : List Int}
/-- Marks behind High. -/
theorem LtS.stepH {g cap : Nat} (s : LtS w W X lv ri ha ka va ca hc kc vc cc hs [] K kx V vx C cx) (hsep : ∀ ad, ha = some ad → (∀ x ∈ K ++ kx, ∀ y, x.a = some y → y.block ≠ ad.block) ∧ (∀ x ∈ V ++ vx, ∀ y, x.a = some y → y.block ≠ ad.block))
    (ho : W2.ownsRow (w.heap.size + 2) 5 1 (.slice (some ⟨g, 0, none⟩) (hs.length + 2) cap) (hs.length + 2) (hs.map (Value.int .u8) ++ [.int .u8 7, .int .u8 7])) (hg : W.grownBy W2 (Value.slice ha hs.length hc).ownBlock) :
    W2.heap[X]? = some (.cells #[.int .i64 lv, .slice ha hs.length hc, .int .i64 ri, .slice ka K.length kc, .slice va V.length vc, .slice ca C.length cc] 30 (0, 0)) ∧
    LtS w (W2.setCell ⟨X, 1, none⟩ (.slice (some ⟨g, 0, none⟩) hs.length cap)) X lv ri (some ⟨g, 0, none⟩) ka va ca cap kc vc cc hs [7, 7] K kx V vx C cx := by
  have U := turned (X := X) (j := 1) (u := .slice (some ⟨g, 0, none⟩) hs.length cap) hg
  have hty : ∀ b, (Value.slice ha hs.length hc).ownBlock = some b → ∃ cur, W.heap[b]? = some (.cells cur 5 (0, 0)) := fun b hb => by
    obtain ⟨ad, h1, rfl⟩ := block_of hb
    exact owns_ty s.h ad h1
  have hXb : ∀ e (cur : Array Value) fz, e ≠ 30 → W.heap[X]? ≠ some (.cells cur e fz) := fun e cur fz he h => by rw [s.box] at h; simp only [Option.some.injEq, Obj.cells.injEq] at h; exact he h.2.1.symm
  have hlt2 : ∀ b, (Value.slice ha hs.length hc).ownBlock = some b → w.heap.size + 2 ≤ b := fun b hb => by
    have := (s.h.lt b (by rw [List.append_nil]; exact hb)).1
    exact this
  have box2 : W2.heap[X]? = some (.cells #[.int .i64 lv, .slice ha hs.length hc, .int .i64 ri, .slice ka K.length kc, .slice va V.length vc, .slice ca C.length cc] 30 (0, 0)) := (hg.block X (lt_of_block s.box) (fun e => by obtain ⟨cur, h1⟩ := hty X e.symm; exact hXb _ cur _ (by decide) h1)).trans s.box
  have ap : ∀ e, e ≠ 30 → e ≠ 5 → ∀ b, (b = X ∨ (Value.slice ha hs.length hc).ownBlock = some b) → ∀ cur, W.heap[b]? ≠ some (.cells cur e (0, 0)) := fun e h1 h2 b hb cur h => by
    rcases hb with rfl | hb
    · exact hXb e cur _ h1 h
    · obtain ⟨cur', h3⟩ := hty b hb
      rw [h3] at h
      simp only [Option.some.injEq, Obj.cells.injEq] at h
      exact h2 h.2.1.symm
  have tt : ∀ x, TxT W x → (∀ ad, ha = some ad → ∀ y, x.a = some y → y.block ≠ ad.block) → TxT (W2.setCell ⟨X, 1, none⟩ (.slice (some ⟨g, 0, none⟩) hs.length cap)) x := fun x hxx hne => hxx.blk fun ad had => by
    obtain ⟨cur, fz, hh⟩ := hxx.ty ad had
    refine U.block _ (lt_of_block hh) fun e => ?_
    rcases e with e | e
    · rw [e] at hh; exact hXb _ cur fz (by decide) hh
    · obtain ⟨ad', h1, h2⟩ := block_of e
      exact hne ad' h1 ad had h2.symm
  refine ⟨box2, (blk_any box2 _).2.1, U.heap s.res (fun e => ?_), s.bel.trans (U.below s.bel.size (fun b hb e => ?_)), s.hX, ?_, owns_apart s.k U (ap _ (by decide) (by decide)), owns_apart s.v U (ap _ (by decide) (by decide)), owns_apart s.c U (ap _ (by decide) (by decide)), fun x hxx => tt x (s.kt x hxx) (fun ad had => (hsep ad had).1 x hxx), fun x hxx => tt x (s.vt x hxx) (fun ad had => (hsep ad had).2 x hxx), s.kv⟩
  · have := s.hX
    rcases e with e | e
    · omega
    · have := hlt2 _ e; omega
  · have := s.hX
    rcases e with e | e
    · omega
    · have := hlt2 _ e; omega
  · have hg2 : w.heap.size + 2 ≤ g := (ho.lt g rfl).1
    have hne : g ≠ X := fun e => by
      obtain ⟨cur, h1⟩ := owns_ty ho ⟨g, 0, none⟩ rfl
      simp only at h1
      rw [e, box2] at h1
      simp only [Option.some.injEq, Obj.cells.injEq] at h1
      exact absurd h1.2.1 (by decide)
    have ho2 := owns_upd ho ((Upd.refl (fun b => b = X) W2).setCell ⟨X, 1, none⟩ (.slice (some ⟨g, 0, none⟩) hs.length cap) (fun _ => rfl)) (fun k hk e => by cases hk; exact hne e)
    rw [List.length_append]
    simpa using ho2
/-- A mark behind the keys. -/
theorem LtS.stepK {g cap : Nat} {t : Tx} (s : LtS w W X lv ri ha ka va ca hc kc vc cc hs hx K [] V vx C cx) (ht : TxT W t)
    (ho : W2.ownsRow (w.heap.size + 2) 22 1 (.slice (some ⟨g, 0, none⟩) (K.length + 1) cap) (K.length + 1) (K.map Tx.v ++ [t.v])) (hg : W.grownBy W2 (Value.slice ka K.length kc).ownBlock) (hat : (Value.slice ka K.length kc).ownBlock = some g ∨ g = W.heap.size) :
    W2.heap[X]? = some (.cells #[.int .i64 lv, .slice ha hs.length hc, .int .i64 ri, .slice ka K.length kc, .slice va V.length vc, .slice ca C.length cc] 30 (0, 0)) ∧
    LtS w (W2.setCell ⟨X, 3, none⟩ (.slice (some ⟨g, 0, none⟩) K.length cap)) X lv ri ha (some ⟨g, 0, none⟩) va ca hc cap vc cc hs hx K [t] V vx C cx := by
  have U := turned (X := X) (j := 3) (u := .slice (some ⟨g, 0, none⟩) K.length cap) hg
  have hty : ∀ b, (Value.slice ka K.length kc).ownBlock = some b → ∃ cur, W.heap[b]? = some (.cells cur 22 (0, 0)) := fun b hb => by
    obtain ⟨ad, h1, rfl⟩ := block_of hb
    exact owns_ty s.k ad h1
  have hXb : ∀ e (cur : Array Value) fz, e ≠ 30 → W.heap[X]? ≠ some (.cells cur e fz) := fun e cur fz he h => by rw [s.box] at h; simp only [Option.some.injEq, Obj.cells.injEq] at h; exact he h.2.1.symm
  have hlt2 : ∀ b, (Value.slice ka K.length kc).ownBlock = some b → w.heap.size + 2 ≤ b := fun b hb => by
    have := (s.k.lt b (by rw [List.append_nil]; exact hb)).1
    exact this
  have box2 : W2.heap[X]? = some (.cells #[.int .i64 lv, .slice ha hs.length hc, .int .i64 ri, .slice ka K.length kc, .slice va V.length vc, .slice ca C.length cc] 30 (0, 0)) := (hg.block X (lt_of_block s.box) (fun e => by obtain ⟨cur, h1⟩ := hty X e.symm; exact hXb _ cur _ (by decide) h1)).trans s.box
  have ap : ∀ e, e ≠ 30 → e ≠ 22 → ∀ b, (b = X ∨ (Value.slice ka K.length kc).ownBlock = some b) → ∀ cur fz, W.heap[b]? ≠ some (.cells cur e fz) := fun e h1 h2 b hb cur fz h => by
    rcases hb with rfl | hb
    · exact hXb e cur _ h1 h
    · obtain ⟨cur', h3⟩ := hty b hb
      rw [h3] at h
      simp only [Option.some.injEq, Obj.cells.injEq] at h
      exact h2 h.2.1.symm
  have tt : ∀ x, TxT W x → TxT (W2.setCell ⟨X, 3, none⟩ (.slice (some ⟨g, 0, none⟩) K.length cap)) x := fun x hxx => hxx.upd U (ap _ (by decide) (by decide))
  refine ⟨box2, (blk_one box2 _).1, U.heap s.res (fun e => ?_), s.bel.trans (U.below s.bel.size (fun b hb e => ?_)), s.hX, owns_apart s.h U (fun b hb cur => ap _ (by decide) (by decide) b hb cur _), ?_, ?_, owns_apart s.c U (fun b hb cur => ap _ (by decide) (by decide) b hb cur _), fun x hxx => ?_, fun x hxx => tt x (s.vt x hxx), ?_⟩
  · have := s.hX
    rcases e with e | e
    · omega
    · have := hlt2 _ e; omega
  · have := s.hX
    rcases e with e | e
    · omega
    · have := hlt2 _ e; omega
  · have hne : g ≠ X := fun e => by
      obtain ⟨cur, h1⟩ := owns_ty ho ⟨g, 0, none⟩ rfl
      simp only at h1
      rw [e, box2] at h1
      simp only [Option.some.injEq, Obj.cells.injEq] at h1
      exact absurd h1.2.1 (by decide)
    have ho2 := owns_upd ho ((Upd.refl (fun b => b = X) W2).setCell ⟨X, 3, none⟩ (.slice (some ⟨g, 0, none⟩) K.length cap) (fun _ => rfl)) (fun k hk e => by cases hk; exact hne e)
    rw [List.length_append]
    simpa using ho2
  · refine owns_upd s.v U fun b hb e => ?_
    obtain ⟨y, hy, rfl⟩ := block_of hb
    rcases e with e | e
    · obtain ⟨cur, h1⟩ := owns_ty s.v y hy
      rw [e] at h1
      exact hXb _ cur _ (by decide) h1
    · obtain ⟨x, hx', he⟩ := block_of e
      exact s.kv x y hx' hy he
  · rcases List.mem_append.1 hxx with h | h
    · exact tt x (s.kt x (by rw [List.append_nil]; exact h))
    · obtain rfl : x = t := by simpa using h
      exact tt x ht
  · intro x y hx' hy
    cases hx'
    rcases hat with h | h
    · obtain ⟨x', hx'', he⟩ := block_of h
      have := s.kv x' y hx'' hy
      simp only
      omega
    · obtain ⟨cur, h1⟩ := owns_ty s.v y hy
      have := lt_of_block h1
      simp only
      omega
/-- A mark behind the values. -/
theorem LtS.stepV {g cap : Nat} {t : Tx} (s : LtS w W X lv ri ha ka va ca hc kc vc cc hs hx K kx V [] C cx) (ht : TxT W t)
    (ho : W2.ownsRow (w.heap.size + 2) 22 1 (.slice (some ⟨g, 0, none⟩) (V.length + 1) cap) (V.length + 1) (V.map Tx.v ++ [t.v])) (hg : W.grownBy W2 (Value.slice va V.length vc).ownBlock) (hat : (Value.slice va V.length vc).ownBlock = some g ∨ g = W.heap.size) :
    W2.heap[X]? = some (.cells #[.int .i64 lv, .slice ha hs.length hc, .int .i64 ri, .slice ka K.length kc, .slice va V.length vc, .slice ca C.length cc] 30 (0, 0)) ∧
    LtS w (W2.setCell ⟨X, 4, none⟩ (.slice (some ⟨g, 0, none⟩) V.length cap)) X lv ri ha ka (some ⟨g, 0, none⟩) ca hc kc cap cc hs hx K kx V [t] C cx := by
  have U := turned (X := X) (j := 4) (u := .slice (some ⟨g, 0, none⟩) V.length cap) hg
  have hty : ∀ b, (Value.slice va V.length vc).ownBlock = some b → ∃ cur, W.heap[b]? = some (.cells cur 22 (0, 0)) := fun b hb => by
    obtain ⟨ad, h1, rfl⟩ := block_of hb
    exact owns_ty s.v ad h1
  have hXb : ∀ e (cur : Array Value) fz, e ≠ 30 → W.heap[X]? ≠ some (.cells cur e fz) := fun e cur fz he h => by rw [s.box] at h; simp only [Option.some.injEq, Obj.cells.injEq] at h; exact he h.2.1.symm
  have hlt2 : ∀ b, (Value.slice va V.length vc).ownBlock = some b → w.heap.size + 2 ≤ b := fun b hb => by
    have := (s.v.lt b (by rw [List.append_nil]; exact hb)).1
    exact this
  have box2 : W2.heap[X]? = some (.cells #[.int .i64 lv, .slice ha hs.length hc, .int .i64 ri, .slice ka K.length kc, .slice va V.length vc, .slice ca C.length cc] 30 (0, 0)) := (hg.block X (lt_of_block s.box) (fun e => by obtain ⟨cur, h1⟩ := hty X e.symm; exact hXb _ cur _ (by decide) h1)).trans s.box
  have ap : ∀ e, e ≠ 30 → e ≠ 22 → ∀ b, (b = X ∨ (Value.slice va V.length vc).ownBlock = some b) → ∀ cur fz, W.heap[b]? ≠ some (.cells cur e fz) := fun e h1 h2 b hb cur fz h => by
    rcases hb with rfl | hb
    · exact hXb e cur _ h1 h
    · obtain ⟨cur', h3⟩ := hty b hb
      rw [h3] at h
      simp only [Option.some.injEq, Obj.cells.injEq] at h
      exact h2 h.2.1.symm
  have tt : ∀ x, TxT W x → TxT (W2.setCell ⟨X, 4, none⟩ (.slice (some ⟨g, 0, none⟩) V.length cap)) x := fun x hxx => hxx.upd U (ap _ (by decide) (by decide))
  refine ⟨box2, (blk_one box2 _).2.1, U.heap s.res (fun e => ?_), s.bel.trans (U.below s.bel.size (fun b hb e => ?_)), s.hX, owns_apart s.h U (fun b hb cur => ap _ (by decide) (by decide) b hb cur _), ?_, ?_, owns_apart s.c U (fun b hb cur => ap _ (by decide) (by decide) b hb cur _), fun x hxx => tt x (s.kt x hxx), fun x hxx => ?_, ?_⟩
  · have := s.hX
    rcases e with e | e
    · omega
    · have := hlt2 _ e; omega
  · have := s.hX
    rcases e with e | e
    · omega
    · have := hlt2 _ e; omega
  · refine owns_upd s.k U fun b hb e => ?_
    obtain ⟨y, hy, rfl⟩ := block_of hb
    rcases e with e | e
    · obtain ⟨cur, h1⟩ := owns_ty s.k y hy
      rw [e] at h1
      exact hXb _ cur _ (by decide) h1
    · obtain ⟨x, hx', he⟩ := block_of e
      exact s.kv y x hy hx' he.symm
  · have hne : g ≠ X := fun e => by
      obtain ⟨cur, h1⟩ := owns_ty ho ⟨g, 0, none⟩ rfl
      simp only at h1
      rw [e, box2] at h1
      simp only [Option.some.injEq, Obj.cells.injEq] at h1
      exact absurd h1.2.1 (by decide)
    have ho2 := owns_upd ho ((Upd.refl (fun b => b = X) W2).setCell ⟨X, 4, none⟩ (.slice (some ⟨g, 0, none⟩) V.length cap) (fun _ => rfl)) (fun k hk e => by cases hk; exact hne e)
    rw [List.length_append]
    simpa using ho2
  · rcases List.mem_append.1 hxx with h | h
    · exact tt x (s.vt x (by rw [List.append_nil]; exact h))
    · obtain rfl : x = t := by simpa using h
      exact tt x ht
  · intro x y hx' hy
    cases hy
    rcases hat with h | h
    · obtain ⟨x', hx'', he⟩ := block_of h
      have := s.kv x x' hx' hx''
      simp only
      omega
    · obtain ⟨cur, h1⟩ := owns_ty s.k x hx'
      have := lt_of_block h1
      simp only
      omega
/-- A mark behind the kids. -/
theorem LtS.stepC {g cap : Nat} (s : LtS w W X lv ri ha ka va ca hc kc vc cc hs hx K kx V vx C [])
    (ho : W2.ownsRow (w.heap.size + 2) 3 1 (.slice (some ⟨g, 0, none⟩) (C.length + 1) cap) (C.length + 1) (C.map (Value.int .i64) ++ [.int .i64 777])) (hg : W.grownBy W2 (Value.slice ca C.length cc).ownBlock) :
    W2.heap[X]? = some (.cells #[.int .i64 lv, .slice ha hs.length hc, .int .i64 ri, .slice ka K.length kc, .slice va V.length vc, .slice ca C.length cc] 30 (0, 0)) ∧
    LtS w (W2.setCell ⟨X, 5, none⟩ (.slice (some ⟨g, 0, none⟩) C.length cap)) X lv ri ha ka va (some ⟨g, 0, none⟩) hc kc vc cap hs hx K kx V vx C [777] := by
  have U := turned (X := X) (j := 5) (u := .slice (some ⟨g, 0, none⟩) C.length cap) hg
  have hty : ∀ b, (Value.slice ca C.length cc).ownBlock = some b → ∃ cur, W.heap[b]? = some (.cells cur 3 (0, 0)) := fun b hb => by
    obtain ⟨ad, h1, rfl⟩ := block_of hb
    exact owns_ty s.c ad h1
  have hXb : ∀ e (cur : Array Value) fz, e ≠ 30 → W.heap[X]? ≠ some (.cells cur e fz) := fun e cur fz he h => by rw [s.box] at h; simp only [Option.some.injEq, Obj.cells.injEq] at h; exact he h.2.1.symm
  have hlt2 : ∀ b, (Value.slice ca C.length cc).ownBlock = some b → w.heap.size + 2 ≤ b := fun b hb => by
    have := (s.c.lt b (by rw [List.append_nil]; exact hb)).1
    exact this
  have box2 : W2.heap[X]? = some (.cells #[.int .i64 lv, .slice ha hs.length hc, .int .i64 ri, .slice ka K.length kc, .slice va V.length vc, .slice ca C.length cc] 30 (0, 0)) := (hg.block X (lt_of_block s.box) (fun e => by obtain ⟨cur, h1⟩ := hty X e.symm; exact hXb _ cur _ (by decide) h1)).trans s.box
  have ap : ∀ e, e ≠ 30 → e ≠ 3 → ∀ b, (b = X ∨ (Value.slice ca C.length cc).ownBlock = some b) → ∀ cur fz, W.heap[b]? ≠ some (.cells cur e fz) := fun e h1 h2 b hb cur fz h => by
    rcases hb with rfl | hb
    · exact hXb e cur _ h1 h
    · obtain ⟨cur', h3⟩ := hty b hb
      rw [h3] at h
      simp only [Option.some.injEq, Obj.cells.injEq] at h
      exact h2 h.2.1.symm
  have tt : ∀ x, TxT W x → TxT (W2.setCell ⟨X, 5, none⟩ (.slice (some ⟨g, 0, none⟩) C.length cap)) x := fun x hxx => hxx.upd U (ap _ (by decide) (by decide))
  refine ⟨box2, (blk_one box2 _).2.2, U.heap s.res (fun e => ?_), s.bel.trans (U.below s.bel.size (fun b hb e => ?_)), s.hX, owns_apart s.h U (fun b hb cur => ap _ (by decide) (by decide) b hb cur _), owns_apart s.k U (fun b hb cur => ap _ (by decide) (by decide) b hb cur _), owns_apart s.v U (fun b hb cur => ap _ (by decide) (by decide) b hb cur _), ?_, fun x hxx => tt x (s.kt x hxx), fun x hxx => tt x (s.vt x hxx), s.kv⟩
  · have := s.hX
    rcases e with e | e
    · omega
    · have := hlt2 _ e; omega
  · have := s.hX
    rcases e with e | e
    · omega
    · have := hlt2 _ e; omega
  · have hne : g ≠ X := fun e => by
      obtain ⟨cur, h1⟩ := owns_ty ho ⟨g, 0, none⟩ rfl
      simp only at h1
      rw [e, box2] at h1
      simp only [Option.some.injEq, Obj.cells.injEq] at h1
      exact absurd h1.2.1 (by decide)
    have ho2 := owns_upd ho ((Upd.refl (fun b => b = X) W2).setCell ⟨X, 5, none⟩ (.slice (some ⟨g, 0, none⟩) C.length cap) (fun _ => rfl)) (fun k hk e => by cases hk; exact hne e)
    rw [List.length_append]
    simpa using ho2
end

end Go.Proofs.Ytclgimklfejohaa
