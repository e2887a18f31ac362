/- Texts of one's own. -/
import Derived.Test.YtealejbfloacpaaGreatB12
import Derived.Lib.SlBytesConst
import Derived.Test.YtealejbfloacpaaGreatB8
import Derived.Test.YtealejbfloacpaaGreatB9
namespace Go.Proofs.YtealejbfloacpaaGreat
open Go.RowKit
set_option maxRecDepth 100000
theorem new_at {W : World} {o : Obj} {K : Nat} (h : W.heap.size = K) : (W.alloc o).heap[K]? = some o := by subst h; exact heap_alloc_new W o
theorem old_at {W : World} {o x : Obj} {k : Nat} (h : W.heap[k]? = some x) : (W.alloc o).heap[k]? = some x := (Below.heap_alloc W o k (lt_of_block h)).trans h
end Go.Proofs.YtealejbfloacpaaGreat

namespace Go.Proofs.YtealejbfloacpaaGreat
open Go.RowKit
set_option maxRecDepth 100000
/-- A text in a block of bytes. -/
structure TxT (W : World) (x : Tx) : Prop where
  ok : x.Ok W
  ty : ∀ ad, x.a = some ad → ∃ cur fz, W.heap[ad.block]? = some (.cells cur 5 fz)
theorem TxT.blk {W W' : World} {x : Tx} (h : TxT W x) (hb : ∀ ad, x.a = some ad → W'.heap[ad.block]? = W.heap[ad.block]?) : TxT W' x := by
  refine ⟨⟨fun i hi => ?_, h.ok.n, h.ok.lc, h.ok.b8, h.ok.z⟩, fun ad had => ?_⟩
  · obtain ⟨b, o, ha, hc⟩ := h.ok.r i hi
    have h2 : W'.heap[b]? = W.heap[b]? := hb ⟨b, o, none⟩ ha
    exact ⟨b, o, ha, by rw [← hc]; exact World.cell?_of_block h2⟩
  · obtain ⟨cur, fz, hh⟩ := h.ty ad had
    exact ⟨cur, fz, by rw [hb ad had]; exact hh⟩
theorem TxT.below {W W' : World} {x : Tx} (h : TxT W x) (hb : Below W.heap.size W W') : TxT W' x := h.blk fun ad had => by
  obtain ⟨cur, fz, hh⟩ := h.ty ad had
  exact hb.block _ (lt_of_block hh)
/-- Blocks of another kind turn, and it stays. -/
theorem TxT.upd {W W' : World} {S : Nat → Prop} {x : Tx} (h : TxT W x) (hb : Upd S W W') (hs : ∀ b, S b → ∀ cur fz, W.heap[b]? ≠ some (.cells cur 5 fz)) : TxT W' x := h.blk fun ad had => by
  obtain ⟨cur, fz, hh⟩ := h.ty ad had
  exact hb.block _ (lt_of_block hh) (fun e => hs _ e cur fz hh)
/-- While lent works: its box, what it will hand back, its rows with the marks laid so far. -/
structure LtS (w W : World) (X : Nat) (lv ri : Int) (ha ka va ca : Option Addr) (hc kc vc cc : Nat) (hs hx : List Int) (K kx V vx : List Tx) (C cx : List Int) : Prop where
  box : W.heap[X]? = some (.cells #[.int .i64 lv, .slice ha hs.length hc, .int .i64 ri, .slice ka K.length kc, .slice va V.length vc, .slice ca C.length cc] 35 (0, 0))
  res : W.heap[w.heap.size + 1]? = some (.cells #[.int .i64 0, .slice none 0 0, .int .i64 0, .slice none 0 0, .slice none 0 0, .slice none 0 0] 35 (0, 0))
  bel : Below w.heap.size w W
  hX : w.heap.size + 2 ≤ X
  h : W.ownsRow (w.heap.size + 2) 5 1 (.slice ha (hs ++ hx).length hc) (hs ++ hx).length ((hs ++ hx).map (Value.int .u8))
  k : W.ownsRow (w.heap.size + 2) 23 1 (.slice ka (K ++ kx).length kc) (K ++ kx).length ((K ++ kx).map Tx.v)
  v : W.ownsRow (w.heap.size + 2) 23 1 (.slice va (V ++ vx).length vc) (V ++ vx).length ((V ++ vx).map Tx.v)
  c : W.ownsRow (w.heap.size + 2) 3 1 (.slice ca (C ++ cx).length cc) (C ++ cx).length ((C ++ cx).map (Value.int .i64))
  kt : ∀ x ∈ K ++ kx, TxT W x
  vt : ∀ x ∈ V ++ vx, TxT W x
  kv : ∀ x y, ka = some x → va = some y → x.block ≠ y.block
theorem LtS.below {w W W' : World} {X : Nat} {lv ri : Int} {ha ka va ca : Option Addr} {hc kc vc cc : Nat} {hs hx : List Int} {K kx V vx : List Tx} {C cx : List Int} (s : LtS w W X lv ri ha ka va ca hc kc vc cc hs hx K kx V vx C cx) (hb : Below W.heap.size W W') : LtS w W' X lv ri ha ka va ca hc kc vc cc hs hx K kx V vx C cx :=
  ⟨(hb.block _ (lt_of_block s.box)).trans s.box, (hb.block _ (lt_of_block s.res)).trans s.res, s.bel.trans (hb.mono s.bel.size), s.hX, owns_below s.h hb, owns_below s.k hb, owns_below s.v hb, owns_below s.c hb, fun x hx => (s.kt x hx).below hb, fun x hx => (s.vt x hx).below hb, s.kv⟩
/-- Behind an append onto one of the rows, and the store into the box: which blocks may have turned. -/
theorem turned {W1 W2 : World} {a : Option Addr} {n c X j : Nat} {u : Value} (hg : W1.grownBy W2 (Value.slice a n c).ownBlock) : Upd (fun b => b = X ∨ (Value.slice a n c).ownBlock = some b) W1 (W2.setCell ⟨X, j, none⟩ u) :=
  (Upd.of_grown (S := fun b => b = X ∨ (Value.slice a n c).ownBlock = some b) hg (fun _ hk _ => .inr hk)).trans ((Upd.refl _ W2).setCell _ _ (fun _ => .inl rfl))
section
variable {w W W2 : World} {X : Nat} {lv ri : Int} {ha ka va ca : Option Addr} {hc kc vc cc : Nat} {hs hx : List Int} {K kx V vx : List Tx} {C cx : List Int}
end
end Go.Proofs.YtealejbfloacpaaGreat

namespace Go.Proofs.YtealejbfloacpaaGreat
open Go.RowKit
set_option maxRecDepth 100000
/-- What lent gives: the node, and marks in the spare room of each list. -/
structure SpN (W : World) (x : Nd) : Prop where
  hc : x.hi.s.length + 2 ≤ x.hi.c
  h : ∃ b, x.hi.a = some ⟨b, 0, none⟩ ∧ W.cell? ⟨b, x.hi.s.length, none⟩ = some (.int .u8 7) ∧ W.cell? ⟨b, x.hi.s.length + 1, none⟩ = some (.int .u8 7)
  kc : x.ks.L.length + 1 ≤ x.ks.c
  k : ∃ b, ∃ t : Tx, x.ks.a = some ⟨b, 0, none⟩ ∧ W.cell? ⟨b, x.ks.L.length, none⟩ = some t.v ∧ t.Ok W ∧ t.s = [115, 112, 97, 114, 101]
  vc : x.vs.L.length + 1 ≤ x.vs.c
  v : ∃ b, ∃ t : Tx, x.vs.a = some ⟨b, 0, none⟩ ∧ W.cell? ⟨b, x.vs.L.length, none⟩ = some t.v ∧ t.Ok W ∧ t.s = [115, 112, 97, 114, 101]
  cc : x.cs.s.length + 1 ≤ x.cs.c
  c : ∃ b, x.cs.a = some ⟨b, 0, none⟩ ∧ W.cell? ⟨b, x.cs.s.length, none⟩ = some (.int .i64 777)
theorem SpN.below {W W' : World} {x : Nd} (h : SpN W x) (hb : Below W.heap.size W W') : SpN W' x := by
  have hc : ∀ b j u, W.cell? ⟨b, j, none⟩ = some u → W'.cell? ⟨b, j, none⟩ = some u := fun b j u hu => (hb.cell (p := ⟨b, j, none⟩) (World.block_lt_of_cell? W ⟨b, j, none⟩ hu)).trans hu
  obtain ⟨b, h1, h2, h3⟩ := h.h
  obtain ⟨b', t, k1, k2, k3, k4⟩ := h.k
  obtain ⟨b'', t', v1, v2, v3, v4⟩ := h.v
  obtain ⟨b3, c1, c2⟩ := h.c
  exact ⟨h.hc, ⟨b, h1, hc _ _ _ h2, hc _ _ _ h3⟩, h.kc, ⟨b', t, k1, hc _ _ _ k2, k3.below hb, k4⟩, h.vc, ⟨b'', t', v1, hc _ _ _ v2, v3.below hb, v4⟩, h.cc, ⟨b3, c1, hc _ _ _ c2⟩⟩
theorem cap_of {w : World} {base n cap : Nat} {e : TypeId} {a : Option Addr} {xs : List Value} (h : w.ownsRow base e 1 (.slice a n cap) n xs) : n ≤ cap := by
  rcases h.2 with ⟨h, h0⟩ | ⟨g, c, cur, hv, hb, hh, h1, _⟩
  · omega
  · cases hv; exact h1
theorem own_at {W : World} {N : Nat} {e : TypeId} {g n c : Nat} {xs : List Value} (h : W.ownsRow N e 1 (.slice (some ⟨g, 0, none⟩) n c) n xs) : ∀ j u, xs[j]? = some u → W.cell? ⟨g, j, none⟩ = some u := fun j u hu => by
  have := h.cells (g := g) rfl j u hu
  rwa [Addr.add_lit, Nat.zero_add] at this
/-- What lent hands back. -/
def ndOf (lv ri : Int) (gh gk gv gc ch ck cv cc : Nat) (hs : List Int) (K V : List Tx) (C : List Int) : Nd := ⟨lv, ⟨some ⟨gh, 0, none⟩, ch, hs⟩, ri, ⟨some ⟨gk, 0, none⟩, ck, K⟩, ⟨some ⟨gv, 0, none⟩, cv, V⟩, ⟨some ⟨gc, 0, none⟩, cc, C⟩⟩
theorem LtS.fin {w W : World} {X : Nat} {lv ri : Int} {gh gk gv gc ch ck cv cc : Nat} {hs : List Int} {K V : List Tx} {C : List Int} {tk tv : Tx} (s : LtS w W X lv ri (some ⟨gh, 0, none⟩) (some ⟨gk, 0, none⟩) (some ⟨gv, 0, none⟩) (some ⟨gc, 0, none⟩) ch ck cv cc hs [7, 7] K [tk] V [tv] C [777])
    (hk : tk.s = [115, 112, 97, 114, 101]) (hv : tv.s = [115, 112, 97, 114, 101]) (h8 : B8 hs) (hz : hs.length ≤ 140737488351232) (kz : K.length * 24 ≤ 140737488352000) (vz : V.length * 24 ≤ 140737488352000) (cz : C.length * 8 ≤ 140737488352000) :
    (ndOf lv ri gh gk gv gc ch ck cv cc hs K V C).Ok W ∧ SpN W (ndOf lv ri gh gk gv gc ch ck cv cc hs K V C) := by
  have ch' := own_at s.h
  have ck' := own_at s.k
  have cv' := own_at s.v
  have cc' := own_at s.c
  have eh := cap_of s.h
  have ek := cap_of s.k
  have ev := cap_of s.v
  have ec := cap_of s.c
  simp only [List.length_append, List.length_cons, List.length_nil] at eh ek ev ec
  have pk := (s.kt tk (by simp)).ok
  have pv := (s.vt tv (by simp)).ok
  unfold ndOf
  refine ⟨⟨⟨fun i hi => ⟨gh, 0, rfl, ?_⟩, fun e => (by cases e), by show hs.length ≤ ch; omega, h8, hz⟩, ⟨fun i hi => ⟨gk, 0, rfl, ?_⟩, fun x hx => (s.kt x (by simp [show x ∈ K from hx])).ok, fun e => (by cases e), by show K.length ≤ ck; omega⟩, ⟨fun i hi => ⟨gv, 0, rfl, ?_⟩, fun x hx => (s.vt x (by simp [show x ∈ V from hx])).ok, fun e => (by cases e), by show V.length ≤ cv; omega⟩, ⟨fun i hi => ⟨gc, 0, rfl, ?_⟩, fun e => (by cases e), by show C.length ≤ cc; omega⟩, kz, vz, cz⟩, ⟨by show hs.length + 2 ≤ ch; omega, ⟨gh, rfl, ch' _ _ ?_, ch' _ _ ?_⟩, by show K.length + 1 ≤ ck; omega, ⟨gk, tk, rfl, ck' _ _ ?_, pk, hk⟩, by show V.length + 1 ≤ cv; omega, ⟨gv, tv, rfl, cv' _ _ ?_, pv, hv⟩, by show C.length + 1 ≤ cc; omega, ⟨gc, rfl, cc' _ _ ?_⟩⟩⟩
  · have hi' : i < hs.length := hi
    rw [Nat.zero_add]
    refine ch' _ _ ?_
    rw [List.getElem?_map, List.getElem?_append_left hi']
    simp [hi']
  · have hi' : i < K.length := hi
    rw [Nat.zero_add]
    refine ck' _ _ ?_
    rw [List.getElem?_map, List.getElem?_append_left hi']
    simp [hi']
  · have hi' : i < V.length := hi
    rw [Nat.zero_add]
    refine cv' _ _ ?_
    rw [List.getElem?_map, List.getElem?_append_left hi']
    simp [hi']
  · have hi' : i < C.length := hi
    rw [Nat.zero_add]
    refine cc' _ _ ?_
    rw [List.getElem?_map, List.getElem?_append_left hi']
    simp [hi']
  · simp
  · simp
  · simp
  · simp
  · simp
end Go.Proofs.YtealejbfloacpaaGreat

namespace Go.Proofs.YtealejbfloacpaaGreat
open Go.RowKit
set_option maxRecDepth 100000
/-- Is a number among the first l? -/
def isAt (s : List Int) (l : Nat) (x : Int) : Prop := ∃ j, j < l ∧ s.getD j 0 = x
instance (s : List Int) (l : Nat) (x : Int) : Decidable (isAt s l x) := by unfold isAt; exact inferInstance
/-- May there be such values? -/
def VlP (vs : List (List Int)) : Prop := ∀ j, j < vs.length → (vs.getD j []).length ≤ 256
instance (vs : List (List Int)) : Decidable (VlP vs) := by unfold VlP; exact inferInstance
/-- May there be such kids? -/
def KdP (cs : List Int) (nd : Int) : Prop := ∀ i, i < cs.length → (1 ≤ cs.getD i 0 ∧ cs.getD i 0 ≤ nd) ∧ ¬ isAt cs i (cs.getD i 0)
instance (cs : List Int) (nd : Int) : Decidable (KdP cs nd) := by unfold KdP; exact inferInstance
end Go.Proofs.YtealejbfloacpaaGreat

namespace Go.Proofs.YtealejbfloacpaaGreat
open Go.RowKit
set_option maxRecDepth 100000
/-- May a head be? -/
def HdP (lv : Int) (lh : Nat) (ri nd : Int) : Prop := ((0 ≤ lv ∧ lv ≤ 32) ∧ (0 ≤ ri ∧ ri ≤ nd)) ∧ (lh = 0 ↔ ri = 0) ∧ lh ≤ 64
instance (lv : Int) (lh : Nat) (ri nd : Int) : Decidable (HdP lv lh ri nd) := by unfold HdP; exact inferInstance
end Go.Proofs.YtealejbfloacpaaGreat

namespace Go.Proofs.YtealejbfloacpaaGreat
open Go.RowKit
set_option maxRecDepth 100000
/-- More than there may be? -/
def OvP (lv : Int) (lk lc : Nat) (lf inn : Int) : Prop := if lv = 0 then lf < (lk : Int) else inn < (lc : Int)
instance (lv : Int) (lk lc : Nat) (lf inn : Int) : Decidable (OvP lv lk lc lf inn) := by unfold OvP; exact inferInstance
end Go.Proofs.YtealejbfloacpaaGreat

namespace Go.Proofs.YtealejbfloacpaaGreat
open Go.RowKit
set_option maxRecDepth 100000
/-- May a node have its keys? -/
def KyP (hi : List Int) (ks : List (List Int)) : Prop := ∀ j, j < ks.length → ((1 ≤ (ks.getD j []).length ∧ (ks.getD j []).length ≤ 64) ∧ beyB hi (ks.getD j []) = false) ∧ (0 < j → cmpI (ks.getD (j - 1) []) (ks.getD j []) < 0)
instance (hi : List Int) (ks : List (List Int)) : Decidable (KyP hi ks) := by unfold KyP; exact inferInstance
end Go.Proofs.YtealejbfloacpaaGreat

namespace Go.Proofs.YtealejbfloacpaaGreat
open Go.RowKit
set_option maxRecDepth 100000
/-- May a body be? -/
def BdP (p : NP) (nd lf inn : Int) : Prop := ¬ OvP p.lv p.ks.length p.cs.length lf inn ∧ (if p.lv = 0 then (p.cs.length = 0 ∧ p.vs.length = p.ks.length) ∧ VlP p.vs else (p.vs.length = 0 ∧ p.cs.length = p.ks.length + 1) ∧ KdP p.cs nd)
instance (p : NP) (nd lf inn : Int) : Decidable (BdP p nd lf inn) := by unfold BdP; exact inferInstance
/-- What Check answers. -/
def nchkE (p : NP) (nd lf inn fl bk : Int) : Int := if cfgOk nd lf inn fl bk then (if HdP p.lv p.hi.length p.ri nd ∧ KyP p.hi p.ks ∧ BdP p nd lf inn then 0 else 91) else 1
end Go.Proofs.YtealejbfloacpaaGreat

namespace Go.Proofs.YtealejbfloacpaaGreat
open Go.RowKit
set_option maxRecDepth 100000
set_option maxHeartbeats 400000 in
theorem rvalue_any (a : Option Addr) (l c : Nat) (w : World) : Calls Tryz.prog 31 #[.slice a l c] w fun e w' => e = .returned (.bool (decide (l ≤ 256))) ∧ w' = w := by
  have HD : Hid (decide ((l : Int) ≤ 256) = decide (l ≤ 256)) := by show _ = _; exact decide_eq_decide.2 (by omega)
  rw [← HD.out]
  go_enter Tryz.func31, Tryz.ntmps31
  go_wp2
  go_ret
  exact ⟨rfl, rfl⟩
set_option maxHeartbeats 400000 in
theorem rkey_any (a : Option Addr) (l c : Nat) (w : World) : Calls Tryz.prog 12 #[.slice a l c] w fun e w' => e = .returned (.bool (decide (1 ≤ l ∧ l ≤ 64))) ∧ w' = w := by
  by_cases h1 : 1 ≤ l
  · have i1 : (1 : Int) ≤ (l : Int) := by omega
    have HD : Hid (decide ((l : Int) ≤ 64) = decide (1 ≤ l ∧ l ≤ 64)) := by show _ = _; exact decide_eq_decide.2 (by omega)
    rw [← HD.out]
    clear h1
    go_enter Tryz.func12, Tryz.ntmps12
    go_wp2
    go_ret
    exact ⟨rfl, rfl⟩
  · have i1 : ¬ (1 : Int) ≤ (l : Int) := by omega
    have HD : Hid (decide (1 ≤ l ∧ l ≤ 64) = false) := by show _ = _; exact decide_eq_false fun h => h1 h.1
    rw [HD.out]
    clear h1
    go_enter Tryz.func12, Tryz.ntmps12
    go_wp2
    go_ret
    exact ⟨rfl, rfl⟩
theorem ky_rs {hi : List Int} {ks : List (List Int)} (h : KyP hi ks) : Rs ks := fun j hj => by
  have := (h (j + 1) (by omega)).2 (Nat.succ_pos j)
  rwa [Nat.add_sub_cancel] at this
set_option maxRecDepth 100000 in
set_option maxHeartbeats 3200000 in
theorem rkeys_any (n : Nd) (w : World) (hn : n.Ok w) : Calls Tryz.prog 171 #[n.v] w fun e w' => e = .returned (.bool (decide (KyP n.hi.s n.ks.p))) ∧ Below w.heap.size w w' := by
  obtain ⟨rv, hrv⟩ : ∃ rv, rv = decide (KyP n.hi.s n.ks.p) := ⟨_, rfl⟩
  rw [← hrv]
  have hkz := hn.kz
  have hhz := hn.h.z
  obtain ⟨rb, hrb⟩ : ∃ rb, rb = decide (Rs n.ks.p) := ⟨_, rfl⟩
  have HRS : Hid (∀ W, Below w.heap.size w W → Calls Tryz.prog 95 #[.slice n.ks.a n.ks.L.length n.ks.c] W fun e w' => e = .returned (.bool rb) ∧ ∃ m, w' = W.drewN m) := fun W h => by rw [hrb]; exact rises_any n.ks.a _ n.ks.c n.ks.L W (hn.below h).k rfl (by omega)
  have HK : Hid (∀ W, Below w.heap.size w W → n.ks.Ok W) := fun W h => (hn.below h).k
  have HH : Hid (∀ W, Below w.heap.size w W → n.hi.Ok W) := fun W h => (hn.below h).h
  clear hn
  obtain ⟨lv, ⟨ha, hc, hs⟩, ri, ⟨ka, kc, K⟩, ⟨va, vc, V⟩, ⟨ca, cc, C⟩⟩ := n
  simp only [Nd.v, Tx.v, TL.v, IL.v, TL.p] at HRS HK HH hkz hhz hrv hrb ⊢
  replace hrv := hide hrv
  replace hrb := hide hrb
  obtain ⟨l, hl⟩ : ∃ l, K.length = l := ⟨_, rfl⟩
  obtain ⟨lh, hlh⟩ : ∃ lh, hs.length = lh := ⟨_, rfl⟩
  rw [hl] at hkz HRS ⊢
  rw [hlh] at hhz ⊢
  replace hl := hide hl
  replace hlh := hide hlh
  generalize V.length = lw at *
  generalize C.length = lc at *
  have HPL : Hid ((K.map (·.s)).length = l) := by show _ = _; rw [List.length_map, hl.out]
  have HGE : Hid (∀ i (h : i < K.length), (K.map (·.s)).getD i [] = K[i].s) := fun i h => tl_getD (t := ⟨ka, kc, K⟩) h
  obtain ⟨w0, hw0⟩ : ∃ w0, w0 = w.alloc (.cells #[.int .i64 lv, .slice ha lh hc, .int .i64 ri, .slice ka l kc, .slice va lw vc, .slice ca lc cc] 35) := ⟨_, rfl⟩
  have B0 : Hid (Below w.heap.size w w0) := by show Below _ _ _; rw [hw0]; exact (Below.refl _ _).alloc (Nat.le_refl _) _
  have G0 : Hid (w0.heap[w.heap.size]? = some (.cells #[.int .i64 lv, .slice ha lh hc, .int .i64 ri, .slice ka l kc, .slice va lw vc, .slice ca lc cc] 35 (0, 0))) := by show _ = _; rw [hw0]; exact heap_alloc_new w _
  have HW0 := hide hw0
  clear hw0
  go_enter Tryz.func171, Tryz.ntmps171
  go_wp2_with fail
  rw [← HW0.out]
  refine (HRS.out w0 B0.out).mono ?_
  rintro e w1 ⟨rfl, m1, hw1⟩
  have B1 : Hid (Below w.heap.size w w1) := by show Below _ _ _; rw [hw1]; exact below_drewN B0.out m1
  have G1 : Hid (w1.heap[w.heap.size]? = some (.cells #[.int .i64 lv, .slice ha lh hc, .int .i64 ri, .slice ka l kc, .slice va lw vc, .slice ca lc cc] 35 (0, 0))) := by show _ = _; rw [hw1]; exact G0.out
  clear hw1 B0 G0 HW0 HRS
  cases rb with
  | false =>
    have HF : Hid (rv = false) := by show _ = _; rw [hrv.out]; exact decide_eq_false fun h => of_decide_eq_false hrb.out.symm (ky_rs h)
    go_wp2_with fail
    go_ret
    exact ⟨by rw [HF.out]; rfl, B1.out⟩
  | true =>
    go_wp2_with fail
    go_loopw [4] (fun q wr => ∃ i : Nat, q = .int .i64 (i : Int) ∧ i ≤ l ∧ Hid (Below w.heap.size w wr) ∧ Hid (wr.heap[w.heap.size]? = some (.cells #[.int .i64 lv, .slice ha lh hc, .int .i64 ri, .slice ka l kc, .slice va lw vc, .slice ca lc cc] 35 (0, 0))) ∧ Hid (∀ j, j < i → (1 ≤ ((K.map (·.s)).getD j []).length ∧ ((K.map (·.s)).getD j []).length ≤ 64) ∧ beyB hs ((K.map (·.s)).getD j []) = false)) (fun q _ => l - (intOf q).toNat)
    case atStart => exact ⟨0, rfl, Nat.zero_le _, B1, G1, fun j hj => absurd hj (Nat.not_lt_zero j)⟩
    case round =>
      clear B1 G1
      obtain ⟨i, rfl, hle, B1, G1, HE⟩ := hrel
      rename World => wr
      obtain ⟨c0, c1, c2, c3, c4, c5⟩ := Six.of G1.out
      by_cases hlt : i < l
      · have j1 : (i : Int) < (l : Int) := by omega
        have j2 : (0 : Int) ≤ (i : Int) := by omega
        have h1 : i < K.length := by rw [hl.out]; exact hlt
        obtain ⟨b1, o1, ha1, s1⟩ := (HK.out wr B1.out).r i h1
        simp only at ha1
        subst ha1
        have HXO : Hid (K[i].Ok wr) := (HK.out wr B1.out).ok K[i] (List.getElem_mem h1)
        have e1 := HGE.out i h1
        obtain ⟨x, hx⟩ : ∃ x, x = K[i] := ⟨_, rfl⟩
        simp only [← hx] at s1 HXO e1
        clear hx
        replace e1 := hide e1
        unfold Tx.v at s1
        obtain ⟨n1, hn1⟩ : ∃ n1, x.s.length = n1 := ⟨_, rfl⟩
        rw [hn1] at s1
        replace hn1 := hide hn1
        have hz1 : n1 ≤ 140737488351232 := by have := HXO.out.z; rw [hn1.out] at this; exact this
        obtain ⟨cv, hcv⟩ : ∃ cv, cv = cmpI x.s hs := ⟨_, rfl⟩
        have HCM : Hid (∀ q, Calls Tryz.prog 78 #[.slice x.a n1 x.c, .slice ha lh hc] (wr.drewN q) fun e w' => e = .returned (.int .i64 cv) ∧ ∃ n, w' = wr.drewN n) := fun q => by
          rw [hcv]
          refine (rcmp_any x.a ha n1 x.c lh hc x.s hs (wr.drewN q) hn1.out hlh.out (by omega) (by omega) HXO.out.r (HH.out wr B1.out).r).mono ?_
          rintro e w' ⟨rfl, m, rfl⟩
          exact ⟨rfl, q + m, World.drewN_drewN _ _ _⟩
        have HBY : Hid (beyB hs x.s = (decide (0 < lh) && decide (0 ≤ cv))) := by show _ = _; unfold beyB; rw [hlh.out, hcv]
        have hf := cmpI_fits x.s hs
        rw [← hcv] at hf
        clear hcv
        have HNO : Hid (¬ ((1 ≤ n1 ∧ n1 ≤ 64) ∧ beyB hs x.s = false) → rv = false) := fun h2 => by
          rw [hrv.out]
          refine decide_eq_false fun h => h2 ?_
          have := (h i (by rw [HPL.out]; exact hlt)).1
          rw [e1.out, hn1.out] at this
          exact this
        have HYES : Hid (((1 ≤ n1 ∧ n1 ≤ 64) ∧ beyB hs x.s = false) → ∀ j, j < i + 1 → (1 ≤ ((K.map (·.s)).getD j []).length ∧ ((K.map (·.s)).getD j []).length ≤ 64) ∧ beyB hs ((K.map (·.s)).getD j []) = false) := fun h2 j hj => by
          by_cases e : j = i
          · rw [e, e1.out, hn1.out]; exact h2
          · exact HE.out j (by omega)
        have HKY := hide (rkey_any x.a n1 x.c wr)
        generalize x.a = xa at *
        generalize x.c = xc at *
        by_cases hin : 1 ≤ n1 ∧ n1 ≤ 64
        · rw [decide_eq_true hin] at HKY
          by_cases h0 : 0 < lh
          · have i1 : (0 : Int) < (lh : Int) := by omega
            by_cases hc0 : 0 ≤ cv
            · have HF : Hid (rv = false) := HNO.out fun h => by rw [HBY.out, decide_eq_true h0, decide_eq_true hc0] at h; exact absurd h.2 (by decide)
              clear hin HNO HYES HE
              go_wp2_with fail
              refine keep HKY.out ?_
              go_wp2_with fail
              go_quiet ((go_at_call 78; with_reducible exact HCM.out _))
              go_wp2_with fail
              go_ret
              exact ⟨by rw [HF.out]; rfl, below_drewN B1.out _⟩
            · have HY2 := hide (HYES.out ⟨hin, by rw [HBY.out, decide_eq_false hc0, Bool.and_false]⟩)
              clear hin HNO HYES HE
              go_wp2_with fail
              refine keep HKY.out ?_
              go_wp2_with fail
              go_quiet ((go_at_call 78; with_reducible exact HCM.out _))
              go_wp2_with fail
              go_roundw
              case rel => exact ⟨i + 1, by go_num, by omega, below_drewN B1.out _, G1.out, HY2⟩
              case measure => simp [intOf]; omega
          · obtain rfl : lh = 0 := by omega
            have HY2 := hide (HYES.out ⟨hin, by rw [HBY.out, decide_eq_false h0, Bool.false_and]⟩)
            clear hin h0 HNO HYES HE HCM
            go_wp2_with fail
            refine keep HKY.out ?_
            go_wp2_with fail
            go_quiet (fail)
            go_wp2_with fail
            go_roundw
            case rel => exact ⟨i + 1, by go_num, by omega, below_drewN B1.out _, G1.out, HY2⟩
            case measure => simp [intOf]; omega
        · rw [decide_eq_false hin] at HKY
          have HF : Hid (rv = false) := HNO.out fun h => hin h.1
          clear hin HNO HYES HE HCM
          go_wp2_with fail
          refine keep HKY.out ?_
          go_wp2_with fail
          go_quiet (fail)
          go_wp2_with fail
          go_ret
          exact ⟨by rw [HF.out]; rfl, below_drewN B1.out _⟩
      · have j1 : ¬ (i : Int) < (l : Int) := by omega
        have HF : Hid (rv = true) := by
          show _ = _
          rw [hrv.out]
          refine decide_eq_true fun j hj => ?_
          have hj2 := hj
          rw [HPL.out] at hj2
          refine ⟨HE.out j (by omega), fun h0 => ?_⟩
          have hrs : Rs (K.map (·.s)) := of_decide_eq_true hrb.out.symm
          have := hrs (j - 1) (by omega)
          rwa [show j - 1 + 1 = j by omega] at this
        go_wp2_with fail
        go_ret
        exact ⟨by rw [HF.out]; rfl, B1.out⟩
end Go.Proofs.YtealejbfloacpaaGreat

namespace Go.Proofs.YtealejbfloacpaaGreat
open Go.RowKit
set_option maxRecDepth 100000
set_option maxRecDepth 100000 in
set_option maxHeartbeats 3200000 in
theorem rkids_any (n : Nd) (nd lf inn fl bk : Int) (w : World) (hn : n.Ok w) : Calls Tryz.prog 172 #[n.v, .agg #[.int .i64 nd, .int .i64 lf, .int .i64 inn, .int .i64 fl, .int .i64 bk]] w fun e w' => e = .returned (.bool (decide ((n.cs.s.length : Int) ≤ inn ∧ KdP n.cs.s nd))) ∧ Below w.heap.size w w' := by
  obtain ⟨rv, hrv⟩ : ∃ rv, rv = decide ((n.cs.s.length : Int) ≤ inn ∧ KdP n.cs.s nd) := ⟨_, rfl⟩
  rw [← hrv]
  have hcz := hn.cz
  have HC : Hid (∀ W, Below w.heap.size w W → Row W .i64 n.cs.a n.cs.s) := fun W h => (hn.below h).c.r
  clear hn
  obtain ⟨lv, ⟨ha, hc, hs⟩, ri, ⟨ka, kc, K⟩, ⟨va, vc, V⟩, ⟨ca, cc, C⟩⟩ := n
  simp only [Nd.v, Tx.v, TL.v, IL.v] at HC hcz hrv ⊢
  obtain ⟨lc, hlc⟩ : ∃ lc, C.length = lc := ⟨_, rfl⟩
  rw [hlc] at hcz hrv ⊢
  replace hlc := hide hlc
  replace hrv := hide hrv
  generalize hs.length = lh at *
  generalize K.length = lk at *
  generalize V.length = lw at *
  obtain ⟨w0, hw0⟩ : ∃ w0, w0 = (w.alloc (.cells #[.int .i64 lv, .slice ha lh hc, .int .i64 ri, .slice ka lk kc, .slice va lw vc, .slice ca lc cc] 35)).alloc (.cells #[.int .i64 nd, .int .i64 lf, .int .i64 inn, .int .i64 fl, .int .i64 bk] 49) := ⟨_, rfl⟩
  have B0 : Hid (Below w.heap.size w w0) := by show Below _ _ _; rw [hw0]; exact ((Below.refl _ _).alloc (Nat.le_refl _) _).alloc (by simp) _
  have G0 : Hid (w0.heap[w.heap.size]? = some (.cells #[.int .i64 lv, .slice ha lh hc, .int .i64 ri, .slice ka lk kc, .slice va lw vc, .slice ca lc cc] 35 (0, 0))) := by show _ = _; rw [hw0]; exact old_at (new_at rfl)
  have F0 : Hid (w0.heap[w.heap.size + 1]? = some (.cells #[.int .i64 nd, .int .i64 lf, .int .i64 inn, .int .i64 fl, .int .i64 bk] 49 (0, 0))) := by show _ = _; rw [hw0]; exact new_at (by simp)
  have HW0 := hide hw0
  clear hw0
  by_cases hin : inn < (lc : Int)
  · have HF : Hid (rv = false) := by show _ = _; rw [hrv.out]; exact decide_eq_false fun h => by have := h.1; omega
    go_enter Tryz.func172, Tryz.ntmps172
    go_wp2_with fail
    go_ret
    exact ⟨by rw [HF.out]; rfl, by have := B0.out; rw [HW0.out] at this; exact this⟩
  · go_enter Tryz.func172, Tryz.ntmps172
    go_wp2_with fail
    rw [← HW0.out]
    clear HW0
    have HIN : Hid ((lc : Int) ≤ inn) := by show _ ≤ _; omega
    clear hin
    go_loopw [5] (fun q wr => ∃ i : Nat, q = .int .i64 (i : Int) ∧ i ≤ lc ∧ Hid (Below w.heap.size w wr) ∧ Hid (wr.heap[w.heap.size]? = some (.cells #[.int .i64 lv, .slice ha lh hc, .int .i64 ri, .slice ka lk kc, .slice va lw vc, .slice ca lc cc] 35 (0, 0))) ∧ Hid (wr.heap[w.heap.size + 1]? = some (.cells #[.int .i64 nd, .int .i64 lf, .int .i64 inn, .int .i64 fl, .int .i64 bk] 49 (0, 0))) ∧ Hid (∀ j, j < i → (1 ≤ C.getD j 0 ∧ C.getD j 0 ≤ nd) ∧ ¬ isAt C j (C.getD j 0))) (fun q _ => lc - (intOf q).toNat)
    case atStart => exact ⟨0, rfl, Nat.zero_le _, B0, G0, F0, fun j hj => absurd hj (Nat.not_lt_zero j)⟩
    case round =>
      clear B0 G0 F0
      obtain ⟨i, rfl, hle, B1, G1, F1, HE⟩ := hrel
      rename World => wr
      obtain ⟨c0, c1, c2, c3, c4, c5⟩ := Six.of G1.out
      have x0 : wr.cell? ⟨w.heap.size + 1, 0, none⟩ = some (.int .i64 nd) := by rw [cell_of_row _ _ _ _ _ _ F1.out]; rfl
      by_cases hlt : i < lc
      · have j1 : (i : Int) < (lc : Int) := by omega
        have j2 : (0 : Int) ≤ (i : Int) := by omega
        obtain ⟨b, o, hae, s0⟩ := HC.out wr B1.out i (by rw [hlc.out]; exact hlt)
        subst hae
        obtain ⟨y, hy⟩ : ∃ y, y = C.getD i 0 := ⟨_, rfl⟩
        rw [← hy] at s0
        replace hy := hide hy
        have HNO : Hid (¬ ((1 ≤ y ∧ y ≤ nd) ∧ ¬ isAt C i y) → rv = false) := fun h2 => by
          rw [hrv.out]
          refine decide_eq_false fun h => h2 ?_
          have := h.2 i (by rw [hlc.out]; exact hlt)
          rw [← hy.out] at this
          exact this
        by_cases h1 : y < 1
        · have HF : Hid (rv = false) := HNO.out fun h => by have := h.1.1; omega
          clear HNO HE
          go_wp2_with fail
          go_quiet (fail)
          go_wp2_with fail
          go_ret
          exact ⟨by rw [HF.out]; rfl, below_drewN B1.out _⟩
        · by_cases h2 : nd < y
          · have HF : Hid (rv = false) := HNO.out fun h => by have := h.1.2; omega
            clear HNO HE
            go_wp2_with fail
            go_quiet (fail)
            go_wp2_with fail
            go_ret
            exact ⟨by rw [HF.out]; rfl, below_drewN B1.out _⟩
          · have HY : Hid (1 ≤ y ∧ y ≤ nd) := ⟨by omega, by omega⟩
            go_wp2_with fail
            go_quiet (fail)
            go_wp2_with fail
            clear c0 c1 c2 c3 c4 c5 x0 s0 h1 h2
            go_loopw [6] (fun q wr => ∃ k : Nat, q = .int .i64 (k : Int) ∧ k ≤ i ∧ Hid (Below w.heap.size w wr) ∧ Hid (wr.heap[w.heap.size]? = some (.cells #[.int .i64 lv, .slice ha lh hc, .int .i64 ri, .slice ka lk kc, .slice va lw vc, .slice (some ⟨b, o, none⟩) lc cc] 35 (0, 0))) ∧ Hid (wr.heap[w.heap.size + 1]? = some (.cells #[.int .i64 nd, .int .i64 lf, .int .i64 inn, .int .i64 fl, .int .i64 bk] 49 (0, 0))) ∧ Hid (∀ j, j < k → C.getD j 0 ≠ y)) (fun q _ => i - (intOf q).toNat)
            case atStart => exact ⟨0, rfl, Nat.zero_le _, below_drewN B1.out _, G1.out, F1.out, fun j hj => absurd hj (Nat.not_lt_zero j)⟩
            case round =>
              clear B1 G1 F1
              obtain ⟨k, rfl, hki, B1, G1, F1, HE2⟩ := hrel
              rename World => wr
              obtain ⟨c0, c1, c2, c3, c4, c5⟩ := Six.of G1.out
              by_cases hk : k < i
              · have k1 : (k : Int) < (i : Int) := by omega
                have k2 : (0 : Int) ≤ (k : Int) := by omega
                have k3 : (k : Int) < (lc : Int) := by omega
                obtain ⟨b', o', hae, s1⟩ := HC.out wr B1.out k (by rw [hlc.out]; omega)
                obtain ⟨b'', o'', hae2, s2⟩ := HC.out wr B1.out i (by rw [hlc.out]; omega)
                cases hae
                cases hae2
                rw [← hy.out] at s2
                obtain ⟨z, hz⟩ : ∃ z, z = C.getD k 0 := ⟨_, rfl⟩
                rw [← hz] at s1
                replace hz := hide hz
                by_cases hzy : z = y
                · have HF : Hid (rv = false) := HNO.out fun h => h.2 ⟨k, hk, by rw [← hz.out, hzy]⟩
                  have q1 : (z == y) = true := by rw [beq_iff_eq]; exact hzy
                  replace hzy := hide hzy
                  clear HNO HE HE2
                  go_wp2_with fail
                  go_quiet (fail)
                  go_wp2_with fail
                  go_ret
                  exact ⟨by rw [HF.out]; rfl, below_drewN B1.out _⟩
                · have q1 : (z == y) = false := by rw [beq_eq_false_iff_ne]; exact hzy
                  have HE3 : Hid (∀ j, j < k + 1 → C.getD j 0 ≠ y) := fun j hj => by
                    by_cases e : j = k
                    · rw [e, ← hz.out]; exact hzy
                    · exact HE2.out j (by omega)
                  clear HE2
                  go_wp2_with fail
                  go_quiet (fail)
                  go_wp2_with fail
                  go_roundw
                  case rel => exact ⟨k + 1, by go_num, by omega, below_drewN B1.out _, G1.out, F1.out, HE3⟩
                  case measure => simp [intOf]; omega
              · have k1 : ¬ (k : Int) < (i : Int) := by omega
                obtain rfl : k = i := by omega
                have HE3 : Hid (∀ j, j < k + 1 → (1 ≤ C.getD j 0 ∧ C.getD j 0 ≤ nd) ∧ ¬ isAt C j (C.getD j 0)) := fun j hj => by
                  by_cases e : j = k
                  · rw [e, ← hy.out]; exact ⟨HY.out, fun ⟨q, h1, h2⟩ => HE2.out q h1 h2⟩
                  · exact HE.out j (by omega)
                clear HE2 HE HNO
                go_wp2_with fail
                go_roundw
                case rel => exact ⟨k + 1, by go_num, by omega, B1, G1, F1, HE3⟩
                case measure => simp [intOf]; omega
      · have j1 : ¬ (i : Int) < (lc : Int) := by omega
        have HF : Hid (rv = true) := by
          show _ = _
          rw [hrv.out]
          refine decide_eq_true ⟨HIN.out, fun j hj => HE.out j ?_⟩
          rw [hlc.out] at hj
          omega
        go_wp2_with fail
        go_ret
        exact ⟨by rw [HF.out]; rfl, B1.out⟩
end Go.Proofs.YtealejbfloacpaaGreat
