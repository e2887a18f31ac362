/- The law's lent: what it gives. -/
import Derived.Test.YtclgimklfejohaaNLent
namespace Go.Proofs.Ytclgimklfejohaa
open Go.RowKit

/-- What lent gives: the node, and marks in the spare room of each list. -/
structure SpN (W : World) (x : Nd) : Prop where
  hc : x.hi.s.length + 2 ≤ x.hi.c
  h : ∃ b, x.hi.a = some ⟨b, 0, none⟩ ∧ W.cell? ⟨b, x.hi.s.length, none⟩ = some (.int .u8 7) ∧ W.cell? ⟨b, x.hi.s.length + 1, none⟩ = some (.int .u8 7)
  kc : x.ks.L.length + 1 ≤ x.ks.c
  k : ∃ b, ∃ t : Tx, x.ks.a = some ⟨b, 0, none⟩ ∧ W.cell? ⟨b, x.ks.L.length, none⟩ = some t.v ∧ t.Ok W ∧ t.s = [115, 112, 97, 114, 101]
  vc : x.vs.L.length + 1 ≤ x.vs.c
  v : ∃ b, ∃ t : Tx, x.vs.a = some ⟨b, 0, none⟩ ∧ W.cell? ⟨b, x.vs.L.length, none⟩ = some t.v ∧ t.Ok W ∧ t.s = [115, 112, 97, 114, 101]
  cc : x.cs.s.length + 1 ≤ x.cs.c
  c : ∃ b, x.cs.a = some ⟨b, 0, none⟩ ∧ W.cell? ⟨b, x.cs.s.length, none⟩ = some (.int .i64 777)
theorem SpN.below {W W' : World} {x : Nd} (h : SpN W x) (hb : Below W.heap.size W W') : SpN W' x := by
  have hc : ∀ b j u, W.cell? ⟨b, j, none⟩ = some u → W'.cell? ⟨b, j, none⟩ = some u := fun b j u hu => (hb.cell (p := ⟨b, j, none⟩) (World.block_lt_of_cell? W ⟨b, j, none⟩ hu)).trans hu
  obtain ⟨b, h1, h2, h3⟩ := h.h
  obtain ⟨b', t, k1, k2, k3, k4⟩ := h.k
  obtain ⟨b'', t', v1, v2, v3, v4⟩ := h.v
  obtain ⟨b3, c1, c2⟩ := h.c
  exact ⟨h.hc, ⟨b, h1, hc _ _ _ h2, hc _ _ _ h3⟩, h.kc, ⟨b', t, k1, hc _ _ _ k2, k3.below hb, k4⟩, h.vc, ⟨b'', t', v1, hc _ _ _ v2, v3.below hb, v4⟩, h.cc, ⟨b3, c1, hc _ _ _ c2⟩⟩
def LePost (w : World) (n : Nd) (e : Ending) (w' : World) : Prop := ∃ x : Nd, e = .returned x.v ∧ x.p = n.p ∧ x.Ok w' ∧ SpN w' x ∧ Below w.heap.size w w'
theorem uptoB (k : Option Addr) (l c m : Nat) (hm : m ≤ c) (W : World) : (Instr.slice 22 (.slice k l c) none (some (.int .i64 (m : Int))) none).run Try.prog W = .ok (.slice k m c) W := run_upto k l c m hm .i64 W
theorem uptoT (k : Option Addr) (l c m : Nat) (hm : m ≤ c) (W : World) : (Instr.slice 25 (.slice k l c) none (some (.int .i64 (m : Int))) none).run Try.prog W = .ok (.slice k m c) W := by
  rw [run_slice_h (P := Try.prog) W 25 k l c undT .i64 (m : Int) (by omega) (by omega), elemT, sizeT]
  cases k <;> simp [Result.andThen, sliced, Addr.add]
theorem uptoI (k : Option Addr) (l c m : Nat) (hm : m ≤ c) (W : World) : (Instr.slice 26 (.slice k l c) none (some (.int .i64 (m : Int))) none).run Try.prog W = .ok (.slice k m c) W := by
  rw [run_slice_h (P := Try.prog) W 26 k l c undI .i64 (m : Int) (by omega) (by omega), elemI, sizeI]
  cases k <;> simp [Result.andThen, sliced, Addr.add]
theorem cap_of {w : World} {base n cap : Nat} {e : TypeId} {a : Option Addr} {xs : List Value} (h : w.ownsRow base e 1 (.slice a n cap) n xs) : n ≤ cap := by
  rcases h.2 with ⟨h, h0⟩ | ⟨g, c, cur, hv, hb, hh, h1, _⟩
  · omega
  · cases hv; exact h1
theorem two_newL (w : World) (x y : Value) (T : TypeId) : ∀ j u, [x, y][j]? = some u → (w.alloc (.cells #[x, y] T)).cell? ((⟨w.heap.size, 0, none⟩ : Addr).add j) = some u := by
  intro j u hu
  rw [Addr.add_lit, Nat.zero_add, cell_of_row _ _ _ _ _ _ (heap_alloc_new w _)]
  match j, hu with
  | 0, hu => simpa using hu
  | 1, hu => simpa using hu

theorem spare_T (W : World) (g : Nat) (h : W.heap[g]? = some (.cells #[.int .u8 115, .int .u8 112, .int .u8 97, .int .u8 114, .int .u8 101] 5 (5, 6))) : TxT W ⟨some ⟨g, 0, none⟩, 5, [115, 112, 97, 114, 101]⟩ := by
  refine ⟨⟨fun i hi => ⟨g, 0, rfl, ?_⟩, fun e => (by cases e), Nat.le_refl _, ?_, by simp⟩, fun ad had => ?_⟩
  · rw [Nat.zero_add, cell_of_row _ _ _ _ _ _ h]
    match i, hi with
    | 0, _ => rfl
    | 1, _ => rfl
    | 2, _ => rfl
    | 3, _ => rfl
    | 4, _ => rfl
  · intro x hx; simp at hx; omega
  · cases had; exact ⟨_, _, h⟩

theorem own_at {W : World} {N : Nat} {e : TypeId} {g n c : Nat} {xs : List Value} (h : W.ownsRow N e 1 (.slice (some ⟨g, 0, none⟩) n c) n xs) : ∀ j u, xs[j]? = some u → W.cell? ⟨g, j, none⟩ = some u := fun j u hu => by
  have := h.cells (g := g) rfl j u hu
  rwa [Addr.add_lit, Nat.zero_add] at this
/-- What lent hands back. -/
def ndOf (lv ri : Int) (gh gk gv gc ch ck cv cc : Nat) (hs : List Int) (K V : List Tx) (C : List Int) : Nd := ⟨lv, ⟨some ⟨gh, 0, none⟩, ch, hs⟩, ri, ⟨some ⟨gk, 0, none⟩, ck, K⟩, ⟨some ⟨gv, 0, none⟩, cv, V⟩, ⟨some ⟨gc, 0, none⟩, cc, C⟩⟩
theorem LtS.fin {w W : World} {X : Nat} {lv ri : Int} {gh gk gv gc ch ck cv cc : Nat} {hs : List Int} {K V : List Tx} {C : List Int} {tk tv : Tx} (s : LtS w W X lv ri (some ⟨gh, 0, none⟩) (some ⟨gk, 0, none⟩) (some ⟨gv, 0, none⟩) (some ⟨gc, 0, none⟩) ch ck cv cc hs [7, 7] K [tk] V [tv] C [777])
    (hk : tk.s = [115, 112, 97, 114, 101]) (hv : tv.s = [115, 112, 97, 114, 101]) (h8 : B8 hs) (hz : hs.length ≤ 140737488351232) (kz : K.length * 24 ≤ 140737488352000) (vz : V.length * 24 ≤ 140737488352000) (cz : C.length * 8 ≤ 140737488352000) :
    (ndOf lv ri gh gk gv gc ch ck cv cc hs K V C).Ok W ∧ SpN W (ndOf lv ri gh gk gv gc ch ck cv cc hs K V C) := by
  have ch' := own_at s.h
  have ck' := own_at s.k
  have cv' := own_at s.v
  have cc' := own_at s.c
  have eh := cap_of s.h
  have ek := cap_of s.k
  have ev := cap_of s.v
  have ec := cap_of s.c
  simp only [List.length_append, List.length_cons, List.length_nil] at eh ek ev ec
  have pk := (s.kt tk (by simp)).ok
  have pv := (s.vt tv (by simp)).ok
  unfold ndOf
  refine ⟨⟨⟨fun i hi => ⟨gh, 0, rfl, ?_⟩, fun e => (by cases e), by show hs.length ≤ ch; omega, h8, hz⟩, ⟨fun i hi => ⟨gk, 0, rfl, ?_⟩, fun x hx => (s.kt x (by simp [show x ∈ K from hx])).ok, fun e => (by cases e), by show K.length ≤ ck; omega⟩, ⟨fun i hi => ⟨gv, 0, rfl, ?_⟩, fun x hx => (s.vt x (by simp [show x ∈ V from hx])).ok, fun e => (by cases e), by show V.length ≤ cv; omega⟩, ⟨fun i hi => ⟨gc, 0, rfl, ?_⟩, fun e => (by cases e), by show C.length ≤ cc; omega⟩, kz, vz, cz⟩, ⟨by show hs.length + 2 ≤ ch; omega, ⟨gh, rfl, ch' _ _ ?_, ch' _ _ ?_⟩, by show K.length + 1 ≤ ck; omega, ⟨gk, tk, rfl, ck' _ _ ?_, pk, hk⟩, by show V.length + 1 ≤ cv; omega, ⟨gv, tv, rfl, cv' _ _ ?_, pv, hv⟩, by show C.length + 1 ≤ cc; omega, ⟨gc, rfl, cc' _ _ ?_⟩⟩⟩
  · have hi' : i < hs.length := hi
    rw [Nat.zero_add]
    refine ch' _ _ ?_
    rw [List.getElem?_map, List.getElem?_append_left hi']
    simp [hi']
  · have hi' : i < K.length := hi
    rw [Nat.zero_add]
    refine ck' _ _ ?_
    rw [List.getElem?_map, List.getElem?_append_left hi']
    simp [hi']
  · have hi' : i < V.length := hi
    rw [Nat.zero_add]
    refine cv' _ _ ?_
    rw [List.getElem?_map, List.getElem?_append_left hi']
    simp [hi']
  · have hi' : i < C.length := hi
    rw [Nat.zero_add]
    refine cc' _ _ ?_
    rw [List.getElem?_map, List.getElem?_append_left hi']
    simp [hi']
  · simp
  · simp
  · simp
  · simp
  · simp
theorem lent_end {w W : World} {X : Nat} {lv ri : Int} {gh gk gv gc ch ck cv cc : Nat} {hs : List Int} {K V : List Tx} {C : List Int} {tk tv : Tx} {P : NP} (s : LtS w W X lv ri (some ⟨gh, 0, none⟩) (some ⟨gk, 0, none⟩) (some ⟨gv, 0, none⟩) (some ⟨gc, 0, none⟩) ch ck cv cc hs [7, 7] K [tk] V [tv] C [777])
    (hk : tk.s = [115, 112, 97, 114, 101]) (hv : tv.s = [115, 112, 97, 114, 101]) (h8 : B8 hs) (hz : hs.length ≤ 140737488351232) (kz : K.length * 24 ≤ 140737488352000) (vz : V.length * 24 ≤ 140737488352000) (cz : C.length * 8 ≤ 140737488352000) (hp : (ndOf lv ri gh gk gv gc ch ck cv cc hs K V C).p = P) :
    (∃ x : Nd, Ending.returned (ndOf lv ri gh gk gv gc ch ck cv cc hs K V C).v = .returned x.v ∧ x.p = P ∧ x.Ok (sixN W (w.heap.size + 1) (ndOf lv ri gh gk gv gc ch ck cv cc hs K V C)) ∧ SpN (sixN W (w.heap.size + 1) (ndOf lv ri gh gk gv gc ch ck cv cc hs K V C)) x ∧ Below w.heap.size w (sixN W (w.heap.size + 1) (ndOf lv ri gh gk gv gc ch ck cv cc hs K V C))) ∧
      Six (sixN W (w.heap.size + 1) (ndOf lv ri gh gk gv gc ch ck cv cc hs K V C)) (w.heap.size + 1) (.int .i64 lv) (.slice (some ⟨gh, 0, none⟩) hs.length ch) (.int .i64 ri) (.slice (some ⟨gk, 0, none⟩) K.length ck) (.slice (some ⟨gv, 0, none⟩) V.length cv) (.slice (some ⟨gc, 0, none⟩) C.length cc) := by
  have U : Upd (fun i => i = w.heap.size + 1) W (sixN W (w.heap.size + 1) (ndOf lv ri gh gk gv gc ch ck cv cc hs K V C)) := six_upd _ _ _ _ _ _ _ _ _ rfl
  have hg : ∀ e (cur : Array Value) fz, e ≠ 30 → ∀ b, b = w.heap.size + 1 → W.heap[b]? ≠ some (.cells cur e fz) := fun e cur fz he b hb h => by
    rw [hb, s.res] at h
    simp only [Option.some.injEq, Obj.cells.injEq] at h
    exact he h.2.1.symm
  obtain ⟨o1, o2⟩ := s.fin hk hv h8 hz kz vz cz
  have hne : ∀ b, b ≠ w.heap.size + 1 → ∀ j u, W.cell? ⟨b, j, none⟩ = some u → (sixN W (w.heap.size + 1) (ndOf lv ri gh gk gv gc ch ck cv cc hs K V C)).cell? ⟨b, j, none⟩ = some u := fun b hb j u hu => U.cell hu hb
  have nh : gh ≠ w.heap.size + 1 := fun e => by obtain ⟨cur, h⟩ := owns_ty s.h _ rfl; exact hg _ cur _ (by decide) gh e h
  have nk : gk ≠ w.heap.size + 1 := fun e => by obtain ⟨cur, h⟩ := owns_ty s.k _ rfl; exact hg _ cur _ (by decide) gk e h
  have nv : gv ≠ w.heap.size + 1 := fun e => by obtain ⟨cur, h⟩ := owns_ty s.v _ rfl; exact hg _ cur _ (by decide) gv e h
  have nc : gc ≠ w.heap.size + 1 := fun e => by obtain ⟨cur, h⟩ := owns_ty s.c _ rfl; exact hg _ cur _ (by decide) gc e h
  have tx : ∀ x, TxT W x → x.Ok (sixN W (w.heap.size + 1) (ndOf lv ri gh gk gv gc ch ck cv cc hs K V C)) := fun x hx => (hx.upd U (fun b hb cur fz => hg _ cur fz (by decide) b hb)).ok
  refine ⟨⟨ndOf lv ri gh gk gv gc ch ck cv cc hs K V C, rfl, hp, ?_, ?_, s.bel.trans (U.below s.bel.size (fun k hk e => by omega))⟩, Six.of (six_block s.res _ _ _ _ _ _)⟩
  · refine ⟨⟨fun i hi => ?_, o1.h.n, o1.h.lc, o1.h.b8, o1.h.z⟩, ⟨fun i hi => ?_, fun x hx => tx x (s.kt x (by simp [show x ∈ K from hx])), o1.k.n, o1.k.lc⟩, ⟨fun i hi => ?_, fun x hx => tx x (s.vt x (by simp [show x ∈ V from hx])), o1.v.n, o1.v.lc⟩, ⟨fun i hi => ?_, o1.c.n, o1.c.lc⟩, kz, vz, cz⟩
    · obtain ⟨b, o, ha, hc⟩ := o1.h.r i hi
      cases ha
      exact ⟨gh, 0, rfl, hne gh nh _ _ hc⟩
    · obtain ⟨b, o, ha, hc⟩ := o1.k.r i hi
      cases ha
      exact ⟨gk, 0, rfl, hne gk nk _ _ hc⟩
    · obtain ⟨b, o, ha, hc⟩ := o1.v.r i hi
      cases ha
      exact ⟨gv, 0, rfl, hne gv nv _ _ hc⟩
    · obtain ⟨b, o, ha, hc⟩ := o1.c.r i hi
      cases ha
      exact ⟨gc, 0, rfl, hne gc nc _ _ hc⟩
  · obtain ⟨b, h1, h2, h3⟩ := o2.h
    obtain ⟨b', t, k1, k2, k3, k4⟩ := o2.k
    obtain ⟨b'', t', v1, v2, v3, v4⟩ := o2.v
    obtain ⟨b3, c1, c2⟩ := o2.c
    cases h1
    cases k1
    cases v1
    cases c1
    have ek : t.v = tk.v := by
      have := own_at s.k K.length tk.v (by simp)
      exact Option.some.inj (k2.symm.trans this)
    have ev : t'.v = tv.v := by
      have := own_at s.v V.length tv.v (by simp)
      exact Option.some.inj (v2.symm.trans this)
    refine ⟨o2.hc, ⟨gh, rfl, hne gh nh _ _ h2, hne gh nh _ _ h3⟩, o2.kc, ⟨gk, tk, rfl, ?_, tx tk (s.kt tk (by simp)), hk⟩, o2.vc, ⟨gv, tv, rfl, ?_, tx tv (s.vt tv (by simp)), hv⟩, o2.cc, ⟨gc, rfl, hne gc nc _ _ c2⟩⟩
    · rw [← ek]; exact hne gk nk _ _ k2
    · rw [← ev]; exact hne gv nv _ _ v2

end Go.Proofs.Ytclgimklfejohaa
