/- Texts of one's own. -/
import Derived.WalkKit
import Derived.Laws.BitsAllLaws
import Derived.OpenShut
import Derived.OwnWalk
import Derived.Laws.AppendOwnNone
namespace Go.Proofs.YtealejbfloacpaaGreat
def B8 (zs : List Int) : Prop := ∀ c ∈ zs, 0 ≤ c ∧ c ≤ 255
theorem B8.tail {c : Int} {cs : List Int} (h : B8 (c :: cs)) : B8 cs := fun x hx => h x (List.mem_cons_of_mem _ hx)
theorem B8.head {c : Int} {cs : List Int} (h : B8 (c :: cs)) : 0 ≤ c ∧ c ≤ 255 := h c List.mem_cons_self
theorem B8.nil : B8 [] := fun _ h => by cases h
end Go.Proofs.YtealejbfloacpaaGreat
namespace Go.Proofs.YtealejbfloacpaaGreat
open Go.RowKit
set_option maxRecDepth 100000
theorem hide {p : Prop} (h : p) : Hid p := h
theorem ret_int {k : IntKind} {a b : Int} (h : a = b) : Ending.returned (.int k a) = .returned (.int k b) := by rw [h]
def Row (w : World) (k : IntKind) (a : Option Addr) (zs : List Int) : Prop :=
 ∀ i, i < zs.length → ∃ b off, a = some ⟨b, off, none⟩ ∧ w.cell? ⟨b, off + i, none⟩ = some (.int k (zs.getD i 0))
theorem Row.cons {w : World} {k : IntKind} {a : Option Addr} {zs : List Int} (h : Row w k a zs) (hp : 0 < zs.length) :
  ∃ b off, a = some ⟨b, off, none⟩ ∧ b < w.heap.size ∧ ∀ i, i < zs.length → w.cell? ⟨b, off + i, none⟩ = some (.int k (zs.getD i 0)) := by
 obtain ⟨b, off, ha, h0⟩ := h 0 hp
 refine ⟨b, off, ha, World.block_lt_of_cell? w ⟨b, off + 0, none⟩ h0, fun i hi => ?_⟩
 obtain ⟨b', off', ha', hi'⟩ := h i hi
 rw [ha] at ha'
 simp only [Option.some.injEq, Addr.mk.injEq] at ha'
 obtain ⟨rfl, rfl, _⟩ := ha'
 exact hi'
theorem row_take {w : World} {k : IntKind} {x : Addr} {len cap : Nat} {zs : List Int} (hl : len ≤ cap) (hz : zs.length = cap) (hcell : ∀ i, i < zs.length → w.cell? (x.add i) = some (.int k (zs.getD i 0))) :
  (zs.take len).length = len ∧ Row w k (some x) (zs.take len) := by
 have e : (zs.take len).length = len := by rw [List.length_take]; omega
 refine ⟨e, fun i hi => ?_⟩
 obtain ⟨b, off, spot⟩ := x
 have h1 := hcell i (by omega)
 have hspot : spot = none := by simpa [Addr.add] using World.cell?_spot (hcell 0 (by omega))
 subst hspot
 refine ⟨b, off, rfl, ?_⟩
 rw [Addr.add_lit] at h1
 rw [h1]
 simp only [List.getD_eq_getElem?_getD]
 rw [List.getElem?_take, if_pos (by omega)]
theorem row_nil (w : World) (k : IntKind) (a : Option Addr) : Row w k a [] := fun i hi => absurd hi (Nat.not_lt_zero i)
theorem block_setCell {w : World} {b : Nat} {cs : Array Value} {T : TypeId} (h : w.heap[b]? = some (.cells cs T (0, 0))) (k : Nat) (u : Value) :
  (w.setCell ⟨b, k, none⟩ u).heap[b]? = some (.cells (cs.setIfInBounds k u) T (0, 0)) := by
 have hlt := lt_of_block h
 have h' : w.heap[b] = .cells cs T (0, 0) := by simpa [Array.getElem?_eq_getElem hlt] using h
 show (w.heap.modify b _)[b]? = _
 rw [Array.getElem?_eq_getElem (by simpa using hlt), Array.getElem_modify_self, h']
 rfl
theorem grownBy_refl (w : World) (row : Option Nat) : w.grownBy w row := ⟨rfl, rfl, rfl, Nat.le_refl _, fun _ _ _ => rfl⟩
end Go.Proofs.YtealejbfloacpaaGreat
namespace Go.Proofs.YtealejbfloacpaaGreat
open Go.RowKit
set_option maxRecDepth 100000
theorem append_own_any {P : Program} {w : World} {ops : Array Oper} {rest : List Oper} {o : Oper} {a : Act} {Q : Exit → Act → World → Prop} (hgd : o.guard = none) (s x : Operand) (t : TypeId)
  (ho : o.op = .call { callee := .builtin .append, args := #[s, x], argTypes := #[t, t] })
  (base : Nat) (e : TypeId) (i : TypeInfo) (z : Value) (size bytes : Nat) (ht : P.underlying t = some (.slice e)) (hi : P.info? e = some i) (hz : i.zero = some z)
  (hsize : i.size = size) (hby : i.bytes = bytes) (hzs : z.cells.size = size) (hsz : 0 < size)
  (v : Value) (n : Nat) (xs : List Value) (hs : a.eval s = v) (hown : w.ownsRow base e size v n xs)
  (ao : Option Addr) (m c : Nat) (news : List Value) (hx : a.eval x = .slice ao m c) (hl : news.length = m * size) (hnone : ao = none → m = 0 ∧ c = 0) (hnews : ∀ ad, ao = some ad → ∀ j u, news[j]? = some u → w.cell? (ad.add j) = some u) (h1 : ∀ u ∈ news, u.oneCell' = true)
  (h63 : n + m ≤ maxLen) (hbytes : (n + m) * bytes ≤ 140737488355328) (hbase : base ≤ w.heap.size)
  (h : ∀ v' w', w'.ownsRow base e size v' (n + m) (xs ++ news) → w.grownBy w' v.ownBlock → wpList P ops Q rest (a.put o.dst v') w') : wpList P ops Q (o :: rest) a w := by
 cases ao with
 | some ad => exact wpList_append_own w hgd s x t ho base e i z size bytes ht hi hz hsize hby hzs hsz v n xs hs hown ad m c news hx hl (hnews ad rfl) h1 h63 hbytes hbase (fun v' w' h2 h3 _ => h v' w' h2 h3)
 | none =>
  obtain ⟨rfl, rfl⟩ := hnone rfl
  have hn : news = [] := List.eq_nil_of_length_eq_zero (by simpa using hl)
  subst hn
  refine wpList_append_own_none hgd s x t ho base e i size ht hi v n xs hs hown hx ?_
  refine h v w ?_ (grownBy_refl _ _)
  simpa using hown
theorem row_of_owns {w : World} {base : Nat} {e : TypeId} {k : IntKind} {g n cap : Nat} {zs : List Int} (h : w.ownsRow base e 1 (.slice (some ⟨g, 0, none⟩) n cap) n (zs.map (Value.int k))) : Row w k (some ⟨g, 0, none⟩) zs := by
 intro i hi
 refine ⟨g, 0, rfl, ?_⟩
 have hc := h.cells (g := g) rfl i (.int k (zs.getD i 0)) (by
  rw [List.getElem?_map, List.getD, List.getElem?_eq_getElem hi]; rfl)
 rwa [Addr.add_lit] at hc
theorem Row.below2 {w w' : World} {k : IntKind} {a : Option Addr} {zs : List Int} (h : Row w k a zs) (hb : Below w.heap.size w w') : Row w' k a zs := by
 intro i hi
 obtain ⟨b, off, ha, hc⟩ := h i hi
 exact ⟨b, off, ha, (hb.cell (p := ⟨b, off + i, none⟩) (World.block_lt_of_cell? w ⟨b, off + i, none⟩ hc)).trans hc⟩
theorem Row.cells {w : World} {k : IntKind} {a : Option Addr} {zs : List Int} (h : Row w k a zs) : ∀ ad, a = some ad → ∀ j u, (zs.map (Value.int k))[j]? = some u → w.cell? (ad.add j) = some u := by
 intro ad had j u hu
 have hj : j < zs.length := by
  have := (List.getElem?_eq_some_iff.1 hu).1
  simpa using this
 obtain ⟨b, off, ha, hc⟩ := h j hj
 rw [had] at ha
 obtain rfl := Option.some.inj ha
 rw [Addr.add_lit, hc]
 rw [List.getElem?_map, List.getElem?_eq_getElem hj] at hu
 simp only [Option.map_some, Option.some.injEq] at hu
 rw [← hu]
 simp [List.getD, hj]
theorem Row.alloc {w : World} {k : IntKind} {a : Option Addr} {zs : List Int} (h : Row w k a zs) (o : Obj) : Row (w.alloc o) k a zs :=
 h.below2 ((Below.refl _ _).alloc (Nat.le_refl _) _)
theorem owns_below {w w' : World} {base : Nat} {e : TypeId} {v : Value} {n : Nat} {xs : List Value} (h : w.ownsRow base e 1 v n xs) (hb : Below w.heap.size w w') : w'.ownsRow base e 1 v n xs := by
 refine ⟨h.1, ?_⟩
 rcases h.2 with h | ⟨g, cap, cur, hv, hg, hh, r⟩
 ·exact .inl h
 ·exact .inr ⟨g, cap, cur, hv, hg, by rw [hb.block g (lt_of_block hh)]; exact hh, r⟩
theorem owns_blk {w w' : World} {base : Nat} {e : TypeId} {v : Value} {n : Nat} {xs : List Value} (h : w.ownsRow base e 1 v n xs) (hb : ∀ k, v.ownBlock = some k → w'.heap[k]? = w.heap[k]?) : w'.ownsRow base e 1 v n xs := by
 refine ⟨h.1, ?_⟩
 rcases h.2 with h | ⟨g, cap, cur, hv, hg, hh, r⟩
 ·exact .inl h
 ·exact .inr ⟨g, cap, cur, hv, hg, by rw [hb g (by rw [hv]; rfl)]; exact hh, r⟩
theorem row_of_owns2 {w : World} {base : Nat} {e : TypeId} {k : IntKind} {a : Option Addr} {n cap : Nat} {zs : List Int} (h : w.ownsRow base e 1 (.slice a n cap) n (zs.map (Value.int k))) : Row w k a zs := by
 rcases h.2 with ⟨hv, hn⟩ | ⟨g, cap', cur, hv, _⟩
 ·subst hn
  have hz : zs = [] := List.eq_nil_of_length_eq_zero (by simpa using h.1)
  subst hz
  exact row_nil _ _ _
 ·cases hv
  exact row_of_owns h
theorem owns_mono {w : World} {base base' : Nat} {e : TypeId} {size : Nat} {v : Value} {n : Nat} {xs : List Value} (h : w.ownsRow base' e size v n xs) (hb : base ≤ base') : w.ownsRow base e size v n xs := by
 refine ⟨h.1, ?_⟩
 rcases h.2 with h | ⟨g, cap, cur, hv, hg, r⟩
 ·exact .inl h
 ·exact .inr ⟨g, cap, cur, hv, by omega, r⟩
theorem keep {P : Program} {f : FuncId} {args : Array Value} {w : World} {v : Value} {Q : Ending → World → Prop} (h : Calls P f args w fun e w' => e = .returned v ∧ w' = w) (k : Q (.returned v) w) : Calls P f args w Q :=
 h.mono fun e w' ⟨h1, h2⟩ => by rw [h1, h2]; exact k
theorem b8_mem {zs : List Int} (h : ∀ n ∈ zs, (Lit.int .u8 n).wf = true) : B8 zs := by
 intro c hc
 obtain ⟨i, hi, rfl⟩ := List.mem_iff_getElem.1 hc
 have := range_u8 h i
 simpa [List.getD, hi] using this
theorem slice_of_owns2 {w : World} {base : Nat} {e : TypeId} {v : Value} {n : Nat} {xs : List Value} (h : w.ownsRow base e 1 v n xs) : ∃ a cap, v = .slice a n cap ∧ (a = none → n = 0 ∧ cap = 0) ∧ ∀ x, a = some x → base ≤ x.block := by
 rcases h.2 with ⟨hv, h0⟩ | ⟨g, cap, cur, hv, hb, _⟩
 ·refine ⟨none, 0, by rw [hv, h0], fun _ => ⟨h0, rfl⟩, ?_⟩
  intro x h
  cases h
 ·refine ⟨_, cap, hv, ?_, ?_⟩
  ·intro h; cases h
  ·intro x h; cases h; exact hb
end Go.Proofs.YtealejbfloacpaaGreat
