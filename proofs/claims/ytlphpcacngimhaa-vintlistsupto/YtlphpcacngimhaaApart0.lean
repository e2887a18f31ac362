/- Rows of one's own: appended to, read, cut. -/
import Derived.Test.YtlphpcacngimhaaLives
import Derived.Test.YtlphpcacngimhaaJoin
import Derived.Test.YtlphpcacngimhaaSame
import Derived.Laws.AppendOwnNone
namespace Go.Proofs.Ytlphpcacngimhaa
open Go.RowKit

/-- 'append(s, x...)', s the call's own, x whatever it is: nil, empty or not. -/
theorem append_own_any {P : Program} {w : World} {ops : Array Oper} {rest : List Oper} {o : Oper} {a : Act} {Q : Exit → Act → World → Prop} (hgd : o.guard = none) (s x : Operand) (t : TypeId)
    (ho : o.op = .call { callee := .builtin .append, args := #[s, x], argTypes := #[t, t] })
    (base : Nat) (e : TypeId) (i : TypeInfo) (z : Value) (size bytes : Nat) (ht : P.underlying t = some (.slice e)) (hi : P.info? e = some i) (hz : i.zero = some z)
    (hsize : i.size = size) (hby : i.bytes = bytes) (hzs : z.cells.size = size) (hsz : 0 < size)
    (v : Value) (n : Nat) (xs : List Value) (hs : a.eval s = v) (hown : w.ownsRow base e size v n xs)
    (ao : Option Addr) (m c : Nat) (news : List Value) (hx : a.eval x = .slice ao m c) (hl : news.length = m * size) (hnone : ao = none → m = 0 ∧ c = 0) (hnews : ∀ ad, ao = some ad → ∀ j u, news[j]? = some u → w.cell? (ad.add j) = some u) (h1 : ∀ u ∈ news, u.oneCell' = true)
    (h63 : n + m ≤ maxLen) (hbytes : (n + m) * bytes ≤ 140737488355328) (hbase : base ≤ w.heap.size)
    (h : ∀ v' w', w'.ownsRow base e size v' (n + m) (xs ++ news) → w.grownBy w' v.ownBlock → wpList P ops Q rest (a.put o.dst v') w') : wpList P ops Q (o :: rest) a w := by
  cases ao with
  | some ad => exact wpList_append_own w hgd s x t ho base e i z size bytes ht hi hz hsize hby hzs hsz v n xs hs hown ad m c news hx hl (hnews ad rfl) h1 h63 hbytes hbase (fun v' w' h2 h3 _ => h v' w' h2 h3)
  | none =>
    obtain ⟨rfl, rfl⟩ := hnone rfl
    have hn : news = [] := List.eq_nil_of_length_eq_zero (by simpa using hl)
    subst hn
    refine wpList_append_own_none hgd s x t ho base e i size ht hi v n xs hs hown hx ?_
    refine h v w ?_ (grownBy_refl _ _)
    simpa using hown

theorem row_of_owns {w : World} {base : Nat} {e : TypeId} {k : IntKind} {g n cap : Nat} {zs : List Int} (h : w.ownsRow base e 1 (.slice (some ⟨g, 0, none⟩) n cap) n (zs.map (Value.int k))) : Row w k (some ⟨g, 0, none⟩) zs := by
  intro i hi
  refine ⟨g, 0, rfl, ?_⟩
  have hc := h.cells (g := g) rfl i (.int k (zs.getD i 0)) (by
    rw [List.getElem?_map, List.getD, List.getElem?_eq_getElem hi]; rfl)
  rwa [Addr.add_lit] at hc

theorem slice_of_owns {w : World} {base : Nat} {e : TypeId} {v : Value} {n : Nat} {xs : List Value} (h : w.ownsRow base e 1 v n xs) (hn : 0 < n) : ∃ g cap, v = .slice (some ⟨g, 0, none⟩) n cap ∧ base ≤ g := by
  rcases h.2 with ⟨_, h0⟩ | ⟨g, cap, cur, hv, hb, _⟩
  · omega
  · exact ⟨g, cap, hv, hb⟩

theorem Row.below2 {w w' : World} {k : IntKind} {a : Option Addr} {zs : List Int} (h : Row w k a zs) (hb : Below w.heap.size w w') : Row w' k a zs := by
  intro i hi
  obtain ⟨b, off, ha, hc⟩ := h i hi
  exact ⟨b, off, ha, (hb.cell (p := ⟨b, off + i, none⟩) (World.block_lt_of_cell? w ⟨b, off + i, none⟩ hc)).trans hc⟩

theorem Row.take {w : World} {k : IntKind} {a : Option Addr} {zs : List Int} (h : Row w k a zs) (l : Nat) : Row w k a (zs.take l) := by
  intro i hi
  have hi' : i < l ∧ i < zs.length := by rw [List.length_take] at hi; omega
  obtain ⟨b, off, ha, hc⟩ := h i hi'.2
  refine ⟨b, off, ha, ?_⟩
  rw [hc]
  simp only [List.getD_eq_getElem?_getD]
  rw [List.getElem?_take, if_pos hi'.1]

theorem Row.cells {w : World} {k : IntKind} {a : Option Addr} {zs : List Int} (h : Row w k a zs) : ∀ ad, a = some ad → ∀ j u, (zs.map (Value.int k))[j]? = some u → w.cell? (ad.add j) = some u := by
  intro ad had j u hu
  have hj : j < zs.length := by
    have := (List.getElem?_eq_some_iff.1 hu).1
    simpa using this
  obtain ⟨b, off, ha, hc⟩ := h j hj
  rw [had] at ha
  obtain rfl := Option.some.inj ha
  rw [Addr.add_lit, hc]
  rw [List.getElem?_map, List.getElem?_eq_getElem hj] at hu
  simp only [Option.map_some, Option.some.injEq] at hu
  rw [← hu]
  simp [List.getD, hj]

theorem Row.alloc {w : World} {k : IntKind} {a : Option Addr} {zs : List Int} (h : Row w k a zs) (o : Obj) : Row (w.alloc o) k a zs :=
  h.below2 ((Below.refl _ _).alloc (Nat.le_refl _) _)

theorem fits8_app {xs ys : List Int} (h1 : ∀ c ∈ xs, 0 ≤ c ∧ c ≤ 255) (h2 : Fits8 ys) : Fits8 (xs ++ ys) := by
  intro i
  by_cases hi : i < xs.length
  · have := h1 xs[i] (List.getElem_mem hi)
    simpa [List.getD, List.getElem?_append_left hi, hi] using this
  · have := h2 (i - xs.length)
    simpa [List.getD, List.getElem?_append_right (show xs.length ≤ i by omega)] using this

end Go.Proofs.Ytlphpcacngimhaa
