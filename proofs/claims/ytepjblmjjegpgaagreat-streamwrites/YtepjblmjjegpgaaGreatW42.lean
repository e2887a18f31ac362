/- stream: the bytes that are sure: one's own, or the head as it was laid. -/
import Derived.Test.YtepjblmjjegpgaaGreatW40
import Derived.Lib.SlBytesConst
namespace Go.Proofs.YtepjblmjjegpgaaGreat
open Go.RowKit
set_option maxRecDepth 100000

def hdC : Array Value := #[.int .u8 99, .int .u8 111, .int .u8 112, .int .u8 112, .int .u8 105, .int .u8 99, .int .u8 101, .int .u8 1]
def SuR (W : World) (B : Nat) (v : Value) (zs : List Int) : Prop :=
  OwnB W B 5 v zs ∨ ∃ g, v = .slice (some ⟨g, 0, none⟩) 8 8 ∧ B ≤ g ∧ W.heap[g]? = some (.cells hdC 5 (8, 9)) ∧ zs = hd8
theorem SuR.lt {W : World} {B : Nat} {v : Value} {zs : List Int} (h : SuR W B v zs) : ∀ k, v.ownBlock = some k → B ≤ k ∧ k < W.heap.size := by
  intro k hk
  rcases h with h | ⟨g, rfl, h2, h3, _⟩
  · exact h.owns.lt k hk
  · have : g = k := by simpa [Value.ownBlock] using hk
    subst this
    exact ⟨h2, lt_of_block h3⟩
theorem SuR.blk {W W' : World} {B : Nat} {v : Value} {zs : List Int} (h : SuR W B v zs) (hb : ∀ k, v.ownBlock = some k → W'.heap[k]? = W.heap[k]?) : SuR W' B v zs := by
  rcases h with h | ⟨g, rfl, h2, h3, h4⟩
  · exact .inl (h.blk hb)
  · exact .inr ⟨g, rfl, h2, by rw [hb g rfl]; exact h3, h4⟩
theorem SuR.upd {S : Nat → Prop} {W W' : World} {B : Nat} {v : Value} {zs : List Int} (h : SuR W B v zs) (hu : Upd S W W') (hs : ∀ k, v.ownBlock = some k → ¬ S k) : SuR W' B v zs :=
  h.blk fun k hk => hu.block k (h.lt k hk).2 (hs k hk)
theorem SuR.below {W W' : World} {B : Nat} {v : Value} {zs : List Int} (h : SuR W B v zs) (hb : Below W.heap.size W W') : SuR W' B v zs :=
  h.blk fun k hk => hb.block k (h.lt k hk).2
theorem hd_row {W : World} {g : Nat} (h : W.heap[g]? = some (.cells hdC 5 (8, 9))) : Row W .u8 (some ⟨g, 0, none⟩) hd8 := by
  intro i hi
  refine ⟨g, 0, rfl, ?_⟩
  rw [Nat.zero_add, cell_of_row _ _ _ _ _ _ h]
  have h8 : i < 8 := hi
  have : i = 0 ∨ i = 1 ∨ i = 2 ∨ i = 3 ∨ i = 4 ∨ i = 5 ∨ i = 6 ∨ i = 7 := by omega
  rcases this with rfl | rfl | rfl | rfl | rfl | rfl | rfl | rfl <;> rfl
theorem SuR.sliceN {W : World} {B : Nat} {v : Value} {zs : List Int} (h : SuR W B v zs) {n : Nat} (hn : zs.length = n) : ∃ a cap, v = .slice a n cap ∧ (a = none → n = 0 ∧ cap = 0) ∧ n ≤ cap ∧ Row W .u8 a zs := by
  rcases h with h | ⟨g, rfl, h2, h3, h4⟩
  · subst hn
    obtain ⟨a, cap, h1, h2, h3, h4⟩ := h.slice
    exact ⟨a, cap, h1, h3, h4, h2⟩
  · subst h4 hn
    exact ⟨_, _, rfl, (fun h => by cases h), Nat.le_refl _, hd_row h3⟩

/-- append of some bytes onto what is sure. -/
theorem append_su {w : World} {ops : Array Oper} {rest : List Oper} {o : Oper} {a : Act} {Q : Exit → Act → World → Prop} (hgd : o.guard = none) (s x : Operand)
    (ho : o.op = .call { callee := .builtin .append, args := #[s, x], argTypes := #[23, 23] })
    (base : Nat) (v : Value) (zs : List Int) (hs : a.eval s = v) (hown : SuR w base v zs)
    (ao : Option Addr) (m c : Nat) (ys : List Int) (hx : a.eval x = .slice ao m c) (hl : ys.length = m) (hm : 0 < m) (hnone : ao = none → m = 0 ∧ c = 0) (hrow : Row w .u8 ao ys)
    (hbytes : zs.length + m ≤ 140737488355328) (hbase : base ≤ w.heap.size)
    (h : ∀ v' w', OwnB w' base 5 v' (zs ++ ys) → w.grownBy w' v.ownBlock → (∀ k, v'.ownBlock = some k → v.ownBlock = some k ∨ w.heap.size ≤ k) → wpList Tryz.prog ops Q rest (a.put o.dst v') w') : wpList Tryz.prog ops Q (o :: rest) a w := by
  obtain ⟨i, hi, hz, hsize, hby⟩ := info_parts infoByte'
  rcases hown with hown | ⟨g, rfl, h2, h3, rfl⟩
  · obtain ⟨v', w', h1, h2, h3, h4⟩ := run_app_bk (P := Tryz.prog) 23 o.type base 5 i Tryz.underlying23 hi hz hsize hby v zs hown ao m c ys hl hnone hrow hbytes hbase
    exact Lib.wpList_append_run w hgd s x 23 23 ho v (.slice ao m c) hs hx _ _ h1 (h _ _ h2 h3 h4)
  · cases ao with
    | none => have := (hnone rfl).1; omega
    | some ad =>
      have hnews : ∀ j u, (ys.map (Value.int .u8))[j]? = some u → w.cell? (ad.add j) = some u := hrow.cells ad rfl
      have hln : (ys.map (Value.int .u8)).length = m * i.size := by rw [List.length_map, hsize, Nat.mul_one]; exact hl
      have h8 : hd8.length = 8 := rfl
      have h63 : hd8.length + m ≤ maxLen := by unfold maxLen; omega
      have hr := run_append_grow (P := Tryz.prog) w 23 o.type 5 i (.int .u8 0) Tryz.underlying23 hi hz ⟨g, 0, none⟩ hd8.length 8 (hd8.map (Value.int .u8)) (by rw [List.length_map, hsize, Nat.mul_one]) ((hd_row h3).cells _ rfl) ad m c _ hln hnews (by omega) (by unfold maxLen at h63; omega) (growslice_fits (by omega) (by rw [hby]; omega))
      exact Lib.wpList_append_run w hgd s x 23 23 ho _ (.slice (some ad) m c) hs hx _ _ hr (h _ _ (own_grown hl h63 hbase 8 (by omega)) ⟨rfl, rfl, rfl, by simp, fun k hk _ => Below.heap_alloc w.drew _ k hk⟩ (fun k hk => .inr (own_new hk)))

end Go.Proofs.YtepjblmjjegpgaaGreat
