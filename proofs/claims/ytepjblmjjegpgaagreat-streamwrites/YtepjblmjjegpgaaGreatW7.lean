/- Rows of bytes of one's own, their spare room known to hold bytes. No program is named here. -/
import Derived.Test.YtepjblmjjegpgaaGreatW3
import Derived.Lib.AppendZeros
import Derived.Laws.OwnMore
namespace Go.Proofs.YtepjblmjjegpgaaGreat
open Go.RowKit
set_option maxRecDepth 100000

def IsByte (u : Value) : Prop := ∃ x, u = .int .u8 x
/-- A row of bytes of one's own. -/
def OwnB (w : World) (base : Nat) (e : TypeId) (v : Value) (zs : List Int) : Prop :=
  (v = .slice none 0 0 ∧ zs = []) ∨
  ∃ g cap cur, v = .slice (some ⟨g, 0, none⟩) zs.length cap ∧ base ≤ g ∧ w.heap[g]? = some (.cells cur e (0, 0)) ∧ zs.length ≤ cap ∧ cap ≤ maxLen ∧ cur.size = cap ∧ cur.toList.take zs.length = zs.map (Value.int .u8) ∧ ∀ u ∈ cur.toList, IsByte u
theorem OwnB.owns {w : World} {base : Nat} {e : TypeId} {v : Value} {zs : List Int} (h : OwnB w base e v zs) : w.ownsRow base e 1 v zs.length (zs.map (Value.int .u8)) := by
  refine ⟨by simp, ?_⟩
  rcases h with ⟨h1, h2⟩ | ⟨g, cap, cur, h1, h2, h3, h4, h5, h6, h7, _⟩
  · exact .inl ⟨h1, by rw [h2]; rfl⟩
  · exact .inr ⟨g, cap, cur, h1, h2, h3, h4, h5, by omega, by rw [Nat.mul_one]; exact h7⟩
theorem OwnB.nil (w : World) (base : Nat) (e : TypeId) : OwnB w base e (.slice none 0 0) [] := .inl ⟨rfl, rfl⟩
theorem OwnB.blk {w w' : World} {base : Nat} {e : TypeId} {v : Value} {zs : List Int} (h : OwnB w base e v zs) (hb : ∀ k, v.ownBlock = some k → w'.heap[k]? = w.heap[k]?) : OwnB w' base e v zs := by
  rcases h with h | ⟨g, cap, cur, h1, h2, h3, r⟩
  · exact .inl h
  · exact .inr ⟨g, cap, cur, h1, h2, by rw [hb g (by rw [h1]; rfl)]; exact h3, r⟩
theorem OwnB.below {w w' : World} {base : Nat} {e : TypeId} {v : Value} {zs : List Int} (h : OwnB w base e v zs) (hb : Below w.heap.size w w') : OwnB w' base e v zs :=
  h.blk fun k hk => hb.block k (h.owns.lt k hk).2
theorem OwnB.mono {w : World} {base base' : Nat} {e : TypeId} {v : Value} {zs : List Int} (h : OwnB w base' e v zs) (hb : base ≤ base') : OwnB w base e v zs := by
  rcases h with h | ⟨g, cap, cur, h1, h2, r⟩
  · exact .inl h
  · exact .inr ⟨g, cap, cur, h1, Nat.le_trans hb h2, r⟩
theorem OwnB.slice {w : World} {base : Nat} {e : TypeId} {v : Value} {zs : List Int} (h : OwnB w base e v zs) : ∃ a cap, v = .slice a zs.length cap ∧ Row w .u8 a zs ∧ (a = none → zs.length = 0 ∧ cap = 0) ∧ zs.length ≤ cap := by
  obtain ⟨a, cap, hv, hn, _⟩ := slice_of_owns2 h.owns
  refine ⟨a, cap, hv, row_of_owns2 (by rw [← hv]; exact h.owns), hn, ?_⟩
  rcases h with ⟨h1, h2⟩ | ⟨g, cap', cur, h1, h2, h3, h4, _⟩
  · rw [h2]; exact Nat.zero_le _
  · rw [hv] at h1; cases h1; exact h4
theorem OwnB.sliceN {w : World} {base : Nat} {e : TypeId} {v : Value} {zs : List Int} (h : OwnB w base e v zs) {n : Nat} (hn : zs.length = n) : ∃ a cap, v = .slice a n cap ∧ (a = none → n = 0 ∧ cap = 0) ∧ n ≤ cap ∧ ∀ k, v.ownBlock = some k → base ≤ k ∧ k < w.heap.size := by
  obtain ⟨a, cap, h1, _, h3, h4⟩ := h.slice
  rw [hn] at h1 h3 h4
  exact ⟨a, cap, h1, h3, h4, h.owns.lt⟩
theorem OwnB.row {w : World} {base : Nat} {e : TypeId} {a : Option Addr} {n cap : Nat} {zs : List Int} (h : OwnB w base e (.slice a n cap) zs) : Row w .u8 a zs := by
  obtain ⟨a', cap', h1, h2, _⟩ := h.slice
  cases h1
  exact h2
theorem OwnB.kept {w w' : World} {base : Nat} {e : TypeId} {v : Value} {zs : List Int} {row : Option Nat} (h : OwnB w base e v zs) (hg : w.grownBy w' row) (hne : ∀ k, v.ownBlock = some k → some k ≠ row) : OwnB w' base e v zs :=
  h.blk fun k hk => hg.block k (h.owns.lt k hk).2 (hne k hk)
theorem zero_bytes (n : Nat) : ∀ u ∈ (Builtin.zeroCells (Value.int .u8 0).cells n).toList, IsByte u := by
  intro u hu
  simp only [Builtin.zeroCells, Value.cells, Array.toList_map, List.mem_map] at hu
  obtain ⟨i, _, rfl⟩ := hu
  refine ⟨0, ?_⟩
  simp [Nat.mod_one]
theorem OwnB.made {w : World} {base : Nat} {e : TypeId} (cs : Array Value) (cap : Nat) (hb : base ≤ w.heap.size) (hm : cap ≤ maxLen) (hs : cs.size = cap) (h : ∀ u ∈ cs.toList, IsByte u) : OwnB (w.alloc (.cells cs e)) base e (.slice (some ⟨w.heap.size, 0, none⟩) 0 cap) [] :=
  .inr ⟨w.heap.size, cap, cs, rfl, hb, heap_alloc_new w _, Nat.zero_le _, hm, hs, by simp, h⟩
theorem bytes_map (zs : List Int) : ∀ u ∈ zs.map (Value.int .u8), IsByte u := by
  intro u hu
  obtain ⟨x, _, rfl⟩ := List.mem_map.1 hu
  exact ⟨x, rfl⟩

theorem append_b {P : Program} {w : World} {ops : Array Oper} {rest : List Oper} {o : Oper} {a : Act} {Q : Exit → Act → World → Prop} (hgd : o.guard = none) (s x : Operand) (t : TypeId)
    (ho : o.op = .call { callee := .builtin .append, args := #[s, x], argTypes := #[t, t] })
    (base : Nat) (e : TypeId) (i : TypeInfo) (ht : P.underlying t = some (.slice e)) (hi : P.info? e = some i) (hz : i.zero = some (.int .u8 0)) (hsize : i.size = 1) (hby : i.bytes = 1)
    (v : Value) (zs : List Int) (hs : a.eval s = v) (hown : OwnB w base e v zs)
    (ao : Option Addr) (m c : Nat) (ys : List Int) (hx : a.eval x = .slice ao m c) (hl : ys.length = m) (hnone : ao = none → m = 0 ∧ c = 0) (hrow : Row w .u8 ao ys)
    (hbytes : zs.length + m ≤ 140737488355328) (hbase : base ≤ w.heap.size)
    (h : ∀ v' w', OwnB w' base e v' (zs ++ ys) → w.grownBy w' v.ownBlock → wpList P ops Q rest (a.put o.dst v') w') : wpList P ops Q (o :: rest) a w := by
  cases ao with
  | none =>
    obtain ⟨rfl, rfl⟩ := hnone rfl
    obtain rfl : ys = [] := List.eq_nil_of_length_eq_zero hl
    refine wpList_append_own_none hgd s x t ho base e i 1 ht hi v zs.length _ hs hown.owns hx ?_
    refine h v w ?_ (grownBy_refl _ _)
    simpa using hown
  | some ad =>
    have hnews : ∀ j u, (ys.map (Value.int .u8))[j]? = some u → w.cell? (ad.add j) = some u := hrow.cells ad rfl
    have hln : (ys.map (Value.int .u8)).length = m * i.size := by rw [List.length_map, hsize, Nat.mul_one]; exact hl
    have h63 : zs.length + m ≤ maxLen := by unfold maxLen; omega
    have grown : ∀ old, old < zs.length + m → OwnB (w.drew.alloc (.cells ((zs.map (Value.int .u8)).toArray ++ (ys.map (Value.int .u8)).toArray ++ Builtin.zeroCells (Value.int .u8 0).cells (grownCap w (zs.length + m) old e - (zs.length + m))) e)) base e (.slice (some ⟨w.heap.size, 0, none⟩) (zs.length + m) (grownCap w (zs.length + m) old e)) (zs ++ ys) := by
      intro old ho2
      have hge := grownCap_ge w (zs.length + m) old e
      have hcm : grownCap w (zs.length + m) old e ≤ maxLen := grownCap_le_maxLen w (zs.length + m) old e h63
      have hlen : (zs ++ ys).length = zs.length + m := by rw [List.length_append, hl]
      refine .inr ⟨w.heap.size, _, _, by rw [hlen], hbase, heap_alloc_new w.drew _, by rw [hlen]; exact hge, hcm, ?_, ?_, ?_⟩
      · simp only [Array.size_append, List.size_toArray, size_zeroCells, List.length_map, Value.cells, hl]
        simp
        omega
      · simp only [Array.toList_append]
        rw [hlen, ← List.map_append, List.take_append_of_le_length (by simp [hl]), List.take_of_length_le (by simp [hl])]
      · intro u hu
        simp only [Array.toList_append, List.mem_append] at hu
        rcases hu with (hu | hu) | hu
        · exact bytes_map zs u hu
        · exact bytes_map ys u hu
        · exact zero_bytes _ u hu
    rcases hown with ⟨hv, hz0⟩ | ⟨g, cap, cur, hv, hbg, hg, hnc, hcm, hcs, htake, hbs⟩
    · subst hz0
      by_cases hm : m = 0
      · subst hm
        obtain rfl : ys = [] := List.eq_nil_of_length_eq_zero hl
        refine Lib.wpList_append_run w hgd s x t t ho v (.slice (some ad) 0 c) hs hx (.slice none 0 0) w ?_ (h _ _ (OwnB.nil _ _ _) (grownBy_refl _ _))
        rw [hv]
        simp [Builtin.append_, run_underlying ht, sizeOf, typeInfo, hi, Builtin.lenOf, Builtin.firstCells, loadCells, loadCellsFrom]
      · have hr := run_append_nil (P := P) w t o.type e i (.int .u8 0) ht hi hz ad m c _ hln hnews (by omega) (by omega) (by rw [hby]; omega)
        have hgr := grown 0 (by simp; omega)
        simp only [List.length_nil, Nat.zero_add, List.map_nil, List.nil_append, Array.empty_append] at hgr h
        exact Lib.wpList_append_run w hgd s x t t ho v (.slice (some ad) m c) hs hx _ _ (by rw [hv]; exact hr) (h _ _ hgr ⟨rfl, rfl, rfl, by simp, fun k hk _ => Below.heap_alloc w.drew _ k hk⟩)
    · by_cases hroom : zs.length + m ≤ cap
      · have hfit : zs.length * i.size + (ys.map (Value.int .u8)).length ≤ cur.size := by rw [hsize, Nat.mul_one, List.length_map, hl, hcs]; exact hroom
        have hr := run_append_room (P := P) w t o.type e i ht hi g zs.length cap cur hg ad m c _ hln hnews (fun u hu => by obtain ⟨x, rfl⟩ := bytes_map ys u hu; rfl) hroom hfit
        rw [hsize, Nat.mul_one] at hr
        refine Lib.wpList_append_run w hgd s x t t ho v (.slice (some ad) m c) hs hx _ _ (by rw [hv]; exact hr) (h _ _ ?_ ?_)
        · have hlen : (zs ++ ys).length = zs.length + m := by rw [List.length_append, hl]
          refine .inr ⟨g, cap, _, by rw [hlen], hbg, setRow_heap w g cur _ e _ hg, by rw [hlen]; exact hroom, hcm, ?_, ?_, ?_⟩
          · simp only [List.size_toArray, List.length_append, List.length_take, List.length_drop, Array.length_toList, List.length_map]
            omega
          · simp only []
            rw [htake, hlen, List.take_append_of_le_length (by simp [hl]), ← List.map_append, List.take_of_length_le (by simp [hl])]
          · intro u hu
            simp only [List.mem_append] at hu
            rcases hu with (hu | hu) | hu
            · exact hbs u (List.mem_of_mem_take hu)
            · exact bytes_map ys u hu
            · exact hbs u (List.mem_of_mem_drop hu)
        · exact ⟨rfl, rfl, rfl, by simp, fun k _ hk => setRow_other w g k _ (fun e => hk (by simp [hv, Value.ownBlock, e]))⟩
      · have holds : ∀ j u, (zs.map (Value.int .u8))[j]? = some u → w.cell? ((⟨g, 0, none⟩ : Addr).add j) = some u := by
          intro j u hu
          rw [Addr.add_lit, Nat.zero_add, cell_of_row _ _ _ _ _ _ hg, ← Array.getElem?_toList]
          rw [← htake] at hu
          have hj : j < zs.length := by
            have := (List.getElem?_eq_some_iff.1 hu).1
            rw [List.length_take] at this
            omega
          rw [List.getElem?_take, if_pos hj] at hu
          exact hu
        have hr := run_append_grow (P := P) w t o.type e i (.int .u8 0) ht hi hz ⟨g, 0, none⟩ zs.length cap _ (by rw [List.length_map, hsize, Nat.mul_one]) holds ad m c _ hln hnews (by omega) (by unfold maxLen at h63; omega) (growslice_fits (by omega) (by rw [hby]; omega))
        exact Lib.wpList_append_run w hgd s x t t ho v (.slice (some ad) m c) hs hx _ _ (by rw [hv]; exact hr) (h _ _ (grown cap (by omega)) ⟨rfl, rfl, rfl, by simp, fun k hk _ => Below.heap_alloc w.drew _ k hk⟩)

theorem own_set {w : World} {base g n cap : Nat} {e : TypeId} {t : List Int} (h : w.ownsRow base e 1 (.slice (some ⟨g, 0, none⟩) n cap) n (t.map (Value.int .u8))) (j : Nat) (x : Int) :
    (w.setCell ⟨g, j, none⟩ (.int .u8 x)).ownsRow base e 1 (.slice (some ⟨g, 0, none⟩) n cap) n ((t.set j x).map (Value.int .u8)) := by
  refine ⟨by rw [List.length_map, List.length_set, ← List.length_map (f := Value.int .u8)]; exact h.1, ?_⟩
  rcases h.2 with ⟨hv, _⟩ | ⟨g', cap', cur, hv, hb, hh, h1, h2, h3, h4⟩
  · cases hv
  · cases hv
    refine .inr ⟨g, cap, cur.setIfInBounds j (.int .u8 x), rfl, hb, block_setCell hh j _, h1, h2, by rw [Array.size_setIfInBounds]; exact h3, ?_⟩
    rw [List.map_set, ← h4, Array.toList_setIfInBounds, List.take_set]
theorem own_cell {w : World} {base g n cap : Nat} {e : TypeId} {t : List Int} (h : w.ownsRow base e 1 (.slice (some ⟨g, 0, none⟩) n cap) n (t.map (Value.int .u8))) (j : Nat) (hj : j < n) : ∃ x, w.cell? ⟨g, j, none⟩ = some (.int .u8 x) := by
  have hl : t.length = n := by have := h.1; simpa using this
  obtain ⟨b', o', ha, hc⟩ := (row_of_owns h) j (by omega)
  cases ha
  rw [Nat.zero_add] at hc
  exact ⟨_, hc⟩
theorem own_frozen {w : World} {base g n cap : Nat} {e : TypeId} {xs : List Value} (h : w.ownsRow base e 1 (.slice (some ⟨g, 0, none⟩) n cap) n xs) (j : Nat) : w.frozen? ⟨g, j, none⟩ = false := by
  rcases h.2 with ⟨hv, _⟩ | ⟨g', cap', cur, hv, hb, hh, _⟩
  · cases hv
  · cases hv
    simp [World.frozen?, hh]

end Go.Proofs.YtepjblmjjegpgaaGreat
