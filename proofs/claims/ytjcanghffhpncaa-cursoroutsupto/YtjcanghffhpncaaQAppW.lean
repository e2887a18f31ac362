/- Rows of bytes of one's own that begin anywhere in their block and end anywhere; append to one. -/
import Derived.Test.YtjcanghffhpncaaQApp
namespace Go.Proofs.Ytjcanghffhpncaa
open Go.RowKit

/-- A row of bytes of one's own, o bytes into its block. -/
def OwnW (w : World) (base : Nat) (e : TypeId) (o : Nat) (v : Value) (zs : List Int) : Prop :=
  (v = .slice none 0 0 ∧ zs = []) ∨
  ∃ g cap cur, v = .slice (some ⟨g, o, none⟩) zs.length cap ∧ base ≤ g ∧ w.heap[g]? = some (.cells cur e (0, 0)) ∧ zs.length ≤ cap ∧ cap ≤ maxLen ∧ o + cap ≤ cur.size ∧ (cur.toList.drop o).take zs.length = zs.map (Value.int .u8) ∧ ∀ u ∈ cur.toList, IsByte u
theorem OwnW.blk {w w' : World} {base : Nat} {e : TypeId} {o : Nat} {v : Value} {zs : List Int} (h : OwnW w base e o v zs) (hb : ∀ k, Value.blk v = some k → w'.heap[k]? = w.heap[k]?) : OwnW w' base e o v zs := by
  rcases h with h | ⟨g, cap, cur, h1, h2, h3, r⟩
  · exact .inl h
  · exact .inr ⟨g, cap, cur, h1, h2, by rw [hb g (by rw [h1]; rfl)]; exact h3, r⟩
theorem OwnW.lt {w : World} {base : Nat} {e : TypeId} {o : Nat} {v : Value} {zs : List Int} (h : OwnW w base e o v zs) : ∀ k, Value.blk v = some k → base ≤ k ∧ k < w.heap.size := by
  intro k hk
  rcases h with ⟨h1, _⟩ | ⟨g, cap, cur, h1, h2, h3, r⟩
  · rw [h1] at hk; cases hk
  · rw [h1] at hk; cases hk; exact ⟨h2, lt_of_block h3⟩
theorem OwnW.upd {S : Nat → Prop} {w w' : World} {base : Nat} {e : TypeId} {o : Nat} {v : Value} {zs : List Int} (h : OwnW w base e o v zs) (hb : Upd S w w') (hs : ∀ k, Value.blk v = some k → ¬ S k) : OwnW w' base e o v zs :=
  h.blk fun k hk => hb.block k (h.lt k hk).2 (hs k hk)
theorem OwnW.slice {w : World} {base : Nat} {e : TypeId} {o : Nat} {v : Value} {zs : List Int} (h : OwnW w base e o v zs) {n : Nat} (hn : zs.length = n) : ∃ a cap, v = .slice a n cap ∧ Row w .u8 a zs ∧ (a = none → n = 0 ∧ cap = 0) ∧ n ≤ cap ∧ (∀ x, a = some x → x.off = o ∧ x.spot = none) := by
  subst hn
  rcases h with ⟨h1, h2⟩ | ⟨g, cap, cur, h1, h2, h3, h4, h5, h6, h7, h8⟩
  · subst h2
    exact ⟨none, 0, h1, row_nil _ _ _, fun _ => ⟨rfl, rfl⟩, Nat.le_refl _, fun x hx => by cases hx⟩
  · refine ⟨some ⟨g, o, none⟩, cap, h1, fun i hi => ⟨g, o, rfl, ?_⟩, (fun h => by cases h), h4, (fun x hx => by cases hx; exact ⟨rfl, rfl⟩)⟩
    rw [cell_of_row _ _ _ _ _ _ h3, ← Array.getElem?_toList]
    have h9 : ((cur.toList.drop o).take zs.length)[i]? = (zs.map (Value.int .u8))[i]? := by rw [h7]
    rw [List.getElem?_take, if_pos hi, List.getElem?_drop] at h9
    rw [h9]
    simp [List.getD_eq_getElem?_getD, hi]
theorem OwnW.nil (w : World) (base : Nat) (e : TypeId) (o : Nat) : OwnW w base e o (.slice none 0 0) [] := .inl ⟨rfl, rfl⟩
theorem OwnW.mono {w : World} {base base' : Nat} {e : TypeId} {o : Nat} {v : Value} {zs : List Int} (h : OwnW w base' e o v zs) (hb : base ≤ base') : OwnW w base e o v zs := by
  rcases h with h | ⟨g, cap, cur, h1, h2, r⟩
  · exact .inl h
  · exact .inr ⟨g, cap, cur, h1, Nat.le_trans hb h2, r⟩
/-- All are left out. -/
theorem OwnW.all {w : World} {base : Nat} {e : TypeId} {o : Nat} {a : Addr} {len cap : Nat} {zs : List Int} (h : OwnW w base e o (.slice (some a) len cap) zs) : OwnW w base e o (.slice (some a) 0 0) [] := by
  rcases h with ⟨h1, h2⟩ | ⟨g, cap', cur, h1, h2, h3, h4, h5, h6, h7, h8⟩
  · cases h1
  · cases h1
    exact .inr ⟨g, 0, cur, rfl, h2, h3, Nat.zero_le _, Nat.zero_le _, by omega, by simp, h8⟩
/-- The first n bytes are left out. -/
theorem OwnW.drop {w : World} {base : Nat} {e : TypeId} {o : Nat} {a : Addr} {len cap : Nat} {zs : List Int} (h : OwnW w base e o (.slice (some a) len cap) zs) (n : Nat) (hn : n ≤ zs.length) : OwnW w base e (o + n) (.slice (some ⟨a.block, a.off + n, none⟩) (len - n) (cap - n)) (zs.drop n) := by
  rcases h with ⟨h1, h2⟩ | ⟨g, cap', cur, h1, h2, h3, h4, h5, h6, h7, h8⟩
  · cases h1
  · cases h1
    refine .inr ⟨g, cap - n, cur, by rw [List.length_drop], h2, h3, by rw [List.length_drop]; omega, by omega, by omega, ?_, h8⟩
    rw [List.length_drop, List.map_drop, ← h7, List.drop_take, List.drop_drop]

theorem append_w {P : Program} {w : World} {ops : Array Oper} {rest : List Oper} {o : Oper} {a : Act} {Q : Exit → Act → World → Prop} (hgd : o.guard = none) (s x : Operand) (t : TypeId)
    (ho : o.op = .call { callee := .builtin .append, args := #[s, x], argTypes := #[t, t] })
    (base : Nat) (e : TypeId) (i : TypeInfo) (ht : P.underlying t = some (.slice e)) (hi : P.info? e = some i) (hz : i.zero = some (.int .u8 0)) (hsize : i.size = 1) (hby : i.bytes = 1)
    (off : Nat) (v : Value) (zs : List Int) (hs : a.eval s = v) (hown : OwnW w base e off v zs)
    (ao : Option Addr) (m c : Nat) (ys : List Int) (hx : a.eval x = .slice ao m c) (hl : ys.length = m) (hnone : ao = none → m = 0 ∧ c = 0) (hrow : Row w .u8 ao ys)
    (hbytes : zs.length + m ≤ 140737488355328) (hbase : base ≤ w.heap.size)
    (h : ∀ v' w' off', (off = 0 → off' = 0) → OwnW w' base e off' v' (zs ++ ys) → w.grownBy w' (Value.blk v) → (∀ k, Value.blk v' = some k → Value.blk v = some k ∨ w.heap.size ≤ k) → wpList P ops Q rest (a.put o.dst v') w') : wpList P ops Q (o :: rest) a w := by
  cases ao with
  | none =>
    obtain ⟨rfl, rfl⟩ := hnone rfl
    obtain rfl : ys = [] := List.eq_nil_of_length_eq_zero hl
    refine Lib.wpList_append_run w hgd s x t t ho v (.slice none 0 0) hs hx v w ?_ (h v w off (fun h => h) (by simpa using hown) (grownBy_refl _ _) (fun k hk => .inl hk))
    rcases hown with ⟨rfl, _⟩ | ⟨g, cap, cur, rfl, _, _, hnc, _⟩
    · simp [Builtin.append_, run_underlying ht, sizeOf, typeInfo, hi, Builtin.lenOf, Builtin.firstCells]
    · simp [Builtin.append_, run_underlying ht, sizeOf, typeInfo, hi, Builtin.lenOf, Builtin.firstCells, hnc, storeCells]
  | some ad =>
    have hnews : ∀ j u, (ys.map (Value.int .u8))[j]? = some u → w.cell? (ad.add j) = some u := hrow.cells ad rfl
    have hln : (ys.map (Value.int .u8)).length = m * i.size := by rw [List.length_map, hsize, Nat.mul_one]; exact hl
    have h63 : zs.length + m ≤ maxLen := by unfold maxLen; omega
    have grown : ∀ old, old < zs.length + m → OwnW (w.drew.alloc (.cells ((zs.map (Value.int .u8)).toArray ++ (ys.map (Value.int .u8)).toArray ++ Builtin.zeroCells (Value.int .u8 0).cells (grownCap w (zs.length + m) old e - (zs.length + m))) e)) base e 0 (.slice (some ⟨w.heap.size, 0, none⟩) (zs.length + m) (grownCap w (zs.length + m) old e)) (zs ++ ys) := by
      intro old ho2
      have hge := grownCap_ge w (zs.length + m) old e
      have hcm : grownCap w (zs.length + m) old e ≤ maxLen := grownCap_le_maxLen w (zs.length + m) old e h63
      have hlen : (zs ++ ys).length = zs.length + m := by rw [List.length_append, hl]
      refine .inr ⟨w.heap.size, _, _, by rw [hlen], hbase, heap_alloc_new w.drew _, by rw [hlen]; exact hge, hcm, ?_, ?_, ?_⟩
      · simp only [Array.size_append, List.size_toArray, size_zeroCells, List.length_map, Value.cells, hl]
        simp
        omega
      · simp only [Array.toList_append, List.drop_zero]
        rw [hlen, ← List.map_append, List.take_append_of_le_length (by simp [hl]), List.take_of_length_le (by simp [hl])]
      · intro u hu
        simp only [Array.toList_append, List.mem_append] at hu
        rcases hu with (hu | hu) | hu
        · exact bytes_map zs u hu
        · exact bytes_map ys u hu
        · exact zero_bytes _ u hu
    rcases hown with ⟨hv, hz0⟩ | ⟨g, cap, cur, hv, hbg, hg, hnc, hcm, hcs, htake, hbs⟩
    · subst hz0
      by_cases hm : m = 0
      · subst hm
        obtain rfl : ys = [] := List.eq_nil_of_length_eq_zero hl
        refine Lib.wpList_append_run w hgd s x t t ho v (.slice (some ad) 0 c) hs hx (.slice none 0 0) w ?_ (h _ _ 0 (fun _ => rfl) (.inl ⟨rfl, rfl⟩) (grownBy_refl _ _) (fun k hk => by cases hk))
        rw [hv]
        simp [Builtin.append_, run_underlying ht, sizeOf, typeInfo, hi, Builtin.lenOf, Builtin.firstCells, loadCells, loadCellsFrom]
      · have hr := run_append_nil (P := P) w t o.type e i (.int .u8 0) ht hi hz ad m c _ hln hnews (by omega) (by omega) (by rw [hby]; omega)
        have hgr := grown 0 (by simp; omega)
        simp only [List.length_nil, Nat.zero_add, List.map_nil, List.nil_append, Array.empty_append] at hgr h
        exact Lib.wpList_append_run w hgd s x t t ho v (.slice (some ad) m c) hs hx _ _ (by rw [hv]; exact hr) (h _ _ 0 (fun _ => rfl) hgr ⟨rfl, rfl, rfl, by simp, fun k hk _ => Below.heap_alloc w.drew _ k hk⟩ (fun k hk => by cases hk; exact .inr (Nat.le_refl _)))
    · by_cases hroom : zs.length + m ≤ cap
      · have hfit : off + zs.length + (ys.map (Value.int .u8)).length ≤ cur.size := by rw [List.length_map, hl]; omega
        have hr := run_append_room_o (P := P) w t o.type e i ht hi hsize g off zs.length cap cur hg ad m c _ hln hnews (fun u hu => by obtain ⟨x, rfl⟩ := bytes_map ys u hu; rfl) hroom hfit
        refine Lib.wpList_append_run w hgd s x t t ho v (.slice (some ad) m c) hs hx _ _ (by rw [hv]; exact hr) (h _ _ off (fun h => h) ?_ ?_ (fun k hk => by rw [hv]; exact .inl hk))
        · have hlen : (zs ++ ys).length = zs.length + m := by rw [List.length_append, hl]
          refine .inr ⟨g, cap, _, by rw [hlen], hbg, setRow_heap w g cur _ e _ hg, by rw [hlen]; exact hroom, hcm, ?_, ?_, ?_⟩
          · simp only [List.size_toArray, List.length_append, List.length_take, List.length_drop, Array.length_toList, List.length_map]
            omega
          · simp only []
            have hcl : off + cap ≤ cur.toList.length := by rw [Array.length_toList]; exact hcs
            have h1 : (cur.toList.take (off + zs.length)).drop off = zs.map (Value.int .u8) := by
              rw [List.drop_take, Nat.add_sub_cancel_left, htake]
            rw [hlen, List.append_assoc, List.drop_append_of_le_length (by rw [List.length_take]; omega), h1, ← List.append_assoc, ← List.map_append, List.take_append_of_le_length (by simp [hl]), List.take_of_length_le (by simp [hl])]
          · intro u hu
            simp only [List.mem_append] at hu
            rcases hu with (hu | hu) | hu
            · exact hbs u (List.mem_of_mem_take hu)
            · exact bytes_map ys u hu
            · exact hbs u (List.mem_of_mem_drop hu)
        · exact ⟨rfl, rfl, rfl, by simp, fun k _ hk => setRow_other w g k _ (fun e => hk (by simp [hv, Value.blk, e]))⟩
      · have holds : ∀ j u, (zs.map (Value.int .u8))[j]? = some u → w.cell? ((⟨g, off, none⟩ : Addr).add j) = some u := by
          intro j u hu
          rw [Addr.add_lit, cell_of_row _ _ _ _ _ _ hg, ← Array.getElem?_toList]
          rw [← htake] at hu
          have hj : j < zs.length := by
            have := (List.getElem?_eq_some_iff.1 hu).1
            rw [List.length_take] at this
            omega
          rw [List.getElem?_take, if_pos hj, List.getElem?_drop] at hu
          exact hu
        have hr := run_append_grow (P := P) w t o.type e i (.int .u8 0) ht hi hz ⟨g, off, none⟩ zs.length cap _ (by rw [List.length_map, hsize, Nat.mul_one]) holds ad m c _ hln hnews (by omega) (by unfold maxLen at h63; omega) (growslice_fits (by omega) (by rw [hby]; omega))
        exact Lib.wpList_append_run w hgd s x t t ho v (.slice (some ad) m c) hs hx _ _ (by rw [hv]; exact hr) (h _ _ 0 (fun _ => rfl) (grown cap (by omega)) ⟨rfl, rfl, rfl, by simp, fun k hk _ => Below.heap_alloc w.drew _ k hk⟩ (fun k hk => by cases hk; exact .inr (Nat.le_refl _)))

end Go.Proofs.Ytjcanghffhpncaa
