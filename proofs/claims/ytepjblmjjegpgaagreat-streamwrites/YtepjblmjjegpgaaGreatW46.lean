/- stream: a Writer's rows, copied. -/
import Derived.Test.YtepjblmjjegpgaaGreatW45
import Derived.Test.YtepjblmjjegpgaaGreatW32
namespace Go.Proofs.YtepjblmjjegpgaaGreat
open Go.RowKit
set_option maxRecDepth 100000

theorem own_spans {w : World} {base n : Nat} {D : List Spn} (hD : D.length = n) (h63 : n ≤ maxLen) (hbase : base ≤ w.heap.size) (old : Nat) : OwnS (w.drew.alloc (.cells (([] : List Value).toArray ++ (cells4 D).toArray ++ Builtin.zeroCells zero4.cells (grownCap w (0 + n) old 97 - (0 + n))) 97)) base (.slice (some ⟨w.heap.size, 0, none⟩) (0 + n) (grownCap w (0 + n) old 97)) D := by
  subst hD
  rw [Nat.zero_add]
  have hge := grownCap_ge w D.length old 97
  have hcm : grownCap w D.length old 97 ≤ maxLen := grownCap_le_maxLen w D.length old 97 h63
  have hz4 : zero4.cells.size = 4 := rfl
  have e0 : (([] : List Value).toArray ++ (cells4 D).toArray) = (cells4 D).toArray := by simp
  rw [e0]
  refine .inr ⟨w.heap.size, _, _, rfl, hbase, heap_alloc_new w.drew _, hge, hcm, ?_, ?_, fun j h1 h2 => ?_⟩
  · rw [Array.size_append, List.size_toArray, size_zeroCells, cells4_len, hz4]
    omega
  · rw [Array.toList_append, List.take_append_of_le_length (by rw [cells4_len]; exact Nat.le_refl _), List.take_of_length_le (by rw [cells4_len]; exact Nat.le_refl _)]
  · have e : (cells4 D).toArray.size = D.length * 4 := by rw [List.size_toArray, cells4_len]
    rw [Array.getElem?_append_right (by rw [e]; omega), e, show j * 4 - D.length * 4 = (j - D.length) * 4 by omega]
    exact zeroCells_at _ _ (by omega)
set_option maxRecDepth 100000 in
set_option maxHeartbeats 1600000 in
theorem sclone_some (x : Addr) (n cap : Nat) (D : List Spn) (w : World) (hl : D.length = n) (h1 : 0 < n) (hm : n ≤ 8388608) (hc : ∀ j u, (cells4 D)[j]? = some u → w.cell? (x.add j) = some u) :
    Calls Tryz.prog 99 #[.slice (some x) n cap] w fun e w' => ∃ g c, e = .returned (.slice (some ⟨g, 0, none⟩) n c) ∧ OwnS w' w.heap.size (.slice (some ⟨g, 0, none⟩) n c) D ∧ Below w.heap.size w w' := by
  obtain ⟨i, hi, hz, hsize, hby⟩ := info_parts infoS'
  have HC := hide hc
  clear hc
  have qn : ∀ w : World, (binOp .eql 51 (.slice (some x) n cap) (.slice none 0 0)).run Tryz.prog w = .ok (.bool false) w := fun w => Lib.run_eql_slice_nil w _ _ _ _ _ _ _ Tryz.underlying51
  have W1 : Hid (∀ j u, (cells4 D)[j]? = some u → (w.alloc (.cells #[] 97)).cell? (x.add j) = some u) := fun j u q => ((Below.refl w.heap.size w).alloc (Nat.le_refl _) _ |>.cell (World.block_lt_of_cell? _ _ (HC.out j u q))).trans (HC.out j u q)
  have h63 : n ≤ maxLen := by unfold maxLen; omega
  have HR : Hid (∃ v' w', (Builtin.append_ #[51, 51] 51 #[.slice (some ⟨w.heap.size, 0, none⟩) 0 0, .slice (some x) n cap]).run Tryz.prog (w.alloc (.cells #[] 97)) = .ok v' w' ∧ (∃ g c, v' = .slice (some ⟨g, 0, none⟩) n c ∧ OwnS w' w.heap.size (.slice (some ⟨g, 0, none⟩) n c) D) ∧ Below w.heap.size w w') := by
    have hr := run_append_grow (P := Tryz.prog) (w.alloc (.cells #[] 97)) 51 51 97 i zero4 Tryz.underlying51 hi hz ⟨w.heap.size, 0, none⟩ 0 0 [] (by simp) (fun j u q => by simp at q) x n cap (cells4 D) (by rw [cells4_len, hsize, hl]) W1.out (by omega) (by omega) (growslice_fits (by omega) (by rw [hby]; omega))
    have ho := own_spans (w := w.alloc (.cells #[] 97)) (base := w.heap.size) hl h63 (by simp) 0
    refine ⟨_, _, hr, ⟨_, _, by rw [Nat.zero_add], ?_⟩, ?_⟩
    · rw [Nat.zero_add] at ho ⊢; exact ho
    · exact (((Below.refl _ _).alloc (Nat.le_refl _) _).drew).alloc (by show w.heap.size ≤ (w.alloc (.cells #[] 97)).heap.size; simp) _
  go_enter Tryz.func99, Tryz.ntmps99
  go_wp2_with (first
    | (at_builtin; obtain ⟨v', w', hr, hv, hb⟩ := HR.out; refine Lib.wpList_append_run _ rfl (.tmp 5) (.tmp 6) 51 51 rfl (.slice (some ⟨w.heap.size, 0, none⟩) 0 0) (.slice (some x) n cap) rfl rfl _ _ hr ?_; have HV := hide hv; have HB := hide hb; clear hv hb hr)
    | fail)
  obtain ⟨g, c, hv, ho⟩ := HV.out
  subst hv
  go_ret
  exact ⟨g, c, rfl, ho, HB.out⟩
set_option maxHeartbeats 400000 in
theorem sclone_nil (w : World) : Calls Tryz.prog 99 #[.slice none 0 0] w fun e w' => e = .returned (.slice none 0 0) ∧ w' = w := by
  have qn : ∀ w : World, (binOp .eql 51 (.slice none 0 0) (.slice none 0 0)).run Tryz.prog w = .ok (.bool true) w := fun w => Lib.run_eql_slice_nil w _ _ _ _ _ _ _ Tryz.underlying51
  go_enter Tryz.func99, Tryz.ntmps99
  go_wp2
  go_ret
  exact ⟨rfl, rfl⟩
theorem cells4_set : ∀ (C : List Spn) (j : Nat) (h : j < C.length) (c : Spn), c.pl = C[j].pl → c.ln = C[j].ln → c.n = C[j].n → cells4 (C.set j c) = (cells4 C).set (j * 4) c.kv
  | e :: C, 0, _, c, h1, h2, h3 => by
    have h1' : c.pl = e.pl := h1
    have h2' : c.ln = e.ln := h2
    have h3' : c.n = e.n := h3
    rw [List.set_cons_zero, cells4_cons, cells4_cons, h1', h2', h3']
    rfl
  | e :: C, j + 1, h, c, h1, h2, h3 => by
    rw [List.set_cons_succ, cells4_cons, cells4_cons, cells4_set C j (by simp at h; omega) c h1 h2 h3, show (j + 1) * 4 = j * 4 + 1 + 1 + 1 + 1 by omega]
    rfl
/-- A row's key is laid anew. -/
theorem OwnS.key {w : World} {base g n cap : Nat} {C : List Spn} (h : OwnS w base (.slice (some ⟨g, 0, none⟩) n cap) C) (j : Nat) (hj : j < C.length) (c : Spn) (h1 : c.pl = C[j].pl) (h2 : c.ln = C[j].ln) (h3 : c.n = C[j].n) : OwnS (w.setCell ⟨g, j * 4, none⟩ c.kv) base (.slice (some ⟨g, 0, none⟩) n cap) (C.set j c) := by
  rcases h with ⟨q, _⟩ | ⟨g', cap', cur, hv, hb, hg, hn, hm, hs, ht, hz⟩
  · cases q
  · cases hv
    refine .inr ⟨g, cap, cur.setIfInBounds (j * 4) c.kv, by rw [List.length_set], hb, block_setCell hg (j * 4) _, by rw [List.length_set]; exact hn, hm, by rw [Array.size_setIfInBounds]; exact hs, ?_, fun i h4 h5 => ?_⟩
    · rw [List.length_set, Array.toList_setIfInBounds, cells4_set C j hj c h1 h2 h3, ← ht, List.take_set]
    · rw [List.length_set] at h4
      rw [Array.getElem?_setIfInBounds_ne (by omega)]
      exact hz i h4 h5

end Go.Proofs.YtepjblmjjegpgaaGreat
