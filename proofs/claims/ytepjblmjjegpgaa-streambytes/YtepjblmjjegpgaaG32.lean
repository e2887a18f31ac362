/- The law's rows: copies of rows, with marks behind. -/
import Derived.Test.YtepjblmjjegpgaaG25
import Derived.Test.YtepjblmjjegpgaaG30
import Derived.Test.YtepjblmjjegpgaaG9
import Derived.Deep.AppendLies
import Derived.Deep.RegionHeld3
import Derived.BigRegion
import Derived.Handy
import Derived.Test.YtepjblmjjegpgaaG18
namespace Go.Proofs.Ytepjblmjjegpgaa
open Go.RowKit

theorem infoS : (Try.prog.info? 73).map (fun i => (i.zero, i.size, i.bytes)) = some (some (.agg #[.slice none 0 0, .int .i64 0, .int .i64 0, .int .i64 0]), 4, 48) := by kernel_rfl
def cells4 (C : List Spn) : List Value := C.flatMap fun e => [e.kv, .int .i64 e.pl, .int .i64 e.ln, .int .i64 e.n]
theorem cells4_cons (e : Spn) (C : List Spn) : cells4 (e :: C) = e.kv :: .int .i64 e.pl :: .int .i64 e.ln :: .int .i64 e.n :: cells4 C := rfl
theorem cells4_app (C D : List Spn) : cells4 (C ++ D) = cells4 C ++ cells4 D := by simp [cells4]
theorem cells4_len : ∀ C : List Spn, (cells4 C).length = C.length * 4
  | [] => rfl
  | e :: C => by rw [cells4_cons, List.length_cons, List.length_cons, List.length_cons, List.length_cons, cells4_len C, List.length_cons]; omega
theorem cells4_get : ∀ (C : List Spn) (i : Nat) (h : i < C.length), (cells4 C)[i * 4]? = some C[i].kv ∧ (cells4 C)[i * 4 + 1]? = some (.int .i64 C[i].pl) ∧ (cells4 C)[i * 4 + 2]? = some (.int .i64 C[i].ln) ∧ (cells4 C)[i * 4 + 3]? = some (.int .i64 C[i].n)
  | [], i, h => by simp at h
  | e :: C, 0, h => by rw [cells4_cons]; exact ⟨rfl, rfl, rfl, rfl⟩
  | e :: C, i + 1, h => by
    rw [cells4_cons, show (i + 1) * 4 = i * 4 + 1 + 1 + 1 + 1 by omega, show i * 4 + 1 + 1 + 1 + 1 + 1 = (i * 4 + 1) + 1 + 1 + 1 + 1 by omega, show i * 4 + 1 + 1 + 1 + 1 + 2 = (i * 4 + 2) + 1 + 1 + 1 + 1 by omega, show i * 4 + 1 + 1 + 1 + 1 + 3 = (i * 4 + 3) + 1 + 1 + 1 + 1 by omega]
    simp only [List.getElem?_cons_succ, List.getElem_cons_succ]
    exact cells4_get C i (by simpa using h)
theorem cap4 {w : World} {base n cap : Nat} {e : TypeId} {a : Option Addr} {xs : List Value} (h : w.ownsRow base e 4 (.slice a n cap) n xs) : n ≤ cap := by
  rcases h.2 with ⟨h, h0⟩ | ⟨g, c, cur, hv, hb, hh, h1, _⟩
  · omega
  · cases hv; exact h1
theorem Lent.kept {w w' : World} {g : Nat} {zs : List Int} {row : Option Nat} (h : Lent w g zs) (hg : w.grownBy w' row) (hne : some g ≠ row) : Lent w' g zs := fun i hi => hg.cell (h i hi) hne

/-- A copy of a row. -/
structure Rw1 (W : World) (N : Nat) (v : Value) (c e : Spn) : Prop where
  row : c.row = e.row
  kc : c.kc = e.ks.length + 2
  k : ∃ g, c.ka = some ⟨g, 0, none⟩ ∧ Lent W g e.ks ∧ N ≤ g ∧ v.ownBlock ≠ some g
structure Rwy (W : World) (N : Nat) (v : Value) (C L : List Spn) : Prop where
  own : W.ownsRow N 73 4 v C.length (cells4 C)
  le : C.length ≤ L.length
  each : ∀ i (h : i < C.length) (h' : i < L.length), Rw1 W N v C[i] L[i]
theorem Rw1.grow {W W' : World} {N : Nat} {v v' : Value} {c e : Spn} {row : Option Nat} (h : Rw1 W N v c e) (hg : W.grownBy W' row) (hr : ∀ g, row = some g → v.ownBlock = some g ∨ W.heap.size ≤ g) (hv : ∀ g, v'.ownBlock = some g → v.ownBlock = some g ∨ W.heap.size ≤ g) : Rw1 W' N v' c e := by
  obtain ⟨gk, a1, a2, a3, a4⟩ := h.k
  have l1 := a2.lt
  refine ⟨h.row, h.kc, ⟨gk, a1, a2.kept hg (fun e => ?_), a3, fun e => ?_⟩⟩
  · rcases hr gk e.symm with h | h
    · exact a4 h
    · omega
  · rcases hv gk e with h | h
    · exact a4 h
    · omega
theorem Rw1.below {W W' : World} {N : Nat} {v : Value} {c e : Spn} (h : Rw1 W N v c e) (hb : Below W.heap.size W W') : Rw1 W' N v c e := by
  obtain ⟨gk, a1, a2, a3, a4⟩ := h.k
  exact ⟨h.row, h.kc, ⟨gk, a1, a2.below hb a2.lt, a3, a4⟩⟩
theorem owns4_below {w w' : World} {base : Nat} {e : TypeId} {v : Value} {n : Nat} {xs : List Value} (h : w.ownsRow base e 4 v n xs) (hb : Below w.heap.size w w') : w'.ownsRow base e 4 v n xs := by
  refine ⟨h.1, ?_⟩
  rcases h.2 with h | ⟨g, cap, cur, hv, hg, hh, r⟩
  · exact .inl h
  · exact .inr ⟨g, cap, cur, hv, hg, by rw [hb.block g (lt_of_block hh)]; exact hh, r⟩
theorem four_new (w : World) (x y z t : Value) (T : TypeId) : ∀ j u, [x, y, z, t][j]? = some u → (w.alloc (.cells #[x, y, z, t] T)).cell? ((⟨w.heap.size, 0, none⟩ : Addr).add j) = some u := by
  intro j u hu
  rw [Addr.add_lit, Nat.zero_add, cell_of_row _ _ _ _ _ _ (heap_alloc_new w _)]
  match j, hu with
  | 0, hu => simpa using hu
  | 1, hu => simpa using hu
  | 2, hu => simpa using hu
  | 3, hu => simpa using hu

/-- What rows hands back. -/
structure Rwd (W : World) (N g : Nat) (C L : List Spn) : Prop where
  len : C.length = L.length
  c : ∀ i (h : i < C.length), Sp4 W g (i * 4) C[i]
  each : ∀ i (h : i < C.length) (h' : i < L.length), Rw1 W N (.slice (some ⟨g, 0, none⟩) 0 0) C[i] L[i]
  gN : N ≤ g
  mark : W.cell? ⟨g, C.length * 4 + 1, none⟩ = some (.int .i64 77)
theorem Rwd.below {W W' : World} {N g : Nat} {C L : List Spn} (h : Rwd W N g C L) (hb : Below W.heap.size W W') : Rwd W' N g C L :=
  ⟨h.len, fun i hi => (h.c i hi).below hb, fun i hi hi' => (h.each i hi hi').below hb, h.gN, (hb.cell (p := ⟨g, C.length * 4 + 1, none⟩) (World.block_lt_of_cell? W ⟨g, C.length * 4 + 1, none⟩ h.mark)).trans h.mark⟩
theorem Rwd.rws {W : World} {N g : Nat} {C L : List Spn} (h : Rwd W N g C L) : rws C = Go.Proofs.Ytepjblmjjegpgaa.rws L := by
  unfold Go.Proofs.Ytepjblmjjegpgaa.rws
  apply List.ext_getElem
  · simp [h.len]
  · intro i h1 h2
    simp only [List.getElem_map]
    exact (h.each i (by simpa using h1) (by simpa using h2)).row
theorem Rwd.sps {W W0 : World} {N g : Nat} {C L : List Spn} (h : Rwd W N g C L) (ok : ∀ i (h : i < L.length), L[i].Ok W0) : Sps W g 0 C := by
  refine ⟨fun i hi => by rw [Nat.zero_add]; exact h.c i hi, fun i hi => ?_⟩
  have hi' : i < L.length := by have := h.len; omega
  have e := h.each i hi hi'
  have k := ok i hi'
  obtain ⟨gk, a1, a2, _, _⟩ := e.k
  have hr := e.row
  unfold Spn.row at hr
  simp only [FRow.mk.injEq] at hr
  obtain ⟨r1, r2, r3, r4⟩ := hr
  refine ⟨?_, fun h => ?_, ?_, ?_, ?_, ?_, ?_, ?_⟩
  · rw [a1, r1]; exact a2.row
  · rw [a1] at h; cases h
  · rw [r1, e.kc]; omega
  · rw [r1]; exact k.k8
  · rw [r1]; exact k.zk
  · rw [r2]; exact k.rp
  · rw [r3]; exact k.rl
  · rw [r4]; exact k.rn

end Go.Proofs.Ytepjblmjjegpgaa

namespace Go.Proofs.Ytepjblmjjegpgaa
open Go.RowKit

def zero4 : Value := .agg #[.slice none 0 0, .int .i64 0, .int .i64 0, .int .i64 0]
theorem zeroCells_at (n j : Nat) (h : j < n) : (Builtin.zeroCells zero4.cells n)[j * 4]? = some (.slice none 0 0) := by
  unfold Builtin.zeroCells
  rw [Array.getElem?_eq_getElem (by simp [zero4, Value.cells]; omega)]
  simp [zero4, Value.cells]

/-- A list of rows of one's own. -/
def OwnS (w : World) (base : Nat) (v : Value) (C : List Spn) : Prop :=
  (v = .slice none 0 0 ∧ C = []) ∨
  ∃ g cap cur, v = .slice (some ⟨g, 0, none⟩) C.length cap ∧ base ≤ g ∧ w.heap[g]? = some (.cells cur 73 (0, 0)) ∧ C.length ≤ cap ∧ cap ≤ maxLen ∧ cur.size = cap * 4 ∧ cur.toList.take (C.length * 4) = cells4 C ∧ ∀ i, C.length ≤ i → i < cap → cur[i * 4]? = some (.slice none 0 0)
theorem OwnS.lt {w : World} {base : Nat} {v : Value} {C : List Spn} (h : OwnS w base v C) : ∀ k, v.ownBlock = some k → base ≤ k ∧ k < w.heap.size := by
  intro k hk
  rcases h with ⟨rfl, _⟩ | ⟨g, cap, cur, rfl, h2, h3, _⟩
  · cases hk
  · have : g = k := by simpa [Value.ownBlock] using hk
    subst this
    exact ⟨h2, lt_of_block h3⟩
theorem OwnS.blk {w w' : World} {base : Nat} {v : Value} {C : List Spn} (h : OwnS w base v C) (hb : ∀ k, v.ownBlock = some k → w'.heap[k]? = w.heap[k]?) : OwnS w' base v C := by
  rcases h with h | ⟨g, cap, cur, h1, h2, h3, r⟩
  · exact .inl h
  · exact .inr ⟨g, cap, cur, h1, h2, by rw [hb g (by rw [h1]; rfl)]; exact h3, r⟩
theorem OwnS.below {w w' : World} {base : Nat} {v : Value} {C : List Spn} (h : OwnS w base v C) (hb : Below w.heap.size w w') : OwnS w' base v C :=
  h.blk fun k hk => hb.block k (h.lt k hk).2
theorem OwnS.upd {S : Nat → Prop} {w w' : World} {base : Nat} {v : Value} {C : List Spn} (h : OwnS w base v C) (hb : Upd S w w') (hs : ∀ k, v.ownBlock = some k → ¬ S k) : OwnS w' base v C :=
  h.blk fun k hk => hb.block k (h.lt k hk).2 (hs k hk)
theorem OwnS.mono {w : World} {base base' : Nat} {v : Value} {C : List Spn} (h : OwnS w base' v C) (hb : base ≤ base') : OwnS w base v C := by
  rcases h with h | ⟨g, cap, cur, h1, h2, r⟩
  · exact .inl h
  · exact .inr ⟨g, cap, cur, h1, Nat.le_trans hb h2, r⟩
theorem OwnS.slice {w : World} {base : Nat} {v : Value} {C : List Spn} (h : OwnS w base v C) : ∃ a b cap, v = .slice a C.length cap ∧ (0 < C.length → a = some ⟨b, 0, none⟩) ∧ ∀ i (_ : i < C.length), Sp4 w b (i * 4) C[i] := by
  rcases h with ⟨h1, h2⟩ | ⟨g, cap, cur, h1, h2, h3, h4, h5, h6, h7, h8⟩
  · subst h2
    exact ⟨none, 0, 0, h1, fun h => by simp at h, fun i hi => by simp at hi⟩
  · refine ⟨_, g, cap, h1, fun _ => rfl, fun i hi => ?_⟩
    have q := cells4_get C i hi
    rw [← h7] at q
    have hc : ∀ j u, j < C.length * 4 → (cur.toList.take (C.length * 4))[j]? = some u → w.cell? ⟨g, j, none⟩ = some u := fun j u hj hu => by
      rw [List.getElem?_take, if_pos hj, Array.getElem?_toList] at hu
      rw [cell_of_row _ _ _ _ _ _ h3]
      exact hu
    exact ⟨hc _ _ (by omega) q.1, hc _ _ (by omega) q.2.1, hc _ _ (by omega) q.2.2.1, hc _ _ (by omega) q.2.2.2⟩

theorem infoS' : (Try.prog.info? 73).map (fun i => (i.zero, i.size, i.bytes)) = some (some zero4, 4, 48) := infoS

theorem run_app_s {w : World} (st : TypeId) (ht : Try.prog.underlying st = some (.slice 73)) (ty : TypeId) (base : Nat) (v : Value) (C : List Spn) (c : Spn) (hown : OwnS w base v C) (ad : Addr) (cc : Nat) (hrow : ∀ j u, [c.kv, .int .i64 c.pl, .int .i64 c.ln, .int .i64 c.n][j]? = some u → w.cell? (ad.add j) = some u)
    (hbytes : C.length ≤ 100000000) (hbase : base ≤ w.heap.size) :
    ∃ v' w', (Builtin.append_ #[st, st] ty #[v, .slice (some ad) 1 cc]).run Try.prog w = .ok v' w' ∧ OwnS w' base v' (C ++ [c]) ∧ w.grownBy w' v.ownBlock ∧ (∀ k, v'.ownBlock = some k → v.ownBlock = some k ∨ w.heap.size ≤ k) := by
  obtain ⟨i, hi, hz, hsize, hby⟩ := info_parts infoS'
  have hln : ([c.kv, .int .i64 c.pl, .int .i64 c.ln, .int .i64 c.n] : List Value).length = 1 * i.size := by rw [hsize]; rfl
  have h63 : C.length + 1 ≤ maxLen := by unfold maxLen; omega
  have hlen : (C ++ [c]).length = C.length + 1 := by simp
  have hcc : cells4 (C ++ [c]) = cells4 C ++ [c.kv, .int .i64 c.pl, .int .i64 c.ln, .int .i64 c.n] := by rw [cells4_app]; rfl
  have grown : ∀ old, old < C.length + 1 → OwnS (w.drew.alloc (.cells ((cells4 C).toArray ++ ([c.kv, .int .i64 c.pl, .int .i64 c.ln, .int .i64 c.n] : List Value).toArray ++ Builtin.zeroCells zero4.cells (grownCap w (C.length + 1) old 73 - (C.length + 1))) 73)) base (.slice (some ⟨w.heap.size, 0, none⟩) (C.length + 1) (grownCap w (C.length + 1) old 73)) (C ++ [c]) := by
    intro old ho2
    have hge := grownCap_ge w (C.length + 1) old 73
    have hcm : grownCap w (C.length + 1) old 73 ≤ maxLen := grownCap_le_maxLen w (C.length + 1) old 73 h63
    have hz4 : zero4.cells.size = 4 := rfl
    refine .inr ⟨w.heap.size, _, _, by rw [hlen], hbase, heap_alloc_new w.drew _, by rw [hlen]; exact hge, hcm, ?_, ?_, fun j h1 h2 => ?_⟩
    · rw [Array.size_append, Array.size_append, List.size_toArray, List.size_toArray, size_zeroCells, cells4_len, hz4]
      simp only [List.length_cons, List.length_nil]
      omega
    · rw [Array.toList_append, Array.toList_append, hlen, hcc]
      have : (cells4 C ++ [c.kv, .int .i64 c.pl, .int .i64 c.ln, .int .i64 c.n]).length = (C.length + 1) * 4 := by rw [List.length_append, cells4_len]; simp only [List.length_cons, List.length_nil]; omega
      have e2 : (cells4 C).toArray.toList ++ ([c.kv, .int .i64 c.pl, .int .i64 c.ln, .int .i64 c.n] : List Value).toArray.toList = cells4 C ++ [c.kv, .int .i64 c.pl, .int .i64 c.ln, .int .i64 c.n] := rfl
      rw [e2, List.take_append_of_le_length (by omega), List.take_of_length_le (by omega)]
    · rw [hlen] at h1
      have e : ((cells4 C).toArray ++ ([c.kv, .int .i64 c.pl, .int .i64 c.ln, .int .i64 c.n] : List Value).toArray).size = (C.length + 1) * 4 := by rw [Array.size_append, List.size_toArray, List.size_toArray, cells4_len]; simp only [List.length_cons, List.length_nil]; omega
      rw [Array.getElem?_append_right (by rw [e]; omega), e, show j * 4 - (C.length + 1) * 4 = (j - (C.length + 1)) * 4 by omega]
      exact zeroCells_at _ _ (by omega)
  rcases hown with ⟨hv, hC⟩ | ⟨g, cap, cur, hv, hbg, hg, hnc, hcm, hcs, htake, hsp⟩
  · subst hC
    have hr := run_append_nil (P := Try.prog) w st ty 73 i zero4 ht hi hz ad 1 cc _ hln hrow (by omega) (by omega) (by rw [hby]; omega)
    have hgr := grown 0 (by omega)
    refine ⟨_, _, by rw [hv]; exact hr, ?_, ?_, ?_⟩
    · simpa [cells4] using hgr
    · exact ⟨rfl, rfl, rfl, by simp, fun k hk _ => Below.heap_alloc w.drew _ k hk⟩
    · intro k hk
      have : w.heap.size = k := by simpa [Value.ownBlock] using hk
      exact .inr (by omega)
  · by_cases hroom : C.length + 1 ≤ cap
    · have hfit : C.length * i.size + ([c.kv, .int .i64 c.pl, .int .i64 c.ln, .int .i64 c.n] : List Value).length ≤ cur.size := by rw [hsize, hcs]; simp only [List.length_cons, List.length_nil]; omega
      have hr := run_append_room (P := Try.prog) w st ty 73 i ht hi g C.length cap cur hg ad 1 cc _ hln hrow (fun u hu => by simp at hu; rcases hu with rfl | rfl | rfl | rfl <;> rfl) hroom hfit
      rw [hsize] at hr
      refine ⟨_, _, by rw [hv]; exact hr, ?_, ?_, fun k hk => .inl (by rw [hv]; exact hk)⟩
      · have hl1 : (cur.toList.take (C.length * 4)).length = C.length * 4 := by rw [htake, cells4_len]
        refine .inr ⟨g, cap, _, by rw [hlen], hbg, setRow_heap w g cur _ 73 _ hg, by rw [hlen]; exact hroom, hcm, ?_, ?_, fun j h1 h2 => ?_⟩
        · simp only [List.size_toArray, List.length_append, List.length_take, List.length_drop, Array.length_toList, List.length_cons, List.length_nil]
          omega
        · simp only []
          rw [htake, hlen, hcc]
          have : (cells4 C ++ [c.kv, .int .i64 c.pl, .int .i64 c.ln, .int .i64 c.n]).length = (C.length + 1) * 4 := by rw [List.length_append, cells4_len]; simp only [List.length_cons, List.length_nil]; omega
          rw [List.take_append_of_le_length (by omega), List.take_of_length_le (by omega)]
        · rw [hlen] at h1
          have hl2 : (cur.toList.take (C.length * 4) ++ [c.kv, .int .i64 c.pl, .int .i64 c.ln, .int .i64 c.n]).length = (C.length + 1) * 4 := by rw [List.length_append, hl1]; simp only [List.length_cons, List.length_nil]; omega
          rw [List.getElem?_toArray, List.getElem?_append_right (by omega), hl2, List.getElem?_drop]
          simp only [List.length_cons, List.length_nil]
          rw [show C.length * 4 + (0 + 1 + 1 + 1 + 1) + (j * 4 - (C.length + 1) * 4) = j * 4 by omega, Array.getElem?_toList]
          exact hsp j (by omega) h2
      · exact ⟨rfl, rfl, rfl, by simp, fun k _ hk => setRow_other w g k _ (fun e => hk (by simp [hv, Value.ownBlock, e]))⟩
    · have holds : ∀ j u, (cells4 C)[j]? = some u → w.cell? ((⟨g, 0, none⟩ : Addr).add j) = some u := by
        intro j u hu
        rw [Addr.add_lit, Nat.zero_add, cell_of_row _ _ _ _ _ _ hg, ← Array.getElem?_toList]
        rw [← htake] at hu
        have hj : j < C.length * 4 := by
          have := (List.getElem?_eq_some_iff.1 hu).1
          rw [List.length_take] at this
          omega
        rw [List.getElem?_take, if_pos hj] at hu
        exact hu
      have hr := run_append_grow (P := Try.prog) w st ty 73 i zero4 ht hi hz ⟨g, 0, none⟩ C.length cap _ (by rw [cells4_len, hsize]) holds ad 1 cc _ hln hrow (by omega) (by unfold maxLen at h63; omega) (growslice_fits (by omega) (by rw [hby]; omega))
      refine ⟨_, _, by rw [hv]; exact hr, grown cap (by omega), ?_, ?_⟩
      · exact ⟨rfl, rfl, rfl, by simp, fun k hk _ => Below.heap_alloc w.drew _ k hk⟩
      · intro k hk
        have : w.heap.size = k := by simpa [Value.ownBlock] using hk
        exact .inr (by omega)

theorem append_sT (st : TypeId) (ht : Try.prog.underlying st = some (.slice 73)) {w : World} {ops : Array Oper} {rest : List Oper} {o : Oper} {a : Act} {Q : Exit → Act → World → Prop} (hgd : o.guard = none) (s x : Operand)
    (ho : o.op = .call { callee := .builtin .append, args := #[s, x], argTypes := #[st, st] })
    (base : Nat) (v : Value) (C : List Spn) (c : Spn) (hs : a.eval s = v) (hown : OwnS w base v C) (ad : Addr) (cc : Nat) (hx : a.eval x = .slice (some ad) 1 cc) (hrow : ∀ j u, [c.kv, .int .i64 c.pl, .int .i64 c.ln, .int .i64 c.n][j]? = some u → w.cell? (ad.add j) = some u)
    (hbytes : C.length ≤ 100000000) (hbase : base ≤ w.heap.size)
    (h : ∀ v' w', OwnS w' base v' (C ++ [c]) → w.grownBy w' v.ownBlock → (∀ k, v'.ownBlock = some k → v.ownBlock = some k ∨ w.heap.size ≤ k) → wpList Try.prog ops Q rest (a.put o.dst v') w') : wpList Try.prog ops Q (o :: rest) a w := by
  obtain ⟨v', w', hr, h1, h2, h3⟩ := run_app_s st ht o.type base v C c hown ad cc hrow hbytes hbase
  exact Lib.wpList_append_run w hgd s x st st ho v (.slice (some ad) 1 cc) hs hx _ _ hr (h _ _ h1 h2 h3)

theorem append_s {w : World} {ops : Array Oper} {rest : List Oper} {o : Oper} {a : Act} {Q : Exit → Act → World → Prop} (hgd : o.guard = none) (s x : Operand)
    (ho : o.op = .call { callee := .builtin .append, args := #[s, x], argTypes := #[48, 48] })
    (base : Nat) (v : Value) (C : List Spn) (c : Spn) (hs : a.eval s = v) (hown : OwnS w base v C) (ad : Addr) (cc : Nat) (hx : a.eval x = .slice (some ad) 1 cc) (hrow : ∀ j u, [c.kv, .int .i64 c.pl, .int .i64 c.ln, .int .i64 c.n][j]? = some u → w.cell? (ad.add j) = some u)
    (hbytes : C.length ≤ 100000000) (hbase : base ≤ w.heap.size)
    (h : ∀ v' w', OwnS w' base v' (C ++ [c]) → w.grownBy w' v.ownBlock → (∀ k, v'.ownBlock = some k → v.ownBlock = some k ∨ w.heap.size ≤ k) → wpList Try.prog ops Q rest (a.put o.dst v') w') : wpList Try.prog ops Q (o :: rest) a w :=
  append_sT 48 Try.underlying48 hgd s x ho base v C c hs hown ad cc hx hrow hbytes hbase h

end Go.Proofs.Ytepjblmjjegpgaa
