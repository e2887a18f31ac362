/- The law's rows: copies of rows, with marks behind. -/
import Derived.Test.YtepjblmjjegpgaaGreatW25
import Derived.Test.YtepjblmjjegpgaaGreatW30
import Derived.Test.YtepjblmjjegpgaaGreatW9
import Derived.Deep.AppendLies
import Derived.Deep.RegionHeld3
import Derived.BigRegion
import Derived.Handy
import Derived.Test.YtepjblmjjegpgaaGreatW18
import Derived.Test.YtepjblmjjegpgaaGreatW15
import Derived.Test.YtepjblmjjegpgaaGreatW24
namespace Go.Proofs.YtepjblmjjegpgaaGreat
open Go.RowKit
set_option maxRecDepth 100000

theorem infoS : (Tryz.prog.info? 97).map (fun i => (i.zero, i.size, i.bytes)) = some (some (.agg #[.slice none 0 0, .int .i64 0, .int .i64 0, .int .i64 0]), 4, 48) := by kernel_rfl
def cells4 (C : List Spn) : List Value := C.flatMap fun e => [e.kv, .int .i64 e.pl, .int .i64 e.ln, .int .i64 e.n]
theorem cells4_cons (e : Spn) (C : List Spn) : cells4 (e :: C) = e.kv :: .int .i64 e.pl :: .int .i64 e.ln :: .int .i64 e.n :: cells4 C := rfl
theorem cells4_app (C D : List Spn) : cells4 (C ++ D) = cells4 C ++ cells4 D := by simp [cells4]
theorem cells4_len : ∀ C : List Spn, (cells4 C).length = C.length * 4
  | [] => rfl
  | e :: C => by rw [cells4_cons, List.length_cons, List.length_cons, List.length_cons, List.length_cons, cells4_len C, List.length_cons]; omega
theorem cells4_get : ∀ (C : List Spn) (i : Nat) (h : i < C.length), (cells4 C)[i * 4]? = some C[i].kv ∧ (cells4 C)[i * 4 + 1]? = some (.int .i64 C[i].pl) ∧ (cells4 C)[i * 4 + 2]? = some (.int .i64 C[i].ln) ∧ (cells4 C)[i * 4 + 3]? = some (.int .i64 C[i].n)
  | [], i, h => by simp at h
  | e :: C, 0, h => by rw [cells4_cons]; exact ⟨rfl, rfl, rfl, rfl⟩
  | e :: C, i + 1, h => by
    rw [cells4_cons, show (i + 1) * 4 = i * 4 + 1 + 1 + 1 + 1 by omega, show i * 4 + 1 + 1 + 1 + 1 + 1 = (i * 4 + 1) + 1 + 1 + 1 + 1 by omega, show i * 4 + 1 + 1 + 1 + 1 + 2 = (i * 4 + 2) + 1 + 1 + 1 + 1 by omega, show i * 4 + 1 + 1 + 1 + 1 + 3 = (i * 4 + 3) + 1 + 1 + 1 + 1 by omega]
    simp only [List.getElem?_cons_succ, List.getElem_cons_succ]
    exact cells4_get C i (by simpa using h)
theorem cap4 {w : World} {base n cap : Nat} {e : TypeId} {a : Option Addr} {xs : List Value} (h : w.ownsRow base e 4 (.slice a n cap) n xs) : n ≤ cap := by
  rcases h.2 with ⟨h, h0⟩ | ⟨g, c, cur, hv, hb, hh, h1, _⟩
  · omega
  · cases hv; exact h1
theorem Lent.kept {w w' : World} {g : Nat} {zs : List Int} {row : Option Nat} (h : Lent w g zs) (hg : w.grownBy w' row) (hne : some g ≠ row) : Lent w' g zs := fun i hi => hg.cell (h i hi) hne

/-- A copy of a row. -/
structure Rw1 (W : World) (N : Nat) (v : Value) (c e : Spn) : Prop where
  row : c.row = e.row
  kc : c.kc = e.ks.length + 2
  k : ∃ g, c.ka = some ⟨g, 0, none⟩ ∧ Lent W g e.ks ∧ N ≤ g ∧ v.ownBlock ≠ some g
structure Rwy (W : World) (N : Nat) (v : Value) (C L : List Spn) : Prop where
  own : W.ownsRow N 97 4 v C.length (cells4 C)
  le : C.length ≤ L.length
  each : ∀ i (h : i < C.length) (h' : i < L.length), Rw1 W N v C[i] L[i]
theorem Rw1.grow {W W' : World} {N : Nat} {v v' : Value} {c e : Spn} {row : Option Nat} (h : Rw1 W N v c e) (hg : W.grownBy W' row) (hr : ∀ g, row = some g → v.ownBlock = some g ∨ W.heap.size ≤ g) (hv : ∀ g, v'.ownBlock = some g → v.ownBlock = some g ∨ W.heap.size ≤ g) : Rw1 W' N v' c e := by
  obtain ⟨gk, a1, a2, a3, a4⟩ := h.k
  have l1 := a2.lt
  refine ⟨h.row, h.kc, ⟨gk, a1, a2.kept hg (fun e => ?_), a3, fun e => ?_⟩⟩
  · rcases hr gk e.symm with h | h
    · exact a4 h
    · omega
  · rcases hv gk e with h | h
    · exact a4 h
    · omega
theorem Rw1.below {W W' : World} {N : Nat} {v : Value} {c e : Spn} (h : Rw1 W N v c e) (hb : Below W.heap.size W W') : Rw1 W' N v c e := by
  obtain ⟨gk, a1, a2, a3, a4⟩ := h.k
  exact ⟨h.row, h.kc, ⟨gk, a1, a2.below hb a2.lt, a3, a4⟩⟩
theorem owns4_below {w w' : World} {base : Nat} {e : TypeId} {v : Value} {n : Nat} {xs : List Value} (h : w.ownsRow base e 4 v n xs) (hb : Below w.heap.size w w') : w'.ownsRow base e 4 v n xs := by
  refine ⟨h.1, ?_⟩
  rcases h.2 with h | ⟨g, cap, cur, hv, hg, hh, r⟩
  · exact .inl h
  · exact .inr ⟨g, cap, cur, hv, hg, by rw [hb.block g (lt_of_block hh)]; exact hh, r⟩
theorem four_new (w : World) (x y z t : Value) (T : TypeId) : ∀ j u, [x, y, z, t][j]? = some u → (w.alloc (.cells #[x, y, z, t] T)).cell? ((⟨w.heap.size, 0, none⟩ : Addr).add j) = some u := by
  intro j u hu
  rw [Addr.add_lit, Nat.zero_add, cell_of_row _ _ _ _ _ _ (heap_alloc_new w _)]
  match j, hu with
  | 0, hu => simpa using hu
  | 1, hu => simpa using hu
  | 2, hu => simpa using hu
  | 3, hu => simpa using hu

/-- What rows hands back. -/
structure Rwd (W : World) (N g : Nat) (C L : List Spn) : Prop where
  len : C.length = L.length
  c : ∀ i (h : i < C.length), Sp4 W g (i * 4) C[i]
  each : ∀ i (h : i < C.length) (h' : i < L.length), Rw1 W N (.slice (some ⟨g, 0, none⟩) 0 0) C[i] L[i]
  gN : N ≤ g
  mark : W.cell? ⟨g, C.length * 4 + 1, none⟩ = some (.int .i64 77)
theorem Rwd.below {W W' : World} {N g : Nat} {C L : List Spn} (h : Rwd W N g C L) (hb : Below W.heap.size W W') : Rwd W' N g C L :=
  ⟨h.len, fun i hi => (h.c i hi).below hb, fun i hi hi' => (h.each i hi hi').below hb, h.gN, (hb.cell (p := ⟨g, C.length * 4 + 1, none⟩) (World.block_lt_of_cell? W ⟨g, C.length * 4 + 1, none⟩ h.mark)).trans h.mark⟩
theorem Rwd.rws {W : World} {N g : Nat} {C L : List Spn} (h : Rwd W N g C L) : rws C = Go.Proofs.YtepjblmjjegpgaaGreat.rws L := by
  unfold Go.Proofs.YtepjblmjjegpgaaGreat.rws
  apply List.ext_getElem
  · simp [h.len]
  · intro i h1 h2
    simp only [List.getElem_map]
    exact (h.each i (by simpa using h1) (by simpa using h2)).row
theorem Rwd.sps {W W0 : World} {N g : Nat} {C L : List Spn} (h : Rwd W N g C L) (ok : ∀ i (h : i < L.length), L[i].Ok W0) : Sps W g 0 C := by
  refine ⟨fun i hi => by rw [Nat.zero_add]; exact h.c i hi, fun i hi => ?_⟩
  have hi' : i < L.length := by have := h.len; omega
  have e := h.each i hi hi'
  have k := ok i hi'
  obtain ⟨gk, a1, a2, _, _⟩ := e.k
  have hr := e.row
  unfold Spn.row at hr
  simp only [FRow.mk.injEq] at hr
  obtain ⟨r1, r2, r3, r4⟩ := hr
  refine ⟨?_, fun h => ?_, ?_, ?_, ?_, ?_, ?_, ?_⟩
  · rw [a1, r1]; exact a2.row
  · rw [a1] at h; cases h
  · rw [r1, e.kc]; omega
  · rw [r1]; exact k.k8
  · rw [r1]; exact k.zk
  · rw [r2]; exact k.rp
  · rw [r3]; exact k.rl
  · rw [r4]; exact k.rn

end Go.Proofs.YtepjblmjjegpgaaGreat

namespace Go.Proofs.YtepjblmjjegpgaaGreat
open Go.RowKit
set_option maxRecDepth 100000

def zero4 : Value := .agg #[.slice none 0 0, .int .i64 0, .int .i64 0, .int .i64 0]
theorem zeroCells_at (n j : Nat) (h : j < n) : (Builtin.zeroCells zero4.cells n)[j * 4]? = some (.slice none 0 0) := by
  unfold Builtin.zeroCells
  rw [Array.getElem?_eq_getElem (by simp [zero4, Value.cells]; omega)]
  simp [zero4, Value.cells]

/-- A list of rows of one's own. -/
def OwnS (w : World) (base : Nat) (v : Value) (C : List Spn) : Prop :=
  (v = .slice none 0 0 ∧ C = []) ∨
  ∃ g cap cur, v = .slice (some ⟨g, 0, none⟩) C.length cap ∧ base ≤ g ∧ w.heap[g]? = some (.cells cur 97 (0, 0)) ∧ C.length ≤ cap ∧ cap ≤ maxLen ∧ cur.size = cap * 4 ∧ cur.toList.take (C.length * 4) = cells4 C ∧ ∀ i, C.length ≤ i → i < cap → cur[i * 4]? = some (.slice none 0 0)
theorem OwnS.lt {w : World} {base : Nat} {v : Value} {C : List Spn} (h : OwnS w base v C) : ∀ k, v.ownBlock = some k → base ≤ k ∧ k < w.heap.size := by
  intro k hk
  rcases h with ⟨rfl, _⟩ | ⟨g, cap, cur, rfl, h2, h3, _⟩
  · cases hk
  · have : g = k := by simpa [Value.ownBlock] using hk
    subst this
    exact ⟨h2, lt_of_block h3⟩
theorem OwnS.blk {w w' : World} {base : Nat} {v : Value} {C : List Spn} (h : OwnS w base v C) (hb : ∀ k, v.ownBlock = some k → w'.heap[k]? = w.heap[k]?) : OwnS w' base v C := by
  rcases h with h | ⟨g, cap, cur, h1, h2, h3, r⟩
  · exact .inl h
  · exact .inr ⟨g, cap, cur, h1, h2, by rw [hb g (by rw [h1]; rfl)]; exact h3, r⟩
theorem OwnS.below {w w' : World} {base : Nat} {v : Value} {C : List Spn} (h : OwnS w base v C) (hb : Below w.heap.size w w') : OwnS w' base v C :=
  h.blk fun k hk => hb.block k (h.lt k hk).2
theorem OwnS.upd {S : Nat → Prop} {w w' : World} {base : Nat} {v : Value} {C : List Spn} (h : OwnS w base v C) (hb : Upd S w w') (hs : ∀ k, v.ownBlock = some k → ¬ S k) : OwnS w' base v C :=
  h.blk fun k hk => hb.block k (h.lt k hk).2 (hs k hk)
theorem OwnS.mono {w : World} {base base' : Nat} {v : Value} {C : List Spn} (h : OwnS w base' v C) (hb : base ≤ base') : OwnS w base v C := by
  rcases h with h | ⟨g, cap, cur, h1, h2, r⟩
  · exact .inl h
  · exact .inr ⟨g, cap, cur, h1, Nat.le_trans hb h2, r⟩
theorem OwnS.slice {w : World} {base : Nat} {v : Value} {C : List Spn} (h : OwnS w base v C) : ∃ a b cap, v = .slice a C.length cap ∧ (0 < C.length → a = some ⟨b, 0, none⟩) ∧ ∀ i (_ : i < C.length), Sp4 w b (i * 4) C[i] := by
  rcases h with ⟨h1, h2⟩ | ⟨g, cap, cur, h1, h2, h3, h4, h5, h6, h7, h8⟩
  · subst h2
    exact ⟨none, 0, 0, h1, fun h => by simp at h, fun i hi => by simp at hi⟩
  · refine ⟨_, g, cap, h1, fun _ => rfl, fun i hi => ?_⟩
    have q := cells4_get C i hi
    rw [← h7] at q
    have hc : ∀ j u, j < C.length * 4 → (cur.toList.take (C.length * 4))[j]? = some u → w.cell? ⟨g, j, none⟩ = some u := fun j u hj hu => by
      rw [List.getElem?_take, if_pos hj, Array.getElem?_toList] at hu
      rw [cell_of_row _ _ _ _ _ _ h3]
      exact hu
    exact ⟨hc _ _ (by omega) q.1, hc _ _ (by omega) q.2.1, hc _ _ (by omega) q.2.2.1, hc _ _ (by omega) q.2.2.2⟩

theorem infoS' : (Tryz.prog.info? 97).map (fun i => (i.zero, i.size, i.bytes)) = some (some zero4, 4, 48) := infoS

theorem run_app_s {w : World} (st : TypeId) (ht : Tryz.prog.underlying st = some (.slice 97)) (ty : TypeId) (base : Nat) (v : Value) (C : List Spn) (c : Spn) (hown : OwnS w base v C) (ad : Addr) (cc : Nat) (hrow : ∀ j u, [c.kv, .int .i64 c.pl, .int .i64 c.ln, .int .i64 c.n][j]? = some u → w.cell? (ad.add j) = some u)
    (hbytes : C.length ≤ 100000000) (hbase : base ≤ w.heap.size) :
    ∃ v' w', (Builtin.append_ #[st, st] ty #[v, .slice (some ad) 1 cc]).run Tryz.prog w = .ok v' w' ∧ OwnS w' base v' (C ++ [c]) ∧ w.grownBy w' v.ownBlock ∧ (∀ k, v'.ownBlock = some k → v.ownBlock = some k ∨ w.heap.size ≤ k) := by
  obtain ⟨i, hi, hz, hsize, hby⟩ := info_parts infoS'
  have hln : ([c.kv, .int .i64 c.pl, .int .i64 c.ln, .int .i64 c.n] : List Value).length = 1 * i.size := by rw [hsize]; rfl
  have h63 : C.length + 1 ≤ maxLen := by unfold maxLen; omega
  have hlen : (C ++ [c]).length = C.length + 1 := by simp
  have hcc : cells4 (C ++ [c]) = cells4 C ++ [c.kv, .int .i64 c.pl, .int .i64 c.ln, .int .i64 c.n] := by rw [cells4_app]; rfl
  have grown : ∀ old, old < C.length + 1 → OwnS (w.drew.alloc (.cells ((cells4 C).toArray ++ ([c.kv, .int .i64 c.pl, .int .i64 c.ln, .int .i64 c.n] : List Value).toArray ++ Builtin.zeroCells zero4.cells (grownCap w (C.length + 1) old 97 - (C.length + 1))) 97)) base (.slice (some ⟨w.heap.size, 0, none⟩) (C.length + 1) (grownCap w (C.length + 1) old 97)) (C ++ [c]) := by
    intro old ho2
    have hge := grownCap_ge w (C.length + 1) old 97
    have hcm : grownCap w (C.length + 1) old 97 ≤ maxLen := grownCap_le_maxLen w (C.length + 1) old 97 h63
    have hz4 : zero4.cells.size = 4 := rfl
    refine .inr ⟨w.heap.size, _, _, by rw [hlen], hbase, heap_alloc_new w.drew _, by rw [hlen]; exact hge, hcm, ?_, ?_, fun j h1 h2 => ?_⟩
    · rw [Array.size_append, Array.size_append, List.size_toArray, List.size_toArray, size_zeroCells, cells4_len, hz4]
      simp only [List.length_cons, List.length_nil]
      omega
    · rw [Array.toList_append, Array.toList_append, hlen, hcc]
      have : (cells4 C ++ [c.kv, .int .i64 c.pl, .int .i64 c.ln, .int .i64 c.n]).length = (C.length + 1) * 4 := by rw [List.length_append, cells4_len]; simp only [List.length_cons, List.length_nil]; omega
      have e2 : (cells4 C).toArray.toList ++ ([c.kv, .int .i64 c.pl, .int .i64 c.ln, .int .i64 c.n] : List Value).toArray.toList = cells4 C ++ [c.kv, .int .i64 c.pl, .int .i64 c.ln, .int .i64 c.n] := rfl
      rw [e2, List.take_append_of_le_length (by omega), List.take_of_length_le (by omega)]
    · rw [hlen] at h1
      have e : ((cells4 C).toArray ++ ([c.kv, .int .i64 c.pl, .int .i64 c.ln, .int .i64 c.n] : List Value).toArray).size = (C.length + 1) * 4 := by rw [Array.size_append, List.size_toArray, List.size_toArray, cells4_len]; simp only [List.length_cons, List.length_nil]; omega
      rw [Array.getElem?_append_right (by rw [e]; omega), e, show j * 4 - (C.length + 1) * 4 = (j - (C.length + 1)) * 4 by omega]
      exact zeroCells_at _ _ (by omega)
  rcases hown with ⟨hv, hC⟩ | ⟨g, cap, cur, hv, hbg, hg, hnc, hcm, hcs, htake, hsp⟩
  · subst hC
    have hr := run_append_nil (P := Tryz.prog) w st ty 97 i zero4 ht hi hz ad 1 cc _ hln hrow (by omega) (by omega) (by rw [hby]; omega)
    have hgr := grown 0 (by omega)
    refine ⟨_, _, by rw [hv]; exact hr, ?_, ?_, ?_⟩
    · simpa [cells4] using hgr
    · exact ⟨rfl, rfl, rfl, by simp, fun k hk _ => Below.heap_alloc w.drew _ k hk⟩
    · intro k hk
      have : w.heap.size = k := by simpa [Value.ownBlock] using hk
      exact .inr (by omega)
  · by_cases hroom : C.length + 1 ≤ cap
    · have hfit : C.length * i.size + ([c.kv, .int .i64 c.pl, .int .i64 c.ln, .int .i64 c.n] : List Value).length ≤ cur.size := by rw [hsize, hcs]; simp only [List.length_cons, List.length_nil]; omega
      have hr := run_append_room (P := Tryz.prog) w st ty 97 i ht hi g C.length cap cur hg ad 1 cc _ hln hrow (fun u hu => by simp at hu; rcases hu with rfl | rfl | rfl | rfl <;> rfl) hroom hfit
      rw [hsize] at hr
      refine ⟨_, _, by rw [hv]; exact hr, ?_, ?_, fun k hk => .inl (by rw [hv]; exact hk)⟩
      · have hl1 : (cur.toList.take (C.length * 4)).length = C.length * 4 := by rw [htake, cells4_len]
        refine .inr ⟨g, cap, _, by rw [hlen], hbg, setRow_heap w g cur _ 97 _ hg, by rw [hlen]; exact hroom, hcm, ?_, ?_, fun j h1 h2 => ?_⟩
        · simp only [List.size_toArray, List.length_append, List.length_take, List.length_drop, Array.length_toList, List.length_cons, List.length_nil]
          omega
        · simp only []
          rw [htake, hlen, hcc]
          have : (cells4 C ++ [c.kv, .int .i64 c.pl, .int .i64 c.ln, .int .i64 c.n]).length = (C.length + 1) * 4 := by rw [List.length_append, cells4_len]; simp only [List.length_cons, List.length_nil]; omega
          rw [List.take_append_of_le_length (by omega), List.take_of_length_le (by omega)]
        · rw [hlen] at h1
          have hl2 : (cur.toList.take (C.length * 4) ++ [c.kv, .int .i64 c.pl, .int .i64 c.ln, .int .i64 c.n]).length = (C.length + 1) * 4 := by rw [List.length_append, hl1]; simp only [List.length_cons, List.length_nil]; omega
          rw [List.getElem?_toArray, List.getElem?_append_right (by omega), hl2, List.getElem?_drop]
          simp only [List.length_cons, List.length_nil]
          rw [show C.length * 4 + (0 + 1 + 1 + 1 + 1) + (j * 4 - (C.length + 1) * 4) = j * 4 by omega, Array.getElem?_toList]
          exact hsp j (by omega) h2
      · exact ⟨rfl, rfl, rfl, by simp, fun k _ hk => setRow_other w g k _ (fun e => hk (by simp [hv, Value.ownBlock, e]))⟩
    · have holds : ∀ j u, (cells4 C)[j]? = some u → w.cell? ((⟨g, 0, none⟩ : Addr).add j) = some u := by
        intro j u hu
        rw [Addr.add_lit, Nat.zero_add, cell_of_row _ _ _ _ _ _ hg, ← Array.getElem?_toList]
        rw [← htake] at hu
        have hj : j < C.length * 4 := by
          have := (List.getElem?_eq_some_iff.1 hu).1
          rw [List.length_take] at this
          omega
        rw [List.getElem?_take, if_pos hj] at hu
        exact hu
      have hr := run_append_grow (P := Tryz.prog) w st ty 97 i zero4 ht hi hz ⟨g, 0, none⟩ C.length cap _ (by rw [cells4_len, hsize]) holds ad 1 cc _ hln hrow (by omega) (by unfold maxLen at h63; omega) (growslice_fits (by omega) (by rw [hby]; omega))
      refine ⟨_, _, by rw [hv]; exact hr, grown cap (by omega), ?_, ?_⟩
      · exact ⟨rfl, rfl, rfl, by simp, fun k hk _ => Below.heap_alloc w.drew _ k hk⟩
      · intro k hk
        have : w.heap.size = k := by simpa [Value.ownBlock] using hk
        exact .inr (by omega)

theorem append_sT (st : TypeId) (ht : Tryz.prog.underlying st = some (.slice 97)) {w : World} {ops : Array Oper} {rest : List Oper} {o : Oper} {a : Act} {Q : Exit → Act → World → Prop} (hgd : o.guard = none) (s x : Operand)
    (ho : o.op = .call { callee := .builtin .append, args := #[s, x], argTypes := #[st, st] })
    (base : Nat) (v : Value) (C : List Spn) (c : Spn) (hs : a.eval s = v) (hown : OwnS w base v C) (ad : Addr) (cc : Nat) (hx : a.eval x = .slice (some ad) 1 cc) (hrow : ∀ j u, [c.kv, .int .i64 c.pl, .int .i64 c.ln, .int .i64 c.n][j]? = some u → w.cell? (ad.add j) = some u)
    (hbytes : C.length ≤ 100000000) (hbase : base ≤ w.heap.size)
    (h : ∀ v' w', OwnS w' base v' (C ++ [c]) → w.grownBy w' v.ownBlock → (∀ k, v'.ownBlock = some k → v.ownBlock = some k ∨ w.heap.size ≤ k) → wpList Tryz.prog ops Q rest (a.put o.dst v') w') : wpList Tryz.prog ops Q (o :: rest) a w := by
  obtain ⟨v', w', hr, h1, h2, h3⟩ := run_app_s st ht o.type base v C c hown ad cc hrow hbytes hbase
  exact Lib.wpList_append_run w hgd s x st st ho v (.slice (some ad) 1 cc) hs hx _ _ hr (h _ _ h1 h2 h3)

theorem append_s {w : World} {ops : Array Oper} {rest : List Oper} {o : Oper} {a : Act} {Q : Exit → Act → World → Prop} (hgd : o.guard = none) (s x : Operand)
    (ho : o.op = .call { callee := .builtin .append, args := #[s, x], argTypes := #[51, 51] })
    (base : Nat) (v : Value) (C : List Spn) (c : Spn) (hs : a.eval s = v) (hown : OwnS w base v C) (ad : Addr) (cc : Nat) (hx : a.eval x = .slice (some ad) 1 cc) (hrow : ∀ j u, [c.kv, .int .i64 c.pl, .int .i64 c.ln, .int .i64 c.n][j]? = some u → w.cell? (ad.add j) = some u)
    (hbytes : C.length ≤ 100000000) (hbase : base ≤ w.heap.size)
    (h : ∀ v' w', OwnS w' base v' (C ++ [c]) → w.grownBy w' v.ownBlock → (∀ k, v'.ownBlock = some k → v.ownBlock = some k ∨ w.heap.size ≤ k) → wpList Tryz.prog ops Q rest (a.put o.dst v') w') : wpList Tryz.prog ops Q (o :: rest) a w :=
  append_sT 51 Tryz.underlying51 hgd s x ho base v C c hs hown ad cc hx hrow hbytes hbase h

end Go.Proofs.YtepjblmjjegpgaaGreat

namespace Go.Proofs.YtepjblmjjegpgaaGreat
open Go.RowKit
set_option maxRecDepth 100000

/-- A list of rows that was read. -/
structure RdL (W : World) (N : Nat) (v : Value) (C : List Spn) : Prop where
  own : OwnS W N v C
  ok : ∀ i (h : i < C.length), OwnB W N 5 C[i].kv C[i].ks
  sep : ∀ i (h : i < C.length) b, C[i].kv.ownBlock = some b → v.ownBlock ≠ some b
  b8 : ∀ i (h : i < C.length), B8 C[i].ks
  gd : Gd (rws C) C.length
  n : C.length ≤ 8388608
theorem RdL.nil (W : World) (N : Nat) : RdL W N (.slice none 0 0) [] :=
  ⟨.inl ⟨rfl, rfl⟩, fun i h => by simp at h, fun i h => by simp at h, fun i h => by simp at h, fun _ h => absurd h (Nat.not_lt_zero _), by simp⟩
theorem RdL.upd {S : Nat → Prop} {W W' : World} {N : Nat} {v : Value} {C : List Spn} (h : RdL W N v C) (hu : Upd S W W') (hs : ∀ i, N ≤ i → i < W.heap.size → ¬ S i) : RdL W' N v C :=
  ⟨h.own.upd hu (fun k hk => hs k (h.own.lt k hk).1 (h.own.lt k hk).2), fun i hi => (h.ok i hi).upd hu (fun k hk => hs k ((h.ok i hi).owns.lt k hk).1 ((h.ok i hi).owns.lt k hk).2), h.sep, h.b8, h.gd, h.n⟩
theorem RdL.below {W W' : World} {N : Nat} {v : Value} {C : List Spn} (h : RdL W N v C) (hb : Below W.heap.size W W') : RdL W' N v C := h.upd (Upd.of_below hb Noth) (fun _ _ _ e => e)
theorem RdL.mono {W : World} {N N' : Nat} {v : Value} {C : List Spn} (h : RdL W N' v C) (hn : N ≤ N') : RdL W N v C :=
  ⟨h.own.mono hn, fun i hi => (h.ok i hi).mono hn, h.sep, h.b8, h.gd, h.n⟩
theorem RdL.sps {W : World} {N : Nat} {v : Value} {C : List Spn} (h : RdL W N v C) : ∃ a b cap, v = .slice a C.length cap ∧ (0 < C.length → a = some ⟨b, 0, none⟩) ∧ Sps W b 0 C := by
  obtain ⟨a, b, cap, h1, h2, h3⟩ := h.own.slice
  refine ⟨a, b, cap, h1, h2, fun i hi => by rw [Nat.zero_add]; exact h3 i hi, fun i hi => ?_⟩
  have o := h.ok i hi
  have g := h.gd.row i hi
  have p := (h.gd.mono (Nat.le_of_lt hi)).pos
  have hn := h.n
  rw [rws_at C i hi] at g
  obtain ⟨g1, _, g3, g4, g5⟩ := g
  obtain ⟨a', c', e1, _, e3, e4⟩ := o.slice
  unfold Spn.kv at e1
  cases e1
  refine ⟨o.row, e3, e4, h.b8 i hi, ?_, ?_, ?_, ?_⟩
  · have : C[i].ks.length ≤ 64 := g1.2
    omega
  · have : C[i].pl = pAt (rws C) i := g3
    unfold I64; omega
  · have : 1 ≤ C[i].ln ∧ C[i].ln ≤ 131072 := g4
    unfold I64; omega
  · have : 1 ≤ C[i].n ∧ C[i].n ≤ 64 := g5
    unfold I64; omega

end Go.Proofs.YtepjblmjjegpgaaGreat

namespace Go.Proofs.YtepjblmjjegpgaaGreat
open Go.RowKit
set_option maxRecDepth 100000

theorem set_updF (W : World) (g k : Nat) (v : Value) : Upd (fun i => i = g) W (W.setCell ⟨g, k, none⟩ v) := (Upd.refl (fun i => i = g) W).setCell ⟨g, k, none⟩ v (fun _ => rfl)
def FByk (W : World) (N M ga : Nat) (a : Option Addr) (c : Nat) : Prop := c ≤ maxLen ∧ (c = 0 ∨ ∃ g cur, a = some ⟨g, 0, none⟩ ∧ (N ≤ g ∧ g < M) ∧ g ≠ ga ∧ W.heap[g]? = some (.cells cur 5 (0, 0)) ∧ cur.size = c ∧ ∀ u ∈ cur.toList, IsByte u)
theorem FByk.set {W : World} {N M ga c g k : Nat} {a : Option Addr} {cur : Array Value} (h : FByk W N M ga a c) (hg : W.heap[g]? = some (.cells cur 5 (0, 0))) (hb : ∀ u ∈ cur.toList, IsByte u) (x : Int) : FByk (W.setCell ⟨g, k, none⟩ (.int .u8 x)) N M ga a c := by
  refine ⟨h.1, h.2.imp id ?_⟩
  rintro ⟨g', cur', h1, h2, h3, h4, h5, h6⟩
  by_cases e : g' = g
  · subst e
    rw [hg] at h4
    cases h4
    exact ⟨g', _, h1, h2, h3, block_setCell hg k _, by rw [Array.size_setIfInBounds]; exact h5, isByte_set hb k x⟩
  · exact ⟨g', cur', h1, h2, h3, (Below.heap_setCell _ _ _ _ e).trans h4, h5, h6⟩
theorem fbyk_of {W : World} {N M ga : Nat} {a : Option Addr} {n c : Nat} {zs : List Int} (h : OwnB W N 5 (.slice a n c) zs) (hs : ∀ b, (Value.slice a n c).ownBlock = some b → b ≠ ga ∧ b < M) : FByk W N M ga a c := by
  rcases h with ⟨h1, _⟩ | ⟨g, cap, cur, h1, h2, h3, h4, h5, h6, h7, h8⟩
  · cases h1; exact ⟨by unfold maxLen; omega, .inl rfl⟩
  · cases h1
    exact ⟨h5, .inr ⟨g, cur, rfl, ⟨h2, (hs g rfl).2⟩, (hs g rfl).1, h3, h6, h8⟩⟩

def elv (C : List Spn) (j : Nat) : Value := if h : j < C.length then C[j].kv else .slice none 0 0
/-- The rows from i on are as they were, and their texts are bytes. -/
structure SpF (w W : World) (N M ga cap : Nat) (C : List Spn) (i : Nat) : Prop where
  arr : ∃ cur, W.heap[ga]? = some (.cells cur 97 (0, 0)) ∧ cur.size = cap * 4 ∧ ∀ j, i ≤ j → j < cap → cur[j * 4]? = some (elv C j)
  by' : ∀ j (h : j < C.length), FByk W N M ga C[j].ka C[j].kc
  up : Upd (fun b => N ≤ b ∧ b < M) w W
section
variable {w W : World} {N M ga cap : Nat} {C : List Spn} {i : Nat}
theorem SpF.byte {g k : Nat} {cur : Array Value} (h : SpF w W N M ga cap C i) (hN : N ≤ g ∧ g < M) (hne : g ≠ ga) (hg : W.heap[g]? = some (.cells cur 5 (0, 0))) (hb : ∀ u ∈ cur.toList, IsByte u) (x : Int) : SpF w (W.setCell ⟨g, k, none⟩ (.int .u8 x)) N M ga cap C i := by
  obtain ⟨c2, h1, h2, h3⟩ := h.arr
  exact ⟨⟨c2, (Below.heap_setCell _ _ _ _ (Ne.symm hne)).trans h1, h2, h3⟩, fun j hj => (h.by' j hj).set hg hb x, h.up.trans ((set_updF W g k _).mono (fun b _ e => by rw [show b = g from e]; exact hN))⟩
theorem SpF.drewN (h : SpF w W N M ga cap C i) (m : Nat) : SpF w (W.drewN m) N M ga cap C i :=
  ⟨h.arr, h.by', ⟨h.up.os, h.up.tape, h.up.output, h.up.size, h.up.block⟩⟩
theorem SpF.zero (h : SpF w W N M ga cap C i) (hN : N ≤ ga ∧ ga < M) (x0 x1 x2 x3 : Value) : SpF w ((((W.setCell ⟨ga, i * 4, none⟩ x0).setCell ⟨ga, i * 4 + 1, none⟩ x1).setCell ⟨ga, i * 4 + 2, none⟩ x2).setCell ⟨ga, i * 4 + 3, none⟩ x3) N M ga cap C (i + 1) := by
  obtain ⟨cur, h1, h2, h3⟩ := h.arr
  refine ⟨⟨_, block_setCell (block_setCell (block_setCell (block_setCell h1 _ _) _ _) _ _) _ _, by simp [h2], fun j hij hj => ?_⟩, fun j hj => ?_, h.up.trans (((((set_updF W ga _ _).trans (set_updF _ ga _ _)).trans (set_updF _ ga _ _)).trans (set_updF _ ga _ _)).mono (fun b _ e => by rw [show b = ga from e]; exact hN))⟩
  · rw [Array.getElem?_setIfInBounds_ne (by omega), Array.getElem?_setIfInBounds_ne (by omega), Array.getElem?_setIfInBounds_ne (by omega), Array.getElem?_setIfInBounds_ne (by omega)]
    exact h3 j (by omega) hj
  · have hb := h.by' j hj
    refine ⟨hb.1, hb.2.imp id ?_⟩
    rintro ⟨g', cur', k1, k2, k3, k4, k5, k6⟩
    exact ⟨g', cur', k1, k2, k3, (Below.heap_setCell _ _ _ _ k3).trans ((Below.heap_setCell _ _ _ _ k3).trans ((Below.heap_setCell _ _ _ _ k3).trans ((Below.heap_setCell _ _ _ _ k3).trans k4))), k5, k6⟩
end
theorem RdL.spf {W0 W : World} {N : Nat} {C : List Spn} {ga cap : Nat} (h0 : RdL W0 N (.slice (some ⟨ga, 0, none⟩) C.length cap) C) (hu : Below W0.heap.size W0 W) : SpF W W N W0.heap.size ga cap C 0 ∧ (N ≤ ga ∧ ga < W0.heap.size) ∧ cap ≤ maxLen := by
  have h := h0.below hu
  rcases h.own with ⟨h1, _⟩ | ⟨g, cap', cur, h1, h2, h3, h4, h5, h6, h7, h8⟩
  · cases h1
  · cases h1
    have hlt := h0.own.lt ga rfl
    refine ⟨⟨⟨cur, h3, h6, fun j _ hj => ?_⟩, fun j hj => fbyk_of (n := C[j].ks.length) (h.ok j hj) (fun b hb => ⟨fun e => h.sep j hj b hb (by rw [e]; rfl), ((h0.ok j hj).owns.lt b hb).2⟩), Upd.refl _ _⟩, hlt, h5⟩
    unfold elv
    by_cases hjC : j < C.length
    · rw [dif_pos hjC]
      have q := (cells4_get C j hjC).1
      rw [← h7, List.getElem?_take, if_pos (by omega), Array.getElem?_toList] at q
      exact q
    · rw [dif_neg hjC]
      exact h8 j (by omega) hj

set_option maxRecDepth 100000 in
set_option maxHeartbeats 800000 in
theorem rfspoil_nil (w : World) :
    Calls Tryz.prog 29 #[.slice none 0 0] w fun e w' => e = .returned (.tuple #[]) ∧ w' = w := by
  go_enter Tryz.func29, Tryz.ntmps29
  go_wp2
  refine wp_loop_rounds 1 ?_
  rw [rounds_succ]
  go_wp2
  go_end0
  exact ⟨rfl, rfl⟩

set_option maxRecDepth 100000 in
set_option maxHeartbeats 3200000 in
theorem rfspoil_some {w : World} {N M ga m n : Nat} {C : List Spn} (H0 : Hid (SpF w w N M ga n C 0)) (hgN : N ≤ ga ∧ ga < M) (hm : n ≤ maxLen) (_hmn : m ≤ n) :
    Calls Tryz.prog 29 #[.slice (some ⟨ga, 0, none⟩) m n] w fun e w' => e = .returned (.tuple #[]) ∧ Upd (fun b => N ≤ b ∧ b < M) w w' := by
  unfold maxLen at hm
  go_enter Tryz.func29, Tryz.ntmps29
  go_wp2
  go_loopw [2] (fun q wr => ∃ i : Nat, i ≤ n ∧ q = .int .i64 (i : Int) ∧ Hid (SpF w wr N M ga n C i)) (fun q _ => n - (intOf q).toNat)
  case atStart => exact ⟨0, by omega, rfl, H0⟩
  case round =>
    clear H0
    obtain ⟨i, hi, rfl, HI⟩ := hrel
    rename World => wo
    by_cases hlt : i < n
    · have i1 : (i : Int) < (n : Int) := by omega
      have i2 : (0 : Int) ≤ (i : Int) := by omega
      obtain ⟨ka, nk, kc, hev, hbk0⟩ : ∃ ka nk kc, elv C i = .slice ka nk kc ∧ ∀ W, SpF w W N M ga n C i → FByk W N M ga ka kc := by
        by_cases hiC : i < C.length
        · exact ⟨C[i].ka, C[i].ks.length, C[i].kc, by unfold elv; rw [dif_pos hiC]; rfl, fun W h => h.by' i hiC⟩
        · exact ⟨none, 0, 0, by unfold elv; rw [dif_neg hiC], fun W h => ⟨by unfold maxLen; omega, .inl rfl⟩⟩
      have hbk := hide hbk0
      obtain ⟨cur, q1, q2, q3⟩ := HI.out.arr
      have c0 : wo.cell? ⟨ga, i * 4, none⟩ = some (.slice ka nk kc) := by rw [cell_of_row _ _ _ _ _ _ q1, ← hev]; exact q3 i (Nat.le_refl _) hlt
      have hcz : Hid (∀ W, SpF w W N M ga n C i → (∀ j, j < 4 → ∃ x, W.cell? ⟨ga, i * 4 + j, none⟩ = some x) ∧ (∀ j, W.frozen? ⟨ga, j, none⟩ = false)) := fun W h => by
        obtain ⟨cur, q1, q2, q3⟩ := h.arr
        exact ⟨fun j hj => ⟨cur[i * 4 + j]'(by omega), by rw [cell_of_row _ _ _ _ _ _ q1, Array.getElem?_eq_getElem (by omega)]⟩, fun j => by simp [World.frozen?, q1]⟩
      have hks : ∀ W : World, (Instr.slice 23 (.slice ka nk kc) none (some (.int .i64 (kc : Int))) none).run Tryz.prog W = .ok (.slice ka kc kc) W := fun W => run_upto _ _ _ _ (Nat.le_refl _) .i64 W
      have hkm := (hbk0 _ HI.out).1
      unfold maxLen at hkm
      clear q1 q2 q3 hbk0 hev
      go_wp2_with fail
      go_quiet (fail)
      have HI1 := hide (HI.out.drewN nq)
      clear HI c0
      generalize wo.drewN nq = w1 at *
      go_wp2_with fail
      go_loopw [4] (fun q wr => ∃ k : Nat, k ≤ kc ∧ q = .int .i64 (k : Int) ∧ Hid (SpF w wr N M ga n C i)) (fun q _ => kc - (intOf q).toNat)
      case atStart => exact ⟨0, by omega, rfl, HI1⟩
      case round =>
        clear HI1
        obtain ⟨k, hk, rfl, HI⟩ := hrel
        rename World => wr
        by_cases hlk : k < kc
        · have j1 : (k : Int) < (kc : Int) := by omega
          have j2 : (0 : Int) ≤ (k : Int) := by omega
          obtain ⟨g, cs, rfl, hN, hne, hg, hs, hb⟩ := (hbk.out _ HI.out).2.resolve_left (by omega)
          obtain ⟨x, hx⟩ := hb cs[k] (by simp)
          have hcell : wr.cell? ⟨g, k, none⟩ = some (.int .u8 x) := by rw [cell_of_row _ _ _ _ _ _ hg, Array.getElem?_eq_getElem (by omega), hx]
          have hfr : wr.frozen? ⟨g, k, none⟩ = false := by simp [World.frozen?, hg]
          have HNX := hide (fun y => HI.out.byte (k := k) hN hne hg hb y)
          clear hg hx hb HI hs
          go_wp2_with fail
          go_roundw
          case rel => exact ⟨k + 1, by omega, by go_num, HNX.out _⟩
          case measure => simp [intOf]; omega
        · have j1 : ¬ (k : Int) < (kc : Int) := by omega
          obtain ⟨ex, ef⟩ := hcz.out _ HI.out
          obtain ⟨x0, e0⟩ := ex 0 (by omega)
          obtain ⟨x1, e1⟩ := ex 1 (by omega)
          obtain ⟨x2, e2⟩ := ex 2 (by omega)
          obtain ⟨x3, e3⟩ := ex 3 (by omega)
          rw [Nat.add_zero] at e0
          have f0 := ef (i * 4)
          have f1 := ef (i * 4 + 1)
          have f2 := ef (i * 4 + 2)
          have f3 := ef (i * 4 + 3)
          have HZ := hide (HI.out.zero hgN (.slice none 0 0) (.int .i64 (-1)) (.int .i64 0) (.int .i64 0))
          clear ef HI ex
          go_wp2_with fail
          go_roundw
          case rel => exact ⟨i + 1, by omega, by go_num, HZ⟩
          case measure => simp [intOf]; omega
    · have i1 : ¬ (i : Int) < (n : Int) := by omega
      go_wp2
      go_end0
      exact ⟨rfl, HI.out.up⟩

/-- Spoil of a list that was read. -/
theorem rfspoil_any {w0 w : World} {N : Nat} {v : Value} {C : List Spn} (h : RdL w0 N v C) (hb : Below w0.heap.size w0 w) :
    Calls Tryz.prog 29 #[v] w fun e w' => e = .returned (.tuple #[]) ∧ Upd (fun b => N ≤ b ∧ b < w0.heap.size) w w' := by
  have h' := h
  rcases h.own with ⟨rfl, _⟩ | ⟨g, cap, cur, rfl, _, _, h4, _⟩
  · exact (rfspoil_nil w).mono fun e w' ⟨h1, h2⟩ => ⟨h1, by rw [h2]; exact Upd.refl _ _⟩
  · obtain ⟨s1, s2, s3⟩ := h'.spf hb
    exact rfspoil_some s1 s2 s3 h4

end Go.Proofs.YtepjblmjjegpgaaGreat
