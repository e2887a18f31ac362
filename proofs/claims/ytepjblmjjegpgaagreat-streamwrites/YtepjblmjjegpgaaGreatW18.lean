/- Append to a row of bytes of one's own, in a region that draws. -/
import Derived.Test.YtepjblmjjegpgaaGreatW7
import Derived.Test.YtepjblmjjegpgaaGreatW5
import Derived.Deep.AppendLies
import Derived.Deep.RegionLaw
namespace Go.Proofs.YtepjblmjjegpgaaGreat
open Go.RowKit
set_option maxRecDepth 100000

theorem own_new {g n c k : Nat} (h : (Value.slice (some ⟨g, 0, none⟩) n c).ownBlock = some k) : g ≤ k := by
  have : g = k := by simpa [Value.ownBlock] using h
  omega
theorem own_grown {w : World} {base m : Nat} {e : TypeId} {zs ys : List Int} (hl : ys.length = m) (h63 : zs.length + m ≤ maxLen) (hbase : base ≤ w.heap.size) (old : Nat) (_ : old < zs.length + m) :
    OwnB (w.drew.alloc (.cells ((zs.map (Value.int .u8)).toArray ++ (ys.map (Value.int .u8)).toArray ++ Builtin.zeroCells (Value.int .u8 0).cells (grownCap w (zs.length + m) old e - (zs.length + m))) e)) base e (.slice (some ⟨w.heap.size, 0, none⟩) (zs.length + m) (grownCap w (zs.length + m) old e)) (zs ++ ys) := by
  have hge := grownCap_ge w (zs.length + m) old e
  have hcm : grownCap w (zs.length + m) old e ≤ maxLen := grownCap_le_maxLen w (zs.length + m) old e h63
  have hlen : (zs ++ ys).length = zs.length + m := by rw [List.length_append, hl]
  refine .inr ⟨w.heap.size, _, _, by rw [hlen], hbase, heap_alloc_new w.drew _, by rw [hlen]; exact hge, hcm, ?_, ?_, ?_⟩
  · simp only [Array.size_append, List.size_toArray, size_zeroCells, List.length_map, Value.cells, hl]
    simp
    omega
  · simp only [Array.toList_append]
    rw [hlen, ← List.map_append, List.take_append_of_le_length (by simp [hl]), List.take_of_length_le (by simp [hl])]
  · intro u hu
    simp only [Array.toList_append, List.mem_append] at hu
    rcases hu with (hu | hu) | hu
    · exact bytes_map zs u hu
    · exact bytes_map ys u hu
    · exact zero_bytes _ u hu
theorem run_app_bk {P : Program} {w : World} (t ty : TypeId) (base : Nat) (e : TypeId) (i : TypeInfo) (ht : P.underlying t = some (.slice e)) (hi : P.info? e = some i) (hz : i.zero = some (.int .u8 0)) (hsize : i.size = 1) (hby : i.bytes = 1)
    (v : Value) (zs : List Int) (hown : OwnB w base e v zs) (ao : Option Addr) (m c : Nat) (ys : List Int) (hl : ys.length = m) (hnone : ao = none → m = 0 ∧ c = 0) (hrow : Row w .u8 ao ys)
    (hbytes : zs.length + m ≤ 140737488355328) (hbase : base ≤ w.heap.size) :
    ∃ v' w', (Builtin.append_ #[t, t] ty #[v, .slice ao m c]).run P w = .ok v' w' ∧ OwnB w' base e v' (zs ++ ys) ∧ w.grownBy w' v.ownBlock ∧ (∀ k, v'.ownBlock = some k → v.ownBlock = some k ∨ w.heap.size ≤ k) := by
  cases ao with
  | none =>
    obtain ⟨rfl, rfl⟩ := hnone rfl
    obtain rfl : ys = [] := List.eq_nil_of_length_eq_zero hl
    exact ⟨v, w, run_append_owned_none w base t ty e i 1 ht hi v _ _ hown.owns, by simpa using hown, grownBy_refl _ _, fun k hk => .inl hk⟩
  | some ad =>
    have hnews : ∀ j u, (ys.map (Value.int .u8))[j]? = some u → w.cell? (ad.add j) = some u := hrow.cells ad rfl
    have hln : (ys.map (Value.int .u8)).length = m * i.size := by rw [List.length_map, hsize, Nat.mul_one]; exact hl
    have h63 : zs.length + m ≤ maxLen := by unfold maxLen; omega
    have grown := own_grown (w := w) (e := e) (zs := zs) hl h63 hbase
    rcases hown with ⟨hv, hz0⟩ | ⟨g, cap, cur, hv, hbg, hg, hnc, hcm, hcs, htake, hbs⟩
    · subst hz0
      by_cases hm : m = 0
      · subst hm
        obtain rfl : ys = [] := List.eq_nil_of_length_eq_zero hl
        refine ⟨.slice none 0 0, w, ?_, OwnB.nil _ _ _, grownBy_refl _ _, fun k hk => by cases hk⟩
        rw [hv]
        simp [Builtin.append_, run_underlying ht, sizeOf, typeInfo, hi, Builtin.lenOf, Builtin.firstCells, loadCells, loadCellsFrom]
      · have hr := run_append_nil (P := P) w t ty e i (.int .u8 0) ht hi hz ad m c _ hln hnews (by omega) (by omega) (by rw [hby]; omega)
        have hgr := grown 0 (by simp; omega)
        simp only [List.length_nil, Nat.zero_add, List.map_nil, List.nil_append, Array.empty_append] at hgr ⊢
        exact ⟨_, _, (by rw [hv]; exact hr), hgr, ⟨rfl, rfl, rfl, by simp, fun k hk _ => Below.heap_alloc w.drew _ k hk⟩, fun k hk => .inr (own_new hk)⟩
    · by_cases hroom : zs.length + m ≤ cap
      · have hfit : zs.length * i.size + (ys.map (Value.int .u8)).length ≤ cur.size := by rw [hsize, Nat.mul_one, List.length_map, hl, hcs]; exact hroom
        have hr := run_append_room (P := P) w t ty e i ht hi g zs.length cap cur hg ad m c _ hln hnews (fun u hu => by obtain ⟨x, rfl⟩ := bytes_map ys u hu; rfl) hroom hfit
        rw [hsize, Nat.mul_one] at hr
        refine ⟨_, _, (by rw [hv]; exact hr), ?_, ?_, fun k hk => .inl (by rw [hv]; exact hk)⟩
        · have hlen : (zs ++ ys).length = zs.length + m := by rw [List.length_append, hl]
          refine .inr ⟨g, cap, _, by rw [hlen], hbg, setRow_heap w g cur _ e _ hg, by rw [hlen]; exact hroom, hcm, ?_, ?_, ?_⟩
          · simp only [List.size_toArray, List.length_append, List.length_take, List.length_drop, Array.length_toList, List.length_map]
            omega
          · simp only []
            rw [htake, hlen, List.take_append_of_le_length (by simp [hl]), ← List.map_append, List.take_of_length_le (by simp [hl])]
          · intro u hu
            simp only [List.mem_append] at hu
            rcases hu with (hu | hu) | hu
            · exact hbs u (List.mem_of_mem_take hu)
            · exact bytes_map ys u hu
            · exact hbs u (List.mem_of_mem_drop hu)
        · exact ⟨rfl, rfl, rfl, by simp, fun k _ hk => setRow_other w g k _ (fun e => hk (by simp [hv, Value.ownBlock, e]))⟩
      · have holds : ∀ j u, (zs.map (Value.int .u8))[j]? = some u → w.cell? ((⟨g, 0, none⟩ : Addr).add j) = some u := by
          intro j u hu
          rw [Addr.add_lit, Nat.zero_add, cell_of_row _ _ _ _ _ _ hg, ← Array.getElem?_toList]
          rw [← htake] at hu
          have hj : j < zs.length := by
            have := (List.getElem?_eq_some_iff.1 hu).1
            rw [List.length_take] at this
            omega
          rw [List.getElem?_take, if_pos hj] at hu
          exact hu
        have hr := run_append_grow (P := P) w t ty e i (.int .u8 0) ht hi hz ⟨g, 0, none⟩ zs.length cap _ (by rw [List.length_map, hsize, Nat.mul_one]) holds ad m c _ hln hnews (by omega) (by unfold maxLen at h63; omega) (growslice_fits (by omega) (by rw [hby]; omega))
        exact ⟨_, _, (by rw [hv]; exact hr), grown cap (by omega), ⟨rfl, rfl, rfl, by simp, fun k hk _ => Below.heap_alloc w.drew _ k hk⟩, fun k hk => .inr (own_new hk)⟩
theorem run_app_b {P : Program} {w : World} (t ty : TypeId) (base : Nat) (e : TypeId) (i : TypeInfo) (ht : P.underlying t = some (.slice e)) (hi : P.info? e = some i) (hz : i.zero = some (.int .u8 0)) (hsize : i.size = 1) (hby : i.bytes = 1)
    (v : Value) (zs : List Int) (hown : OwnB w base e v zs) (ao : Option Addr) (m c : Nat) (ys : List Int) (hl : ys.length = m) (hnone : ao = none → m = 0 ∧ c = 0) (hrow : Row w .u8 ao ys)
    (hbytes : zs.length + m ≤ 140737488355328) (hbase : base ≤ w.heap.size) :
    ∃ v' w', (Builtin.append_ #[t, t] ty #[v, .slice ao m c]).run P w = .ok v' w' ∧ OwnB w' base e v' (zs ++ ys) ∧ w.grownBy w' v.ownBlock := by
  obtain ⟨v', w', h1, h2, h3, _⟩ := run_app_bk t ty base e i ht hi hz hsize hby v zs hown ao m c ys hl hnone hrow hbytes hbase
  exact ⟨v', w', h1, h2, h3⟩

theorem step_appB {P : Program} {ops : Array Oper} {o : Oper} {a : Act} {w : World} {K : Act → World → Prop} {Q : Exit → Act → World → Prop} {E : Prop} (hgd : o.guard = none) (s x : Operand) (t : TypeId)
    (ho : o.op = .call { callee := .builtin .append, args := #[s, x], argTypes := #[t, t] })
    (base : Nat) (e : TypeId) (i : TypeInfo) (ht : P.underlying t = some (.slice e)) (hi : P.info? e = some i) (hz : i.zero = some (.int .u8 0)) (hsize : i.size = 1) (hby : i.bytes = 1)
    (v : Value) (zs : List Int) (hs : a.eval s = v) (hown : OwnB w base e v zs)
    (ao : Option Addr) (m c : Nat) (ys : List Int) (hx : a.eval x = .slice ao m c) (hl : ys.length = m) (hnone : ao = none → m = 0 ∧ c = 0) (hrow : Row w .u8 ao ys)
    (hbytes : zs.length + m ≤ 140737488355328) (hbase : base ≤ w.heap.size)
    (h : ∀ v' w', OwnB w' base e v' (zs ++ ys) → w.grownBy w' v.ownBlock → K (a.put o.dst v') w') :
    if Region.wanted o (yielded ops a.tmps) = true then Oper.wp P o a w K Q else E := by
  obtain ⟨v', w', hrun, h1, h2⟩ := run_app_b (P := P) t o.type base e i ht hi hz hsize hby v zs hown ao m c ys hl hnone hrow hbytes hbase
  have hK := h v' w' h1 h2
  have hw : Region.wanted o (yielded ops a.tmps) = true := by simp [Region.wanted, hgd]
  rw [if_pos hw]
  unfold Oper.wp
  simp [execOp, ho, resolve, invoke, builtin, hs, hx, hrun, Result.andThen]
  exact hK

theorem ownB_full {w : World} {base g n : Nat} {e : TypeId} {ys : List Int} (h : w.ownsRow base e 1 (.slice (some ⟨g, 0, none⟩) n n) n (ys.map (Value.int .u8))) (hy : ys.length = n) : OwnB w base e (.slice (some ⟨g, 0, none⟩) n n) ys := by
  rcases h.2 with ⟨h1, _⟩ | ⟨g', cap', cur, h1, h2, h3, h4, h5, h6, h7⟩
  · cases h1
  · cases h1
    subst hy
    have hcur : cur.toList = ys.map (Value.int .u8) := by
      rw [← h7]
      exact (List.take_of_length_le (by rw [Array.length_toList]; omega)).symm
    refine .inr ⟨g, ys.length, cur, rfl, h2, h3, h4, h5, by omega, ?_, ?_⟩
    · rw [hcur]; exact List.take_of_length_le (by simp)
    · rw [hcur]; exact fun u hu => bytes_map ys u hu

end Go.Proofs.YtepjblmjjegpgaaGreat
