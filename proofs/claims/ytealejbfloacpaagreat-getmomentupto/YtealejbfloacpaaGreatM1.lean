/- Texts of one's own. -/
import Derived.Test.YtealejbfloacpaaGreatM0
import Derived.Lib.AppendZeros
import Derived.Laws.OwnMore
import Derived.Lib.Bytealg
import Derived.Lib.Bytes
namespace Go.Proofs.YtealejbfloacpaaGreat
open Go.RowKit
set_option maxRecDepth 100000
def IsByte (u : Value) : Prop := ∃ x, u = .int .u8 x
def OwnB (w : World) (base : Nat) (e : TypeId) (v : Value) (zs : List Int) : Prop :=
 (v = .slice none 0 0 ∧ zs = []) ∨
 ∃ g cap cur, v = .slice (some ⟨g, 0, none⟩) zs.length cap ∧ base ≤ g ∧ w.heap[g]? = some (.cells cur e (0, 0)) ∧ zs.length ≤ cap ∧ cap ≤ maxLen ∧ cur.size = cap ∧ cur.toList.take zs.length = zs.map (Value.int .u8) ∧ ∀ u ∈ cur.toList, IsByte u
theorem OwnB.owns {w : World} {base : Nat} {e : TypeId} {v : Value} {zs : List Int} (h : OwnB w base e v zs) : w.ownsRow base e 1 v zs.length (zs.map (Value.int .u8)) := by
 refine ⟨by simp, ?_⟩
 rcases h with ⟨h1, h2⟩ | ⟨g, cap, cur, h1, h2, h3, h4, h5, h6, h7, _⟩
 ·exact .inl ⟨h1, by rw [h2]; rfl⟩
 ·exact .inr ⟨g, cap, cur, h1, h2, h3, h4, h5, by omega, by rw [Nat.mul_one]; exact h7⟩
theorem OwnB.nil (w : World) (base : Nat) (e : TypeId) : OwnB w base e (.slice none 0 0) [] := .inl ⟨rfl, rfl⟩
theorem OwnB.blk {w w' : World} {base : Nat} {e : TypeId} {v : Value} {zs : List Int} (h : OwnB w base e v zs) (hb : ∀ k, v.ownBlock = some k → w'.heap[k]? = w.heap[k]?) : OwnB w' base e v zs := by
 rcases h with h | ⟨g, cap, cur, h1, h2, h3, r⟩
 ·exact .inl h
 ·exact .inr ⟨g, cap, cur, h1, h2, by rw [hb g (by rw [h1]; rfl)]; exact h3, r⟩
theorem OwnB.below {w w' : World} {base : Nat} {e : TypeId} {v : Value} {zs : List Int} (h : OwnB w base e v zs) (hb : Below w.heap.size w w') : OwnB w' base e v zs :=
 h.blk fun k hk => hb.block k (h.owns.lt k hk).2
theorem OwnB.mono {w : World} {base base' : Nat} {e : TypeId} {v : Value} {zs : List Int} (h : OwnB w base' e v zs) (hb : base ≤ base') : OwnB w base e v zs := by
 rcases h with h | ⟨g, cap, cur, h1, h2, r⟩
 ·exact .inl h
 ·exact .inr ⟨g, cap, cur, h1, Nat.le_trans hb h2, r⟩
theorem OwnB.slice {w : World} {base : Nat} {e : TypeId} {v : Value} {zs : List Int} (h : OwnB w base e v zs) : ∃ a cap, v = .slice a zs.length cap ∧ Row w .u8 a zs ∧ (a = none → zs.length = 0 ∧ cap = 0) ∧ zs.length ≤ cap := by
 obtain ⟨a, cap, hv, hn, _⟩ := slice_of_owns2 h.owns
 refine ⟨a, cap, hv, row_of_owns2 (by rw [← hv]; exact h.owns), hn, ?_⟩
 rcases h with ⟨h1, h2⟩ | ⟨g, cap', cur, h1, h2, h3, h4, _⟩
 ·rw [h2]; exact Nat.zero_le _
 ·rw [hv] at h1; cases h1; exact h4
theorem OwnB.sliceN {w : World} {base : Nat} {e : TypeId} {v : Value} {zs : List Int} (h : OwnB w base e v zs) {n : Nat} (hn : zs.length = n) : ∃ a cap, v = .slice a n cap ∧ (a = none → n = 0 ∧ cap = 0) ∧ n ≤ cap ∧ ∀ k, v.ownBlock = some k → base ≤ k ∧ k < w.heap.size := by
 obtain ⟨a, cap, h1, _, h3, h4⟩ := h.slice
 rw [hn] at h1 h3 h4
 exact ⟨a, cap, h1, h3, h4, h.owns.lt⟩
theorem OwnB.row {w : World} {base : Nat} {e : TypeId} {a : Option Addr} {n cap : Nat} {zs : List Int} (h : OwnB w base e (.slice a n cap) zs) : Row w .u8 a zs := by
 obtain ⟨a', cap', h1, h2, _⟩ := h.slice
 cases h1
 exact h2
theorem OwnB.kept {w w' : World} {base : Nat} {e : TypeId} {v : Value} {zs : List Int} {row : Option Nat} (h : OwnB w base e v zs) (hg : w.grownBy w' row) (hne : ∀ k, v.ownBlock = some k → some k ≠ row) : OwnB w' base e v zs :=
 h.blk fun k hk => hg.block k (h.owns.lt k hk).2 (hne k hk)
theorem zero_bytes (n : Nat) : ∀ u ∈ (Builtin.zeroCells (Value.int .u8 0).cells n).toList, IsByte u := by
 intro u hu
 simp only [Builtin.zeroCells, Value.cells, Array.toList_map, List.mem_map] at hu
 obtain ⟨i, _, rfl⟩ := hu
 refine ⟨0, ?_⟩
 simp [Nat.mod_one]
theorem OwnB.made {w : World} {base : Nat} {e : TypeId} (cs : Array Value) (cap : Nat) (hb : base ≤ w.heap.size) (hm : cap ≤ maxLen) (hs : cs.size = cap) (h : ∀ u ∈ cs.toList, IsByte u) : OwnB (w.alloc (.cells cs e)) base e (.slice (some ⟨w.heap.size, 0, none⟩) 0 cap) [] :=
 .inr ⟨w.heap.size, cap, cs, rfl, hb, heap_alloc_new w _, Nat.zero_le _, hm, hs, by simp, h⟩
theorem bytes_map (zs : List Int) : ∀ u ∈ zs.map (Value.int .u8), IsByte u := by
 intro u hu
 obtain ⟨x, _, rfl⟩ := List.mem_map.1 hu
 exact ⟨x, rfl⟩
theorem append_b {P : Program} {w : World} {ops : Array Oper} {rest : List Oper} {o : Oper} {a : Act} {Q : Exit → Act → World → Prop} (hgd : o.guard = none) (s x : Operand) (t : TypeId)
  (ho : o.op = .call { callee := .builtin .append, args := #[s, x], argTypes := #[t, t] })
  (base : Nat) (e : TypeId) (i : TypeInfo) (ht : P.underlying t = some (.slice e)) (hi : P.info? e = some i) (hz : i.zero = some (.int .u8 0)) (hsize : i.size = 1) (hby : i.bytes = 1)
  (v : Value) (zs : List Int) (hs : a.eval s = v) (hown : OwnB w base e v zs)
  (ao : Option Addr) (m c : Nat) (ys : List Int) (hx : a.eval x = .slice ao m c) (hl : ys.length = m) (hnone : ao = none → m = 0 ∧ c = 0) (hrow : Row w .u8 ao ys)
  (hbytes : zs.length + m ≤ 140737488355328) (hbase : base ≤ w.heap.size)
  (h : ∀ v' w', OwnB w' base e v' (zs ++ ys) → w.grownBy w' v.ownBlock → wpList P ops Q rest (a.put o.dst v') w') : wpList P ops Q (o :: rest) a w := by
 cases ao with
 | none =>
  obtain ⟨rfl, rfl⟩ := hnone rfl
  obtain rfl : ys = [] := List.eq_nil_of_length_eq_zero hl
  refine wpList_append_own_none hgd s x t ho base e i 1 ht hi v zs.length _ hs hown.owns hx ?_
  refine h v w ?_ (grownBy_refl _ _)
  simpa using hown
 | some ad =>
  have hnews : ∀ j u, (ys.map (Value.int .u8))[j]? = some u → w.cell? (ad.add j) = some u := hrow.cells ad rfl
  have hln : (ys.map (Value.int .u8)).length = m * i.size := by rw [List.length_map, hsize, Nat.mul_one]; exact hl
  have h63 : zs.length + m ≤ maxLen := by unfold maxLen; omega
  have grown : ∀ old, old < zs.length + m → OwnB (w.drew.alloc (.cells ((zs.map (Value.int .u8)).toArray ++ (ys.map (Value.int .u8)).toArray ++ Builtin.zeroCells (Value.int .u8 0).cells (grownCap w (zs.length + m) old e - (zs.length + m))) e)) base e (.slice (some ⟨w.heap.size, 0, none⟩) (zs.length + m) (grownCap w (zs.length + m) old e)) (zs ++ ys) := by
   intro old ho2
   have hge := grownCap_ge w (zs.length + m) old e
   have hcm : grownCap w (zs.length + m) old e ≤ maxLen := grownCap_le_maxLen w (zs.length + m) old e h63
   have hlen : (zs ++ ys).length = zs.length + m := by rw [List.length_append, hl]
   refine .inr ⟨w.heap.size, _, _, by rw [hlen], hbase, heap_alloc_new w.drew _, by rw [hlen]; exact hge, hcm, ?_, ?_, ?_⟩
   ·simp only [Array.size_append, List.size_toArray, size_zeroCells, List.length_map, Value.cells, hl]
    simp
    omega
   ·simp only [Array.toList_append]
    rw [hlen, ← List.map_append, List.take_append_of_le_length (by simp [hl]), List.take_of_length_le (by simp [hl])]
   ·intro u hu
    simp only [Array.toList_append, List.mem_append] at hu
    rcases hu with (hu | hu) | hu
    ·exact bytes_map zs u hu
    ·exact bytes_map ys u hu
    ·exact zero_bytes _ u hu
  rcases hown with ⟨hv, hz0⟩ | ⟨g, cap, cur, hv, hbg, hg, hnc, hcm, hcs, htake, hbs⟩
  ·subst hz0
   by_cases hm : m = 0
   ·subst hm
    obtain rfl : ys = [] := List.eq_nil_of_length_eq_zero hl
    refine Lib.wpList_append_run w hgd s x t t ho v (.slice (some ad) 0 c) hs hx (.slice none 0 0) w ?_ (h _ _ (OwnB.nil _ _ _) (grownBy_refl _ _))
    rw [hv]
    simp [Builtin.append_, run_underlying ht, sizeOf, typeInfo, hi, Builtin.lenOf, Builtin.firstCells, loadCells, loadCellsFrom]
   ·have hr := run_append_nil (P := P) w t o.type e i (.int .u8 0) ht hi hz ad m c _ hln hnews (by omega) (by omega) (by rw [hby]; omega)
    have hgr := grown 0 (by simp; omega)
    simp only [List.length_nil, Nat.zero_add, List.map_nil, List.nil_append, Array.empty_append] at hgr h
    exact Lib.wpList_append_run w hgd s x t t ho v (.slice (some ad) m c) hs hx _ _ (by rw [hv]; exact hr) (h _ _ hgr ⟨rfl, rfl, rfl, by simp, fun k hk _ => Below.heap_alloc w.drew _ k hk⟩)
  ·by_cases hroom : zs.length + m ≤ cap
   ·have hfit : zs.length * i.size + (ys.map (Value.int .u8)).length ≤ cur.size := by rw [hsize, Nat.mul_one, List.length_map, hl, hcs]; exact hroom
    have hr := run_append_room (P := P) w t o.type e i ht hi g zs.length cap cur hg ad m c _ hln hnews (fun u hu => by obtain ⟨x, rfl⟩ := bytes_map ys u hu; rfl) hroom hfit
    rw [hsize, Nat.mul_one] at hr
    refine Lib.wpList_append_run w hgd s x t t ho v (.slice (some ad) m c) hs hx _ _ (by rw [hv]; exact hr) (h _ _ ?_ ?_)
    ·have hlen : (zs ++ ys).length = zs.length + m := by rw [List.length_append, hl]
     refine .inr ⟨g, cap, _, by rw [hlen], hbg, setRow_heap w g cur _ e _ hg, by rw [hlen]; exact hroom, hcm, ?_, ?_, ?_⟩
     ·simp only [List.size_toArray, List.length_append, List.length_take, List.length_drop, Array.length_toList, List.length_map]
      omega
     ·simp only []
      rw [htake, hlen, List.take_append_of_le_length (by simp [hl]), ← List.map_append, List.take_of_length_le (by simp [hl])]
     ·intro u hu
      simp only [List.mem_append] at hu
      rcases hu with (hu | hu) | hu
      ·exact hbs u (List.mem_of_mem_take hu)
      ·exact bytes_map ys u hu
      ·exact hbs u (List.mem_of_mem_drop hu)
    ·exact ⟨rfl, rfl, rfl, by simp, fun k _ hk => setRow_other w g k _ (fun e => hk (by simp [hv, Value.ownBlock, e]))⟩
   ·have holds : ∀ j u, (zs.map (Value.int .u8))[j]? = some u → w.cell? ((⟨g, 0, none⟩ : Addr).add j) = some u := by
     intro j u hu
     rw [Addr.add_lit, Nat.zero_add, cell_of_row _ _ _ _ _ _ hg, ← Array.getElem?_toList]
     rw [← htake] at hu
     have hj : j < zs.length := by
      have := (List.getElem?_eq_some_iff.1 hu).1
      rw [List.length_take] at this
      omega
     rw [List.getElem?_take, if_pos hj] at hu
     exact hu
    have hr := run_append_grow (P := P) w t o.type e i (.int .u8 0) ht hi hz ⟨g, 0, none⟩ zs.length cap _ (by rw [List.length_map, hsize, Nat.mul_one]) holds ad m c _ hln hnews (by omega) (by unfold maxLen at h63; omega) (growslice_fits (by omega) (by rw [hby]; omega))
    exact Lib.wpList_append_run w hgd s x t t ho v (.slice (some ad) m c) hs hx _ _ (by rw [hv]; exact hr) (h _ _ (grown cap (by omega)) ⟨rfl, rfl, rfl, by simp, fun k hk _ => Below.heap_alloc w.drew _ k hk⟩)
theorem own_frozen {w : World} {base g n cap : Nat} {e : TypeId} {xs : List Value} (h : w.ownsRow base e 1 (.slice (some ⟨g, 0, none⟩) n cap) n xs) (j : Nat) : w.frozen? ⟨g, j, none⟩ = false := by
 rcases h.2 with ⟨hv, _⟩ | ⟨g', cap', cur, hv, hb, hh, _⟩
 ·cases hv
 ·cases hv
  simp [World.frozen?, hh]
end Go.Proofs.YtealejbfloacpaaGreat
namespace Go.Proofs.YtealejbfloacpaaGreat
open Go.RowKit
set_option maxRecDepth 100000
def comN : List Int → List Int → Nat
 | x :: xs, y :: ys => if x = y then comN xs ys + 1 else 0
 | _, _ => 0
theorem comN_nil_l (b : List Int) : comN [] b = 0 := by cases b <;> rfl
theorem comN_nil_r (a : List Int) : comN a [] = 0 := by cases a <;> rfl
theorem comN_same (x : Int) (a b : List Int) : comN (x :: a) (x :: b) = comN a b + 1 := by rw [comN, if_pos rfl]
theorem comN_unlike {x y : Int} (h : x ≠ y) (a b : List Int) : comN (x :: a) (y :: b) = 0 := by rw [comN, if_neg h]
theorem comN_of : ∀ (n : Nat) (a b : List Int), n ≤ a.length → n ≤ b.length → (∀ i, i < n → a.getD i 0 = b.getD i 0) → (n = a.length ∨ n = b.length ∨ a.getD n 0 ≠ b.getD n 0) → comN a b = n
 | 0, [], b, _, _, _, _ => comN_nil_l b
 | 0, x :: a, [], _, _, _, _ => comN_nil_r _
 | 0, x :: a, y :: b, _, _, _, h => by
  rcases h with h | h | h
  ·simp at h
  ·simp at h
  ·exact comN_unlike (by simpa using h) a b
 | n + 1, [], b, h, _, _, _ => by simp at h
 | n + 1, x :: a, [], _, h, _, _ => by simp at h
 | n + 1, x :: a, y :: b, h1, h2, h3, h4 => by
  have h0 := h3 0 (by omega)
  simp only [List.getD_cons_zero] at h0
  subst h0
  simp only [List.length_cons] at h1 h2 h4
  rw [comN_same, comN_of n a b (by omega) (by omega) (fun i hi => by have := h3 (i + 1) (by omega); simpa only [List.getD_cons_succ] using this) (by
   simp only [List.getD_cons_succ] at h4
   rcases h4 with h | h | h
   ·exact .inl (by omega)
   ·exact .inr (.inl (by omega))
   ·exact .inr (.inr h))]
def cmpI : List Int → List Int → Int
 | [], [] => 0
 | [], _ :: _ => -1
 | _ :: _, [] => 1
 | x :: xs, y :: ys => if x < y then -1 else if y < x then 1 else cmpI xs ys
theorem cmpI_same (x : Int) (a b : List Int) : cmpI (x :: a) (x :: b) = cmpI a b := by rw [cmpI, if_neg (Int.lt_irrefl x), if_neg (Int.lt_irrefl x)]
theorem cmpI_lt {x y : Int} (h : x < y) (a b : List Int) : cmpI (x :: a) (y :: b) = -1 := by rw [cmpI, if_pos h]
theorem cmpI_gt {x y : Int} (h : y < x) (a b : List Int) : cmpI (x :: a) (y :: b) = 1 := by rw [cmpI, if_neg (by omega), if_pos h]
theorem cmpI_cons_nil (x : Int) (a : List Int) : cmpI (x :: a) [] = 1 := rfl
theorem three (x y : Int) : x < y ∨ x = y ∨ y < x := by omega
theorem cmpI_range : ∀ a b : List Int, cmpI a b = -1 ∨ cmpI a b = 0 ∨ cmpI a b = 1
 | [], [] => .inr (.inl rfl)
 | [], _ :: _ => .inl rfl
 | _ :: _, [] => .inr (.inr rfl)
 | x :: a, y :: b => by
  rcases three x y with h | h | h
  ·exact .inl (cmpI_lt h a b)
  ·subst h; rw [cmpI_same]; exact cmpI_range a b
  ·exact .inr (.inr (cmpI_gt h a b))
theorem cmpI_swap : ∀ a b : List Int, cmpI b a = -cmpI a b
 | [], [] => rfl
 | [], _ :: _ => rfl
 | _ :: _, [] => rfl
 | x :: a, y :: b => by
  rcases three x y with h | h | h
  ·rw [cmpI_lt h, cmpI_gt h]; rfl
  ·subst h; rw [cmpI_same, cmpI_same]; exact cmpI_swap a b
  ·rw [cmpI_lt h, cmpI_gt h]
theorem cmpI_refl : ∀ a : List Int, cmpI a a = 0
 | [] => rfl
 | x :: a => by rw [cmpI_same]; exact cmpI_refl a
theorem cmpI_zero : ∀ a b : List Int, cmpI a b = 0 → a = b
 | [], [], _ => rfl
 | [], _ :: _, h => by simp [cmpI] at h
 | _ :: _, [], h => by simp [cmpI] at h
 | x :: a, y :: b, h => by
  rcases three x y with e | e | e
  ·rw [cmpI_lt e] at h; omega
  ·subst e; rw [cmpI_same] at h; rw [cmpI_zero a b h]
  ·rw [cmpI_gt e] at h; omega
theorem cmpI_trans : ∀ a b c : List Int, cmpI a b ≤ 0 → cmpI b c ≤ 0 → cmpI a c ≤ 0 ∧ (cmpI a b < 0 → cmpI a c < 0)
 | [], [], [], _, _ => by simp [cmpI]
 | [], [], _ :: _, _, _ => by simp [cmpI]
 | [], _ :: _, [], _, h => by simp [cmpI] at h
 | [], _ :: _, _ :: _, _, _ => by simp [cmpI]
 | _ :: _, [], _, h, _ => by simp [cmpI] at h
 | _ :: _, _ :: _, [], _, h => by simp [cmpI] at h
 | x :: a, y :: b, z :: c, h1, h2 => by
  rcases three x y with e | e | e
  ·rcases three y z with f | f | f
   ·rw [cmpI_lt (show x < z by omega)]; omega
   ·rw [cmpI_lt (show x < z by omega)]; omega
   ·rw [cmpI_gt f] at h2; omega
  ·subst e
   rcases three x z with f | f | f
   ·rw [cmpI_lt f]; omega
   ·subst f; rw [cmpI_same] at *; rw [cmpI_same] at *; exact cmpI_trans a b c h1 h2
   ·rw [cmpI_gt f] at h2; omega
  ·rw [cmpI_gt e] at h1; omega
theorem cmpI_com : ∀ a b : List Int, cmpI a b = if comN a b = a.length then (if comN a b = b.length then 0 else -1) else if comN a b = b.length then 1 else if a.getD (comN a b) 0 < b.getD (comN a b) 0 then -1 else 1
 | [], [] => rfl
 | [], _ :: _ => rfl
 | _ :: _, [] => rfl
 | x :: a, y :: b => by
  rcases three x y with e | e | e
  ·rw [cmpI_lt e, comN_unlike (by omega)]; simp [e]
  ·subst e
   rw [cmpI_same, comN_same, cmpI_com a b]
   simp only [List.length_cons, List.getD_cons_succ, Nat.add_right_cancel_iff]
  ·rw [cmpI_gt e, comN_unlike (by omega)]; simp; omega
theorem cmpI_bytes : ∀ (a b : List Int), B8 a → B8 b → Lib.compareBytes (Lib.bytesOf a) (Lib.bytesOf b) = cmpI a b
 | [], [], _, _ => rfl
 | [], _ :: _, _, _ => rfl
 | _ :: _, [], _, _ => rfl
 | x :: a, y :: b, ha, hb => by
  have hx := ha.head
  have hy := hb.head
  have ih := cmpI_bytes a b ha.tail hb.tail
  have lt : ∀ u v : Int, 0 ≤ u ∧ u ≤ 255 → 0 ≤ v ∧ v ≤ 255 → ((UInt8.ofNat u.toNat < UInt8.ofNat v.toNat) ↔ u < v) := by
   intro u v hu hv
   rw [UInt8.lt_iff_toNat_lt]
   simp only [UInt8.toNat_ofNat']
   omega
  show Lib.compareBytes (UInt8.ofNat x.toNat :: Lib.bytesOf a) (UInt8.ofNat y.toNat :: Lib.bytesOf b) = _
  rw [Lib.compareBytes, cmpI, ih]
  simp only [lt x y hx hy, lt y x hy hx]
end Go.Proofs.YtealejbfloacpaaGreat
