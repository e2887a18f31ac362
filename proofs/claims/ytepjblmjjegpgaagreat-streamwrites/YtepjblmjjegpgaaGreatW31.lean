/- The document's Copy of entries. -/
import Derived.Test.YtepjblmjjegpgaaGreatW29
import Derived.Deep.AppendLies
import Derived.Deep.RegionHeld3
import Derived.BigRegion
import Derived.Handy
import Derived.Test.YtepjblmjjegpgaaGreatW19
namespace Go.Proofs.YtepjblmjjegpgaaGreat
open Go.RowKit
set_option maxRecDepth 100000

theorem infoE : (Tryz.prog.info? 38).map (fun i => (i.zero, i.size, i.bytes)) = some (some (.agg #[.slice none 0 0, .slice none 0 0]), 2, 48) := by kernel_rfl
def cellsOf (C : List Ent) : List Value := C.flatMap fun e => [e.kv, e.vv]
theorem cellsOf_nil : cellsOf [] = [] := rfl
theorem cellsOf_cons (e : Ent) (C : List Ent) : cellsOf (e :: C) = e.kv :: e.vv :: cellsOf C := rfl
theorem cellsOf_app (C D : List Ent) : cellsOf (C ++ D) = cellsOf C ++ cellsOf D := by simp [cellsOf]
theorem cellsOf_len : ∀ C : List Ent, (cellsOf C).length = C.length * 2
  | [] => rfl
  | e :: C => by rw [cellsOf_cons, List.length_cons, List.length_cons, cellsOf_len C, List.length_cons]; omega
theorem cellsOf_get : ∀ (C : List Ent) (i : Nat) (h : i < C.length), (cellsOf C)[i * 2]? = some C[i].kv ∧ (cellsOf C)[i * 2 + 1]? = some C[i].vv
  | [], i, h => by simp at h
  | e :: C, 0, h => by rw [cellsOf_cons]; exact ⟨rfl, rfl⟩
  | e :: C, i + 1, h => by
    rw [cellsOf_cons, show (i + 1) * 2 = i * 2 + 1 + 1 by omega, show i * 2 + 1 + 1 + 1 = (i * 2 + 1) + 1 + 1 by omega]
    simp only [List.getElem?_cons_succ, List.getElem_cons_succ]
    exact cellsOf_get C i (by simpa using h)
theorem owns2_slice {w : World} {base : Nat} {e : TypeId} {v : Value} {n : Nat} {xs : List Value} (h : w.ownsRow base e 2 v n xs) (hn : 0 < n) : ∃ g cap, v = .slice (some ⟨g, 0, none⟩) n cap ∧ base ≤ g ∧ n ≤ cap ∧ g < w.heap.size := by
  rcases h.2 with ⟨_, h0⟩ | ⟨g, cap, cur, hv, hb, hh, h1, _⟩
  · omega
  · exact ⟨g, cap, hv, hb, h1, lt_of_block hh⟩

theorem cap2 {w : World} {base n cap : Nat} {e : TypeId} {a : Option Addr} {xs : List Value} (h : w.ownsRow base e 2 (.slice a n cap) n xs) : n ≤ cap := by
  rcases h.2 with ⟨h, h0⟩ | ⟨g, c, cur, hv, hb, hh, h1, _⟩
  · omega
  · cases hv; exact h1

/-- A copy of an entry, and the marks behind it. -/
structure Cp1 (W : World) (N : Nat) (v : Value) (c e : Ent) : Prop where
  ks : c.ks = e.ks
  vs : c.vs = e.vs
  kc : c.kc = e.ks.length + 1
  vc : c.vc = e.vs.length + 1
  k : ∃ g, c.ka = some ⟨g, 0, none⟩ ∧ Mkd W g e.ks ∧ N ≤ g ∧ v.ownBlock ≠ some g
  v : ∃ g, c.va = some ⟨g, 0, none⟩ ∧ Mkd W g e.vs ∧ N ≤ g ∧ v.ownBlock ≠ some g
structure Cpy (W : World) (N : Nat) (v : Value) (C L : List Ent) : Prop where
  own : W.ownsRow N 38 2 v C.length (cellsOf C)
  le : C.length ≤ L.length
  each : ∀ i (h : i < C.length) (h' : i < L.length), Cp1 W N v C[i] L[i]

theorem Cp1.grow {W W' : World} {N : Nat} {v v' : Value} {c e : Ent} {row : Option Nat} (h : Cp1 W N v c e) (hg : W.grownBy W' row) (hr : ∀ g, row = some g → v.ownBlock = some g ∨ W.heap.size ≤ g) (hv : ∀ g, v'.ownBlock = some g → v.ownBlock = some g ∨ W.heap.size ≤ g) : Cp1 W' N v' c e := by
  obtain ⟨gk, a1, a2, a3, a4⟩ := h.k
  obtain ⟨gv, b1, b2, b3, b4⟩ := h.v
  have l1 := a2.lt
  have l2 := b2.lt
  refine ⟨h.ks, h.vs, h.kc, h.vc, ⟨gk, a1, a2.kept hg (fun e => ?_), a3, fun e => ?_⟩, ⟨gv, b1, b2.kept hg (fun e => ?_), b3, fun e => ?_⟩⟩
  · rcases hr gk e.symm with h | h
    · exact a4 h
    · omega
  · rcases hv gk e with h | h
    · exact a4 h
    · omega
  · rcases hr gv e.symm with h | h
    · exact b4 h
    · omega
  · rcases hv gv e with h | h
    · exact b4 h
    · omega
theorem Cp1.below {W W' : World} {N : Nat} {v : Value} {c e : Ent} (h : Cp1 W N v c e) (hb : Below W.heap.size W W') : Cp1 W' N v c e := by
  obtain ⟨gk, a1, a2, a3, a4⟩ := h.k
  obtain ⟨gv, b1, b2, b3, b4⟩ := h.v
  exact ⟨h.ks, h.vs, h.kc, h.vc, ⟨gk, a1, a2.below hb a2.lt, a3, a4⟩, ⟨gv, b1, b2.below hb b2.lt, b3, b4⟩⟩
theorem owns2_below {w w' : World} {base : Nat} {e : TypeId} {v : Value} {n : Nat} {xs : List Value} (h : w.ownsRow base e 2 v n xs) (hb : Below w.heap.size w w') : w'.ownsRow base e 2 v n xs := by
  refine ⟨h.1, ?_⟩
  rcases h.2 with h | ⟨g, cap, cur, hv, hg, hh, r⟩
  · exact .inl h
  · exact .inr ⟨g, cap, cur, hv, hg, by rw [hb.block g (lt_of_block hh)]; exact hh, r⟩
theorem two_new (w : World) (x y : Value) (T : TypeId) : ∀ j u, [x, y][j]? = some u → (w.alloc (.cells #[x, y] T)).cell? ((⟨w.heap.size, 0, none⟩ : Addr).add j) = some u := by
  intro j u hu
  rw [Addr.add_lit, Nat.zero_add, cell_of_row _ _ _ _ _ _ (heap_alloc_new w _)]
  match j, hu with
  | 0, hu => simpa using hu
  | 1, hu => simpa using hu

/-- What Copy hands back: the entries' copies, their marks, and the mark behind them all. -/
structure Cpd (W : World) (N g : Nat) (C L : List Ent) : Prop where
  len : C.length = L.length
  at0 : ∀ i (h : i < C.length), W.cell? ⟨g, i * 2, none⟩ = some C[i].kv
  at1 : ∀ i (h : i < C.length), W.cell? ⟨g, i * 2 + 1, none⟩ = some C[i].vv
  each : ∀ i (h : i < C.length) (h' : i < L.length), Cp1 W N (.slice (some ⟨g, 0, none⟩) 0 0) C[i] L[i]
  gN : N ≤ g
  mark : ∃ m, W.cell? ⟨g, C.length * 2, none⟩ = some (.slice (some ⟨m, 0, none⟩) 1 1)

set_option maxRecDepth 100000 in
set_option maxHeartbeats 3200000 in
theorem copy_any (a : Option Addr) (b o l c : Nat) (L : List Ent) (w : World) (hl : L.length = l) (hm : l * 48 ≤ 140737488351232) (ha : 0 < l → a = some ⟨b, o, none⟩) (hE : Ens w b o L) (hb : 0 < l → b < w.heap.size) :
    Calls Tryz.prog 16 #[.slice a l c] w fun e w' => ∃ g cap C, e = .returned (.slice (some ⟨g, 0, none⟩) l cap) ∧ Cpd w' w.heap.size g C L ∧ l + 1 ≤ cap ∧ Below w.heap.size w w' := by
  obtain ⟨i0, hi, hz0, hz1, hz2⟩ := info_parts infoE
  have HE := hide (fun (W : World) (h : Below w.heap.size w W) => hE.below h)
  clear hE
  go_enter Tryz.func16, Tryz.ntmps16
  go_wp2_with (first
    | (at_make; refine wpList_make_own _ rfl _ _ 27 rfl w.heap.size 38 i0 (.agg #[.slice none 0 0, .slice none 0 0]) 2 Tryz.underlying27 hi hz0 hz1 .i64 .i64 _ (l + 1) rfl rfl (by omega) (by rw [hz2]; omega) (by unfold maxLen; omega) (Nat.le_refl _) ?_; intro w1 hown1 hg1)
    | fail)
  have s1 := hg1.size
  have b1 : Below w.heap.size w w1 := (Below.refl _ _).grown hg1 (Nat.le_refl _) (fun k h => by cases h)
  go_loopw [3, 4] (fun q i wr => ∃ (v : Value) (C : List Ent), q = v ∧ i = .int .i64 (C.length : Nat) ∧ Hid (Cpy wr w.heap.size v C L) ∧ Hid (Below w.heap.size w wr)) (fun _ i _ => l - (intOf i).toNat)
  case atStart => exact ⟨_, [], rfl, rfl, ⟨hown1, Nat.zero_le _, fun i h => by simp at h⟩, b1⟩
  case round =>
    obtain ⟨v, C, rfl, rfl, HC, HB⟩ := hrel
    clear hown1 hg1 s1 b1
    have hle := HC.out.le
    have sr := HB.out.size
    by_cases hlt : C.length < l
    · obtain rfl := ha (by omega)
      replace hb := hb (by omega)
      have hlL : C.length < L.length := by omega
      have hen := HE.out wr HB.out
      have c0 := hen.at0 C.length hlL
      have c1 := hen.at1 C.length hlL
      have hok := hen.ok C.length hlL
      generalize hee : L[C.length] = en at *
      have HEE := hide hee
      have OK := hide hok
      have i1 : ((C.length : Nat) : Int) < (l : Int) := by omega
      have hbr : b < wr.heap.size := by omega
      unfold Ent.kv at c0
      unfold Ent.vv at c1
      clear hen hok hee
      generalize hcl : C.length = k at *
      have HCL := hide hcl
      clear hcl
      have HOW : Hid (∀ W, Below wr.heap.size wr W → W.ownsRow w.heap.size 38 2 u3 k (cellsOf C)) := fun W h => by have := owns2_below HC.out.own h; rwa [HCL.out] at this
      have HNE : Hid (some b ≠ u3.ownBlock) := fun e => by have := (HC.out.own.lt b e.symm).1; omega
      go_wp2_with fail
      go_region_held3 (fun W => W.cell? ⟨b, o + k * 2, none⟩ = some (.slice en.ka en.ks.length en.kc) ∧ W.cell? ⟨b, o + k * 2 + 1, none⟩ = some (.slice en.va en.vs.length en.vc)) (go_keep) (first
        | (refine step_append_lies _ rfl (.tmp 15) (.tmp 29) 27 rfl w.heap.size 38 i0 (.agg #[.slice none 0 0, .slice none 0 0]) 2 48 Tryz.underlying27 hi hz0 hz1 hz2 rfl (by decide) u3 k (cellsOf C) (by simp [Act.eval]) (HOW.out _ (BW.out.alloc (by have := BW.out.size; omega) _)) ⟨w3.heap.size, 0, none⟩ 1 1 [.slice (some ⟨wr.heap.size, 0, none⟩) en.ks.length (en.ks.length + 1), .slice (some ⟨w2.heap.size, 0, none⟩) en.vs.length (en.vs.length + 1)] (by simp [Act.eval]) rfl (two_new _ _ _ _) (by intro u hu; simp at hu; rcases hu with rfl | rfl <;> rfl) (by omega) (by unfold maxLen; omega) (by omega) (by have := BW.out.size; simp; omega) _ rfl ?_; intro g5 cap5 w5 hown5 hg5 hor5 hlt5; have q0 := hg5.cell (HCE.out _ f0) HNE.out; have q1 := hg5.cell (HCE.out _ f1) HNE.out; have HO5 := hide hown5; have HG5 := hide hg5; have HR5 := hide hor5; clear hown5 hg5 hor5)
        | (go_at_call 53; refine (marked_any en.va en.vs.length en.vc en.vs w2 rfl OK.out.zv OK.out.nv (OK.out.v.below2 B2.out)).mono ?_; rintro e w3 ⟨rfl, m3, b3⟩; have hb2 := B2.out.size; have f0 := (b3.cell (p := ⟨b, o + k * 2, none⟩) (Nat.lt_of_lt_of_le hbr hb2)).trans d0; have f1 := (b3.cell (p := ⟨b, o + k * 2 + 1, none⟩) (Nat.lt_of_lt_of_le hbr hb2)).trans d1; have M3 := hide m3; have B3 : Hid (Below w2.heap.size w2 w3) := b3; have BW : Hid (Below wr.heap.size wr w3) := B2.out.trans (b3.mono B2.out.size); have HCE : Hid (∀ (j : Nat) {x : Value}, w3.cell? ⟨b, j, none⟩ = some x → (w3.alloc (.cells #[.slice (some ⟨wr.heap.size, 0, none⟩) en.ks.length (en.ks.length + 1), .slice (some ⟨w2.heap.size, 0, none⟩) en.vs.length (en.vs.length + 1)] 38)).cell? ⟨b, j, none⟩ = some x) := fun j x h => (((Below.refl w3.heap.size w3).alloc (Nat.le_refl _) _).cell (p := ⟨b, j, none⟩) (World.block_lt_of_cell? w3 ⟨b, j, none⟩ h)).trans h; clear m3 b3)
        | (go_at_call 53; refine (marked_any en.ka en.ks.length en.kc en.ks wr.drew rfl OK.out.zk OK.out.nk (show Row wr.drew .u8 en.ka en.ks from OK.out.k)).mono ?_; rintro e w2 ⟨rfl, m2, b2⟩; have d0 := (b2.cell (p := ⟨b, o + k * 2, none⟩) hbr).trans c0; have d1 := (b2.cell (p := ⟨b, o + k * 2 + 1, none⟩) hbr).trans c1; have M2 := hide m2; have B2 : Hid (Below wr.heap.size wr w2) := ⟨b2.os, b2.tape, b2.output, b2.size, b2.block⟩; clear m2 b2)
        | fail)
      have hs2 := B2.out.size
      have hs3 := B3.out.size
      have bA : Below wr.heap.size wr (w3.alloc (.cells #[.slice (some ⟨wr.heap.size, 0, none⟩) en.ks.length (en.ks.length + 1), .slice (some ⟨w2.heap.size, 0, none⟩) en.vs.length (en.vs.length + 1)] 38)) := BW.out.alloc (by omega) _
      have mk2 : Mkd w2 wr.heap.size en.ks := M2.out
      have mkA : Mkd (w3.alloc (.cells #[.slice (some ⟨wr.heap.size, 0, none⟩) en.ks.length (en.ks.length + 1), .slice (some ⟨w2.heap.size, 0, none⟩) en.vs.length (en.vs.length + 1)] 38)) wr.heap.size en.ks := (mk2.below B3.out mk2.lt).below ((Below.refl w3.heap.size w3).alloc (Nat.le_refl _) _) (by have := mk2.lt; omega)
      have mv3 : Mkd w3 w2.heap.size en.vs := M3.out
      have mvA : Mkd (w3.alloc (.cells #[.slice (some ⟨wr.heap.size, 0, none⟩) en.ks.length (en.ks.length + 1), .slice (some ⟨w2.heap.size, 0, none⟩) en.vs.length (en.vs.length + 1)] 38)) w2.heap.size en.vs := mv3.below ((Below.refl w3.heap.size w3).alloc (Nat.le_refl _) _) mv3.lt
      have hub : ∀ i, u3.ownBlock = some i → w.heap.size ≤ i ∧ i < wr.heap.size := fun i h => HC.out.own.lt i h
      have hk2 := mk2.lt
      have hv3 := mv3.lt
      have t5 : Below w.heap.size w w5 := (HB.out.trans (bA.mono HB.out.size)).grown HG5.out (by simp; omega) (fun i h => (hub i h).1)
      have hg5b : ∀ i, (Value.slice (some ⟨g5, 0, none⟩) (k + 1) cap5).ownBlock = some i → u3.ownBlock = some i ∨ (w3.alloc (.cells #[.slice (some ⟨wr.heap.size, 0, none⟩) en.ks.length (en.ks.length + 1), .slice (some ⟨w2.heap.size, 0, none⟩) en.vs.length (en.vs.length + 1)] 38)).heap.size ≤ i := fun i h => by
        have : g5 = i := by simpa [Value.ownBlock] using h
        subst this
        rcases HR5.out with h | h
        · exact .inl h
        · exact .inr (by rw [h]; exact Nat.le_refl _)
      have HNEW : Hid (Cpy w5 w.heap.size (.slice (some ⟨g5, 0, none⟩) (k + 1) cap5) (C ++ [⟨some ⟨wr.heap.size, 0, none⟩, en.ks.length + 1, en.ks, some ⟨w2.heap.size, 0, none⟩, en.vs.length + 1, en.vs⟩]) L) := by
        have hcl := HCL.out
        refine ⟨?_, by simp; omega, fun i hi hi' => ?_⟩
        · rw [List.length_append, List.length_singleton, hcl, cellsOf_app]; exact HO5.out
        · by_cases hik : i < C.length
          · rw [List.getElem_append_left hik]
            exact ((HC.out.each i hik hi').below bA).grow HG5.out (fun g h => .inl h) hg5b
          · have hie : i = C.length := by rw [List.length_append, List.length_singleton] at hi; omega
            subst hie
            rw [List.getElem_append_right (Nat.le_refl _)]
            simp only [Nat.sub_self, List.getElem_cons_zero]
            have hLe : L[C.length] = en := by have := HEE.out; simp only [hcl]; exact this
            rw [hLe]
            refine ⟨rfl, rfl, rfl, rfl, ⟨wr.heap.size, rfl, mkA.kept HG5.out (fun e => ?_), sr, fun e => ?_⟩, ⟨w2.heap.size, rfl, mvA.kept HG5.out (fun e => ?_), by omega, fun e => ?_⟩⟩
            · have := hub _ e.symm; omega
            · rcases hg5b _ e with h | h
              · have := hub _ h; omega
              · simp at h; omega
            · have := hub _ e.symm; omega
            · rcases hg5b _ e with h | h
              · have := hub _ h; omega
              · simp at h; omega
      have T5 := hide t5
      clear mkA mvA mk2 mv3 hub hg5b bA t5 q0 q1 d0 d1 f0 f1
      go_wp2_with fail
      go_roundw
      case rel => exact ⟨_, _, rfl, by rw [List.length_append, List.length_singleton, HCL.out]; go_num, HNEW, T5⟩
      case measure => simp [intOf]; omega
    · have HCL : Hid (C.length = l) := by show _ = _; omega
      have i1 : ¬ ((C.length : Nat) : Int) < (l : Int) := by omega
      have HOW : Hid (∀ W, Below wr.heap.size wr W → W.ownsRow w.heap.size 38 2 u3 l (cellsOf C)) := fun W h => by have := owns2_below HC.out.own h; rwa [HCL.out] at this
      go_wp2_with (first
        | (at_builtin; (refine wpList_append_lies _ rfl (.tmp 31) (.tmp 34) 27 rfl w.heap.size 38 i0 (.agg #[.slice none 0 0, .slice none 0 0]) 2 48 Tryz.underlying27 hi hz0 hz1 hz2 rfl (by decide) u3 l (cellsOf C) (by simp [Act.eval]) (HOW.out _ (((Below.refl _ _).alloc (Nat.le_refl _) _).alloc (by simp) _)) ⟨(wr.alloc (.cells #[.int .u8 77] 5)).heap.size, 0, none⟩ 1 1 [.slice (some ⟨wr.heap.size, 0, none⟩) 1 1, .slice none 0 0] (by simp [Act.eval]) rfl (two_new _ _ _ _) (by intro u hu; simp at hu; rcases hu with rfl | rfl <;> rfl) (by omega) (by unfold maxLen; omega) (by omega) (Nat.le_trans sr (by simp <;> omega)) _ rfl ?_; intro g5 cap5 w5 hown5 hg5 hor5 hlt5; have HO5 := hide hown5; have HG5 := hide hg5; have HR5 := hide hor5; have hcp := (cap2 hown5); clear hown5 hg5 hor5))
        | fail)
      go_ret
      have hC := HCL.out
      have bA : Below wr.heap.size wr ((wr.alloc (.cells #[.int .u8 77] 5)).alloc (.cells #[.slice (some ⟨wr.heap.size, 0, none⟩) 1 1, .slice none 0 0] 38)) := ((Below.refl _ _).alloc (Nat.le_refl _) _).alloc (by simp) _
      have hub : ∀ i, u3.ownBlock = some i → w.heap.size ≤ i ∧ i < wr.heap.size := fun i h => HC.out.own.lt i h
      have cel : ∀ j u, (cellsOf C ++ [.slice (some ⟨wr.heap.size, 0, none⟩) 1 1, .slice none 0 0])[j]? = some u → w5.cell? ⟨g5, j, none⟩ = some u := fun j u hu => by
        have := HO5.out.cells (g := g5) rfl j u hu
        rwa [Addr.add_lit, Nat.zero_add] at this
      have hg5 : w.heap.size ≤ g5 := by
        rcases HR5.out with h | h
        · exact (hub _ h).1
        · rw [h]; simp; omega
      refine ⟨g5, cap5, rfl, ⟨C, by omega, fun i hi => ?_, fun i hi => ?_, fun i hi hi' => ?_, hg5, wr.heap.size, ?_⟩, hcp, ?_⟩
      · exact cel _ _ (by rw [List.getElem?_append_left (by rw [cellsOf_len]; omega)]; exact (cellsOf_get C i hi).1)
      · exact cel _ _ (by rw [List.getElem?_append_left (by rw [cellsOf_len]; omega)]; exact (cellsOf_get C i hi).2)
      · exact ((HC.out.each i hi hi').below bA).grow HG5.out (fun g h => .inl h) (fun i h => by
          have : g5 = i := by simpa [Value.ownBlock] using h
          subst this
          rcases HR5.out with h | h
          · exact .inl h
          · exact .inr (by rw [h]; exact Nat.le_refl _))
      · exact cel _ _ (by rw [List.getElem?_append_right (by rw [cellsOf_len]; exact Nat.le_refl _), cellsOf_len, Nat.sub_self]; rfl)
      · exact (HB.out.trans (bA.mono HB.out.size)).grown HG5.out (by simp; omega) (fun i h => (hub i h).1)

end Go.Proofs.YtepjblmjjegpgaaGreat

namespace Go.Proofs.YtepjblmjjegpgaaGreat
open Go.RowKit
set_option maxRecDepth 100000

/-- What is wrong with the entry at a place. -/
def fL (L : List Ent) (i : Nat) : Int := match L[i]? with
  | none => 0
  | some e => if chkE e.ks.length e.vs.length ≠ 0 then chkE e.ks.length e.vs.length else if 0 < i then (match L[i - 1]? with
    | some p => if cmpI p.ks e.ks < 0 then 0 else 51
    | none => 0) else 0
theorem fL_chk {L : List Ent} {i : Nat} (h : i < L.length) (hc : chkE L[i].ks.length L[i].vs.length ≠ 0) : fL L i = chkE L[i].ks.length L[i].vs.length := by
  unfold fL; rw [List.getElem?_eq_getElem h]; simp only [if_pos hc]
theorem fL_zero {L : List Ent} (h : 0 < L.length) (hc : chkE L[0].ks.length L[0].vs.length = 0) : fL L 0 = 0 := by
  unfold fL; rw [List.getElem?_eq_getElem h]; simp only [hc]; simp
theorem fL_succ {L : List Ent} {i : Nat} (h : i < L.length) (h0 : 0 < i) (hc : chkE L[i].ks.length L[i].vs.length = 0) : fL L i = if cmpI (L[i - 1]'(by omega)).ks L[i].ks < 0 then 0 else 51 := by
  unfold fL; rw [List.getElem?_eq_getElem h, List.getElem?_eq_getElem (show i - 1 < L.length by omega)]; simp only [hc]; simp [h0]
/-- The place and the error that Sorted tells. -/
def Srt (f : Nat → Int) (l : Nat) (n : Nat) (e : Int) : Prop := ((∀ i, i < l → f i = 0) ∧ n = 0 ∧ e = 0) ∨ (n < l ∧ f n ≠ 0 ∧ e = f n ∧ ∀ i, i < n → f i = 0)
theorem Srt.one {f : Nat → Int} {l n n' : Nat} {e e' : Int} (h : Srt f l n e) (h' : Srt f l n' e') : n = n' ∧ e = e' := by
  rcases h with ⟨h1, h2, h3⟩ | ⟨h1, h2, h3, h4⟩ <;> rcases h' with ⟨k1, k2, k3⟩ | ⟨k1, k2, k3, k4⟩
  · exact ⟨h2.trans k2.symm, h3.trans k3.symm⟩
  · exact absurd (h1 _ k1) k2
  · exact absurd (k1 _ h1) h2
  · have : n = n' := by
      rcases Nat.lt_trichotomy n n' with h | h | h
      · exact absurd (k4 _ h) h2
      · exact h
      · exact absurd (h4 _ h) k2
    subst this
    exact ⟨rfl, h3.trans k3.symm⟩
theorem bdrew2 {B : Nat} {a w : World} (h : Below B a w) (n : Nat) : Below B a (w.drew.drewN n) := ⟨h.os, h.tape, h.output, h.size, h.block⟩
theorem bdrew1 {B : Nat} {a w : World} (h : Below B a w) (m : Nat) : Below B a (w.drewN m) := ⟨h.os, h.tape, h.output, h.size, h.block⟩
theorem Ens.lt {W : World} {b o : Nat} {L : List Ent} (h : Ens W b o L) (h0 : 0 < L.length) : b < W.heap.size := World.block_lt_of_cell? W ⟨b, o + 0 * 2, none⟩ (h.at0 0 h0)

set_option maxRecDepth 100000 in
set_option maxHeartbeats 3200000 in
theorem rsorted_any (a : Option Addr) (b o l c : Nat) (L : List Ent) (w : World) (hl : L.length = l) (hm : l ≤ 140737488351232) (ha : 0 < l → a = some ⟨b, o, none⟩) (hE : Ens w b o L) :
    Calls Tryz.prog 123 #[.slice a l c] w fun e w' => ∃ n r, e = .returned (.tuple #[.int .i64 (n : Nat), .int .i64 r]) ∧ Srt (fL L) l n r ∧ Below w.heap.size w w' := by
  have HE := hide (fun (W : World) (h : Below w.heap.size w W) => hE.below h)
  clear hE
  go_enter Tryz.func123, Tryz.ntmps123
  go_wp2
  go_loopw [4] (fun q wr => ∃ k : Nat, k ≤ l ∧ q = .int .i64 (k : Int) ∧ Hid (∀ i, i < k → fL L i = 0) ∧ Hid (Below w.heap.size w wr)) (fun q _ => l - (intOf q).toNat)
  case atStart => exact ⟨0, by omega, rfl, fun i hi => absurd hi (Nat.not_lt_zero i), Below.refl _ _⟩
  case round =>
    obtain ⟨k, hk, rfl, HP, HB⟩ := hrel
    by_cases hlt : k < l
    · obtain rfl := ha (by omega)
      have hkL : k < L.length := by omega
      have hen := HE.out wr HB.out
      have c0 := hen.at0 k hkL
      have c1 := hen.at1 k hkL
      have ok := hide (hen.ok k hkL)
      have hbr : b < wr.heap.size := hen.lt (by omega)
      unfold Ent.kv at c0
      unfold Ent.vv at c1
      have i1 : (k : Int) < (l : Int) := by omega
      clear hen
      have HF1 := hide (fun h => fL_chk hkL h)
      by_cases hk0 : k = 0
      · subst hk0
        have HF0 := hide (fun h => fL_zero hkL h)
        simp only [Nat.zero_mul, Nat.add_zero] at c0 c1
        generalize hen : L[0] = en at *
        clear hen
        go_wp2_with fail
        refine (rcheck_any en.ka en.va en.ks.length en.kc en.vs.length en.vc wr).mono ?_
        rintro e w2 ⟨rfl, b2⟩
        have T2 : Hid (Below w.heap.size w w2) := HB.out.trans (b2.mono HB.out.size)
        clear b2 c0 c1
        by_cases hc : chkE en.ks.length en.vs.length = 0
        · have HS : Hid (∀ i, i < 0 + 1 → fL L i = 0) := fun i hi => by rw [show i = 0 by omega]; exact HF0.out hc
          rw [hc]
          go_wp2
          go_quiet (fail)
          go_wp2
          go_roundw
          case rel => exact ⟨0 + 1, by omega, by go_num, HS, bdrew1 T2.out _⟩
          case measure => simp [intOf]; omega
        · have hne := beq_eq_false_iff_ne.2 hc
          have HS : Hid (Srt (fL L) l 0 (chkE en.ks.length en.vs.length)) := .inr ⟨by omega, by rw [HF1.out hc]; exact hc, (HF1.out hc).symm, fun i hi => absurd hi (Nat.not_lt_zero i)⟩
          generalize chkE en.ks.length en.vs.length = r at *
          clear hc
          go_wp2
          go_ret2
          exact ⟨0, r, rfl, HS.out, T2.out⟩
      · obtain ⟨j, rfl⟩ : ∃ j, k = j + 1 := ⟨k - 1, by omega⟩
        have HFS := hide (fun h => fL_succ hkL (by omega) h)
        have hjL : j < L.length := by omega
        have hen := HE.out wr HB.out
        have p0 := hen.at0 j hjL
        have okp := hide (hen.ok j hjL)
        unfold Ent.kv at p0
        clear hen
        simp only [Nat.add_sub_cancel] at HFS
        have ec : o + (j + 1) * 2 = o + j * 2 + 2 := by omega
        rw [ec] at c0 c1
        generalize hen : L[j + 1] = en at *
        generalize hpn : L[j] = pn at *
        clear hen hpn
        have i2 : (0 : Int) < ((j + 1 : Nat) : Int) := by omega
        have i3 : (j : Int) < (l : Int) := by omega
        have i4 : (j : Int) + 1 < (l : Int) := by omega
        have i5 : (0 : Int) < (j : Int) + 1 := by omega
        have i6 : (0 : Int) ≤ (j : Int) + 1 := by omega
        have i7 : (0 : Int) ≤ (j : Int) := by omega
        have hw1 : IntKind.i64.wrap ((j : Int) + 1 - 1) = (j : Int) := by rw [IntKind.wrap_i64]; omega
        have hw2 : IntKind.i64.wrap (((j + 1 : Nat) : Int) - 1) = (j : Int) := by rw [IntKind.wrap_i64]; omega
        have hw3 : IntKind.i64.wrap (j : Int) = (j : Int) := by rw [IntKind.wrap_i64]; omega
        go_wp2_with fail
        refine (rcheck_any en.ka en.va en.ks.length en.kc en.vs.length en.vc wr).mono ?_
        rintro e w2 ⟨rfl, b2⟩
        have T2 : Hid (Below w.heap.size w w2) := HB.out.trans (b2.mono HB.out.size)
        have z2 := b2.size
        have d0 := (b2.cell (p := ⟨b, o + j * 2 + 2, none⟩) hbr).trans c0
        have q0 := (b2.cell (p := ⟨b, o + j * 2, none⟩) hbr).trans p0
        have OK2 := hide (ok.out.below b2)
        have OKP := hide (okp.out.below b2)
        clear b2 c0 c1 p0 ok okp
        by_cases hc : chkE en.ks.length en.vs.length = 0
        · have HFC : Hid (fL L (j + 1) = if cmpI pn.ks en.ks < 0 then 0 else 51) := HFS.out hc
          have RC : Hid (Calls Tryz.prog 55 #[.slice pn.ka pn.ks.length pn.kc, .slice en.ka en.ks.length en.kc] w2.drew fun e w' => e = .returned (.int .i64 (cmpI pn.ks en.ks)) ∧ Below w2.heap.size w2 w') := (rcompare_any pn.ka en.ka pn.ks.length pn.kc en.ks.length en.kc pn.ks en.ks w2.drew (by have := OKP.out.zk; unfold maxLen; omega) (by have := OK2.out.zk; unfold maxLen; omega) rfl rfl (show Row w2 .u8 _ _ from OKP.out.k) (show Row w2 .u8 _ _ from OK2.out.k)).mono fun e w' ⟨h1, m, h2⟩ => ⟨h1, by subst h2; exact bdrew2 (Below.refl _ _) _⟩
          rw [hc]
          by_cases hcm : cmpI pn.ks en.ks < 0
          · have hge : ¬ (0 : Int) ≤ cmpI pn.ks en.ks := by omega
            generalize cmpI pn.ks en.ks = cm at *
            go_wp2_with fail
            go_region_held3 (fun W => W.cell? ⟨b, o + j * 2, none⟩ = some (.slice pn.ka pn.ks.length pn.kc) ∧ W.cell? ⟨b, o + j * 2 + 2, none⟩ = some (.slice en.ka en.ks.length en.kc)) (go_keep) (first
              | (go_at_call 55; (refine RC.out.mono ?_; rintro e w3 ⟨rfl, hw3⟩; have B3 : Hid (Below w2.heap.size w2 w3) := hw3; have f0 := (B3.out.cell (p := ⟨b, o + j * 2, none⟩) (Nat.lt_of_lt_of_le hbr z2)).trans q0; have f1 := (B3.out.cell (p := ⟨b, o + j * 2 + 2, none⟩) (Nat.lt_of_lt_of_le hbr z2)).trans d0; clear hw3))
              | fail)
            have T3 : Hid (Below w.heap.size w w3) := T2.out.trans (B3.out.mono T2.out.size)
            have HS : Hid (∀ i, i < j + 1 + 1 → fL L i = 0) := fun i hi => by
              by_cases h : i < j + 1
              · exact HP.out i h
              · rw [show i = j + 1 by omega, HFC.out, if_pos hcm]
            clear f0 f1 d0 q0
            go_wp2
            go_roundw
            case rel => exact ⟨j + 1 + 1, by omega, by go_num, HS, T3⟩
            case measure => simp [intOf]; omega
          · have hge : (0 : Int) ≤ cmpI pn.ks en.ks := by omega
            generalize cmpI pn.ks en.ks = cm at *
            go_wp2_with fail
            go_region_held3 (fun W => W.cell? ⟨b, o + j * 2, none⟩ = some (.slice pn.ka pn.ks.length pn.kc) ∧ W.cell? ⟨b, o + j * 2 + 2, none⟩ = some (.slice en.ka en.ks.length en.kc)) (go_keep) (first
              | (go_at_call 55; (refine RC.out.mono ?_; rintro e w3 ⟨rfl, hw3⟩; have B3 : Hid (Below w2.heap.size w2 w3) := hw3; have f0 := (B3.out.cell (p := ⟨b, o + j * 2, none⟩) (Nat.lt_of_lt_of_le hbr z2)).trans q0; have f1 := (B3.out.cell (p := ⟨b, o + j * 2 + 2, none⟩) (Nat.lt_of_lt_of_le hbr z2)).trans d0; clear hw3))
              | fail)
            have T3 : Hid (Below w.heap.size w w3) := T2.out.trans (B3.out.mono T2.out.size)
            have HS : Hid (Srt (fL L) l (j + 1) 51) := .inr ⟨by omega, by rw [HFC.out, if_neg (show ¬ cm < 0 by omega)]; omega, by rw [HFC.out, if_neg (show ¬ cm < 0 by omega)], HP.out⟩
            clear f0 f1 d0 q0
            go_wp2
            go_ret2
            exact ⟨j + 1, 51, rfl, HS.out, T3.out⟩
        · have hne := beq_eq_false_iff_ne.2 hc
          have HS : Hid (Srt (fL L) l (j + 1) (chkE en.ks.length en.vs.length)) := .inr ⟨by omega, by rw [HF1.out hc]; exact hc, (HF1.out hc).symm, HP.out⟩
          generalize chkE en.ks.length en.vs.length = r at *
          clear hc
          go_wp2
          go_ret2
          exact ⟨j + 1, r, rfl, HS.out, T2.out⟩
    · have i1 : ¬ (k : Int) < (l : Int) := by omega
      have HS : Hid (Srt (fL L) l 0 0) := .inl ⟨fun i hi => HP.out i (by omega), rfl, rfl⟩
      go_wp2
      go_ret2
      exact ⟨0, 0, rfl, HS.out, HB.out⟩

end Go.Proofs.YtepjblmjjegpgaaGreat

namespace Go.Proofs.YtepjblmjjegpgaaGreat
open Go.RowKit
set_option maxRecDepth 100000

end Go.Proofs.YtepjblmjjegpgaaGreat
