/- The document's Copy of entries. -/
import Derived.Test.YthloaabdlciefaaG28
import Derived.Deep.AppendLies
import Derived.Deep.RegionHeld3
import Derived.BigRegion
import Derived.Handy
namespace Go.Proofs.Ythloaabdlciefaa
open Go.RowKit

theorem infoE : (Try.prog.info? 25).map (fun i => (i.zero, i.size, i.bytes)) = some (some (.agg #[.slice none 0 0, .slice none 0 0]), 2, 48) := by kernel_rfl
def cellsOf (C : List Ent) : List Value := C.flatMap fun e => [e.kv, e.vv]
theorem cellsOf_nil : cellsOf [] = [] := rfl
theorem cellsOf_cons (e : Ent) (C : List Ent) : cellsOf (e :: C) = e.kv :: e.vv :: cellsOf C := rfl
theorem cellsOf_app (C D : List Ent) : cellsOf (C ++ D) = cellsOf C ++ cellsOf D := by simp [cellsOf]
theorem cellsOf_len : ∀ C : List Ent, (cellsOf C).length = C.length * 2
  | [] => rfl
  | e :: C => by rw [cellsOf_cons, List.length_cons, List.length_cons, cellsOf_len C, List.length_cons]; omega
theorem cellsOf_get : ∀ (C : List Ent) (i : Nat) (h : i < C.length), (cellsOf C)[i * 2]? = some C[i].kv ∧ (cellsOf C)[i * 2 + 1]? = some C[i].vv
  | [], i, h => by simp at h
  | e :: C, 0, h => by rw [cellsOf_cons]; exact ⟨rfl, rfl⟩
  | e :: C, i + 1, h => by
    rw [cellsOf_cons, show (i + 1) * 2 = i * 2 + 1 + 1 by omega, show i * 2 + 1 + 1 + 1 = (i * 2 + 1) + 1 + 1 by omega]
    simp only [List.getElem?_cons_succ, List.getElem_cons_succ]
    exact cellsOf_get C i (by simpa using h)
theorem owns2_slice {w : World} {base : Nat} {e : TypeId} {v : Value} {n : Nat} {xs : List Value} (h : w.ownsRow base e 2 v n xs) (hn : 0 < n) : ∃ g cap, v = .slice (some ⟨g, 0, none⟩) n cap ∧ base ≤ g ∧ n ≤ cap ∧ g < w.heap.size := by
  rcases h.2 with ⟨_, h0⟩ | ⟨g, cap, cur, hv, hb, hh, h1, _⟩
  · omega
  · exact ⟨g, cap, hv, hb, h1, lt_of_block hh⟩

theorem cap2 {w : World} {base n cap : Nat} {e : TypeId} {a : Option Addr} {xs : List Value} (h : w.ownsRow base e 2 (.slice a n cap) n xs) : n ≤ cap := by
  rcases h.2 with ⟨h, h0⟩ | ⟨g, c, cur, hv, hb, hh, h1, _⟩
  · omega
  · cases hv; exact h1

/-- A copy of an entry, and the marks behind it. -/
structure Cp1 (W : World) (N : Nat) (v : Value) (c e : Ent) : Prop where
  ks : c.ks = e.ks
  vs : c.vs = e.vs
  kc : c.kc = e.ks.length + 1
  vc : c.vc = e.vs.length + 1
  k : ∃ g, c.ka = some ⟨g, 0, none⟩ ∧ Mkd W g e.ks ∧ N ≤ g ∧ v.ownBlock ≠ some g
  v : ∃ g, c.va = some ⟨g, 0, none⟩ ∧ Mkd W g e.vs ∧ N ≤ g ∧ v.ownBlock ≠ some g
structure Cpy (W : World) (N : Nat) (v : Value) (C L : List Ent) : Prop where
  own : W.ownsRow N 25 2 v C.length (cellsOf C)
  le : C.length ≤ L.length
  each : ∀ i (h : i < C.length) (h' : i < L.length), Cp1 W N v C[i] L[i]

theorem Cp1.grow {W W' : World} {N : Nat} {v v' : Value} {c e : Ent} {row : Option Nat} (h : Cp1 W N v c e) (hg : W.grownBy W' row) (hr : ∀ g, row = some g → v.ownBlock = some g ∨ W.heap.size ≤ g) (hv : ∀ g, v'.ownBlock = some g → v.ownBlock = some g ∨ W.heap.size ≤ g) : Cp1 W' N v' c e := by
  obtain ⟨gk, a1, a2, a3, a4⟩ := h.k
  obtain ⟨gv, b1, b2, b3, b4⟩ := h.v
  have l1 := a2.lt
  have l2 := b2.lt
  refine ⟨h.ks, h.vs, h.kc, h.vc, ⟨gk, a1, a2.kept hg (fun e => ?_), a3, fun e => ?_⟩, ⟨gv, b1, b2.kept hg (fun e => ?_), b3, fun e => ?_⟩⟩
  · rcases hr gk e.symm with h | h
    · exact a4 h
    · omega
  · rcases hv gk e with h | h
    · exact a4 h
    · omega
  · rcases hr gv e.symm with h | h
    · exact b4 h
    · omega
  · rcases hv gv e with h | h
    · exact b4 h
    · omega
theorem Cp1.below {W W' : World} {N : Nat} {v : Value} {c e : Ent} (h : Cp1 W N v c e) (hb : Below W.heap.size W W') : Cp1 W' N v c e := by
  obtain ⟨gk, a1, a2, a3, a4⟩ := h.k
  obtain ⟨gv, b1, b2, b3, b4⟩ := h.v
  exact ⟨h.ks, h.vs, h.kc, h.vc, ⟨gk, a1, a2.below hb a2.lt, a3, a4⟩, ⟨gv, b1, b2.below hb b2.lt, b3, b4⟩⟩
theorem owns2_below {w w' : World} {base : Nat} {e : TypeId} {v : Value} {n : Nat} {xs : List Value} (h : w.ownsRow base e 2 v n xs) (hb : Below w.heap.size w w') : w'.ownsRow base e 2 v n xs := by
  refine ⟨h.1, ?_⟩
  rcases h.2 with h | ⟨g, cap, cur, hv, hg, hh, r⟩
  · exact .inl h
  · exact .inr ⟨g, cap, cur, hv, hg, by rw [hb.block g (lt_of_block hh)]; exact hh, r⟩
theorem two_new (w : World) (x y : Value) (T : TypeId) : ∀ j u, [x, y][j]? = some u → (w.alloc (.cells #[x, y] T)).cell? ((⟨w.heap.size, 0, none⟩ : Addr).add j) = some u := by
  intro j u hu
  rw [Addr.add_lit, Nat.zero_add, cell_of_row _ _ _ _ _ _ (heap_alloc_new w _)]
  match j, hu with
  | 0, hu => simpa using hu
  | 1, hu => simpa using hu

/-- What Copy hands back: the entries' copies, their marks, and the mark behind them all. -/
structure Cpd (W : World) (N g : Nat) (C L : List Ent) : Prop where
  len : C.length = L.length
  at0 : ∀ i (h : i < C.length), W.cell? ⟨g, i * 2, none⟩ = some C[i].kv
  at1 : ∀ i (h : i < C.length), W.cell? ⟨g, i * 2 + 1, none⟩ = some C[i].vv
  each : ∀ i (h : i < C.length) (h' : i < L.length), Cp1 W N (.slice (some ⟨g, 0, none⟩) 0 0) C[i] L[i]
  gN : N ≤ g
  mark : ∃ m, W.cell? ⟨g, C.length * 2, none⟩ = some (.slice (some ⟨m, 0, none⟩) 1 1)

set_option maxRecDepth 100000 in
set_option maxHeartbeats 3200000 in
theorem copy_any (a : Option Addr) (b o l c : Nat) (L : List Ent) (w : World) (hl : L.length = l) (hm : l * 48 ≤ 140737488351232) (ha : 0 < l → a = some ⟨b, o, none⟩) (hE : Ens w b o L) (hb : 0 < l → b < w.heap.size) :
    Calls Try.prog 14 #[.slice a l c] w fun e w' => ∃ g cap C, e = .returned (.slice (some ⟨g, 0, none⟩) l cap) ∧ Cpd w' w.heap.size g C L ∧ l + 1 ≤ cap ∧ Below w.heap.size w w' := by
  obtain ⟨i0, hi, hz0, hz1, hz2⟩ := info_parts infoE
  have HE := hide (fun (W : World) (h : Below w.heap.size w W) => hE.below h)
  clear hE
  go_enter Try.func14, Try.ntmps14
  go_wp2_with (first
    | (at_make; refine wpList_make_own _ rfl _ _ 26 rfl w.heap.size 25 i0 (.agg #[.slice none 0 0, .slice none 0 0]) 2 Try.underlying26 hi hz0 hz1 .i64 .i64 _ (l + 1) rfl rfl (by omega) (by rw [hz2]; omega) (by unfold maxLen; omega) (Nat.le_refl _) ?_; intro w1 hown1 hg1)
    | fail)
  have s1 := hg1.size
  have b1 : Below w.heap.size w w1 := (Below.refl _ _).grown hg1 (Nat.le_refl _) (fun k h => by cases h)
  go_loopw [3, 4] (fun q i wr => ∃ (v : Value) (C : List Ent), q = v ∧ i = .int .i64 (C.length : Nat) ∧ Hid (Cpy wr w.heap.size v C L) ∧ Hid (Below w.heap.size w wr)) (fun _ i _ => l - (intOf i).toNat)
  case atStart => exact ⟨_, [], rfl, rfl, ⟨hown1, Nat.zero_le _, fun i h => by simp at h⟩, b1⟩
  case round =>
    obtain ⟨v, C, rfl, rfl, HC, HB⟩ := hrel
    clear hown1 hg1 s1 b1
    have hle := HC.out.le
    have sr := HB.out.size
    by_cases hlt : C.length < l
    · obtain rfl := ha (by omega)
      replace hb := hb (by omega)
      have hlL : C.length < L.length := by omega
      have hen := HE.out wr HB.out
      have c0 := hen.at0 C.length hlL
      have c1 := hen.at1 C.length hlL
      have hok := hen.ok C.length hlL
      generalize hee : L[C.length] = en at *
      have HEE := hide hee
      have OK := hide hok
      have i1 : ((C.length : Nat) : Int) < (l : Int) := by omega
      have hbr : b < wr.heap.size := by omega
      unfold Ent.kv at c0
      unfold Ent.vv at c1
      clear hen hok hee
      generalize hcl : C.length = k at *
      have HCL := hide hcl
      clear hcl
      have HOW : Hid (∀ W, Below wr.heap.size wr W → W.ownsRow w.heap.size 25 2 u3 k (cellsOf C)) := fun W h => by have := owns2_below HC.out.own h; rwa [HCL.out] at this
      have HNE : Hid (some b ≠ u3.ownBlock) := fun e => by have := (HC.out.own.lt b e.symm).1; omega
      go_wp2_with fail
      go_region_held3 (fun W => W.cell? ⟨b, o + k * 2, none⟩ = some (.slice en.ka en.ks.length en.kc) ∧ W.cell? ⟨b, o + k * 2 + 1, none⟩ = some (.slice en.va en.vs.length en.vc)) (go_keep) (first
        | (refine step_append_lies _ rfl (.tmp 15) (.tmp 29) 26 rfl w.heap.size 25 i0 (.agg #[.slice none 0 0, .slice none 0 0]) 2 48 Try.underlying26 hi hz0 hz1 hz2 rfl (by decide) u3 k (cellsOf C) (by simp [Act.eval]) (HOW.out _ (BW.out.alloc (by have := BW.out.size; omega) _)) ⟨w3.heap.size, 0, none⟩ 1 1 [.slice (some ⟨wr.heap.size, 0, none⟩) en.ks.length (en.ks.length + 1), .slice (some ⟨w2.heap.size, 0, none⟩) en.vs.length (en.vs.length + 1)] (by simp [Act.eval]) rfl (two_new _ _ _ _) (by intro u hu; simp at hu; rcases hu with rfl | rfl <;> rfl) (by omega) (by unfold maxLen; omega) (by omega) (by have := BW.out.size; simp; omega) _ rfl ?_; intro g5 cap5 w5 hown5 hg5 hor5 hlt5; have q0 := hg5.cell (HCE.out _ f0) HNE.out; have q1 := hg5.cell (HCE.out _ f1) HNE.out; have HO5 := hide hown5; have HG5 := hide hg5; have HR5 := hide hor5; clear hown5 hg5 hor5)
        | (go_at_call 41; refine (marked_any en.va en.vs.length en.vc en.vs w2 rfl OK.out.zv OK.out.nv (OK.out.v.below2 B2.out)).mono ?_; rintro e w3 ⟨rfl, m3, b3⟩; have hb2 := B2.out.size; have f0 := (b3.cell (p := ⟨b, o + k * 2, none⟩) (Nat.lt_of_lt_of_le hbr hb2)).trans d0; have f1 := (b3.cell (p := ⟨b, o + k * 2 + 1, none⟩) (Nat.lt_of_lt_of_le hbr hb2)).trans d1; have M3 := hide m3; have B3 : Hid (Below w2.heap.size w2 w3) := b3; have BW : Hid (Below wr.heap.size wr w3) := B2.out.trans (b3.mono B2.out.size); have HCE : Hid (∀ (j : Nat) {x : Value}, w3.cell? ⟨b, j, none⟩ = some x → (w3.alloc (.cells #[.slice (some ⟨wr.heap.size, 0, none⟩) en.ks.length (en.ks.length + 1), .slice (some ⟨w2.heap.size, 0, none⟩) en.vs.length (en.vs.length + 1)] 25)).cell? ⟨b, j, none⟩ = some x) := fun j x h => (((Below.refl w3.heap.size w3).alloc (Nat.le_refl _) _).cell (p := ⟨b, j, none⟩) (World.block_lt_of_cell? w3 ⟨b, j, none⟩ h)).trans h; clear m3 b3)
        | (go_at_call 41; refine (marked_any en.ka en.ks.length en.kc en.ks wr.drew rfl OK.out.zk OK.out.nk (show Row wr.drew .u8 en.ka en.ks from OK.out.k)).mono ?_; rintro e w2 ⟨rfl, m2, b2⟩; have d0 := (b2.cell (p := ⟨b, o + k * 2, none⟩) hbr).trans c0; have d1 := (b2.cell (p := ⟨b, o + k * 2 + 1, none⟩) hbr).trans c1; have M2 := hide m2; have B2 : Hid (Below wr.heap.size wr w2) := ⟨b2.os, b2.tape, b2.output, b2.size, b2.block⟩; clear m2 b2)
        | fail)
      have hs2 := B2.out.size
      have hs3 := B3.out.size
      have bA : Below wr.heap.size wr (w3.alloc (.cells #[.slice (some ⟨wr.heap.size, 0, none⟩) en.ks.length (en.ks.length + 1), .slice (some ⟨w2.heap.size, 0, none⟩) en.vs.length (en.vs.length + 1)] 25)) := BW.out.alloc (by omega) _
      have mk2 : Mkd w2 wr.heap.size en.ks := M2.out
      have mkA : Mkd (w3.alloc (.cells #[.slice (some ⟨wr.heap.size, 0, none⟩) en.ks.length (en.ks.length + 1), .slice (some ⟨w2.heap.size, 0, none⟩) en.vs.length (en.vs.length + 1)] 25)) wr.heap.size en.ks := (mk2.below B3.out mk2.lt).below ((Below.refl w3.heap.size w3).alloc (Nat.le_refl _) _) (by have := mk2.lt; omega)
      have mv3 : Mkd w3 w2.heap.size en.vs := M3.out
      have mvA : Mkd (w3.alloc (.cells #[.slice (some ⟨wr.heap.size, 0, none⟩) en.ks.length (en.ks.length + 1), .slice (some ⟨w2.heap.size, 0, none⟩) en.vs.length (en.vs.length + 1)] 25)) w2.heap.size en.vs := mv3.below ((Below.refl w3.heap.size w3).alloc (Nat.le_refl _) _) mv3.lt
      have hub : ∀ i, u3.ownBlock = some i → w.heap.size ≤ i ∧ i < wr.heap.size := fun i h => HC.out.own.lt i h
      have hk2 := mk2.lt
      have hv3 := mv3.lt
      have t5 : Below w.heap.size w w5 := (HB.out.trans (bA.mono HB.out.size)).grown HG5.out (by simp; omega) (fun i h => (hub i h).1)
      have hg5b : ∀ i, (Value.slice (some ⟨g5, 0, none⟩) (k + 1) cap5).ownBlock = some i → u3.ownBlock = some i ∨ (w3.alloc (.cells #[.slice (some ⟨wr.heap.size, 0, none⟩) en.ks.length (en.ks.length + 1), .slice (some ⟨w2.heap.size, 0, none⟩) en.vs.length (en.vs.length + 1)] 25)).heap.size ≤ i := fun i h => by
        have : g5 = i := by simpa [Value.ownBlock] using h
        subst this
        rcases HR5.out with h | h
        · exact .inl h
        · exact .inr (by rw [h]; exact Nat.le_refl _)
      have HNEW : Hid (Cpy w5 w.heap.size (.slice (some ⟨g5, 0, none⟩) (k + 1) cap5) (C ++ [⟨some ⟨wr.heap.size, 0, none⟩, en.ks.length + 1, en.ks, some ⟨w2.heap.size, 0, none⟩, en.vs.length + 1, en.vs⟩]) L) := by
        have hcl := HCL.out
        refine ⟨?_, by simp; omega, fun i hi hi' => ?_⟩
        · rw [List.length_append, List.length_singleton, hcl, cellsOf_app]; exact HO5.out
        · by_cases hik : i < C.length
          · rw [List.getElem_append_left hik]
            exact ((HC.out.each i hik hi').below bA).grow HG5.out (fun g h => .inl h) hg5b
          · have hie : i = C.length := by rw [List.length_append, List.length_singleton] at hi; omega
            subst hie
            rw [List.getElem_append_right (Nat.le_refl _)]
            simp only [Nat.sub_self, List.getElem_cons_zero]
            have hLe : L[C.length] = en := by have := HEE.out; simp only [hcl]; exact this
            rw [hLe]
            refine ⟨rfl, rfl, rfl, rfl, ⟨wr.heap.size, rfl, mkA.kept HG5.out (fun e => ?_), sr, fun e => ?_⟩, ⟨w2.heap.size, rfl, mvA.kept HG5.out (fun e => ?_), by omega, fun e => ?_⟩⟩
            · have := hub _ e.symm; omega
            · rcases hg5b _ e with h | h
              · have := hub _ h; omega
              · simp at h; omega
            · have := hub _ e.symm; omega
            · rcases hg5b _ e with h | h
              · have := hub _ h; omega
              · simp at h; omega
      have T5 := hide t5
      clear mkA mvA mk2 mv3 hub hg5b bA t5 q0 q1 d0 d1 f0 f1
      go_wp2_with fail
      go_roundw
      case rel => exact ⟨_, _, rfl, by rw [List.length_append, List.length_singleton, HCL.out]; go_num, HNEW, T5⟩
      case measure => simp [intOf]; omega
    · have HCL : Hid (C.length = l) := by show _ = _; omega
      have i1 : ¬ ((C.length : Nat) : Int) < (l : Int) := by omega
      have HOW : Hid (∀ W, Below wr.heap.size wr W → W.ownsRow w.heap.size 25 2 u3 l (cellsOf C)) := fun W h => by have := owns2_below HC.out.own h; rwa [HCL.out] at this
      go_wp2_with (first
        | (at_builtin; (refine wpList_append_lies _ rfl (.tmp 31) (.tmp 34) 26 rfl w.heap.size 25 i0 (.agg #[.slice none 0 0, .slice none 0 0]) 2 48 Try.underlying26 hi hz0 hz1 hz2 rfl (by decide) u3 l (cellsOf C) (by simp [Act.eval]) (HOW.out _ (((Below.refl _ _).alloc (Nat.le_refl _) _).alloc (by simp) _)) ⟨(wr.alloc (.cells #[.int .u8 77] 5)).heap.size, 0, none⟩ 1 1 [.slice (some ⟨wr.heap.size, 0, none⟩) 1 1, .slice none 0 0] (by simp [Act.eval]) rfl (two_new _ _ _ _) (by intro u hu; simp at hu; rcases hu with rfl | rfl <;> rfl) (by omega) (by unfold maxLen; omega) (by omega) (Nat.le_trans sr (by simp <;> omega)) _ rfl ?_; intro g5 cap5 w5 hown5 hg5 hor5 hlt5; have HO5 := hide hown5; have HG5 := hide hg5; have HR5 := hide hor5; have hcp := (cap2 hown5); clear hown5 hg5 hor5))
        | fail)
      go_ret
      have hC := HCL.out
      have bA : Below wr.heap.size wr ((wr.alloc (.cells #[.int .u8 77] 5)).alloc (.cells #[.slice (some ⟨wr.heap.size, 0, none⟩) 1 1, .slice none 0 0] 25)) := ((Below.refl _ _).alloc (Nat.le_refl _) _).alloc (by simp) _
      have hub : ∀ i, u3.ownBlock = some i → w.heap.size ≤ i ∧ i < wr.heap.size := fun i h => HC.out.own.lt i h
      have cel : ∀ j u, (cellsOf C ++ [.slice (some ⟨wr.heap.size, 0, none⟩) 1 1, .slice none 0 0])[j]? = some u → w5.cell? ⟨g5, j, none⟩ = some u := fun j u hu => by
        have := HO5.out.cells (g := g5) rfl j u hu
        rwa [Addr.add_lit, Nat.zero_add] at this
      have hg5 : w.heap.size ≤ g5 := by
        rcases HR5.out with h | h
        · exact (hub _ h).1
        · rw [h]; simp; omega
      refine ⟨g5, cap5, rfl, ⟨C, by omega, fun i hi => ?_, fun i hi => ?_, fun i hi hi' => ?_, hg5, wr.heap.size, ?_⟩, hcp, ?_⟩
      · exact cel _ _ (by rw [List.getElem?_append_left (by rw [cellsOf_len]; omega)]; exact (cellsOf_get C i hi).1)
      · exact cel _ _ (by rw [List.getElem?_append_left (by rw [cellsOf_len]; omega)]; exact (cellsOf_get C i hi).2)
      · exact ((HC.out.each i hi hi').below bA).grow HG5.out (fun g h => .inl h) (fun i h => by
          have : g5 = i := by simpa [Value.ownBlock] using h
          subst this
          rcases HR5.out with h | h
          · exact .inl h
          · exact .inr (by rw [h]; exact Nat.le_refl _))
      · exact cel _ _ (by rw [List.getElem?_append_right (by rw [cellsOf_len]; exact Nat.le_refl _), cellsOf_len, Nat.sub_self]; rfl)
      · exact (HB.out.trans (bA.mono HB.out.size)).grown HG5.out (by simp; omega) (fun i h => (hub i h).1)

end Go.Proofs.Ythloaabdlciefaa
