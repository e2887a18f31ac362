/- The law's rows: copies of rows, with marks behind. -/
import Derived.Test.YtlachimmfjagbaaFSpan
import Derived.Test.YtlachimmfjagbaaFPure
import Derived.Test.YtlachimmfjagbaaLent
import Derived.Deep.AppendLies
import Derived.Deep.RegionHeld3
import Derived.BigRegion
import Derived.Handy
namespace Go.Proofs.Ytlachimmfjagbaa
open Go.RowKit

theorem infoS : (Try.prog.info? 33).map (fun i => (i.zero, i.size, i.bytes)) = some (some (.agg #[.slice none 0 0, .int .i64 0, .int .i64 0, .int .i64 0]), 4, 48) := by kernel_rfl
def cells4 (C : List Spn) : List Value := C.flatMap fun e => [e.kv, .int .i64 e.pl, .int .i64 e.ln, .int .i64 e.n]
theorem cells4_cons (e : Spn) (C : List Spn) : cells4 (e :: C) = e.kv :: .int .i64 e.pl :: .int .i64 e.ln :: .int .i64 e.n :: cells4 C := rfl
theorem cells4_app (C D : List Spn) : cells4 (C ++ D) = cells4 C ++ cells4 D := by simp [cells4]
theorem cells4_len : ∀ C : List Spn, (cells4 C).length = C.length * 4
  | [] => rfl
  | e :: C => by rw [cells4_cons, List.length_cons, List.length_cons, List.length_cons, List.length_cons, cells4_len C, List.length_cons]; omega
theorem cells4_get : ∀ (C : List Spn) (i : Nat) (h : i < C.length), (cells4 C)[i * 4]? = some C[i].kv ∧ (cells4 C)[i * 4 + 1]? = some (.int .i64 C[i].pl) ∧ (cells4 C)[i * 4 + 2]? = some (.int .i64 C[i].ln) ∧ (cells4 C)[i * 4 + 3]? = some (.int .i64 C[i].n)
  | [], i, h => by simp at h
  | e :: C, 0, h => by rw [cells4_cons]; exact ⟨rfl, rfl, rfl, rfl⟩
  | e :: C, i + 1, h => by
    rw [cells4_cons, show (i + 1) * 4 = i * 4 + 1 + 1 + 1 + 1 by omega, show i * 4 + 1 + 1 + 1 + 1 + 1 = (i * 4 + 1) + 1 + 1 + 1 + 1 by omega, show i * 4 + 1 + 1 + 1 + 1 + 2 = (i * 4 + 2) + 1 + 1 + 1 + 1 by omega, show i * 4 + 1 + 1 + 1 + 1 + 3 = (i * 4 + 3) + 1 + 1 + 1 + 1 by omega]
    simp only [List.getElem?_cons_succ, List.getElem_cons_succ]
    exact cells4_get C i (by simpa using h)
theorem cap4 {w : World} {base n cap : Nat} {e : TypeId} {a : Option Addr} {xs : List Value} (h : w.ownsRow base e 4 (.slice a n cap) n xs) : n ≤ cap := by
  rcases h.2 with ⟨h, h0⟩ | ⟨g, c, cur, hv, hb, hh, h1, _⟩
  · omega
  · cases hv; exact h1
theorem Lent.kept {w w' : World} {g : Nat} {zs : List Int} {row : Option Nat} (h : Lent w g zs) (hg : w.grownBy w' row) (hne : some g ≠ row) : Lent w' g zs := fun i hi => hg.cell (h i hi) hne

/-- A copy of a row. -/
structure Rw1 (W : World) (N : Nat) (v : Value) (c e : Spn) : Prop where
  row : c.row = e.row
  kc : c.kc = e.ks.length + 2
  k : ∃ g, c.ka = some ⟨g, 0, none⟩ ∧ Lent W g e.ks ∧ N ≤ g ∧ v.ownBlock ≠ some g
structure Rwy (W : World) (N : Nat) (v : Value) (C L : List Spn) : Prop where
  own : W.ownsRow N 33 4 v C.length (cells4 C)
  le : C.length ≤ L.length
  each : ∀ i (h : i < C.length) (h' : i < L.length), Rw1 W N v C[i] L[i]
theorem Rw1.grow {W W' : World} {N : Nat} {v v' : Value} {c e : Spn} {row : Option Nat} (h : Rw1 W N v c e) (hg : W.grownBy W' row) (hr : ∀ g, row = some g → v.ownBlock = some g ∨ W.heap.size ≤ g) (hv : ∀ g, v'.ownBlock = some g → v.ownBlock = some g ∨ W.heap.size ≤ g) : Rw1 W' N v' c e := by
  obtain ⟨gk, a1, a2, a3, a4⟩ := h.k
  have l1 := a2.lt
  refine ⟨h.row, h.kc, ⟨gk, a1, a2.kept hg (fun e => ?_), a3, fun e => ?_⟩⟩
  · rcases hr gk e.symm with h | h
    · exact a4 h
    · omega
  · rcases hv gk e with h | h
    · exact a4 h
    · omega
theorem Rw1.below {W W' : World} {N : Nat} {v : Value} {c e : Spn} (h : Rw1 W N v c e) (hb : Below W.heap.size W W') : Rw1 W' N v c e := by
  obtain ⟨gk, a1, a2, a3, a4⟩ := h.k
  exact ⟨h.row, h.kc, ⟨gk, a1, a2.below hb a2.lt, a3, a4⟩⟩
theorem owns4_below {w w' : World} {base : Nat} {e : TypeId} {v : Value} {n : Nat} {xs : List Value} (h : w.ownsRow base e 4 v n xs) (hb : Below w.heap.size w w') : w'.ownsRow base e 4 v n xs := by
  refine ⟨h.1, ?_⟩
  rcases h.2 with h | ⟨g, cap, cur, hv, hg, hh, r⟩
  · exact .inl h
  · exact .inr ⟨g, cap, cur, hv, hg, by rw [hb.block g (lt_of_block hh)]; exact hh, r⟩
theorem four_new (w : World) (x y z t : Value) (T : TypeId) : ∀ j u, [x, y, z, t][j]? = some u → (w.alloc (.cells #[x, y, z, t] T)).cell? ((⟨w.heap.size, 0, none⟩ : Addr).add j) = some u := by
  intro j u hu
  rw [Addr.add_lit, Nat.zero_add, cell_of_row _ _ _ _ _ _ (heap_alloc_new w _)]
  match j, hu with
  | 0, hu => simpa using hu
  | 1, hu => simpa using hu
  | 2, hu => simpa using hu
  | 3, hu => simpa using hu

/-- What rows hands back. -/
structure Rwd (W : World) (N g : Nat) (C L : List Spn) : Prop where
  len : C.length = L.length
  c : ∀ i (h : i < C.length), Sp4 W g (i * 4) C[i]
  each : ∀ i (h : i < C.length) (h' : i < L.length), Rw1 W N (.slice (some ⟨g, 0, none⟩) 0 0) C[i] L[i]
  gN : N ≤ g
  mark : W.cell? ⟨g, C.length * 4 + 1, none⟩ = some (.int .i64 77)
theorem Rwd.below {W W' : World} {N g : Nat} {C L : List Spn} (h : Rwd W N g C L) (hb : Below W.heap.size W W') : Rwd W' N g C L :=
  ⟨h.len, fun i hi => (h.c i hi).below hb, fun i hi hi' => (h.each i hi hi').below hb, h.gN, (hb.cell (p := ⟨g, C.length * 4 + 1, none⟩) (World.block_lt_of_cell? W ⟨g, C.length * 4 + 1, none⟩ h.mark)).trans h.mark⟩
theorem Rwd.rws {W : World} {N g : Nat} {C L : List Spn} (h : Rwd W N g C L) : rws C = Go.Proofs.Ytlachimmfjagbaa.rws L := by
  unfold Go.Proofs.Ytlachimmfjagbaa.rws
  apply List.ext_getElem
  · simp [h.len]
  · intro i h1 h2
    simp only [List.getElem_map]
    exact (h.each i (by simpa using h1) (by simpa using h2)).row
theorem Rwd.sps {W W0 : World} {N g : Nat} {C L : List Spn} (h : Rwd W N g C L) (ok : ∀ i (h : i < L.length), L[i].Ok W0) : Sps W g 0 C := by
  refine ⟨fun i hi => by rw [Nat.zero_add]; exact h.c i hi, fun i hi => ?_⟩
  have hi' : i < L.length := by have := h.len; omega
  have e := h.each i hi hi'
  have k := ok i hi'
  obtain ⟨gk, a1, a2, _, _⟩ := e.k
  have hr := e.row
  unfold Spn.row at hr
  simp only [FRow.mk.injEq] at hr
  obtain ⟨r1, r2, r3, r4⟩ := hr
  refine ⟨?_, fun h => ?_, ?_, ?_, ?_, ?_, ?_, ?_⟩
  · rw [a1, r1]; exact a2.row
  · rw [a1] at h; cases h
  · rw [r1, e.kc]; omega
  · rw [r1]; exact k.k8
  · rw [r1]; exact k.zk
  · rw [r2]; exact k.rp
  · rw [r3]; exact k.rl
  · rw [r4]; exact k.rn

set_option maxRecDepth 100000 in
set_option maxHeartbeats 3200000 in
theorem rows_any (a : Option Addr) (b o l c : Nat) (L : List Spn) (w : World) (hl : L.length = l) (hm : l * 48 ≤ 140737488351232) (ha : 0 < l → a = some ⟨b, o, none⟩) (hE : Sps w b o L) :
    Calls Try.prog 16 #[.slice a l c] w fun e w' => ∃ g cap C, e = .returned (.slice (some ⟨g, 0, none⟩) l cap) ∧ Rwd w' w.heap.size g C L ∧ l + 1 ≤ cap ∧ Below w.heap.size w w' := by
  obtain ⟨i0, hi, hz0, hz1, hz2⟩ := info_parts infoS
  have HE := hide (fun (W : World) (h : Below w.heap.size w W) => hE.below h)
  clear hE
  go_enter Try.func16, Try.ntmps16
  go_wp2_with (first
    | (at_make; refine wpList_make_own _ rfl _ _ 23 rfl w.heap.size 33 i0 (.agg #[.slice none 0 0, .int .i64 0, .int .i64 0, .int .i64 0]) 4 Try.underlying23 hi hz0 hz1 .i64 .i64 _ (l + 1) rfl rfl (by omega) (by rw [hz2]; omega) (by unfold maxLen; omega) (Nat.le_refl _) ?_; intro w1 hown1 hg1)
    | fail)
  have b1 : Below w.heap.size w w1 := (Below.refl _ _).grown hg1 (Nat.le_refl _) (fun k h => by cases h)
  go_loopw [3, 4] (fun q i wr => ∃ (v : Value) (C : List Spn), q = v ∧ i = .int .i64 (C.length : Nat) ∧ Hid (Rwy wr w.heap.size v C L) ∧ Hid (Below w.heap.size w wr)) (fun _ i _ => l - (intOf i).toNat)
  case atStart => exact ⟨_, [], rfl, rfl, ⟨hown1, Nat.zero_le _, fun i h => by simp at h⟩, b1⟩
  case round =>
    obtain ⟨v, C, rfl, rfl, HC, HB⟩ := hrel
    rename World => wr
    clear hown1 hg1 b1
    have hle := HC.out.le
    have sr := HB.out.size
    by_cases hlt : C.length < l
    · obtain rfl := ha (by omega)
      have hlL : C.length < L.length := by omega
      have hen := HE.out wr HB.out
      have S4 := hen.c C.length hlL
      have OK := hide (hen.ok C.length hlL)
      have s0 := S4.c0
      have s1 := S4.c1
      have s2 := S4.c2
      have s3 := S4.c3
      unfold Spn.kv at s0
      generalize hee : L[C.length] = en at *
      have HEE := hide hee
      have i1 : ((C.length : Nat) : Int) < (l : Int) := by omega
      clear hen hee S4
      generalize hcl : C.length = k at *
      have HCL := hide hcl
      clear hcl
      obtain ⟨nk, hnk⟩ : ∃ nk, en.ks.length = nk := ⟨_, rfl⟩
      rw [hnk] at s0
      have HOW : Hid (∀ W, Upd Noth wr W → W.ownsRow w.heap.size 33 4 u3 k (cells4 C)) := fun W h => by have := owns4_below HC.out.own h.toBelow; rwa [HCL.out] at this
      obtain ⟨y1, hy1⟩ : ∃ y1, y1 = wr.alloc (.cells #[.slice en.ka nk en.kc, .int .i64 en.pl, .int .i64 en.ln, .int .i64 en.n] 33) := ⟨_, rfl⟩
      have by1 : Below wr.heap.size wr y1 := by rw [hy1]; exact (Below.refl _ _).alloc (Nat.le_refl _) _
      have hb1 : y1.heap[wr.heap.size]? = some (.cells #[.slice en.ka nk en.kc, .int .i64 en.pl, .int .i64 en.ln, .int .i64 en.n] 33 (0, 0)) := by rw [hy1]; exact heap_alloc_new wr _
      go_upto_region 6 with fail
      rw [← hy1]
      clear hy1
      obtain ⟨gx, hgx⟩ : ∃ gx, gx = wr.heap.size := ⟨_, rfl⟩
      rw [← hgx] at hb1 ⊢
      have HGX := hide hgx
      have BY1 := hide by1
      have x0 : y1.cell? ⟨gx, 0, none⟩ = some (.slice en.ka nk en.kc) := by rw [cell_of_row _ _ _ _ _ _ hb1]; rfl
      have HLN := hide (lent_any en.ka nk en.kc en.ks y1 hnk (by have := OK.out.zk; omega) (by have := OK.out.nk; rw [hnk] at this; exact this) (OK.out.k.below2 by1))
      have HB1 := hide hb1
      have hgx1 : gx < y1.heap.size := lt_of_block hb1
      clear hb1 by1 hgx s0 s1 s2 s3
      go_wp2_with fail
      refine HLN.out.mono ?_
      rintro e y2 ⟨rfl, L2, b2⟩
      have HL2 := hide L2
      have BY2 := hide b2
      have HB2 := hide ((b2.block gx hgx1).trans HB1.out)
      have x0 : y2.cell? ⟨gx, 0, none⟩ = some (.slice en.ka nk en.kc) := by rw [cell_of_row _ _ _ _ _ _ HB2.out]; rfl
      have fx : y2.frozen? ⟨gx, 0, none⟩ = false := by simp [World.frozen?, HB2.out]
      obtain ⟨gl, hgl⟩ : ∃ gl, gl = y1.heap.size := ⟨_, rfl⟩
      rw [← hgl] at HL2 ⊢
      have HGL := hide hgl
      clear L2 b2 hgl HLN
      go_upto_region 7 with fail
      obtain ⟨y3, hy3⟩ : ∃ y3, y3 = y2.setCell ⟨gx, 0, none⟩ (.slice (some ⟨gl, 0, none⟩) nk (nk + 2)) := ⟨_, rfl⟩
      rw [← hy3]
      have HB3 : Hid (y3.heap[gx]? = some (.cells #[.slice (some ⟨gl, 0, none⟩) nk (nk + 2), .int .i64 en.pl, .int .i64 en.ln, .int .i64 en.n] 33 (0, 0))) := by show _ = _; rw [hy3]; exact block_setCell HB2.out 0 _
      have U3 : Hid (Upd (fun i => i = gx) y2 y3) := by show Upd _ _ _; rw [hy3]; exact (Upd.refl (fun i => i = gx) y2).setCell ⟨gx, 0, none⟩ _ (fun _ => rfl)
      have UW : Hid (Upd Noth wr y3) := ((Upd.of_below (BY1.out.trans (BY2.out.mono BY1.out.size)) Noth).then U3.out (fun i hi e => by have := HGX.out; omega))
      have HL3 : Hid (Lent y3 gl en.ks) := fun i hi => U3.out.cell (HL2.out i hi) (fun e => by have := HGL.out; simp only at e; omega)
      have z0 : y3.cell? ⟨gx, 0, none⟩ = some (.slice (some ⟨gl, 0, none⟩) nk (nk + 2)) := by rw [cell_of_row _ _ _ _ _ _ HB3.out]; rfl
      have z1 : y3.cell? ⟨gx, 1, none⟩ = some (.int .i64 en.pl) := by rw [cell_of_row _ _ _ _ _ _ HB3.out]; rfl
      have z2 : y3.cell? ⟨gx, 2, none⟩ = some (.int .i64 en.ln) := by rw [cell_of_row _ _ _ _ _ _ HB3.out]; rfl
      have z3 : y3.cell? ⟨gx, 3, none⟩ = some (.int .i64 en.n) := by rw [cell_of_row _ _ _ _ _ _ HB3.out]; rfl
      have hszy : wr.heap.size ≤ y3.heap.size := UW.out.size
      clear hy3 x0 fx
      go_wp2_with (first
        | (at_builtin; (refine wpList_append_lies _ rfl (.tmp 24) (.tmp 26) 23 rfl w.heap.size 33 i0 (.agg #[.slice none 0 0, .int .i64 0, .int .i64 0, .int .i64 0]) 4 48 Try.underlying23 hi hz0 hz1 hz2 rfl (by decide) u3 k (cells4 C) (by simp [Act.eval]) (HOW.out _ (UW.out.alloc _)) ⟨y3.heap.size, 0, none⟩ 1 1 [.slice (some ⟨gl, 0, none⟩) nk (nk + 2), .int .i64 en.pl, .int .i64 en.ln, .int .i64 en.n] (by simp [Act.eval]) rfl (four_new _ _ _ _ _ _) (by intro u hu; simp at hu; rcases hu with rfl | rfl | rfl | rfl <;> rfl) (by omega) (by unfold maxLen; omega) (by omega) (by simp; omega) _ rfl ?_; intro g5 cap5 w5 hown5 hg5 hor5 hlt5; have HO5 := hide hown5; have HG5 := hide hg5; have HR5 := hide hor5; clear hown5 hg5 hor5 hlt5))
        | fail)
      have UA := (UW.out.alloc (.cells #[.slice (some ⟨gl, 0, none⟩) nk (nk + 2), .int .i64 en.pl, .int .i64 en.ln, .int .i64 en.n] 33)).toBelow
      have hub : ∀ i, u3.ownBlock = some i → w.heap.size ≤ i ∧ i < wr.heap.size := fun i h => HC.out.own.lt i h
      have t5 : Below w.heap.size w w5 := (HB.out.trans (UA.mono HB.out.size)).grown HG5.out (by simp; omega) (fun i h => (hub i h).1)
      have hg5b : ∀ i, (Value.slice (some ⟨g5, 0, none⟩) (k + 1) cap5).ownBlock = some i → u3.ownBlock = some i ∨ y3.heap.size + 1 ≤ i := fun i h => by
        have : g5 = i := by simpa [Value.ownBlock] using h
        subst this
        rcases HR5.out with h | h
        · exact .inl h
        · exact .inr (by rw [h]; simp)
      have hll : Lent (y3.alloc (.cells #[.slice (some ⟨gl, 0, none⟩) nk (nk + 2), .int .i64 en.pl, .int .i64 en.ln, .int .i64 en.n] 33)) gl en.ks := HL3.out.below ((Below.refl y3.heap.size y3).alloc (Nat.le_refl _) _) HL3.out.lt
      have hglb : wr.heap.size ≤ gl ∧ gl < y3.heap.size := ⟨by rw [HGL.out]; exact BY1.out.size, HL3.out.lt⟩
      have HNEW : Hid (Rwy w5 w.heap.size (.slice (some ⟨g5, 0, none⟩) (k + 1) cap5) (C ++ [⟨some ⟨gl, 0, none⟩, nk + 2, en.ks, en.pl, en.ln, en.n⟩]) L) := by
        have hcl := HCL.out
        refine ⟨?_, by simp; omega, fun i hi hi' => ?_⟩
        · rw [List.length_append, List.length_singleton, hcl, cells4_app]
          have : cells4 [⟨some ⟨gl, 0, none⟩, nk + 2, en.ks, en.pl, en.ln, en.n⟩] = [.slice (some ⟨gl, 0, none⟩) nk (nk + 2), .int .i64 en.pl, .int .i64 en.ln, .int .i64 en.n] := by rw [← hnk]; rfl
          rw [this]
          exact HO5.out
        · by_cases hik : i < C.length
          · rw [List.getElem_append_left hik]
            refine ((HC.out.each i hik hi').below UA).grow HG5.out (fun g h => .inl h) (fun i h => ?_)
            exact (hg5b i h).imp id (fun h => by simp; omega)
          · have hie : i = C.length := by rw [List.length_append, List.length_singleton] at hi; omega
            subst hie
            rw [List.getElem_append_right (Nat.le_refl _)]
            simp only [Nat.sub_self, List.getElem_cons_zero]
            have hLe : L[C.length] = en := by have := HEE.out; simp only [hcl]; exact this
            rw [hLe]
            refine ⟨rfl, by rw [hnk], ⟨gl, rfl, hll.kept HG5.out (fun e => ?_), by omega, fun e => ?_⟩⟩
            · have := hub _ e.symm; omega
            · rcases hg5b _ e with h | h
              · have := hub _ h; omega
              · omega
      have T5 := hide t5
      clear UA hub hg5b hll t5 hglb z0 z1 z2 z3 HOW
      go_roundw
      case rel => exact ⟨_, _, rfl, by rw [List.length_append, List.length_singleton, HCL.out]; go_num, HNEW, T5⟩
      case measure => simp [intOf]; omega
    · have HCL : Hid (C.length = l) := by show _ = _; omega
      have i1 : ¬ ((C.length : Nat) : Int) < (l : Int) := by omega
      have HOW : Hid (∀ W, Below wr.heap.size wr W → W.ownsRow w.heap.size 33 4 u3 l (cells4 C)) := fun W h => by have := owns4_below HC.out.own h; rwa [HCL.out] at this
      go_wp2_with (first
        | (at_builtin; (refine wpList_append_lies _ rfl (.tmp 28) (.tmp 30) 23 rfl w.heap.size 33 i0 (.agg #[.slice none 0 0, .int .i64 0, .int .i64 0, .int .i64 0]) 4 48 Try.underlying23 hi hz0 hz1 hz2 rfl (by decide) u3 l (cells4 C) (by simp [Act.eval]) (HOW.out _ ((Below.refl _ _).alloc (Nat.le_refl _) _)) ⟨wr.heap.size, 0, none⟩ 1 1 [.slice none 0 0, .int .i64 77, .int .i64 0, .int .i64 0] (by simp [Act.eval]) rfl (four_new _ _ _ _ _ _) (by intro u hu; simp at hu; rcases hu with rfl | rfl | rfl | rfl <;> rfl) (by omega) (by unfold maxLen; omega) (by omega) (Nat.le_trans sr (by simp)) _ rfl ?_; intro g5 cap5 w5 hown5 hg5 hor5 hlt5; have HO5 := hide hown5; have HG5 := hide hg5; have HR5 := hide hor5; have hcp := (cap4 hown5); clear hown5 hg5 hor5))
        | fail)
      go_ret
      have hC := HCL.out
      have bA : Below wr.heap.size wr (wr.alloc (.cells #[.slice none 0 0, .int .i64 77, .int .i64 0, .int .i64 0] 33)) := (Below.refl _ _).alloc (Nat.le_refl _) _
      have hub : ∀ i, u3.ownBlock = some i → w.heap.size ≤ i ∧ i < wr.heap.size := fun i h => HC.out.own.lt i h
      have cel : ∀ j u, (cells4 C ++ [.slice none 0 0, .int .i64 77, .int .i64 0, .int .i64 0])[j]? = some u → w5.cell? ⟨g5, j, none⟩ = some u := fun j u hu => by
        have := HO5.out.cells (g := g5) rfl j u hu
        rwa [Addr.add_lit, Nat.zero_add] at this
      have hg5 : w.heap.size ≤ g5 := by
        rcases HR5.out with h | h
        · exact (hub _ h).1
        · rw [h]; simp; omega
      refine ⟨g5, cap5, rfl, ⟨C, by omega, fun i hi => ?_, fun i hi hi' => ?_, hg5, ?_⟩, hcp, ?_⟩
      · have q := cells4_get C i hi
        have hlen : ∀ j, j < 4 → i * 4 + j < (cells4 C).length := fun j hj => by rw [cells4_len]; omega
        exact ⟨cel _ _ (by rw [List.getElem?_append_left (show i * 4 < _ from hlen 0 (by omega))]; exact q.1), cel _ _ (by rw [List.getElem?_append_left (hlen 1 (by omega))]; exact q.2.1), cel _ _ (by rw [List.getElem?_append_left (hlen 2 (by omega))]; exact q.2.2.1), cel _ _ (by rw [List.getElem?_append_left (hlen 3 (by omega))]; exact q.2.2.2)⟩
      · exact ((HC.out.each i hi hi').below bA).grow HG5.out (fun g h => .inl h) (fun i h => by
          have : g5 = i := by simpa [Value.ownBlock] using h
          subst this
          rcases HR5.out with h | h
          · exact .inl h
          · exact .inr (by rw [h]; exact Nat.le_refl _))
      · exact cel _ _ (by rw [List.getElem?_append_right (by rw [cells4_len]; omega), cells4_len, Nat.add_sub_cancel_left]; rfl)
      · exact (HB.out.trans (bA.mono HB.out.size)).grown HG5.out (by simp; omega) (fun i h => (hub i h).1)

end Go.Proofs.Ytlachimmfjagbaa
