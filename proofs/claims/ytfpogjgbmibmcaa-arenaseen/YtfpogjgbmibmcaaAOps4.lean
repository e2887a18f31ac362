/- arena: Head, Body, SetHead, SetBody. -/
import Derived.Test.YtfpogjgbmibmcaaAOps3
import Derived.Test.YtfpogjgbmibmcaaACopy2
namespace Go.Proofs.Ytfpogjgbmibmcaa
open Go.RowKit

/-- The cells of a slot's node. -/
theorem sl_cells {W : World} {M D : Nat → Prop} {s : Sl} (h : s.Ok W M D) :
    (W.cell? ⟨s.b, 1, none⟩ = some (.int .i64 s.n.lv) ∧ W.cell? ⟨s.b, 2, none⟩ = some s.n.hi.v ∧ W.cell? ⟨s.b, 3, none⟩ = some (.int .i64 s.n.ri)) ∧ W.cell? ⟨s.b, 4, none⟩ = some s.n.ks.v ∧ W.cell? ⟨s.b, 5, none⟩ = some s.n.vs.v ∧ W.cell? ⟨s.b, 6, none⟩ = some s.n.cs.v := by
  refine ⟨⟨?_, ?_, ?_⟩, ?_, ?_, ?_⟩ <;> (rw [cell_of_row _ _ _ _ _ _ h.c]; rfl)

/-- What Head gives. -/
def HePost (w : World) (lv ri : Int) (l : Nat) (hs : List Int) (e : Ending) (w' : World) : Prop :=
  ∃ a c, e = .returned (.tuple #[.agg #[.int .i64 lv, .slice a l c, .int .i64 ri], .int .i64 0]) ∧ OwnB w' w.heap.size 5 (.slice a l c) hs ∧ Below w.heap.size w w'
def BoPost (w : World) (lk lw lc : Nat) (K V : List Tx) (C : List Int) (e : Ending) (w' : World) : Prop :=
  ∃ kn kd K' vn vd V' cn cd, e = .returned (.tuple #[.agg #[.slice kn lk kd, .slice vn lw vd, .slice cn lc cd], .int .i64 0]) ∧ K'.map (·.s) = K.map (·.s) ∧ V'.map (·.s) = V.map (·.s) ∧ K'.length = lk ∧ V'.length = lw ∧
    (⟨kn, kd, K'⟩ : TL).Own w' w.heap.size ∧ (⟨vn, vd, V'⟩ : TL).Own w' w.heap.size ∧ w'.ownsRow w.heap.size 3 1 (.slice cn lc cd) lc (C.map (Value.int .i64)) ∧ Below w.heap.size w w'
section
variable {W : World} {A : Nat} {M D : Nat → Prop} {nodes root : Int} {L : List Sl}

set_option maxRecDepth 100000 in
set_option maxHeartbeats 1600000 in
theorem head_none (h : PA W A M D nodes root L) (id : Int) (hi : ¬ (1 ≤ id ∧ id ≤ (L.length : Nat))) :
    Calls Try.prog 25 #[.pointer (some ⟨A, 0, none⟩), .int .i64 id] W fun e w' => e = .returned (.tuple #[.agg #[.int .i64 0, .slice none 0 0, .int .i64 0], .int .i64 101]) ∧ Below W.heap.size W w' := by
  obtain ⟨w0, hw0⟩ : ∃ w0, w0 = W.alloc (.cells #[.int .i64 0, .slice none 0 0, .int .i64 0] 31) := ⟨_, rfl⟩
  have b0 : Below W.heap.size W w0 := by rw [hw0]; exact (Below.refl _ _).alloc (Nat.le_refl _) _
  have g0 : w0.heap[W.heap.size]? = some (.cells #[.int .i64 0, .slice none 0 0, .int .i64 0] 31 (0, 0)) := by rw [hw0]; exact heap_alloc_new W _
  have HS := hide (slot_none (h.below b0) id hi)
  obtain ⟨c0, c1, c2⟩ := Tri.of g0
  have F0 := fun j => frozen_of g0 j
  have G0 := hide g0
  have B0 := hide b0
  have HW := hide hw0
  clear h hi g0 b0 hw0
  go_enter Try.func25, Try.ntmps25
  go_wp2_with fail
  rw [← HW.out]
  refine keep HS.out ?_
  go_wp2_with fail
  (try simp only [Exit.inBlock, Exit.then])
  have G6 := tri_block G0.out (.int .i64 0) (.slice none 0 0) (.int .i64 0)
  have U6 : Upd (fun b => b = W.heap.size) w0 (tri3 w0 W.heap.size (.int .i64 0) (.slice none 0 0) (.int .i64 0)) := tri_upd _ _ _ _ _ _ rfl
  obtain ⟨q0, q1, q2⟩ := Tri.of G6
  show bodyPost _ _ _ _ _ (tri3 w0 W.heap.size (.int .i64 0) (.slice none 0 0) (.int .i64 0))
  generalize tri3 w0 W.heap.size (.int .i64 0) (.slice none 0 0) (.int .i64 0) = w6 at *
  refine bodyPost_ret (v := .tuple #[.agg #[.int .i64 0, .slice none 0 0, .int .i64 0], .int .i64 101]) (by simp [results, Try.results25, go_sem, q0, q1, q2]) rfl ⟨rfl, ?_⟩
  exact B0.out.trans (U6.below (by have := B0.out.size; omega) (fun k hk e => by omega))
set_option maxRecDepth 100000 in
set_option maxHeartbeats 1600000 in
theorem body_none (h : PA W A M D nodes root L) (id : Int) (hi : ¬ (1 ≤ id ∧ id ≤ (L.length : Nat))) :
    Calls Try.prog 26 #[.pointer (some ⟨A, 0, none⟩), .int .i64 id] W fun e w' => e = .returned (.tuple #[.agg #[.slice none 0 0, .slice none 0 0, .slice none 0 0], .int .i64 101]) ∧ Below W.heap.size W w' := by
  obtain ⟨w0, hw0⟩ : ∃ w0, w0 = W.alloc (.cells #[.slice none 0 0, .slice none 0 0, .slice none 0 0] 35) := ⟨_, rfl⟩
  have b0 : Below W.heap.size W w0 := by rw [hw0]; exact (Below.refl _ _).alloc (Nat.le_refl _) _
  have g0 : w0.heap[W.heap.size]? = some (.cells #[.slice none 0 0, .slice none 0 0, .slice none 0 0] 35 (0, 0)) := by rw [hw0]; exact heap_alloc_new W _
  have HS := hide (slot_none (h.below b0) id hi)
  obtain ⟨c0, c1, c2⟩ := Tri.of g0
  have F0 := fun j => frozen_of g0 j
  have G0 := hide g0
  have B0 := hide b0
  have HW := hide hw0
  clear h hi g0 b0 hw0
  go_enter Try.func26, Try.ntmps26
  go_wp2_with fail
  rw [← HW.out]
  refine keep HS.out ?_
  go_wp2_with fail
  (try simp only [Exit.inBlock, Exit.then])
  have G6 := tri_block G0.out (.slice none 0 0) (.slice none 0 0) (.slice none 0 0)
  have U6 : Upd (fun b => b = W.heap.size) w0 (tri3 w0 W.heap.size (.slice none 0 0) (.slice none 0 0) (.slice none 0 0)) := tri_upd _ _ _ _ _ _ rfl
  obtain ⟨q0, q1, q2⟩ := Tri.of G6
  show bodyPost _ _ _ _ _ (tri3 w0 W.heap.size (.slice none 0 0) (.slice none 0 0) (.slice none 0 0))
  generalize tri3 w0 W.heap.size (.slice none 0 0) (.slice none 0 0) (.slice none 0 0) = w6 at *
  refine bodyPost_ret (v := .tuple #[.agg #[.slice none 0 0, .slice none 0 0, .slice none 0 0], .int .i64 101]) (by simp [results, Try.results26, go_sem, q0, q1, q2]) rfl ⟨rfl, ?_⟩
  exact B0.out.trans (U6.below (by have := B0.out.size; omega) (fun k hk e => by omega))

set_option maxRecDepth 100000 in
set_option maxHeartbeats 1600000 in
theorem ahead_any (h : PA W A M D nodes root L) (i : Nat) (hi : i < L.length) :
    Calls Try.prog 25 #[.pointer (some ⟨A, 0, none⟩), .int .i64 ((i : Int) + 1)] W (HePost W L[i].n.lv L[i].n.ri L[i].n.hi.s.length L[i].n.hi.s) := by
  obtain ⟨w0, hw0⟩ : ∃ w0, w0 = W.alloc (.cells #[.int .i64 0, .slice none 0 0, .int .i64 0] 31) := ⟨_, rfl⟩
  have b0 : Below W.heap.size W w0 := by rw [hw0]; exact (Below.refl _ _).alloc (Nat.le_refl _) _
  have g0 : w0.heap[W.heap.size]? = some (.cells #[.int .i64 0, .slice none 0 0, .int .i64 0] 31 (0, 0)) := by rw [hw0]; exact heap_alloc_new W _
  have h0 := h.below b0
  have HS := hide (slot_any h0 i hi)
  have ho := h0.sl L[i] (List.getElem_mem hi)
  obtain ⟨k1, k2, k3⟩ := (sl_cells ho).1
  have HCH := hide (copyHead_any L[i].n.lv L[i].n.ri L[i].n.hi w0 ho.n.h)
  generalize L[i].b = b at *
  generalize L[i].n.lv = lv at *
  generalize L[i].n.ri = ri at *
  generalize L[i].n.hi = t at *
  clear ho h0 h hi
  obtain ⟨ha, hc, hs⟩ := t
  simp only [Tx.v] at *
  obtain ⟨lh, hlh⟩ : ∃ lh, hs.length = lh := ⟨_, rfl⟩
  rw [hlh] at k2 HCH ⊢
  clear hlh
  generalize (i : Int) + 1 = id at *
  have G0 := hide g0
  have B0 := hide b0
  have HW := hide hw0
  clear g0 b0 hw0
  go_enter Try.func25, Try.ntmps25
  go_wp2_with fail
  rw [← HW.out]
  refine keep HS.out ?_
  go_wp2_with fail
  refine HCH.out.mono ?_
  rintro e w2 ⟨na, nc, rfl, hv2, hb2⟩
  have G2 : Hid (w2.heap[W.heap.size]? = some (.cells #[.int .i64 0, .slice none 0 0, .int .i64 0] 31 (0, 0))) := (hb2.block _ (lt_of_block G0.out)).trans G0.out
  obtain ⟨c0, c1, c2⟩ := Tri.of G2.out
  have F0 := fun j => frozen_of G2.out j
  have V2 := hide hv2
  have B2 := hide hb2
  clear hv2 hb2 HCH
  go_wp2_with fail
  (try simp only [Exit.inBlock, Exit.then])
  have G6 := tri_block G2.out (.int .i64 lv) (.slice na lh nc) (.int .i64 ri)
  have U6 : Upd (fun b => b = W.heap.size) w2 (tri3 w2 W.heap.size (.int .i64 lv) (.slice na lh nc) (.int .i64 ri)) := tri_upd _ _ _ _ _ _ rfl
  obtain ⟨q0, q1, q2⟩ := Tri.of G6
  have z0 : w0.heap.size = W.heap.size + 1 := by rw [HW.out]; simp
  show bodyPost _ _ _ _ _ (tri3 w2 W.heap.size (.int .i64 lv) (.slice na lh nc) (.int .i64 ri))
  generalize tri3 w2 W.heap.size (.int .i64 lv) (.slice na lh nc) (.int .i64 ri) = w6 at *
  refine bodyPost_ret (v := .tuple #[.agg #[.int .i64 lv, .slice na lh nc, .int .i64 ri], .int .i64 0]) (by simp [results, Try.results25, go_sem, q0, q1, q2]) rfl ⟨na, nc, rfl, ?_, ?_⟩
  · exact (ownB_upd' V2.out U6 (fun b h1 h2 h3 => by omega)).mono (by omega)
  · have b02 := B0.out.trans (B2.out.mono B0.out.size)
    exact b02.trans (U6.below (by have := b02.size; omega) (fun k hk e => by omega))
set_option maxRecDepth 100000 in
set_option maxHeartbeats 1600000 in
theorem abody_any (h : PA W A M D nodes root L) (i : Nat) (hi : i < L.length) :
    Calls Try.prog 26 #[.pointer (some ⟨A, 0, none⟩), .int .i64 ((i : Int) + 1)] W (BoPost W L[i].n.ks.L.length L[i].n.vs.L.length L[i].n.cs.s.length L[i].n.ks.L L[i].n.vs.L L[i].n.cs.s) := by
  obtain ⟨w0, hw0⟩ : ∃ w0, w0 = W.alloc (.cells #[.slice none 0 0, .slice none 0 0, .slice none 0 0] 35) := ⟨_, rfl⟩
  have b0 : Below W.heap.size W w0 := by rw [hw0]; exact (Below.refl _ _).alloc (Nat.le_refl _) _
  have g0 : w0.heap[W.heap.size]? = some (.cells #[.slice none 0 0, .slice none 0 0, .slice none 0 0] 35 (0, 0)) := by rw [hw0]; exact heap_alloc_new W _
  have h0 := h.below b0
  have HS := hide (slot_any h0 i hi)
  have ho := h0.sl L[i] (List.getElem_mem hi)
  obtain ⟨k1, k2, k3⟩ := (sl_cells ho).2
  have HCH := hide (copyBody_any L[i].n.ks L[i].n.vs L[i].n.cs w0 ho.n.k ho.n.v ho.n.c ho.n.kz ho.n.vz ho.n.cz)
  generalize L[i].b = b at *
  generalize L[i].n.ks = kt at *
  generalize L[i].n.vs = vt at *
  generalize L[i].n.cs = ct at *
  clear ho h0 h hi
  obtain ⟨ka, kc, K⟩ := kt
  obtain ⟨va, vc, V⟩ := vt
  obtain ⟨ca, cc, C⟩ := ct
  simp only [TL.v, IL.v] at *
  obtain ⟨lk, hlk⟩ : ∃ lk, K.length = lk := ⟨_, rfl⟩
  obtain ⟨lw, hlw⟩ : ∃ lw, V.length = lw := ⟨_, rfl⟩
  obtain ⟨lc, hlc⟩ : ∃ lc, C.length = lc := ⟨_, rfl⟩
  rw [hlk] at k1
  rw [hlw] at k2
  rw [hlc] at k3
  rw [hlk, hlw, hlc] at HCH ⊢
  clear hlk hlw hlc
  generalize (i : Int) + 1 = id at *
  have G0 := hide g0
  have B0 := hide b0
  have HW := hide hw0
  clear g0 b0 hw0
  go_enter Try.func26, Try.ntmps26
  go_wp2_with fail
  rw [← HW.out]
  refine keep HS.out ?_
  go_wp2_with fail
  refine HCH.out.mono ?_
  rintro e w2 ⟨kn, kd, K', vn, vd, V', cn, cd, rfl, p1, p2, l1, l2, o1, o2, o3, hb2⟩
  have G2 : Hid (w2.heap[W.heap.size]? = some (.cells #[.slice none 0 0, .slice none 0 0, .slice none 0 0] 35 (0, 0))) := (hb2.block _ (lt_of_block G0.out)).trans G0.out
  obtain ⟨c0, c1, c2⟩ := Tri.of G2.out
  have F0 := fun j => frozen_of G2.out j
  have V2 := hide (And.intro p1 (And.intro p2 (And.intro l1 (And.intro l2 (And.intro o1 (And.intro o2 o3))))))
  have B2 := hide hb2
  clear p1 p2 l1 l2 o1 o2 o3 hb2 HCH
  go_wp2_with fail
  (try simp only [Exit.inBlock, Exit.then])
  have G6 := tri_block G2.out (.slice kn lk kd) (.slice vn lw vd) (.slice cn lc cd)
  have U6 : Upd (fun b => b = W.heap.size) w2 (tri3 w2 W.heap.size (.slice kn lk kd) (.slice vn lw vd) (.slice cn lc cd)) := tri_upd _ _ _ _ _ _ rfl
  obtain ⟨q0, q1, q2⟩ := Tri.of G6
  have z0 : w0.heap.size = W.heap.size + 1 := by rw [HW.out]; simp
  show bodyPost _ _ _ _ _ (tri3 w2 W.heap.size (.slice kn lk kd) (.slice vn lw vd) (.slice cn lc cd))
  generalize tri3 w2 W.heap.size (.slice kn lk kd) (.slice vn lw vd) (.slice cn lc cd) = w6 at *
  obtain ⟨p1, p2, l1, l2, o1, o2, o3⟩ := V2.out
  refine bodyPost_ret (v := .tuple #[.agg #[.slice kn lk kd, .slice vn lw vd, .slice cn lc cd], .int .i64 0]) (by simp [results, Try.results26, go_sem, q0, q1, q2]) rfl ⟨kn, kd, K', vn, vd, V', cn, cd, rfl, p1, p2, l1, l2, ?_, ?_, ?_, ?_⟩
  · exact (o1.upd U6 (fun b h1 h2 h3 => by omega)).mono (by omega)
  · exact (o2.upd U6 (fun b h1 h2 h3 => by omega)).mono (by omega)
  · exact owns_mono (ownsI_upd o3 U6 (fun b h1 h2 h3 => by omega)) (by omega)
  · have b02 := B0.out.trans (B2.out.mono B0.out.size)
    exact b02.trans (U6.below (by have := b02.size; omega) (fun k hk e => by omega))
end

end Go.Proofs.Ytfpogjgbmibmcaa
