/- The document's arena: Head, Body. -/
import Derived.Test.YtfpogjgbmibmcaaROps2
import Derived.Test.YtfpogjgbmibmcaaAOps5
import Derived.Test.YtfpogjgbmibmcaaNRClone2
namespace Go.Proofs.Ytfpogjgbmibmcaa
open Go.RowKit
section
variable {W : World} {A g c : Nat} {M D : Nat → Prop} {nodes root : Int} {L : List RS}
theorem RA.ncells (h : RA W A g c M D nodes root L) (i : Nat) (hi : i < L.length) :
    W.cell? ⟨g, i * 7 + 1, none⟩ = some (.int .i64 L[i].n.lv) ∧ W.cell? ⟨g, i * 7 + 2, none⟩ = some L[i].n.hi.v ∧ W.cell? ⟨g, i * 7 + 3, none⟩ = some (.int .i64 L[i].n.ri) ∧ W.cell? ⟨g, i * 7 + 4, none⟩ = some L[i].n.ks.v ∧ W.cell? ⟨g, i * 7 + 5, none⟩ = some L[i].n.vs.v ∧ W.cell? ⟨g, i * 7 + 6, none⟩ = some L[i].n.cs.v :=
  ⟨h.at_ i hi 1 (by omega), h.at_ i hi 2 (by omega), h.at_ i hi 3 (by omega), h.at_ i hi 4 (by omega), h.at_ i hi 5 (by omega), h.at_ i hi 6 (by omega)⟩

set_option maxRecDepth 100000 in
set_option maxHeartbeats 1600000 in
theorem rhead_none (h : RA W A g c M D nodes root L) (id : Int) (hi : ¬ (1 ≤ id ∧ id ≤ (L.length : Nat))) :
    Calls Try.prog 57 #[.pointer (some ⟨A, 0, none⟩), .int .i64 id] W fun e w' => e = .returned (.tuple #[.agg #[.int .i64 0, .slice none 0 0, .int .i64 0], .int .i64 101]) ∧ Below W.heap.size W w' := by
  obtain ⟨w0, hw0⟩ : ∃ w0, w0 = W.alloc (.cells #[.int .i64 0, .slice none 0 0, .int .i64 0] 31) := ⟨_, rfl⟩
  have b0 : Below W.heap.size W w0 := by rw [hw0]; exact (Below.refl _ _).alloc (Nat.le_refl _) _
  have g0 : w0.heap[W.heap.size]? = some (.cells #[.int .i64 0, .slice none 0 0, .int .i64 0] 31 (0, 0)) := by rw [hw0]; exact heap_alloc_new W _
  have HS := hide (there_no (h.below b0) id hi)
  obtain ⟨c0, c1, c2⟩ := Tri.of g0
  have F0 := fun j => frozen_of g0 j
  have G0 := hide g0
  have B0 := hide b0
  have HW := hide hw0
  clear h hi g0 b0 hw0
  go_enter Try.func57, Try.ntmps57
  go_wp2_with fail
  rw [← HW.out]
  refine keep HS.out ?_
  go_wp2_with fail
  (try simp only [Exit.inBlock, Exit.then])
  have G6 := tri_block G0.out (.int .i64 0) (.slice none 0 0) (.int .i64 0)
  have U6 : Upd (fun b => b = W.heap.size) w0 (tri3 w0 W.heap.size (.int .i64 0) (.slice none 0 0) (.int .i64 0)) := tri_upd _ _ _ _ _ _ rfl
  obtain ⟨q0, q1, q2⟩ := Tri.of G6
  show bodyPost _ _ _ _ _ (tri3 w0 W.heap.size (.int .i64 0) (.slice none 0 0) (.int .i64 0))
  generalize tri3 w0 W.heap.size (.int .i64 0) (.slice none 0 0) (.int .i64 0) = w6 at *
  refine bodyPost_ret (v := .tuple #[.agg #[.int .i64 0, .slice none 0 0, .int .i64 0], .int .i64 101]) (by simp [results, Try.results57, go_sem, q0, q1, q2]) rfl ⟨rfl, ?_⟩
  exact B0.out.trans (U6.below (by have := B0.out.size; omega) (fun k hk e => by omega))
set_option maxRecDepth 100000 in
set_option maxHeartbeats 1600000 in
theorem rbody_none (h : RA W A g c M D nodes root L) (id : Int) (hi : ¬ (1 ≤ id ∧ id ≤ (L.length : Nat))) :
    Calls Try.prog 58 #[.pointer (some ⟨A, 0, none⟩), .int .i64 id] W fun e w' => e = .returned (.tuple #[.agg #[.slice none 0 0, .slice none 0 0, .slice none 0 0], .int .i64 101]) ∧ Below W.heap.size W w' := by
  obtain ⟨w0, hw0⟩ : ∃ w0, w0 = W.alloc (.cells #[.slice none 0 0, .slice none 0 0, .slice none 0 0] 35) := ⟨_, rfl⟩
  have b0 : Below W.heap.size W w0 := by rw [hw0]; exact (Below.refl _ _).alloc (Nat.le_refl _) _
  have g0 : w0.heap[W.heap.size]? = some (.cells #[.slice none 0 0, .slice none 0 0, .slice none 0 0] 35 (0, 0)) := by rw [hw0]; exact heap_alloc_new W _
  have HS := hide (there_no (h.below b0) id hi)
  obtain ⟨c0, c1, c2⟩ := Tri.of g0
  have F0 := fun j => frozen_of g0 j
  have G0 := hide g0
  have B0 := hide b0
  have HW := hide hw0
  clear h hi g0 b0 hw0
  go_enter Try.func58, Try.ntmps58
  go_wp2_with fail
  rw [← HW.out]
  refine keep HS.out ?_
  go_wp2_with fail
  (try simp only [Exit.inBlock, Exit.then])
  have G6 := tri_block G0.out (.slice none 0 0) (.slice none 0 0) (.slice none 0 0)
  have U6 : Upd (fun b => b = W.heap.size) w0 (tri3 w0 W.heap.size (.slice none 0 0) (.slice none 0 0) (.slice none 0 0)) := tri_upd _ _ _ _ _ _ rfl
  obtain ⟨q0, q1, q2⟩ := Tri.of G6
  show bodyPost _ _ _ _ _ (tri3 w0 W.heap.size (.slice none 0 0) (.slice none 0 0) (.slice none 0 0))
  generalize tri3 w0 W.heap.size (.slice none 0 0) (.slice none 0 0) (.slice none 0 0) = w6 at *
  refine bodyPost_ret (v := .tuple #[.agg #[.slice none 0 0, .slice none 0 0, .slice none 0 0], .int .i64 101]) (by simp [results, Try.results58, go_sem, q0, q1, q2]) rfl ⟨rfl, ?_⟩
  exact B0.out.trans (U6.below (by have := B0.out.size; omega) (fun k hk e => by omega))

set_option maxRecDepth 100000 in
set_option maxHeartbeats 1600000 in
theorem rhead_any (h : RA W A g c M D nodes root L) (i : Nat) (hi : i < L.length) :
    Calls Try.prog 57 #[.pointer (some ⟨A, 0, none⟩), .int .i64 ((i : Int) + 1)] W (HePost W L[i].n.lv L[i].n.ri L[i].n.hi.s.length L[i].n.hi.s) := by
  obtain ⟨w0, hw0⟩ : ∃ w0, w0 = W.alloc (.cells #[.int .i64 0, .slice none 0 0, .int .i64 0] 31) := ⟨_, rfl⟩
  have b0 : Below W.heap.size W w0 := by rw [hw0]; exact (Below.refl _ _).alloc (Nat.le_refl _) _
  have z0 : w0.heap.size = W.heap.size + 1 := by rw [hw0]; simp
  have g0 : w0.heap[W.heap.size]? = some (.cells #[.int .i64 0, .slice none 0 0, .int .i64 0] 31 (0, 0)) := by rw [hw0]; exact heap_alloc_new W _
  have h0 := h.below b0
  have HS := hide (there_yes h0 i hi)
  have ho := h0.sl L[i] (List.getElem_mem hi)
  obtain ⟨k1, k2, k3, k4, k5, k6⟩ := h0.ncells i hi
  obtain ⟨_, c1, _⟩ := h0.cells
  have HCL := hide (rclone_any L[i].n w0 ho.n)
  have hn := h0.n_le
  generalize L[i].n = nd at *
  obtain ⟨lv, ⟨ha, hc, hs⟩, ri, ⟨ka, kc, K⟩, ⟨va, vc, V⟩, ⟨ca, cc, C⟩⟩ := nd
  clear ho h0 h
  simp only [Nd.v, Tx.v, TL.v, IL.v] at k1 k2 k3 k4 k5 k6 HCL ⊢
  generalize L.length = n at *
  have j4 : (i : Int) < (n : Int) := by omega
  obtain ⟨id, hid⟩ : ∃ id, id = (i : Int) + 1 := ⟨_, rfl⟩
  rw [← hid] at HS ⊢
  have j3 : id - 1 = (i : Int) := by omega
  have j5 : id ≤ 65536 := by omega
  have j6 : 1 ≤ id := by omega
  obtain ⟨lh, hlh⟩ : ∃ lh, hs.length = lh := ⟨_, rfl⟩
  rw [hlh] at k2 HCL ⊢
  have HLH := hide hlh
  generalize K.length = lk at *
  generalize V.length = lw at *
  generalize C.length = lc at *
  have G0 := hide g0
  have B0 := hide b0
  have HW := hide hw0
  have Z0 := hide z0
  clear g0 b0 hw0 hid hlh z0
  go_enter Try.func57, Try.ntmps57
  go_wp2_with fail
  rw [← HW.out]
  refine keep HS.out ?_
  go_wp2_with fail
  refine HCL.out.mono ?_
  rintro e w2 ⟨⟨lv', ⟨na, nc, ns⟩, ri', ⟨kn, kd, K'⟩, ⟨vn, vd, V'⟩, ⟨cn, cd, C'⟩⟩, N1, N2, rfl, hp, hown, hb2, _, _, _, _, _⟩
  simp only [Nd.p, NP.mk.injEq] at hp
  obtain ⟨rfl, rfl, rfl, _, _, _⟩ := hp
  have hv2 : OwnB w2 w0.heap.size 5 (.slice na lh nc) ns := by have := hown.h; simp only [Tx.v, HLH.out] at this; exact this
  have G2 : Hid (w2.heap[W.heap.size]? = some (.cells #[.int .i64 0, .slice none 0 0, .int .i64 0] 31 (0, 0))) := (hb2.block _ (lt_of_block G0.out)).trans G0.out
  have V2 := hide hv2
  have B2 := hide hb2
  simp only [Nd.v, Tx.v, TL.v, IL.v, HLH.out]
  clear hv2 hown hb2 HCL
  generalize K'.length = lk' at *
  generalize V'.length = lw' at *
  generalize C'.length = lc' at *
  obtain ⟨w3, hw3⟩ : ∃ w3, w3 = w2.alloc (.cells #[.int .i64 lv', .slice na lh nc, .int .i64 ri', .slice kn lk' kd, .slice vn lw' vd, .slice cn lc' cd] 37) := ⟨_, rfl⟩
  have b3 : Below w2.heap.size w2 w3 := by rw [hw3]; exact (Below.refl _ _).alloc (Nat.le_refl _) _
  have G3 : Hid (w3.heap[W.heap.size]? = some (.cells #[.int .i64 0, .slice none 0 0, .int .i64 0] 31 (0, 0))) := (b3.block _ (lt_of_block G2.out)).trans G2.out
  have g3 := G3.out
  rw [hw3] at g3
  obtain ⟨y0, y1, y2⟩ := Tri.of g3
  have F3 := fun j => frozen_of g3 j
  have HW3 := hide hw3
  have B3 := hide b3
  clear hw3 b3 g3
  go_wp2_with fail
  (try simp only [Exit.inBlock, Exit.then])
  rw [← HW3.out]
  have G6 := tri_block G3.out (.int .i64 lv') (.slice na lh nc) (.int .i64 ri')
  have U6 : Upd (fun b => b = W.heap.size) w3 (tri3 w3 W.heap.size (.int .i64 lv') (.slice na lh nc) (.int .i64 ri')) := tri_upd _ _ _ _ _ _ rfl
  obtain ⟨q0, q1, q2⟩ := Tri.of G6
  show bodyPost _ _ _ _ _ (tri3 w3 W.heap.size (.int .i64 lv') (.slice na lh nc) (.int .i64 ri'))
  generalize tri3 w3 W.heap.size (.int .i64 lv') (.slice na lh nc) (.int .i64 ri') = w6 at *
  have zz := Z0.out
  have b02 := B0.out.trans (B2.out.mono B0.out.size)
  have b03 := b02.trans (B3.out.mono b02.size)
  refine bodyPost_ret (v := .tuple #[.agg #[.int .i64 lv', .slice na lh nc, .int .i64 ri'], .int .i64 0]) (by simp [results, Try.results57, go_sem, q0, q1, q2]) rfl ⟨na, nc, rfl, ?_, ?_⟩
  · exact (ownB_upd' (V2.out.below B3.out) U6 (fun b h1 h2 h3 => by omega)).mono (by omega)
  · exact b03.trans (U6.below (by have := b03.size; omega) (fun k hk e => by omega))
set_option maxRecDepth 100000 in
set_option maxHeartbeats 1600000 in
theorem rbody_any (h : RA W A g c M D nodes root L) (i : Nat) (hi : i < L.length) :
    Calls Try.prog 58 #[.pointer (some ⟨A, 0, none⟩), .int .i64 ((i : Int) + 1)] W (BoPost W L[i].n.ks.L.length L[i].n.vs.L.length L[i].n.cs.s.length L[i].n.ks.L L[i].n.vs.L L[i].n.cs.s) := by
  obtain ⟨w0, hw0⟩ : ∃ w0, w0 = W.alloc (.cells #[.slice none 0 0, .slice none 0 0, .slice none 0 0] 35) := ⟨_, rfl⟩
  have b0 : Below W.heap.size W w0 := by rw [hw0]; exact (Below.refl _ _).alloc (Nat.le_refl _) _
  have z0 : w0.heap.size = W.heap.size + 1 := by rw [hw0]; simp
  have g0 : w0.heap[W.heap.size]? = some (.cells #[.slice none 0 0, .slice none 0 0, .slice none 0 0] 35 (0, 0)) := by rw [hw0]; exact heap_alloc_new W _
  have h0 := h.below b0
  have HS := hide (there_yes h0 i hi)
  have ho := h0.sl L[i] (List.getElem_mem hi)
  obtain ⟨k1, k2, k3, k4, k5, k6⟩ := h0.ncells i hi
  obtain ⟨_, c1, _⟩ := h0.cells
  have HCL := hide (rclone_any L[i].n w0 ho.n)
  have hn := h0.n_le
  generalize L[i].n = nd at *
  obtain ⟨lv, ⟨ha, hc, hs⟩, ri, ⟨ka, kc, K⟩, ⟨va, vc, V⟩, ⟨ca, cc, C⟩⟩ := nd
  clear ho h0 h
  simp only [Nd.v, Tx.v, TL.v, IL.v] at k1 k2 k3 k4 k5 k6 HCL ⊢
  generalize L.length = n at *
  have j4 : (i : Int) < (n : Int) := by omega
  obtain ⟨id, hid⟩ : ∃ id, id = (i : Int) + 1 := ⟨_, rfl⟩
  rw [← hid] at HS ⊢
  have j3 : id - 1 = (i : Int) := by omega
  have j5 : id ≤ 65536 := by omega
  have j6 : 1 ≤ id := by omega
  obtain ⟨lk, hlk⟩ : ∃ lk, K.length = lk := ⟨_, rfl⟩
  obtain ⟨lw, hlw⟩ : ∃ lw, V.length = lw := ⟨_, rfl⟩
  obtain ⟨lc, hlc⟩ : ∃ lc, C.length = lc := ⟨_, rfl⟩
  rw [hlk] at k4
  rw [hlw] at k5
  rw [hlc] at k6
  rw [hlk, hlw, hlc] at HCL ⊢
  have HLK := hide hlk
  have HLW := hide hlw
  have HLC := hide hlc
  clear hlk hlw hlc
  generalize hs.length = lh at *
  have G0 := hide g0
  have B0 := hide b0
  have HW := hide hw0
  have Z0 := hide z0
  clear g0 b0 hw0 hid z0
  go_enter Try.func58, Try.ntmps58
  go_wp2_with fail
  rw [← HW.out]
  refine keep HS.out ?_
  go_wp2_with fail
  refine HCL.out.mono ?_
  rintro e w2 ⟨⟨lv', ⟨na, nc, ns⟩, ri', ⟨kn, kd, K'⟩, ⟨vn, vd, V'⟩, ⟨cn, cd, C'⟩⟩, N1, N2, rfl, hp, hown, hb2, _, _, _, _, _⟩
  simp only [Nd.p, NP.mk.injEq] at hp
  obtain ⟨rfl, rfl, rfl, hp1, hp2, rfl⟩ := hp
  have l1 : K'.length = lk := by have := congrArg List.length hp1; simp only [TL.p, List.length_map] at this; rw [this]; exact HLK.out
  have l2 : V'.length = lw := by have := congrArg List.length hp2; simp only [TL.p, List.length_map] at this; rw [this]; exact HLW.out
  have P1 : Hid (K'.map (·.s) = K.map (·.s) ∧ V'.map (·.s) = V.map (·.s) ∧ K'.length = lk ∧ V'.length = lw) := ⟨hp1, hp2, l1, l2⟩
  have hv2 := And.intro hown.k (And.intro hown.v hown.c)
  simp only [IL.v, HLC.out] at hv2
  have G2 : Hid (w2.heap[W.heap.size]? = some (.cells #[.slice none 0 0, .slice none 0 0, .slice none 0 0] 35 (0, 0))) := (hb2.block _ (lt_of_block G0.out)).trans G0.out
  have V2 := hide hv2
  have B2 := hide hb2
  simp only [Nd.v, Tx.v, TL.v, IL.v, l1, l2, HLC.out]
  clear hv2 hown hb2 HCL hp1 hp2 l1 l2
  generalize ns.length = lh' at *
  obtain ⟨w3, hw3⟩ : ∃ w3, w3 = w2.alloc (.cells #[.int .i64 lv', .slice na lh' nc, .int .i64 ri', .slice kn lk kd, .slice vn lw vd, .slice cn lc cd] 37) := ⟨_, rfl⟩
  have b3 : Below w2.heap.size w2 w3 := by rw [hw3]; exact (Below.refl _ _).alloc (Nat.le_refl _) _
  have G3 : Hid (w3.heap[W.heap.size]? = some (.cells #[.slice none 0 0, .slice none 0 0, .slice none 0 0] 35 (0, 0))) := (b3.block _ (lt_of_block G2.out)).trans G2.out
  have g3 := G3.out
  rw [hw3] at g3
  obtain ⟨y0, y1, y2⟩ := Tri.of g3
  have F3 := fun j => frozen_of g3 j
  have HW3 := hide hw3
  have B3 := hide b3
  clear hw3 b3 g3
  go_wp2_with fail
  (try simp only [Exit.inBlock, Exit.then])
  rw [← HW3.out]
  have G6 := tri_block G3.out (.slice kn lk kd) (.slice vn lw vd) (.slice cn lc cd)
  have U6 : Upd (fun b => b = W.heap.size) w3 (tri3 w3 W.heap.size (.slice kn lk kd) (.slice vn lw vd) (.slice cn lc cd)) := tri_upd _ _ _ _ _ _ rfl
  obtain ⟨q0, q1, q2⟩ := Tri.of G6
  show bodyPost _ _ _ _ _ (tri3 w3 W.heap.size (.slice kn lk kd) (.slice vn lw vd) (.slice cn lc cd))
  generalize tri3 w3 W.heap.size (.slice kn lk kd) (.slice vn lw vd) (.slice cn lc cd) = w6 at *
  have zz := Z0.out
  have b02 := B0.out.trans (B2.out.mono B0.out.size)
  have b03 := b02.trans (B3.out.mono b02.size)
  obtain ⟨p1, p2, p3, p4⟩ := P1.out
  refine bodyPost_ret (v := .tuple #[.agg #[.slice kn lk kd, .slice vn lw vd, .slice cn lc cd], .int .i64 0]) (by simp [results, Try.results58, go_sem, q0, q1, q2]) rfl ⟨kn, kd, K', vn, vd, V', cn, cd, rfl, p1, p2, p3, p4, ?_, ?_, ?_, ?_⟩
  · exact ((V2.out.1.below B3.out).upd U6 (fun b h1 h2 h3 => by omega)).mono (by omega)
  · exact ((V2.out.2.1.below B3.out).upd U6 (fun b h1 h2 h3 => by omega)).mono (by omega)
  · exact owns_mono (ownsI_upd (owns_below V2.out.2.2 B3.out) U6 (fun b h1 h2 h3 => by omega)) (by omega)
  · exact b03.trans (U6.below (by have := b03.size; omega) (fun k hk e => by omega))
end

end Go.Proofs.Ytfpogjgbmibmcaa
