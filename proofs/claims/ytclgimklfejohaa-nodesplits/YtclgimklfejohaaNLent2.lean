/- The law's lent: the walk. -/
import Derived.Test.YtclgimklfejohaaNLentE
import Derived.Deep.RegionLaw
import Derived.Deep.DeepCutAuto
import Derived.Deep.CutBlock
namespace Go.Proofs.Ytclgimklfejohaa
open Go.RowKit

set_option maxRecDepth 100000 in
set_option maxHeartbeats 6400000 in
theorem lent_any (n : Nd) (w : World) (hn : n.Ok w) (hz1 : n.ks.L.length * 24 ≤ 140737488351900) (hz2 : n.vs.L.length * 24 ≤ 140737488351900) (hz3 : n.cs.s.length * 8 ≤ 140737488351900) :
    Calls Try.prog 8 #[n.v] w (LePost w n) := by
  obtain ⟨iB, hiB, hzB0, hzB1, hzB2⟩ := info_parts infoByte'
  obtain ⟨iT, hiT, hzT0, hzT1, hzT2⟩ := info_parts infoT
  obtain ⟨iI, hiI, hzI0, hzI1, hzI2⟩ := info_parts infoI
  have kc := convK
  have HCL : Hid (∀ W, Below w.heap.size w W → Calls Try.prog 27 #[n.v] W (RcPost W n)) := fun W h => rclone_any n W (hn.below h)
  have HNP : Hid (∃ p, p = n.p) := ⟨_, rfl⟩
  obtain ⟨P, hP⟩ := HNP.out
  have HZ : Hid (n.hi.s.length ≤ 140737488351232) := hn.h.z
  unfold RcPost at HCL
  unfold LePost
  rw [← hP] at HCL ⊢
  have HPL : Hid (P.hi.length = n.hi.s.length ∧ P.ks.length = n.ks.L.length ∧ P.vs.length = n.vs.L.length ∧ P.cs.length = n.cs.s.length) := by rw [hP]; exact ⟨rfl, TL.p_len _, TL.p_len _, rfl⟩
  obtain ⟨lv, ⟨ha, hc, hs⟩, ri, ⟨ka, kc', K⟩, ⟨va, vc, V⟩, ⟨ca, cc, C⟩⟩ := n
  simp only [Nd.v, Tx.v, TL.v, IL.v] at HCL HPL HZ hz1 hz2 hz3 ⊢
  clear hn hP HNP
  generalize hs.length = lh at *
  generalize K.length = lk at *
  generalize V.length = lw at *
  generalize C.length = lc at *
  obtain ⟨w0, hw0⟩ : ∃ w0, w0 = (w.alloc (.cells #[.int .i64 lv, .slice ha lh hc, .int .i64 ri, .slice ka lk kc', .slice va lw vc, .slice ca lc cc] 30)).alloc (.cells #[.int .i64 0, .slice none 0 0, .int .i64 0, .slice none 0 0, .slice none 0 0, .slice none 0 0] 30) := ⟨_, rfl⟩
  have z0 : w0.heap.size = w.heap.size + 2 := by rw [hw0]; simp
  have B0 : Hid (Below w.heap.size w w0) := by show Below _ _ _; rw [hw0]; exact ((Below.refl _ _).alloc (Nat.le_refl _) _).alloc (by simp) _
  have R0 : Hid (w0.heap[w.heap.size + 1]? = some (.cells #[.int .i64 0, .slice none 0 0, .int .i64 0, .slice none 0 0, .slice none 0 0, .slice none 0 0] 30 (0, 0))) := by show _ = _; rw [hw0]; exact new_at (by simp)
  have Z0 := hide z0
  have HW0 := hide hw0
  clear hw0 z0
  go_enter Try.func8, Try.ntmps8
  go_wp2_with fail
  rw [← HW0.out]
  refine (HCL.out w0 B0.out).mono ?_
  rintro e w1 ⟨m, N1, N2, rfl, hpm, hom, b1, hN1, hok1, hN2, hov2, hN12⟩
  have L1 : m.hi.s.length = lh := by rw [← HPL.out.1, ← hpm]; rfl
  have L2 : m.ks.L.length = lk := by rw [← HPL.out.2.1, ← hpm]; exact (TL.p_len _).symm
  have L3 : m.vs.L.length = lw := by rw [← HPL.out.2.2.1, ← hpm]; exact (TL.p_len _).symm
  have L4 : m.cs.s.length = lc := by rw [← HPL.out.2.2.2, ← hpm]; rfl
  have HPM := hide hpm
  have HB8 := hide hom.hb.1
  obtain ⟨lv1, ⟨ha1, hc1, hs1⟩, ri1, ⟨ka1, kc1, K1⟩, ⟨va1, vc1, V1⟩, ⟨ca1, cc1, C1⟩⟩ := m
  simp only at L1 L2 L3 L4
  have hl0 := Z0.out
  have LS0 : Hid (LtS w (w1.alloc (.cells #[.int .i64 lv1, .slice ha1 lh hc1, .int .i64 ri1, .slice ka1 lk kc1, .slice va1 lw vc1, .slice ca1 lc cc1] 30)) w1.heap.size lv1 ri1 ha1 ka1 va1 ca1 hc1 kc1 vc1 cc1 hs1 [] K1 [] V1 [] C1 []) := by
    have bA : Below w1.heap.size w1 (w1.alloc (.cells #[.int .i64 lv1, .slice ha1 lh hc1, .int .i64 ri1, .slice ka1 lk kc1, .slice va1 lw vc1, .slice ca1 lc cc1] 30)) := (Below.refl _ _).alloc (Nat.le_refl _) _
    have hs1' := b1.size
    rw [hl0] at hom
    refine ⟨by rw [L1, L2, L3, L4]; exact heap_alloc_new w1 _, ?_, (B0.out.trans (b1.mono B0.out.size)).trans (bA.mono (by omega)), by omega, ?_, ?_, ?_, ?_, ?_, ?_, ?_⟩
    · exact (bA.block _ (lt_of_block ((b1.block _ (lt_of_block R0.out)).trans R0.out))).trans ((b1.block _ (lt_of_block R0.out)).trans R0.out)
    · rw [List.append_nil]; exact owns_below hom.h.owns bA
    · rw [List.append_nil]; exact owns_below hom.k.row bA
    · rw [List.append_nil]; exact owns_below hom.v.row bA
    · rw [List.append_nil]; exact owns_below hom.c bA
    · rw [List.append_nil]; exact fun x hx => (ownB_T (hom.k.each x hx) (hom.k.b8 x hx).1 (hom.k.b8 x hx).2).below bA
    · rw [List.append_nil]; exact fun x hx => (ownB_T (hom.v.each x hx) (hom.v.b8 x hx).1 (hom.v.b8 x hx).2).below bA
    · intro x y hx hy
      have a1 := hN2 x.block (by show (Value.slice ka1 _ _).ownBlock = _; rw [hx]; rfl)
      have a2 := (hov2.row.lt y.block (by show (Value.slice va1 _ _).ownBlock = _; rw [hy]; rfl)).1
      omega
  have SEP : Hid (∀ ad, ha1 = some ad → (∀ x ∈ K1 ++ [], ∀ y, x.a = some y → y.block ≠ ad.block) ∧ (∀ x ∈ V1 ++ [], ∀ y, x.a = some y → y.block ≠ ad.block)) := fun ad had => by
    have a1 := hN1 ad.block (by show (Value.slice ha1 _ _).ownBlock = _; rw [had]; rfl)
    refine ⟨fun x hx y hy => ?_, fun x hx y hy => ?_⟩
    · rw [List.append_nil] at hx
      have := ((hok1.each x hx).owns.lt y.block (by simp only [Tx.v]; rw [hy]; rfl)).1
      omega
    · rw [List.append_nil] at hx
      have := ((hov2.each x hx).owns.lt y.block (by simp only [Tx.v]; rw [hy]; rfl)).1
      omega
  replace L1 := hide L1
  replace L2 := hide L2
  replace L3 := hide L3
  replace L4 := hide L4
  clear hpm hom b1 hN1 hok1 hN2 hov2 hN12 HW0 HCL
  dsimp only
  rw [L1.out, L2.out, L3.out, L4.out]
  obtain ⟨X, hX⟩ : ∃ X, X = w1.heap.size := ⟨_, rfl⟩
  obtain ⟨w2, hw2⟩ : ∃ w2, w2 = w1.alloc (.cells #[.int .i64 lv1, .slice ha1 lh hc1, .int .i64 ri1, .slice ka1 lk kc1, .slice va1 lw vc1, .slice ca1 lc cc1] 30) := ⟨_, rfl⟩
  rw [← hw2, ← hX] at LS0
  have HW2 := hide hw2
  have HXX := hide hX
  clear hw2 hX
  have hz0 := HZ.out
  have hXX := LS0.out.hX

  have x0 := (Six.of (LS0.out.box)).2.1
  rw [L1.out] at x0
  have hxb := lt_of_block LS0.out.box
  go_upto_region 2 with fail
  rw [← HXX.out, ← HW2.out]
  clear kc HW2 HXX HPL HZ B0 R0 Z0
  have LA : Hid (LtS w ((w2.alloc (.cells #[.int .u8 7, .int .u8 7] 5)).drew) X lv1 ri1 ha1 ka1 va1 ca1 hc1 kc1 vc1 cc1 hs1 [] K1 [] V1 [] C1 []) := LS0.out.below (below_drew ((Below.refl _ _).alloc (Nat.le_refl _) _))
  have QQ : Hid (∀ j u, [.int .u8 7, .int .u8 7][j]? = some u → ((w2.alloc (.cells #[.int .u8 7, .int .u8 7] 5)).drew).cell? ((⟨w2.heap.size, 0, none⟩ : Addr).add j) = some u) := two_newL _ _ _ _
  have RO : Hid (((w2.alloc (.cells #[.int .u8 7, .int .u8 7] 5)).drew).ownsRow (w.heap.size + 2) 5 1 (.slice ha1 lh hc1) lh (hs1.map (Value.int .u8))) := by have := LA.out.h; rw [List.append_nil, L1.out] at this; exact this
  have BX : Hid (((w2.alloc (.cells #[.int .u8 7, .int .u8 7] 5)).drew).heap[X]? = _) := LA.out.box
  have NE : Hid (some X ≠ (Value.slice ha1 lh hc1).ownBlock) := fun e => by
    obtain ⟨ad, h1, h2⟩ := block_of e.symm
    obtain ⟨cur, h3⟩ := owns_ty RO.out ad h1
    rw [h2, BX.out] at h3
    simp only [Option.some.injEq, Obj.cells.injEq] at h3
    exact absurd h3.2.1 (by decide)
  have O1 : Hid (∀ u ∈ ([.int .u8 7, .int .u8 7] : List Value), u.oneCell' = true) := by intro u hu; simp at hu; rcases hu with rfl | rfl <;> rfl
  have n1 : w.heap.size + 2 ≤ w2.heap.size := by have h1 := LS0.out.hX; have h2 := lt_of_block LS0.out.box; omega
  go_cut [] (fun wx => ∃ (gh caph : Nat) (wy : World), wx = wy.setCell ⟨X, 1, none⟩ (.slice (some ⟨gh, 0, none⟩) lh caph) ∧ Hid (wy.ownsRow (w.heap.size + 2) 5 1 (.slice (some ⟨gh, 0, none⟩) (lh + 2) caph) (lh + 2) (hs1.map (Value.int .u8) ++ [.int .u8 7, .int .u8 7])) ∧ Hid (((w2.alloc (.cells #[.int .u8 7, .int .u8 7] 5)).drew).grownBy wy (Value.slice ha1 lh hc1).ownBlock) ∧ Hid ((Value.slice ha1 lh hc1).ownBlock = some gh ∨ gh = ((w2.alloc (.cells #[.int .u8 7, .int .u8 7] 5)).drew).heap.size))
  case first =>
    clear LA LS0 SEP L1 L2 L3 L4 HPM HB8 hiT hzT0 hzT1 hzT2 hiI hzI0 hzI1 hzI2 iT iI
    go_region_law (first
      | (refine step_append_lies _ (by rfl) (.tmp 8) (.tmp 9) 22 (by rfl) (w.heap.size + 2) 5 iB (.int .u8 0) 1 1 Try.underlying22 hiB hzB0 hzB1 hzB2 rfl (by decide) (.slice ha1 lh hc1) lh (hs1.map (Value.int .u8)) (by rfl) RO.out ⟨w2.heap.size, 0, none⟩ 2 2 [.int .u8 7, .int .u8 7] (by rfl) rfl QQ.out O1.out (by omega) (by unfold maxLen; omega) (by omega) (by simp; omega) _ rfl ?_; intro gh caph wy hown hg hat _; have qq := fun W => uptoB (some ⟨gh, 0, none⟩) (lh + 2) caph lh (by have := cap_of hown; omega) W; have bx := (hg.block X (lt_of_block BX.out) NE.out).trans BX.out; have c1 := (hg.cell (show ((w2.alloc (.cells #[.int .u8 7, .int .u8 7] 5)).drew).cell? ⟨X, 1, none⟩ = _ from (below_drew ((Below.refl _ _).alloc (Nat.le_refl _) _)).cell (p := ⟨X, 1, none⟩) hxb |>.trans x0) NE.out); have c2 := frozen_of bx 1; replace hown := hide hown; replace hg := hide hg; replace hat := hide hat; clear bx)
      | fail)
    all_goals (try go_wp2_with fail)
    all_goals
      go_meet
      exact ⟨gh, caph, wy, rfl, hown, hg, hat⟩
  case rest =>
  rename World => w3
  obtain ⟨gh, caph, wy, hw, ho, hgr, hat⟩ := hcut
  have LSh : Hid (LtS w w3 X lv1 ri1 (some ⟨gh, 0, none⟩) ka1 va1 ca1 caph kc1 vc1 cc1 hs1 [7, 7] K1 [] V1 [] C1 []) := by
    have := (LtS.stepH LA.out SEP.out (by rw [L1.out]; exact ho.out) (by rw [L1.out]; exact hgr.out)).2
    rw [L1.out] at this
    rw [hw]
    exact this
  clear hw ho hgr hat LA QQ RO BX NE O1 x0 hxb n1 wy LS0 SEP
  have n0 : w.heap.size + 2 ≤ w3.heap.size := by have h1 := LSh.out.hX; have h2 := lt_of_block LSh.out.box; omega
  have x0 := (Six.of (LSh.out.box)).2.2.2.1
  rw [L2.out] at x0
  have hxb := lt_of_block LSh.out.box
  go_upto_region 3 with fail
  have LA : Hid (LtS w (((w3.alloc (.cells #[.int .u8 115, .int .u8 112, .int .u8 97, .int .u8 114, .int .u8 101] 5 (5, 6))).alloc (.cells #[.slice (some ⟨w3.heap.size, 0, none⟩) 5 5] 22)).drew) X lv1 ri1 (some ⟨gh, 0, none⟩) ka1 va1 ca1 caph kc1 vc1 cc1 hs1 [7, 7] K1 [] V1 [] C1 []) := LSh.out.below (below_drew (((Below.refl _ _).alloc (Nat.le_refl _) _).alloc (by simp) _))
  have kcx : (convert 22 22 (.slice (some ⟨w3.heap.size, 0, none⟩) 5 5)).run Try.prog (w3.alloc (.cells #[.int .u8 115, .int .u8 112, .int .u8 97, .int .u8 114, .int .u8 101] 5)).drew = .ok (.slice (some ⟨w3.heap.size, 0, none⟩) 5 5) (w3.alloc (.cells #[.int .u8 115, .int .u8 112, .int .u8 97, .int .u8 114, .int .u8 101] 5 (5, 6))).drew := convK w3.drew w3.heap.size #[.int .u8 115, .int .u8 112, .int .u8 97, .int .u8 114, .int .u8 101] 5 5 rfl
  have TT : Hid (TxT (((w3.alloc (.cells #[.int .u8 115, .int .u8 112, .int .u8 97, .int .u8 114, .int .u8 101] 5 (5, 6))).alloc (.cells #[.slice (some ⟨w3.heap.size, 0, none⟩) 5 5] 22)).drew) ⟨some ⟨w3.heap.size, 0, none⟩, 5, [115, 112, 97, 114, 101]⟩) := spare_T _ _ (old_at (new_at rfl))
  have QQ : Hid (∀ j u, [.slice (some ⟨w3.heap.size, 0, none⟩) 5 5][j]? = some u → (((w3.alloc (.cells #[.int .u8 115, .int .u8 112, .int .u8 97, .int .u8 114, .int .u8 101] 5 (5, 6))).alloc (.cells #[.slice (some ⟨w3.heap.size, 0, none⟩) 5 5] 22)).drew).cell? ((⟨w3.heap.size + 1, 0, none⟩ : Addr).add j) = some u) := by
    intro j u hu
    show ((w3.alloc (.cells #[.int .u8 115, .int .u8 112, .int .u8 97, .int .u8 114, .int .u8 101] 5 (5, 6))).alloc (.cells #[.slice (some ⟨w3.heap.size, 0, none⟩) 5 5] 22)).cell? _ = _
    have := one_new (w3.alloc (.cells #[.int .u8 115, .int .u8 112, .int .u8 97, .int .u8 114, .int .u8 101] 5 (5, 6))) (.slice (some ⟨w3.heap.size, 0, none⟩) 5 5) 22 j u hu
    simpa using this
  have RO : Hid ((((w3.alloc (.cells #[.int .u8 115, .int .u8 112, .int .u8 97, .int .u8 114, .int .u8 101] 5 (5, 6))).alloc (.cells #[.slice (some ⟨w3.heap.size, 0, none⟩) 5 5] 22)).drew).ownsRow (w.heap.size + 2) 22 1 (.slice ka1 lk kc1) lk (K1.map Tx.v)) := by have := LA.out.k; rw [List.append_nil, L2.out] at this; exact this
  have BX : Hid ((((w3.alloc (.cells #[.int .u8 115, .int .u8 112, .int .u8 97, .int .u8 114, .int .u8 101] 5 (5, 6))).alloc (.cells #[.slice (some ⟨w3.heap.size, 0, none⟩) 5 5] 22)).drew).heap[X]? = _) := LA.out.box
  have NE : Hid (some X ≠ (Value.slice ka1 lk kc1).ownBlock) := fun e => by
    obtain ⟨ad, h1, h2⟩ := block_of e.symm
    obtain ⟨cur, h3⟩ := owns_ty RO.out ad h1
    rw [h2, BX.out] at h3
    simp only [Option.some.injEq, Obj.cells.injEq] at h3
    exact absurd h3.2.1 (by decide)
  have O1 : Hid (∀ u ∈ ([.slice (some ⟨w3.heap.size, 0, none⟩) 5 5] : List Value), u.oneCell' = true) := by intro u hu; simp at hu; subst hu; rfl
  have n1 : w.heap.size + 2 ≤ w3.heap.size := by omega
  go_cut [] (fun wx => ∃ (gk capk : Nat) (wy : World), wx = wy.setCell ⟨X, 3, none⟩ (.slice (some ⟨gk, 0, none⟩) lk capk) ∧ Hid (wy.ownsRow (w.heap.size + 2) 22 1 (.slice (some ⟨gk, 0, none⟩) (lk + 1) capk) (lk + 1) (K1.map Tx.v ++ [.slice (some ⟨w3.heap.size, 0, none⟩) 5 5])) ∧ Hid ((((w3.alloc (.cells #[.int .u8 115, .int .u8 112, .int .u8 97, .int .u8 114, .int .u8 101] 5 (5, 6))).alloc (.cells #[.slice (some ⟨w3.heap.size, 0, none⟩) 5 5] 22)).drew).grownBy wy (Value.slice ka1 lk kc1).ownBlock) ∧ Hid ((Value.slice ka1 lk kc1).ownBlock = some gk ∨ gk = (((w3.alloc (.cells #[.int .u8 115, .int .u8 112, .int .u8 97, .int .u8 114, .int .u8 101] 5 (5, 6))).alloc (.cells #[.slice (some ⟨w3.heap.size, 0, none⟩) 5 5] 22)).drew).heap.size))
  case first =>
    clear LA LSh L1 L2 L3 L4 HPM TT HB8 hiB hzB0 hzB1 hzB2 iB hiI hzI0 hzI1 hzI2 iI
    go_region_law (first
      | (refine step_append_lies _ (by rfl) (.tmp 20) (.tmp 23) 25 (by rfl) (w.heap.size + 2) 22 iT (.slice none 0 0) 1 24 Try.underlying25 hiT hzT0 hzT1 hzT2 rfl (by decide) (.slice ka1 lk kc1) lk (K1.map Tx.v) (by rfl) RO.out ⟨w3.heap.size + 1, 0, none⟩ 1 1 [.slice (some ⟨w3.heap.size, 0, none⟩) 5 5] (by rfl) rfl QQ.out O1.out (by omega) (by unfold maxLen; omega) (by omega) (by simp; omega) _ rfl ?_; intro gk capk wy hown hg hat _; have qq := fun W => uptoT (some ⟨gk, 0, none⟩) (lk + 1) capk lk (by have := cap_of hown; omega) W; have bx := (hg.block X (lt_of_block BX.out) NE.out).trans BX.out; have c1 := (hg.cell (show (((w3.alloc (.cells #[.int .u8 115, .int .u8 112, .int .u8 97, .int .u8 114, .int .u8 101] 5 (5, 6))).alloc (.cells #[.slice (some ⟨w3.heap.size, 0, none⟩) 5 5] 22)).drew).cell? ⟨X, 3, none⟩ = _ from (below_drew (((Below.refl _ _).alloc (Nat.le_refl _) _).alloc (by simp) _)).cell (p := ⟨X, 3, none⟩) hxb |>.trans x0) NE.out); have c2 := frozen_of bx 3; replace hown := hide hown; replace hg := hide hg; replace hat := hide hat; clear bx)
      | fail)
    all_goals (try go_wp2_with fail)
    all_goals
      go_meet
      exact ⟨gk, capk, wy, rfl, hown, hg, hat⟩
  case rest =>
  rename World => w4
  obtain ⟨gk, capk, wy, hw, ho, hgr, hat⟩ := hcut
  obtain ⟨tk, htk⟩ : ∃ tk : Tx, tk = ⟨some ⟨w3.heap.size, 0, none⟩, 5, [115, 112, 97, 114, 101]⟩ := ⟨_, rfl⟩
  have SSk : Hid (tk.s = [115, 112, 97, 114, 101]) := by show _ = _; rw [htk]
  have LSk : Hid (LtS w w4 X lv1 ri1 (some ⟨gh, 0, none⟩) (some ⟨gk, 0, none⟩) va1 ca1 caph capk vc1 cc1 hs1 [7, 7] K1 [tk] V1 [] C1 []) := by
    have := (LtS.stepK (t := tk) LA.out (by rw [htk]; exact TT.out) (by rw [L2.out, htk]; exact ho.out) (by rw [L2.out]; exact hgr.out) (by rw [L2.out]; exact hat.out)).2
    rw [L2.out] at this
    rw [hw]
    exact this
  clear hw ho hgr hat LA QQ RO BX NE O1 x0 hxb n1 wy LSh TT kcx htk
  replace n0 : w.heap.size + 2 ≤ w4.heap.size := by have h1 := LSk.out.hX; have h2 := lt_of_block LSk.out.box; omega
  have x0 := (Six.of (LSk.out.box)).2.2.2.2.1
  rw [L3.out] at x0
  have hxb := lt_of_block LSk.out.box
  go_upto_region 4 with fail
  have LA : Hid (LtS w (((w4.alloc (.cells #[.int .u8 115, .int .u8 112, .int .u8 97, .int .u8 114, .int .u8 101] 5 (5, 6))).alloc (.cells #[.slice (some ⟨w4.heap.size, 0, none⟩) 5 5] 22)).drew) X lv1 ri1 (some ⟨gh, 0, none⟩) (some ⟨gk, 0, none⟩) va1 ca1 caph capk vc1 cc1 hs1 [7, 7] K1 [tk] V1 [] C1 []) := LSk.out.below (below_drew (((Below.refl _ _).alloc (Nat.le_refl _) _).alloc (by simp) _))
  have kcx : (convert 22 22 (.slice (some ⟨w4.heap.size, 0, none⟩) 5 5)).run Try.prog (w4.alloc (.cells #[.int .u8 115, .int .u8 112, .int .u8 97, .int .u8 114, .int .u8 101] 5)).drew = .ok (.slice (some ⟨w4.heap.size, 0, none⟩) 5 5) (w4.alloc (.cells #[.int .u8 115, .int .u8 112, .int .u8 97, .int .u8 114, .int .u8 101] 5 (5, 6))).drew := convK w4.drew w4.heap.size #[.int .u8 115, .int .u8 112, .int .u8 97, .int .u8 114, .int .u8 101] 5 5 rfl
  have TT : Hid (TxT (((w4.alloc (.cells #[.int .u8 115, .int .u8 112, .int .u8 97, .int .u8 114, .int .u8 101] 5 (5, 6))).alloc (.cells #[.slice (some ⟨w4.heap.size, 0, none⟩) 5 5] 22)).drew) ⟨some ⟨w4.heap.size, 0, none⟩, 5, [115, 112, 97, 114, 101]⟩) := spare_T _ _ (old_at (new_at rfl))
  have QQ : Hid (∀ j u, [.slice (some ⟨w4.heap.size, 0, none⟩) 5 5][j]? = some u → (((w4.alloc (.cells #[.int .u8 115, .int .u8 112, .int .u8 97, .int .u8 114, .int .u8 101] 5 (5, 6))).alloc (.cells #[.slice (some ⟨w4.heap.size, 0, none⟩) 5 5] 22)).drew).cell? ((⟨w4.heap.size + 1, 0, none⟩ : Addr).add j) = some u) := by
    intro j u hu
    show ((w4.alloc (.cells #[.int .u8 115, .int .u8 112, .int .u8 97, .int .u8 114, .int .u8 101] 5 (5, 6))).alloc (.cells #[.slice (some ⟨w4.heap.size, 0, none⟩) 5 5] 22)).cell? _ = _
    have := one_new (w4.alloc (.cells #[.int .u8 115, .int .u8 112, .int .u8 97, .int .u8 114, .int .u8 101] 5 (5, 6))) (.slice (some ⟨w4.heap.size, 0, none⟩) 5 5) 22 j u hu
    simpa using this
  have RO : Hid ((((w4.alloc (.cells #[.int .u8 115, .int .u8 112, .int .u8 97, .int .u8 114, .int .u8 101] 5 (5, 6))).alloc (.cells #[.slice (some ⟨w4.heap.size, 0, none⟩) 5 5] 22)).drew).ownsRow (w.heap.size + 2) 22 1 (.slice va1 lw vc1) lw (V1.map Tx.v)) := by have := LA.out.v; rw [List.append_nil, L3.out] at this; exact this
  have BX : Hid ((((w4.alloc (.cells #[.int .u8 115, .int .u8 112, .int .u8 97, .int .u8 114, .int .u8 101] 5 (5, 6))).alloc (.cells #[.slice (some ⟨w4.heap.size, 0, none⟩) 5 5] 22)).drew).heap[X]? = _) := LA.out.box
  have NE : Hid (some X ≠ (Value.slice va1 lw vc1).ownBlock) := fun e => by
    obtain ⟨ad, h1, h2⟩ := block_of e.symm
    obtain ⟨cur, h3⟩ := owns_ty RO.out ad h1
    rw [h2, BX.out] at h3
    simp only [Option.some.injEq, Obj.cells.injEq] at h3
    exact absurd h3.2.1 (by decide)
  have O1 : Hid (∀ u ∈ ([.slice (some ⟨w4.heap.size, 0, none⟩) 5 5] : List Value), u.oneCell' = true) := by intro u hu; simp at hu; subst hu; rfl
  have n1 : w.heap.size + 2 ≤ w4.heap.size := by omega
  go_cut [] (fun wx => ∃ (gv capv : Nat) (wy : World), wx = wy.setCell ⟨X, 4, none⟩ (.slice (some ⟨gv, 0, none⟩) lw capv) ∧ Hid (wy.ownsRow (w.heap.size + 2) 22 1 (.slice (some ⟨gv, 0, none⟩) (lw + 1) capv) (lw + 1) (V1.map Tx.v ++ [.slice (some ⟨w4.heap.size, 0, none⟩) 5 5])) ∧ Hid ((((w4.alloc (.cells #[.int .u8 115, .int .u8 112, .int .u8 97, .int .u8 114, .int .u8 101] 5 (5, 6))).alloc (.cells #[.slice (some ⟨w4.heap.size, 0, none⟩) 5 5] 22)).drew).grownBy wy (Value.slice va1 lw vc1).ownBlock) ∧ Hid ((Value.slice va1 lw vc1).ownBlock = some gv ∨ gv = (((w4.alloc (.cells #[.int .u8 115, .int .u8 112, .int .u8 97, .int .u8 114, .int .u8 101] 5 (5, 6))).alloc (.cells #[.slice (some ⟨w4.heap.size, 0, none⟩) 5 5] 22)).drew).heap.size))
  case first =>
    clear LA LSk L1 L2 L3 L4 HPM TT SSk HB8 hiB hzB0 hzB1 hzB2 iB hiI hzI0 hzI1 hzI2 iI
    go_region_law (first
      | (refine step_append_lies _ (by rfl) (.tmp 34) (.tmp 37) 25 (by rfl) (w.heap.size + 2) 22 iT (.slice none 0 0) 1 24 Try.underlying25 hiT hzT0 hzT1 hzT2 rfl (by decide) (.slice va1 lw vc1) lw (V1.map Tx.v) (by rfl) RO.out ⟨w4.heap.size + 1, 0, none⟩ 1 1 [.slice (some ⟨w4.heap.size, 0, none⟩) 5 5] (by rfl) rfl QQ.out O1.out (by omega) (by unfold maxLen; omega) (by omega) (by simp; omega) _ rfl ?_; intro gv capv wy hown hg hat _; have qq := fun W => uptoT (some ⟨gv, 0, none⟩) (lw + 1) capv lw (by have := cap_of hown; omega) W; have bx := (hg.block X (lt_of_block BX.out) NE.out).trans BX.out; have c1 := (hg.cell (show (((w4.alloc (.cells #[.int .u8 115, .int .u8 112, .int .u8 97, .int .u8 114, .int .u8 101] 5 (5, 6))).alloc (.cells #[.slice (some ⟨w4.heap.size, 0, none⟩) 5 5] 22)).drew).cell? ⟨X, 4, none⟩ = _ from (below_drew (((Below.refl _ _).alloc (Nat.le_refl _) _).alloc (by simp) _)).cell (p := ⟨X, 4, none⟩) hxb |>.trans x0) NE.out); have c2 := frozen_of bx 4; replace hown := hide hown; replace hg := hide hg; replace hat := hide hat; clear bx)
      | fail)
    all_goals (try go_wp2_with fail)
    all_goals
      go_meet
      exact ⟨gv, capv, wy, rfl, hown, hg, hat⟩
  case rest =>
  rename World => w5
  obtain ⟨gv, capv, wy, hw, ho, hgr, hat⟩ := hcut
  obtain ⟨tv, htv⟩ : ∃ tv : Tx, tv = ⟨some ⟨w4.heap.size, 0, none⟩, 5, [115, 112, 97, 114, 101]⟩ := ⟨_, rfl⟩
  have SSv : Hid (tv.s = [115, 112, 97, 114, 101]) := by show _ = _; rw [htv]
  have LSv : Hid (LtS w w5 X lv1 ri1 (some ⟨gh, 0, none⟩) (some ⟨gk, 0, none⟩) (some ⟨gv, 0, none⟩) ca1 caph capk capv cc1 hs1 [7, 7] K1 [tk] V1 [tv] C1 []) := by
    have := (LtS.stepV (t := tv) LA.out (by rw [htv]; exact TT.out) (by rw [L3.out, htv]; exact ho.out) (by rw [L3.out]; exact hgr.out) (by rw [L3.out]; exact hat.out)).2
    rw [L3.out] at this
    rw [hw]
    exact this
  clear hw ho hgr hat LA QQ RO BX NE O1 x0 hxb n1 wy LSk TT kcx htv
  replace n0 : w.heap.size + 2 ≤ w5.heap.size := by have h1 := LSv.out.hX; have h2 := lt_of_block LSv.out.box; omega
  have x0 := (Six.of (LSv.out.box)).2.2.2.2.2
  rw [L4.out] at x0
  have hxb := lt_of_block LSv.out.box
  go_upto_region 5 with fail
  have LA : Hid (LtS w ((w5.alloc (.cells #[.int .i64 777] 3)).drew) X lv1 ri1 (some ⟨gh, 0, none⟩) (some ⟨gk, 0, none⟩) (some ⟨gv, 0, none⟩) ca1 caph capk capv cc1 hs1 [7, 7] K1 [tk] V1 [tv] C1 []) := LSv.out.below (below_drew ((Below.refl _ _).alloc (Nat.le_refl _) _))
  have QQ : Hid (∀ j u, [.int .i64 777][j]? = some u → ((w5.alloc (.cells #[.int .i64 777] 3)).drew).cell? ((⟨w5.heap.size, 0, none⟩ : Addr).add j) = some u) := one_new _ _ _
  have RO : Hid (((w5.alloc (.cells #[.int .i64 777] 3)).drew).ownsRow (w.heap.size + 2) 3 1 (.slice ca1 lc cc1) lc (C1.map (Value.int .i64))) := by have := LA.out.c; rw [List.append_nil, L4.out] at this; exact this
  have BX : Hid (((w5.alloc (.cells #[.int .i64 777] 3)).drew).heap[X]? = _) := LA.out.box
  have NE : Hid (some X ≠ (Value.slice ca1 lc cc1).ownBlock) := fun e => by
    obtain ⟨ad, h1, h2⟩ := block_of e.symm
    obtain ⟨cur, h3⟩ := owns_ty RO.out ad h1
    rw [h2, BX.out] at h3
    simp only [Option.some.injEq, Obj.cells.injEq] at h3
    exact absurd h3.2.1 (by decide)
  have O1 : Hid (∀ u ∈ ([.int .i64 777] : List Value), u.oneCell' = true) := by intro u hu; simp at hu; subst hu; rfl
  have n1 : w.heap.size + 2 ≤ w5.heap.size := by omega
  go_cut [] (fun wx => ∃ (gc capc : Nat) (wy : World), wx = wy.setCell ⟨X, 5, none⟩ (.slice (some ⟨gc, 0, none⟩) lc capc) ∧ Hid (wy.ownsRow (w.heap.size + 2) 3 1 (.slice (some ⟨gc, 0, none⟩) (lc + 1) capc) (lc + 1) (C1.map (Value.int .i64) ++ [.int .i64 777])) ∧ Hid (((w5.alloc (.cells #[.int .i64 777] 3)).drew).grownBy wy (Value.slice ca1 lc cc1).ownBlock) ∧ Hid ((Value.slice ca1 lc cc1).ownBlock = some gc ∨ gc = ((w5.alloc (.cells #[.int .i64 777] 3)).drew).heap.size))
  case first =>
    clear LA LSv L1 L2 L3 L4 HPM SSk SSv HB8 hiB hzB0 hzB1 hzB2 iB hiT hzT0 hzT1 hzT2 iT
    go_region_law (first
      | (refine step_append_lies _ (by rfl) (.tmp 48) (.tmp 49) 26 (by rfl) (w.heap.size + 2) 3 iI (.int .i64 0) 1 8 Try.underlying26 hiI hzI0 hzI1 hzI2 rfl (by decide) (.slice ca1 lc cc1) lc (C1.map (Value.int .i64)) (by rfl) RO.out ⟨w5.heap.size, 0, none⟩ 1 1 [.int .i64 777] (by rfl) rfl QQ.out O1.out (by omega) (by unfold maxLen; omega) (by omega) (by simp; omega) _ rfl ?_; intro gc capc wy hown hg hat _; have qq := fun W => uptoI (some ⟨gc, 0, none⟩) (lc + 1) capc lc (by have := cap_of hown; omega) W; have bx := (hg.block X (lt_of_block BX.out) NE.out).trans BX.out; have c1 := (hg.cell (show ((w5.alloc (.cells #[.int .i64 777] 3)).drew).cell? ⟨X, 5, none⟩ = _ from (below_drew ((Below.refl _ _).alloc (Nat.le_refl _) _)).cell (p := ⟨X, 5, none⟩) hxb |>.trans x0) NE.out); have c2 := frozen_of bx 5; replace hown := hide hown; replace hg := hide hg; replace hat := hide hat; clear bx)
      | fail)
    all_goals (try go_wp2_with fail)
    all_goals
      go_meet
      exact ⟨gc, capc, wy, rfl, hown, hg, hat⟩
  case rest =>
  rename World => w6
  obtain ⟨gc, capc, wy, hw, ho, hgr, hat⟩ := hcut
  have LSc : Hid (LtS w w6 X lv1 ri1 (some ⟨gh, 0, none⟩) (some ⟨gk, 0, none⟩) (some ⟨gv, 0, none⟩) (some ⟨gc, 0, none⟩) caph capk capv capc hs1 [7, 7] K1 [tk] V1 [tv] C1 [777]) := by
    have := (LtS.stepC LA.out (by rw [L4.out]; exact ho.out) (by rw [L4.out]; exact hgr.out)).2
    rw [L4.out] at this
    rw [hw]
    exact this
  clear hw ho hgr hat LA QQ RO BX NE O1 x0 hxb n1 wy LSv
  replace n0 : w.heap.size + 2 ≤ w6.heap.size := by have h1 := LSc.out.hX; have h2 := lt_of_block LSc.out.box; omega
  have HE := hide (lent_end (P := P) LSc.out SSk.out SSv.out HB8.out (by rw [L1.out]; exact hz0) (by rw [L2.out]; omega) (by rw [L3.out]; omega) (by rw [L4.out]; omega) HPM.out)
  have bx := LSc.out.box
  rw [L1.out, L2.out, L3.out, L4.out] at bx
  obtain ⟨x0, x1, x2, x3, x4, x5⟩ := Six.of bx
  have rs := LSc.out.res
  obtain ⟨y0, y1, y2, y3, y4, y5⟩ := Six.of rs
  have f8 := fun j => frozen_of rs j
  unfold sixN ndOf six6 at HE
  simp only [Nd.v, Tx.v, TL.v, IL.v, L1.out, L2.out, L3.out, L4.out] at HE
  clear bx rs LSc SSk SSv HPM HB8
  go_wp2_with fail
  (try simp only [Exit.inBlock, Exit.then])
  obtain ⟨hF, q0, q1, q2, q3, q4, q5⟩ := HE.out
  exact bodyPost_ret (v := .agg #[.int .i64 lv1, .slice (some ⟨gh, 0, none⟩) lh caph, .int .i64 ri1, .slice (some ⟨gk, 0, none⟩) lk capk, .slice (some ⟨gv, 0, none⟩) lw capv, .slice (some ⟨gc, 0, none⟩) lc capc]) (by simp [results, Try.results8, go_sem, q0, q1, q2, q3, q4, q5]) rfl hF

end Go.Proofs.Ytclgimklfejohaa
