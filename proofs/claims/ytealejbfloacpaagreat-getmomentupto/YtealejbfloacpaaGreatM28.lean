/- Texts of one's own. -/
import Derived.Test.YtealejbfloacpaaGreatM14
import Derived.Deep.DeepCutAuto
import Derived.Deep.CutBlock
import Derived.Deep.RegionHeld3
import Derived.Deep.RegionLaw
import Derived.BigRegion
import Derived.Handy
import Derived.Deep.AppendLies
namespace Go.Proofs.YtealejbfloacpaaGreat
open Go.RowKit
set_option maxRecDepth 100000
def CpI (W : World) (B : Nat) (nodes root : Int) (L : List RS) (i : Nat) (wy : World) : Prop :=
 ∃ (v : Value) (D : Nat → Prop) (L' : List RS), wy.heap[B]? = some (.cells #[.int .i64 nodes, v, .int .i64 root] 127 (0, 0)) ∧ wy.ownsRow W.heap.size 124 7 v i (L'.flatMap RS.cells) ∧ ndsR L' = (ndsR L).take i ∧ (∀ t ∈ L', t.Ok wy D) ∧ (∀ k, D k → W.heap.size ≤ k ∧ k < wy.heap.size ∧ k ≠ B ∧ v.ownBlock ≠ some k) ∧ W.heap.size ≤ B ∧ Below W.heap.size W wy
def CpP (W : World) (nodes root : Int) (L : List RS) (e : Ending) (w' : World) : Prop :=
 ∃ B g c M D L', e = .returned (.pointer (some ⟨B, 0, none⟩)) ∧ RA w' B g c M D nodes root L' ∧ ndsR L' = ndsR L ∧ (∀ k, M k ∨ D k → W.heap.size ≤ k) ∧ Below W.heap.size W w'
section
variable {W : World} {A g c : Nat} {M D : Nat → Prop} {nodes root : Int} {L : List RS}
theorem cp_end (hA : RA W A g c M D nodes root L) {B : Nat} {wy : World} (h : CpI W B nodes root L L.length wy) : CpP W nodes root L (.returned (.pointer (some ⟨B, 0, none⟩))) wy := by
 obtain ⟨v, D', L', h1, h2, h3, h4, h5, h6, h7⟩ := h
 rw [← ndsR_len, List.take_length] at h3
 have hl : L'.length = L.length := by rw [← ndsR_len L', h3, ndsR_len]
 have ho := hA.one
 rcases h2.2 with ⟨_, h0⟩ | ⟨g', c', cur, rfl, hg, hh, r⟩
 ·omega
 ·have hgl := lt_of_block hh
  have hbl := lt_of_block h1
  refine ⟨B, g', c', fun k => k = B ∨ k = g', D', L', rfl, ⟨by rw [hl]; exact h1, by rw [hl]; exact owns_mono h2 (Nat.zero_le _), .inr rfl, .inl rfl, ?_, ?_, h4, by omega, by rw [hl]; exact hA.le, hA.nz⟩, h3, ?_, h7⟩
  ·rintro k ((rfl | rfl) | hk)
   ·exact hbl
   ·exact hgl
   ·exact (h5 k hk).2.1
  ·rintro k (rfl | rfl) hk
   ·exact (h5 _ hk).2.2.1 rfl
   ·exact (h5 _ hk).2.2.2 rfl
  ·rintro k ((rfl | rfl) | hk)
   ·exact h6
   ·exact hg
   ·exact (h5 k hk).1
theorem cp_begin (w1 : World) (hb : Below W.heap.size W w1) (hs : w1.heap.size = W.heap.size) : ∀ wx, wx = w1.alloc (.cells #[.int .i64 nodes, .slice none 0 0, .int .i64 root] 127) → CpI W W.heap.size nodes root L 0 wx := by
 rintro wx rfl
 refine ⟨.slice none 0 0, fun _ => False, [], ?_, World.ownsRow_nil _ _ _ _, rfl, (fun t ht => by cases ht), (fun k hk => hk.elim), Nat.le_refl _, hb.alloc (by omega) _⟩
 rw [← hs]
 exact heap_alloc_new w1 _
theorem cp_more {B i : Nat} {wy wc wt w5 : World} {v : Value} {D' : Nat → Prop} {L' : List RS} {g' c' : Nat} {m : Nd} {x : Nat} (hi : i < L.length) (h1 : wy.heap[B]? = some (.cells #[.int .i64 nodes, v, .int .i64 root] 127 (0, 0))) (h3 : ndsR L' = (ndsR L).take i) (h4 : ∀ t ∈ L', t.Ok wy D') (h5 : ∀ k, D' k → W.heap.size ≤ k ∧ k < wy.heap.size ∧ k ≠ B ∧ v.ownBlock ≠ some k) (h6 : W.heap.size ≤ B) (h7 : Below W.heap.size W wy)
  (hvl : ∀ k, v.ownBlock = some k → k < wy.heap.size ∧ k ≠ B) (hwc : Below wy.heap.size wy wc) (hwt : Below wc.heap.size wc wt) (hm : m.Own wc wy.heap.size) (hmp : m.p = L[i].n.p) (hx : x = L[i].w) (hxw : x < 18446744073709551616) (hvs : ∀ k, v.ownBlock = some k → W.heap.size ≤ k)
  (ho : w5.ownsRow W.heap.size 124 7 (.slice (some ⟨g', 0, none⟩) (i + 1) c') (i + 1) (L'.flatMap RS.cells ++ RS.cells ⟨x, m⟩)) (hg : wt.grownBy w5 v.ownBlock) (hor : v.ownBlock = some g' ∨ wt.heap.size ≤ g') :
  ∀ w6, w6 = w5.setCell ⟨B, 1, none⟩ (.slice (some ⟨g', 0, none⟩) (i + 1) c') → CpI W B nodes root L (i + 1) w6 := by
 rintro w6 rfl
 have hBl := lt_of_block h1
 have hyt : Below wy.heap.size wy wt := hwc.trans (hwt.mono hwc.size)
 have u5 : Upd (fun k => v.ownBlock = some k) wt w5 := Upd.of_grown hg (fun k hk _ => hk)
 have hy5 : Upd (fun k => v.ownBlock = some k) wy w5 := (Upd.of_below hyt _).trans u5
 have g5 := hy5.heap h1 (fun e => (hvl B e).2 rfl)
 have u6 : Upd (fun k => k = B) w5 (w5.setCell ⟨B, 1, none⟩ (.slice (some ⟨g', 0, none⟩) (i + 1) c')) := (Upd.refl _ _).setCell _ _ (fun _ => rfl)
 have hy6 : Upd (fun k => v.ownBlock = some k ∨ k = B) wy (w5.setCell ⟨B, 1, none⟩ (.slice (some ⟨g', 0, none⟩) (i + 1) c')) := (hy5.mono (fun k _ e => .inl e)).trans (u6.mono (fun k _ e => .inr e))
 have hgB : g' ≠ B := fun e => by
  rcases hor with h | h
  ·exact (hvl g' h).2 e
  ·have := hyt.size; omega
 have hs1 := hwc.size
 have hs2 := hwt.size
 have hs3 := hy6.size
 have hs4 : wt.heap.size ≤ w5.heap.size := u5.size
 have hs5 := u6.size
 have hc6 : Upd (fun k => v.ownBlock = some k ∨ k = B) wc (w5.setCell ⟨B, 1, none⟩ (.slice (some ⟨g', 0, none⟩) (i + 1) c')) := ((Upd.of_below hwt _).trans (u5.mono (fun k _ e => .inl e))).trans (u6.mono (fun k _ e => .inr e))
 refine ⟨_, fun k => D' k ∨ (wy.heap.size ≤ k ∧ k < wc.heap.size), L' ++ [⟨x, m⟩], block_setCell g5 1 _, ?_, ?_, ?_, ?_, h6, ?_⟩
 ·rw [List.flatMap_append, List.flatMap_singleton]
  exact owns_blkN ho (fun k hk => by cases hk; exact u6.block _ (ho.lt _ rfl).2 hgB)
 ·unfold ndsR at *
  rw [List.map_append, h3, List.map_singleton, List.take_add_one, List.getElem?_map, List.getElem?_eq_getElem hi, hmp, hx]
  rfl
 ·intro t ht
  rcases List.mem_append.1 ht with ht | ht
  ·have := h4 t ht
   exact ⟨this.n.upd this.d hy6 (fun k hk e => by
    have := h5 k hk
    rcases e with e | e
    ·exact this.2.2.2 e
    ·exact this.2.2.1 e), this.d.mono (fun k hk => .inl hk), this.w⟩
  ·rw [List.mem_singleton] at ht
   subst ht
   refine ⟨(hm.upd hc6 (fun b hb1 hb2 e => ?_)).ok, hm.in_.mono (fun k hk => .inr hk), hxw⟩
   rcases e with e | e
   ·have := (hvl b e).1; omega
   ·omega
 ·rintro k (hk | hk)
  ·have := h5 k hk
   refine ⟨this.1, by omega, this.2.2.1, fun e => ?_⟩
   have e' : g' = k := by simpa [Value.ownBlock] using e
   rcases hor with h | h
   ·rw [e'] at h; exact this.2.2.2 h
   ·omega
  ·refine ⟨by have := h7.size; omega, by omega, by omega, fun e => ?_⟩
   have e' : g' = k := by simpa [Value.ownBlock] using e
   rcases hor with h | h
   ·have := (hvl g' h).1; omega
   ·omega
 ·exact h7.trans (hy6.below h7.size (fun k hk e => by
   rcases e with e | e
   ·have := hvs k e; omega
   ·omega))
set_option linter.unusedSimpArgs false in
set_option maxRecDepth 100000 in
set_option maxHeartbeats 6400000 in
theorem rcopy_any (h : RA W A g c M D nodes root L) : Calls Tryz.prog 71 #[.pointer (some ⟨A, 0, none⟩)] W (CpP W nodes root L) := by
 obtain ⟨i0, hi, hz0, hz1, hz2⟩ := info_parts infoR'
 have hn := h.n_le
 have HP : Hid (∀ W', Below W.heap.size W W' → RA W' A g c M D nodes root L) := fun W' hb => h.below hb
 have HE : Hid (∀ B wy, CpI W B nodes root L L.length wy → CpP W nodes root L (.returned (.pointer (some ⟨B, 0, none⟩))) wy) := fun B wy hq => cp_end h hq
 obtain ⟨n, hln⟩ : ∃ n, L.length = n := ⟨_, rfl⟩
 rw [hln] at HE hn
 have HLN := hide hln
 obtain ⟨Q, hQ⟩ : ∃ Q, Q = CpP W nodes root L := ⟨_, rfl⟩
 rw [← hQ] at HE ⊢
 obtain ⟨c0, c1, c2⟩ := h.cells
 have hAl := lt_of_block h.a
 clear h hln hQ c1
 go_enter Tryz.func71, Tryz.ntmps71
 go_wp2_with fail
 go_cut [3] (fun s3 wx => s3 = .pointer (some ⟨W.heap.size, 0, none⟩) ∧ Hid (CpI W W.heap.size nodes root L 0 wx))
 case first =>
  go_region_held3 (fun W' => W'.cell? ⟨A, 0, none⟩ = some (.int .i64 nodes) ∧ W'.cell? ⟨A, 2, none⟩ = some (.int .i64 root)) (go_keep) (fail)
  all_goals (try go_wp2_with fail)
  all_goals go_meet
  all_goals refine ⟨rfl, ?_⟩
  all_goals first | exact cp_begin W (Below.refl _ _) rfl _ rfl | exact cp_begin W.drew (below_drew (Below.refl _ _)) rfl _ rfl | exact cp_begin W.drew.drew (below_drew (below_drew (Below.refl _ _))) rfl _ rfl
 case rest =>
 rename World => w1
 obtain ⟨rfl, HI0⟩ := hcut
 clear c0 c2
 go_wp2_with fail
 go_loopw [4] (fun q4 wy => ∃ i : Nat, i ≤ n ∧ q4 = .int .i64 (i : Int) ∧ Hid (CpI W W.heap.size nodes root L i wy)) (fun q4 _ => n - (intOf q4).toNat)
 case atStart => exact ⟨0, Nat.zero_le _, rfl, HI0⟩
 case round =>
  clear HI0
  obtain ⟨i, hin, rfl, HI⟩ := hrel
  rename World => wy
  obtain ⟨v, D', L', h1, h2, h3, h4, h5, h6, h7⟩ := HI.out
  have hA := HP.out wy h7
  obtain ⟨_, c1, _⟩ := hA.cells
  rw [HLN.out] at c1
  by_cases hii : i < n
  case neg =>
   obtain rfl : i = n := by omega
   have HF := hide (HE.out _ _ HI.out)
   clear hA h1 h2 h3 h4 h5 h6 h7 HI
   go_wp2_with fail
   exact HF.out
  have hiL : i < L.length := by rw [HLN.out]; exact hii
  have ji : (i : Int) < (n : Int) := by omega
  have j0 : (0 : Int) ≤ (i : Int) := by omega
  have jw : IntKind.i64.wrap ((i : Int) + 1) = ((i + 1 : Nat) : Int) := by rw [IntKind.wrap_i64]; omega
  have a0 : wy.cell? ⟨g, i * 7, none⟩ = some (.int .u64 (L[i].w : Nat)) := hA.at_ i hiL 0 (by omega)
  have a1 : wy.cell? ⟨g, i * 7 + 1, none⟩ = some (.int .i64 L[i].n.lv) := hA.at_ i hiL 1 (by omega)
  have a2 : wy.cell? ⟨g, i * 7 + 2, none⟩ = some L[i].n.hi.v := hA.at_ i hiL 2 (by omega)
  have a3 : wy.cell? ⟨g, i * 7 + 3, none⟩ = some (.int .i64 L[i].n.ri) := hA.at_ i hiL 3 (by omega)
  have a4 : wy.cell? ⟨g, i * 7 + 4, none⟩ = some L[i].n.ks.v := hA.at_ i hiL 4 (by omega)
  have a5 : wy.cell? ⟨g, i * 7 + 5, none⟩ = some L[i].n.vs.v := hA.at_ i hiL 5 (by omega)
  have a6 : wy.cell? ⟨g, i * 7 + 6, none⟩ = some L[i].n.cs.v := hA.at_ i hiL 6 (by omega)
  have hgl : g < wy.heap.size := hA.lt g (.inl hA.mg)
  have hok := hA.sl L[i] (List.getElem_mem hiL)
  have HCL : Hid (∀ W', Below wy.heap.size wy W' → Calls Tryz.prog 109 #[L[i].n.v] W' (RcPost W' L[i].n)) := fun W' hb => rclone_any L[i].n W' (hok.n.below hb)
  have hgB : ¬ g = W.heap.size := fun e => by
   have h8 := hgl
   have h9 := h6
   have := (HP.out W (Below.refl _ _)).lt g (.inl hA.mg)
   omega
  have hAB : ¬ A = W.heap.size := by omega
  have b1 : wy.cell? ⟨W.heap.size, 1, none⟩ = some v := by rw [cell_of_row _ _ _ _ _ _ h1]; rfl
  have fb : wy.frozen? ⟨W.heap.size, 1, none⟩ = false := frozen_of h1 1
  have hvl : ∀ k, v.ownBlock = some k → k < wy.heap.size ∧ k ≠ W.heap.size := fun k hk => ⟨(h2.lt k hk).2, fun e => by
   rcases h2.2 with ⟨rfl, _⟩ | ⟨g2, c2, cur, rfl, _, hh, _⟩
   ·cases hk
   ·have e2 : g2 = k := by simpa [Value.ownBlock] using hk
    rw [e2, e, h1] at hh
    simp at hh⟩
  have HMO : Hid (∀ (wc wt w5 : World) (m : Nd) (g' c' : Nat), Below wy.heap.size wy wc → Below wc.heap.size wc wt → m.Own wc wy.heap.size → m.p = L[i].n.p → w5.ownsRow W.heap.size 124 7 (.slice (some ⟨g', 0, none⟩) (i + 1) c') (i + 1) (L'.flatMap RS.cells ++ RS.cells ⟨L[i].w, m⟩) → wt.grownBy w5 v.ownBlock → (v.ownBlock = some g' ∨ wt.heap.size ≤ g') → CpI W W.heap.size nodes root L (i + 1) (w5.setCell ⟨W.heap.size, 1, none⟩ (.slice (some ⟨g', 0, none⟩) (i + 1) c'))) := fun wc wt w5 m g' c' q1 q2 q3 q4 q5 q6 q7 => cp_more hiL h1 h3 h4 h5 h6 h7 hvl q1 q2 q3 q4 rfl hok.w (fun k hk => (h2.lt k hk).1) q5 q6 q7 _ rfl
  have HOW : Hid (∀ wt, Below wy.heap.size wy wt → wt.ownsRow W.heap.size 124 7 v i (L'.flatMap RS.cells)) := fun wt hb => owns_blkN h2 (fun k hk => hb.block k (h2.lt k hk).2)
  have hBy := lt_of_block h1
  have hAy : A < wy.heap.size := Nat.lt_of_lt_of_le hAl h7.size
  have hWy := h7.size
  have HH1 := hide h1
  have HVL := hide hvl
  have HVS : Hid (∀ k, v.ownBlock = some k → W.heap.size ≤ k) := fun k hk => (h2.lt k hk).1
  have hgW : g < W.heap.size := (HP.out W (Below.refl _ _)).lt g (.inl hA.mg)
  obtain ⟨si, hsi⟩ : ∃ si, L[i] = si := ⟨_, rfl⟩
  rw [hsi] at a0 a1 a2 a3 a4 a5 a6 HCL HMO
  clear hA hok h1 h2 h3 h4 h5 h6 h7 hvl HI hsi hiL
  obtain ⟨x, ⟨nlv, ⟨nha, nhc, nhs⟩, nri, ⟨nka, nkc, nK⟩, ⟨nva, nvc, nV⟩, ⟨nca, ncc, nC⟩⟩⟩ := si
  simp only [Nd.v, Tx.v, TL.v, IL.v] at a0 a1 a2 a3 a4 a5 a6 HCL
  generalize nhs.length = nlh at *
  generalize nK.length = nlk at *
  generalize nV.length = nlw at *
  generalize nC.length = nlc at *
  generalize L'.flatMap RS.cells = xs at *
  go_wp2_with fail
  refine wp_region_held_drew (S := (fun Y => Y.cell? ⟨A, 1, none⟩ = some (.slice (some ⟨g, 0, none⟩) n c) ∧ Y.cell? ⟨g, i * 7, none⟩ = some (.int .u64 (x : Nat)) ∧ Y.cell? ⟨g, i * 7 + 1, none⟩ = some (.int .i64 nlv) ∧ Y.cell? ⟨g, i * 7 + 2, none⟩ = some (.slice nha nlh nhc) ∧ Y.cell? ⟨g, i * 7 + 3, none⟩ = some (.int .i64 nri) ∧ Y.cell? ⟨g, i * 7 + 4, none⟩ = some (.slice nka nlk nkc) ∧ Y.cell? ⟨g, i * 7 + 5, none⟩ = some (.slice nva nlw nvc) ∧ Y.cell? ⟨g, i * 7 + 6, none⟩ = some (.slice nca nlc ncc))) (by kernel_rfl) ?hS0 (fun hHeld => ?rest0)
  case hS0 => ((try dsimp only); go_keep)
  case rest0 =>
  refine wpAnyH_take (i := 0) rfl (by kernel_rfl) (by kernel_rfl) (by kernel_rfl) (fun _ _ _ h => h) (.inl ⟨by rfl, by intro w h; (try dsimp only at h); go_simp; try with_reducible rfl⟩) (by assumption) ?_
  refine wpAnyH_take (i := 1) rfl (by kernel_rfl) (by kernel_rfl) (by kernel_rfl) (fun _ _ _ h => h) (.inl ⟨by rfl, by intro w h; (try dsimp only at h); go_simp; try with_reducible rfl⟩) (by assumption) ?_
  refine wpAnyH_take (i := 2) rfl (by kernel_rfl) (by kernel_rfl) (by kernel_rfl) (fun _ _ _ h => h) (.inl ⟨by rfl, by intro w h; (try dsimp only at h); go_simp; try with_reducible rfl⟩) (by assumption) ?_
  refine wpAnyH_take (i := 3) rfl (by kernel_rfl) (by kernel_rfl) (by kernel_rfl) (fun _ _ _ h => h) (.inl ⟨by rfl, by intro w h; (try dsimp only at h); go_simp; try with_reducible rfl⟩) (by assumption) ?_
  try simp only [Act.put, List.getElem_toArray, List.getElem_cons_zero, List.getElem_cons_succ, List.setIfInBounds_toArray, List.set_cons_zero, List.set_cons_succ]
  refine wpAnyH_take (i := 5) rfl (by kernel_rfl) (by kernel_rfl) (by kernel_rfl) (fun _ _ _ h => h) (.inl ⟨by rfl, by intro w h; (try dsimp only at h); go_simp; try with_reducible rfl⟩) (by assumption) ?_
  refine wpAnyH_take (i := 6) rfl (by kernel_rfl) (by kernel_rfl) (by kernel_rfl) (fun _ _ _ h => h) (.inl ⟨by rfl, by intro w h; (try dsimp only at h); go_simp; try with_reducible rfl⟩) (by assumption) ?_
  refine wpAnyH_take (i := 7) rfl (by kernel_rfl) (by kernel_rfl) (by kernel_rfl) (fun _ _ _ h => h) (.inl ⟨by rfl, by intro w h; (try dsimp only at h); go_simp; try with_reducible rfl⟩) (by assumption) ?_
  refine wpAnyH_take (i := 8) rfl (by kernel_rfl) (by kernel_rfl) (by kernel_rfl) (fun _ _ _ h => h) (.inl ⟨by rfl, by intro w h; (try dsimp only at h); go_simp; try with_reducible rfl⟩) (by assumption) ?_
  try simp only [Act.put, List.getElem_toArray, List.getElem_cons_zero, List.getElem_cons_succ, List.setIfInBounds_toArray, List.set_cons_zero, List.set_cons_succ]
  refine wpAnyH_take (i := 9) rfl (by kernel_rfl) (by kernel_rfl) (by kernel_rfl) (fun _ _ _ h => h) (.inl ⟨by rfl, by intro w h; (try dsimp only at h); go_simp; try with_reducible rfl⟩) (by assumption) ?_
  refine wpAnyH_take (i := 10) rfl (by kernel_rfl) (by kernel_rfl) (by kernel_rfl) (fun _ _ _ h => h) (.inl ⟨by rfl, by intro w h; (try dsimp only at h); go_simp; try with_reducible rfl⟩) (by assumption) ?_
  refine wpAnyH_take (i := 11) rfl (by kernel_rfl) (by kernel_rfl) (by kernel_rfl) (fun _ _ _ h => h) (.inl ⟨by rfl, by intro w h; (try dsimp only at h); go_simp; try with_reducible rfl⟩) (by assumption) ?_
  refine wpAnyH_take (i := 12) rfl (by kernel_rfl) (by kernel_rfl) (by kernel_rfl) (fun _ _ _ h => h) (.inl ⟨by rfl, by intro w h; (try dsimp only at h); go_simp; try with_reducible rfl⟩) (by assumption) ?_
  try simp only [Act.put, List.getElem_toArray, List.getElem_cons_zero, List.getElem_cons_succ, List.setIfInBounds_toArray, List.set_cons_zero, List.set_cons_succ]
  refine wpAnyH_take (i := 13) rfl (by kernel_rfl) (by kernel_rfl) (by kernel_rfl) (fun _ _ _ h => h) (.inl ⟨by rfl, by intro w h; (try dsimp only at h); go_simp; try with_reducible rfl⟩) (by assumption) ?_
  refine wpAnyH_take (i := 14) rfl (by kernel_rfl) (by kernel_rfl) (by kernel_rfl) (fun _ _ _ h => h) (.inl ⟨by rfl, by intro w h; (try dsimp only at h); go_simp; try with_reducible rfl⟩) (by assumption) ?_
  refine wpAnyH_take (i := 15) rfl (by kernel_rfl) (by kernel_rfl) (by kernel_rfl) (fun _ _ _ h => h) (.inl ⟨by rfl, by intro w h; (try dsimp only at h); go_simp; try with_reducible rfl⟩) (by assumption) ?_
  refine wpAnyH_take (i := 16) rfl (by kernel_rfl) (by kernel_rfl) (by kernel_rfl) (fun _ _ _ h => h) (.inl ⟨by rfl, by intro w h; (try dsimp only at h); go_simp; try with_reducible rfl⟩) (by assumption) ?_
  try simp only [Act.put, List.getElem_toArray, List.getElem_cons_zero, List.getElem_cons_succ, List.setIfInBounds_toArray, List.set_cons_zero, List.set_cons_succ]
  refine wpAnyH_take (i := 17) rfl (by kernel_rfl) (by kernel_rfl) (by kernel_rfl) (fun _ _ _ h => h) (.inl ⟨by rfl, by intro w h; (try dsimp only at h); go_simp; try with_reducible rfl⟩) (by assumption) ?_
  refine wpAnyH_take (i := 18) rfl (by kernel_rfl) (by kernel_rfl) (by kernel_rfl) (fun _ _ _ h => h) (.inl ⟨by rfl, by intro w h; (try dsimp only at h); go_simp; try with_reducible rfl⟩) (by assumption) ?_
  refine wpAnyH_take (i := 19) rfl (by kernel_rfl) (by kernel_rfl) (by kernel_rfl) (fun _ _ _ h => h) (.inl ⟨by rfl, by intro w h; (try dsimp only at h); go_simp; try with_reducible rfl⟩) (by assumption) ?_
  refine wpAnyH_take (i := 20) rfl (by kernel_rfl) (by kernel_rfl) (by kernel_rfl) (fun _ _ _ h => h) (.inl ⟨by rfl, by intro w h; (try dsimp only at h); go_simp; try with_reducible rfl⟩) (by assumption) ?_
  try simp only [Act.put, List.getElem_toArray, List.getElem_cons_zero, List.getElem_cons_succ, List.setIfInBounds_toArray, List.set_cons_zero, List.set_cons_succ]
  refine wpAnyH_ready (rs := [4, 21]) (by kernel_rfl) (by simp) ?_
  refine AllReadyH.cons rfl (fun K hK => ?step1) ?more1
  case step1 =>
   go_simp
   refine hK.out _ _ ?hS1 (fun hHeld => ?rest1)
   case hS1 => ((try dsimp only); go_keep)
   case rest1 =>
   clear hK K
   try simp only [Act.put, List.getElem_toArray, List.getElem_cons_zero, List.getElem_cons_succ, List.setIfInBounds_toArray, List.set_cons_zero, List.set_cons_succ]
   refine wpAnyH_ready (rs := [21]) (by kernel_rfl) (by simp) ?_
   refine AllReadyH.cons rfl (fun K hK => ?step2) ?more2
   case step2 =>
    go_simp
    go_wp2_with (go_at_call 109; refine (HCL.out _ (below_drew (Below.refl _ _))).mono ?_; rintro e wc ⟨⟨mlv, ⟨mha, mhc, mhs⟩, mri, ⟨mka, mkc, mK⟩, ⟨mva, mvc, mV⟩, ⟨mca, mcc, mC⟩⟩, N1, N2, rfl, hmp, hmo, hbc, _⟩; have hbw := (below_drew (Below.refl wy.heap.size wy)).trans hbc; have MP := hide hmp; have MO : Hid ((Nd.mk mlv ⟨mha, mhc, mhs⟩ mri ⟨mka, mkc, mK⟩ ⟨mva, mvc, mV⟩ ⟨mca, mcc, mC⟩).Own wc wy.heap.size) := hmo; have BC := hide hbw; have d1 := (hbw.cell (p := ⟨W.heap.size, 1, none⟩) hBy).trans b1; have d2 := (hbw.cell (p := ⟨A, 1, none⟩) hAy).trans c1; have e0 := (hbw.cell (p := ⟨g, i * 7, none⟩) hgl).trans a0; have e1 := (hbw.cell (p := ⟨g, i * 7 + 1, none⟩) hgl).trans a1; have e2 := (hbw.cell (p := ⟨g, i * 7 + 2, none⟩) hgl).trans a2; have e3 := (hbw.cell (p := ⟨g, i * 7 + 3, none⟩) hgl).trans a3; have e4 := (hbw.cell (p := ⟨g, i * 7 + 4, none⟩) hgl).trans a4; have e5 := (hbw.cell (p := ⟨g, i * 7 + 5, none⟩) hgl).trans a5; have e6 := (hbw.cell (p := ⟨g, i * 7 + 6, none⟩) hgl).trans a6; have gB := (hbw.block _ hBy).trans HH1.out; have fc := frozen_of gB 1; have hcy := hbw.size; clear hmp hmo hbc hbw gB; simp only [Nd.v, Tx.v, TL.v, IL.v]; obtain ⟨mlh, mh1⟩ : ∃ x, mhs.length = x := ⟨_, rfl⟩; obtain ⟨mlk, mh2⟩ : ∃ x, mK.length = x := ⟨_, rfl⟩; obtain ⟨mlw, mh3⟩ : ∃ x, mV.length = x := ⟨_, rfl⟩; obtain ⟨mlc, mh4⟩ : ∃ x, mC.length = x := ⟨_, rfl⟩; rw [mh1, mh2, mh3, mh4]; have mL := hide (And.intro mh1 (And.intro mh2 (And.intro mh3 mh4))); have hBw : W.heap.size < wc.heap.size := (by omega); have dA : (wc.alloc (.cells #[.int .u64 (x : Nat), .int .i64 mlv, .slice mha mlh mhc, .int .i64 mri, .slice mka mlk mkc, .slice mva mlw mvc, .slice mca mlc mcc] 124)).cell? ⟨W.heap.size, 1, none⟩ = some v := (((Below.refl wc.heap.size wc).alloc (Nat.le_refl _) _).cell (p := ⟨W.heap.size, 1, none⟩) hBw).trans d1; clear mh1 mh2 mh3 mh4)
    refine hK.out _ _ ?hS2 (fun hHeld => ?rest2)
    case hS2 => ((try dsimp only); go_keep)
    case rest2 =>
    clear hK K
    try simp only [Act.put, List.getElem_toArray, List.getElem_cons_zero, List.getElem_cons_succ, List.setIfInBounds_toArray, List.set_cons_zero, List.set_cons_succ]
    refine wpAnyH_take (i := 22) rfl (by kernel_rfl) (by kernel_rfl) (by kernel_rfl) (fun _ _ _ h => h) (.inl ⟨by rfl, by intro w h; (try dsimp only at h); go_simp; try with_reducible rfl⟩) (by assumption) ?_
    try simp only [Act.put, List.getElem_toArray, List.getElem_cons_zero, List.getElem_cons_succ, List.setIfInBounds_toArray, List.set_cons_zero, List.set_cons_succ]
    refine wpAnyH_ready (rs := [23]) (by kernel_rfl) (by simp) ?_
    refine AllReadyH.cons rfl (fun K hK => ?step3) ?more3
    case step3 =>
     go_simp
     refine hK.out _ _ ?hS3 (fun hHeld => ?rest3)
     case hS3 => ((try dsimp only); go_keep)
     case rest3 =>
     clear hK K
     try simp only [Act.put, List.getElem_toArray, List.getElem_cons_zero, List.getElem_cons_succ, List.setIfInBounds_toArray, List.set_cons_zero, List.set_cons_succ]
     refine wpAnyH_ready (rs := [24]) (by kernel_rfl) (by simp) ?_
     refine AllReadyH.cons rfl (fun K hK => ?step4) ?more4
     case step4 =>
      (refine step_append_lies _ rfl (.tmp 28) (.tmp 47) 125 rfl W.heap.size 124 i0 (.agg #[.int .u64 0, .int .i64 0, .slice none 0 0, .int .i64 0, .slice none 0 0, .slice none 0 0, .slice none 0 0]) 7 120 Tryz.underlying125 hi hz0 hz1 hz2 rfl (by decide) v i xs (by simp [Act.eval]) (HOW.out (wc.alloc (.cells #[.int .u64 (x : Nat), .int .i64 mlv, .slice mha mlh mhc, .int .i64 mri, .slice mka mlk mkc, .slice mva mlw mvc, .slice mca mlc mcc] 124)) (BC.out.alloc (by have := BC.out.size; omega) _)) ⟨wc.heap.size, 0, none⟩ 1 1 [.int .u64 (x : Nat), .int .i64 mlv, .slice mha mlh mhc, .int .i64 mri, .slice mka mlk mkc, .slice mva mlw mvc, .slice mca mlc mcc] (by simp [Act.eval]) rfl (seven_new wc (.int .u64 (x : Nat)) (.int .i64 mlv) (.slice mha mlh mhc) (.int .i64 mri) (.slice mka mlk mkc) (.slice mva mlw mvc) (.slice mca mlc mcc) 124) (by intro u hu; simp at hu; rcases hu with rfl | rfl | rfl | rfl | rfl | rfl | rfl <;> rfl) (by omega) (by unfold maxLen; omega) (by omega) (by simp; omega) _ rfl ?_; intro g' c' w5 hown5 hg5 hor5 hlt5; have hal := (show Below wc.heap.size wc (wc.alloc (.cells #[.int .u64 (x : Nat), .int .i64 mlv, .slice mha mlh mhc, .int .i64 mri, .slice mka mlk mkc, .slice mva mlw mvc, .slice mca mlc mcc] 124)) from (Below.refl _ _).alloc (Nat.le_refl _) _); have hce : RS.cells ⟨x, (Nd.mk mlv ⟨mha, mhc, mhs⟩ mri ⟨mka, mkc, mK⟩ ⟨mva, mvc, mV⟩ ⟨mca, mcc, mC⟩)⟩ = [.int .u64 (x : Nat), .int .i64 mlv, .slice mha mlh mhc, .int .i64 mri, .slice mka mlk mkc, .slice mva mlw mvc, .slice mca mlc mcc] := (by simp only [RS.cells, Tx.v, TL.v, IL.v, mL.out.1, mL.out.2.1, mL.out.2.2.1, mL.out.2.2.2]); have HN6 := hide (HMO.out wc _ w5 (Nd.mk mlv ⟨mha, mhc, mhs⟩ mri ⟨mka, mkc, mK⟩ ⟨mva, mvc, mV⟩ ⟨mca, mcc, mC⟩) g' c' BC.out hal MO.out MP.out (by rw [hce]; exact hown5) hg5 (hor5.imp id (fun e => Nat.le_of_eq e.symm))); have hu5 := (show Upd (fun k => v.ownBlock = some k) wy w5 from (Upd.of_below (BC.out.trans (hal.mono BC.out.size)) _).trans (Upd.of_grown hg5 (fun k hk _ => hk))); have g5 := hu5.heap HH1.out (fun e => (HVL.out _ e).2 rfl); have f5 := frozen_of g5 1; have q5 : w5.cell? ⟨W.heap.size, 1, none⟩ = some v := (by rw [cell_of_row _ _ _ _ _ _ g5]; rfl); have nA : ¬ v.ownBlock = some A := (fun e => by have := HVS.out _ e; omega); have nG : ¬ v.ownBlock = some g := (fun e => by have := HVS.out _ e; omega); have s1 := hu5.cell c1 nA; have t0 := hu5.cell a0 nG; have t1 := hu5.cell a1 nG; have t2 := hu5.cell a2 nG; have t3 := hu5.cell a3 nG; have t4 := hu5.cell a4 nG; have t5 := hu5.cell a5 nG; have t6 := hu5.cell a6 nG; have u6 := (show Upd (fun k => k = W.heap.size) w5 (w5.setCell ⟨W.heap.size, 1, none⟩ (.slice (some ⟨g', 0, none⟩) (i + 1) c')) from (Upd.refl _ _).setCell _ _ (fun _ => rfl)); have s1' := u6.cell s1 hAB; have t0' := u6.cell t0 hgB; have t1' := u6.cell t1 hgB; have t2' := u6.cell t2 hgB; have t3' := u6.cell t3 hgB; have t4' := u6.cell t4 hgB; have t5' := u6.cell t5 hgB; have t6' := u6.cell t6 hgB; clear hown5 hg5 hor5 hlt5 hal hce hu5 g5 nA nG u6)
      refine hK.out _ _ ?hS4 (fun hHeld => ?rest4)
      case hS4 => ((try dsimp only); go_keep)
      case rest4 =>
      clear hK K
      try simp only [Act.put, List.getElem_toArray, List.getElem_cons_zero, List.getElem_cons_succ, List.setIfInBounds_toArray, List.set_cons_zero, List.set_cons_succ]
      refine wpAnyH_take (i := 25) rfl (by kernel_rfl) (by kernel_rfl) (by kernel_rfl) (fun _ _ _ h => h) (.inl ⟨by rfl, by intro w h; (try dsimp only at h); go_simp; try with_reducible rfl⟩) (by assumption) ?_
      refine wpAnyH_take (i := 26) rfl (by kernel_rfl) (by kernel_rfl) (by kernel_rfl) (fun _ _ _ h => h) (.inl ⟨by rfl, by intro w h; (try dsimp only at h); go_simp; try with_reducible rfl⟩) (by assumption) ?_
      try simp only [Act.put, List.getElem_toArray, List.getElem_cons_zero, List.getElem_cons_succ, List.setIfInBounds_toArray, List.set_cons_zero, List.set_cons_succ]
      refine wpAnyH_ready (rs := [27]) (by kernel_rfl) (by simp) ?_
      refine AllReadyH.cons rfl (fun K hK => ?step5) ?more5
      case step5 =>
       go_simp
       refine hK.out _ _ ?hS5 (fun hHeld => ?rest5)
       case hS5 => ((try dsimp only); go_keep)
       case rest5 =>
       clear hK K
       try simp only [Act.put, List.getElem_toArray, List.getElem_cons_zero, List.getElem_cons_succ, List.setIfInBounds_toArray, List.set_cons_zero, List.set_cons_succ]
       refine wpAnyH_done (by kernel_rfl) ?_ _
       go_wp2_with fail
       have HN := HN6
       go_roundw
       case rel => exact ⟨i + 1, by omega, by go_num, HN⟩
       case measure => simp [intOf]; omega
      case more5 =>
      exact AllReadyH.nil
     case more4 =>
     exact AllReadyH.nil
    case more3 =>
    exact AllReadyH.nil
   case more2 =>
   exact AllReadyH.nil
  case more1 =>
  refine AllReadyH.cons rfl (fun K hK => ?step6) ?more6
  case step6 =>
   go_simp
   go_wp2_with (go_at_call 109; refine (HCL.out _ (below_drew (Below.refl _ _))).mono ?_; rintro e wc ⟨⟨mlv, ⟨mha, mhc, mhs⟩, mri, ⟨mka, mkc, mK⟩, ⟨mva, mvc, mV⟩, ⟨mca, mcc, mC⟩⟩, N1, N2, rfl, hmp, hmo, hbc, _⟩; have hbw := (below_drew (Below.refl wy.heap.size wy)).trans hbc; have MP := hide hmp; have MO : Hid ((Nd.mk mlv ⟨mha, mhc, mhs⟩ mri ⟨mka, mkc, mK⟩ ⟨mva, mvc, mV⟩ ⟨mca, mcc, mC⟩).Own wc wy.heap.size) := hmo; have BC := hide hbw; have d1 := (hbw.cell (p := ⟨W.heap.size, 1, none⟩) hBy).trans b1; have d2 := (hbw.cell (p := ⟨A, 1, none⟩) hAy).trans c1; have e0 := (hbw.cell (p := ⟨g, i * 7, none⟩) hgl).trans a0; have e1 := (hbw.cell (p := ⟨g, i * 7 + 1, none⟩) hgl).trans a1; have e2 := (hbw.cell (p := ⟨g, i * 7 + 2, none⟩) hgl).trans a2; have e3 := (hbw.cell (p := ⟨g, i * 7 + 3, none⟩) hgl).trans a3; have e4 := (hbw.cell (p := ⟨g, i * 7 + 4, none⟩) hgl).trans a4; have e5 := (hbw.cell (p := ⟨g, i * 7 + 5, none⟩) hgl).trans a5; have e6 := (hbw.cell (p := ⟨g, i * 7 + 6, none⟩) hgl).trans a6; have gB := (hbw.block _ hBy).trans HH1.out; have fc := frozen_of gB 1; have hcy := hbw.size; clear hmp hmo hbc hbw gB; simp only [Nd.v, Tx.v, TL.v, IL.v]; obtain ⟨mlh, mh1⟩ : ∃ x, mhs.length = x := ⟨_, rfl⟩; obtain ⟨mlk, mh2⟩ : ∃ x, mK.length = x := ⟨_, rfl⟩; obtain ⟨mlw, mh3⟩ : ∃ x, mV.length = x := ⟨_, rfl⟩; obtain ⟨mlc, mh4⟩ : ∃ x, mC.length = x := ⟨_, rfl⟩; rw [mh1, mh2, mh3, mh4]; have mL := hide (And.intro mh1 (And.intro mh2 (And.intro mh3 mh4))); have hBw : W.heap.size < wc.heap.size := (by omega); have dA : (wc.alloc (.cells #[.int .u64 (x : Nat), .int .i64 mlv, .slice mha mlh mhc, .int .i64 mri, .slice mka mlk mkc, .slice mva mlw mvc, .slice mca mlc mcc] 124)).cell? ⟨W.heap.size, 1, none⟩ = some v := (((Below.refl wc.heap.size wc).alloc (Nat.le_refl _) _).cell (p := ⟨W.heap.size, 1, none⟩) hBw).trans d1; clear mh1 mh2 mh3 mh4)
   refine hK.out _ _ ?hS6 (fun hHeld => ?rest6)
   case hS6 => ((try dsimp only); go_keep)
   case rest6 =>
   clear hK K
   try simp only [Act.put, List.getElem_toArray, List.getElem_cons_zero, List.getElem_cons_succ, List.setIfInBounds_toArray, List.set_cons_zero, List.set_cons_succ]
   refine wpAnyH_take (i := 22) rfl (by kernel_rfl) (by kernel_rfl) (by kernel_rfl) (fun _ _ _ h => h) (.inl ⟨by rfl, by intro w h; (try dsimp only at h); go_simp; try with_reducible rfl⟩) (by assumption) ?_
   try simp only [Act.put, List.getElem_toArray, List.getElem_cons_zero, List.getElem_cons_succ, List.setIfInBounds_toArray, List.set_cons_zero, List.set_cons_succ]
   refine wpAnyH_ready (rs := [4, 23]) (by kernel_rfl) (by simp) ?_
   refine AllReadyH.cons rfl (fun K hK => ?step7) ?more7
   case step7 =>
    go_simp
    refine hK.out _ _ ?hS7 (fun hHeld => ?rest7)
    case hS7 => ((try dsimp only); go_keep)
    case rest7 =>
    clear hK K
    try simp only [Act.put, List.getElem_toArray, List.getElem_cons_zero, List.getElem_cons_succ, List.setIfInBounds_toArray, List.set_cons_zero, List.set_cons_succ]
    refine wpAnyH_ready (rs := [23]) (by kernel_rfl) (by simp) ?_
    refine AllReadyH.cons rfl (fun K hK => ?step8) ?more8
    case step8 =>
     go_simp
     refine hK.out _ _ ?hS8 (fun hHeld => ?rest8)
     case hS8 => ((try dsimp only); go_keep)
     case rest8 =>
     clear hK K
     try simp only [Act.put, List.getElem_toArray, List.getElem_cons_zero, List.getElem_cons_succ, List.setIfInBounds_toArray, List.set_cons_zero, List.set_cons_succ]
     refine wpAnyH_ready (rs := [24]) (by kernel_rfl) (by simp) ?_
     refine AllReadyH.cons rfl (fun K hK => ?step9) ?more9
     case step9 =>
      (refine step_append_lies _ rfl (.tmp 28) (.tmp 47) 125 rfl W.heap.size 124 i0 (.agg #[.int .u64 0, .int .i64 0, .slice none 0 0, .int .i64 0, .slice none 0 0, .slice none 0 0, .slice none 0 0]) 7 120 Tryz.underlying125 hi hz0 hz1 hz2 rfl (by decide) v i xs (by simp [Act.eval]) (HOW.out (wc.alloc (.cells #[.int .u64 (x : Nat), .int .i64 mlv, .slice mha mlh mhc, .int .i64 mri, .slice mka mlk mkc, .slice mva mlw mvc, .slice mca mlc mcc] 124)) (BC.out.alloc (by have := BC.out.size; omega) _)) ⟨wc.heap.size, 0, none⟩ 1 1 [.int .u64 (x : Nat), .int .i64 mlv, .slice mha mlh mhc, .int .i64 mri, .slice mka mlk mkc, .slice mva mlw mvc, .slice mca mlc mcc] (by simp [Act.eval]) rfl (seven_new wc (.int .u64 (x : Nat)) (.int .i64 mlv) (.slice mha mlh mhc) (.int .i64 mri) (.slice mka mlk mkc) (.slice mva mlw mvc) (.slice mca mlc mcc) 124) (by intro u hu; simp at hu; rcases hu with rfl | rfl | rfl | rfl | rfl | rfl | rfl <;> rfl) (by omega) (by unfold maxLen; omega) (by omega) (by simp; omega) _ rfl ?_; intro g' c' w5 hown5 hg5 hor5 hlt5; have hal := (show Below wc.heap.size wc (wc.alloc (.cells #[.int .u64 (x : Nat), .int .i64 mlv, .slice mha mlh mhc, .int .i64 mri, .slice mka mlk mkc, .slice mva mlw mvc, .slice mca mlc mcc] 124)) from (Below.refl _ _).alloc (Nat.le_refl _) _); have hce : RS.cells ⟨x, (Nd.mk mlv ⟨mha, mhc, mhs⟩ mri ⟨mka, mkc, mK⟩ ⟨mva, mvc, mV⟩ ⟨mca, mcc, mC⟩)⟩ = [.int .u64 (x : Nat), .int .i64 mlv, .slice mha mlh mhc, .int .i64 mri, .slice mka mlk mkc, .slice mva mlw mvc, .slice mca mlc mcc] := (by simp only [RS.cells, Tx.v, TL.v, IL.v, mL.out.1, mL.out.2.1, mL.out.2.2.1, mL.out.2.2.2]); have HN6 := hide (HMO.out wc _ w5 (Nd.mk mlv ⟨mha, mhc, mhs⟩ mri ⟨mka, mkc, mK⟩ ⟨mva, mvc, mV⟩ ⟨mca, mcc, mC⟩) g' c' BC.out hal MO.out MP.out (by rw [hce]; exact hown5) hg5 (hor5.imp id (fun e => Nat.le_of_eq e.symm))); have hu5 := (show Upd (fun k => v.ownBlock = some k) wy w5 from (Upd.of_below (BC.out.trans (hal.mono BC.out.size)) _).trans (Upd.of_grown hg5 (fun k hk _ => hk))); have g5 := hu5.heap HH1.out (fun e => (HVL.out _ e).2 rfl); have f5 := frozen_of g5 1; have q5 : w5.cell? ⟨W.heap.size, 1, none⟩ = some v := (by rw [cell_of_row _ _ _ _ _ _ g5]; rfl); have nA : ¬ v.ownBlock = some A := (fun e => by have := HVS.out _ e; omega); have nG : ¬ v.ownBlock = some g := (fun e => by have := HVS.out _ e; omega); have s1 := hu5.cell c1 nA; have t0 := hu5.cell a0 nG; have t1 := hu5.cell a1 nG; have t2 := hu5.cell a2 nG; have t3 := hu5.cell a3 nG; have t4 := hu5.cell a4 nG; have t5 := hu5.cell a5 nG; have t6 := hu5.cell a6 nG; have u6 := (show Upd (fun k => k = W.heap.size) w5 (w5.setCell ⟨W.heap.size, 1, none⟩ (.slice (some ⟨g', 0, none⟩) (i + 1) c')) from (Upd.refl _ _).setCell _ _ (fun _ => rfl)); have s1' := u6.cell s1 hAB; have t0' := u6.cell t0 hgB; have t1' := u6.cell t1 hgB; have t2' := u6.cell t2 hgB; have t3' := u6.cell t3 hgB; have t4' := u6.cell t4 hgB; have t5' := u6.cell t5 hgB; have t6' := u6.cell t6 hgB; clear hown5 hg5 hor5 hlt5 hal hce hu5 g5 nA nG u6)
      refine hK.out _ _ ?hS9 (fun hHeld => ?rest9)
      case hS9 => ((try dsimp only); go_keep)
      case rest9 =>
      clear hK K
      try simp only [Act.put, List.getElem_toArray, List.getElem_cons_zero, List.getElem_cons_succ, List.setIfInBounds_toArray, List.set_cons_zero, List.set_cons_succ]
      refine wpAnyH_take (i := 25) rfl (by kernel_rfl) (by kernel_rfl) (by kernel_rfl) (fun _ _ _ h => h) (.inl ⟨by rfl, by intro w h; (try dsimp only at h); go_simp; try with_reducible rfl⟩) (by assumption) ?_
      refine wpAnyH_take (i := 26) rfl (by kernel_rfl) (by kernel_rfl) (by kernel_rfl) (fun _ _ _ h => h) (.inl ⟨by rfl, by intro w h; (try dsimp only at h); go_simp; try with_reducible rfl⟩) (by assumption) ?_
      try simp only [Act.put, List.getElem_toArray, List.getElem_cons_zero, List.getElem_cons_succ, List.setIfInBounds_toArray, List.set_cons_zero, List.set_cons_succ]
      refine wpAnyH_ready (rs := [27]) (by kernel_rfl) (by simp) ?_
      refine AllReadyH.cons rfl (fun K hK => ?step10) ?more10
      case step10 =>
       go_simp
       refine hK.out _ _ ?hS10 (fun hHeld => ?rest10)
       case hS10 => ((try dsimp only); go_keep)
       case rest10 =>
       clear hK K
       try simp only [Act.put, List.getElem_toArray, List.getElem_cons_zero, List.getElem_cons_succ, List.setIfInBounds_toArray, List.set_cons_zero, List.set_cons_succ]
       refine wpAnyH_done (by kernel_rfl) ?_ _
       go_wp2_with fail
       have HN := HN6
       go_roundw
       case rel => exact ⟨i + 1, by omega, by go_num, HN⟩
       case measure => simp [intOf]; omega
      case more10 =>
      exact AllReadyH.nil
     case more9 =>
     exact AllReadyH.nil
    case more8 =>
    exact AllReadyH.nil
   case more7 =>
   refine AllReadyH.cons rfl (fun K hK => ?step11) ?more11
   case step11 =>
    go_simp
    refine hK.out _ _ ?hS11 (fun hHeld => ?rest11)
    case hS11 => ((try dsimp only); go_keep)
    case rest11 =>
    clear hK K
    try simp only [Act.put, List.getElem_toArray, List.getElem_cons_zero, List.getElem_cons_succ, List.setIfInBounds_toArray, List.set_cons_zero, List.set_cons_succ]
    refine wpAnyH_ready (rs := [4]) (by kernel_rfl) (by simp) ?_
    refine AllReadyH.cons rfl (fun K hK => ?step12) ?more12
    case step12 =>
     go_simp
     refine hK.out _ _ ?hS12 (fun hHeld => ?rest12)
     case hS12 => ((try dsimp only); go_keep)
     case rest12 =>
     clear hK K
     try simp only [Act.put, List.getElem_toArray, List.getElem_cons_zero, List.getElem_cons_succ, List.setIfInBounds_toArray, List.set_cons_zero, List.set_cons_succ]
     refine wpAnyH_ready (rs := [24]) (by kernel_rfl) (by simp) ?_
     refine AllReadyH.cons rfl (fun K hK => ?step13) ?more13
     case step13 =>
      (refine step_append_lies _ rfl (.tmp 28) (.tmp 47) 125 rfl W.heap.size 124 i0 (.agg #[.int .u64 0, .int .i64 0, .slice none 0 0, .int .i64 0, .slice none 0 0, .slice none 0 0, .slice none 0 0]) 7 120 Tryz.underlying125 hi hz0 hz1 hz2 rfl (by decide) v i xs (by simp [Act.eval]) (HOW.out (wc.alloc (.cells #[.int .u64 (x : Nat), .int .i64 mlv, .slice mha mlh mhc, .int .i64 mri, .slice mka mlk mkc, .slice mva mlw mvc, .slice mca mlc mcc] 124)) (BC.out.alloc (by have := BC.out.size; omega) _)) ⟨wc.heap.size, 0, none⟩ 1 1 [.int .u64 (x : Nat), .int .i64 mlv, .slice mha mlh mhc, .int .i64 mri, .slice mka mlk mkc, .slice mva mlw mvc, .slice mca mlc mcc] (by simp [Act.eval]) rfl (seven_new wc (.int .u64 (x : Nat)) (.int .i64 mlv) (.slice mha mlh mhc) (.int .i64 mri) (.slice mka mlk mkc) (.slice mva mlw mvc) (.slice mca mlc mcc) 124) (by intro u hu; simp at hu; rcases hu with rfl | rfl | rfl | rfl | rfl | rfl | rfl <;> rfl) (by omega) (by unfold maxLen; omega) (by omega) (by simp; omega) _ rfl ?_; intro g' c' w5 hown5 hg5 hor5 hlt5; have hal := (show Below wc.heap.size wc (wc.alloc (.cells #[.int .u64 (x : Nat), .int .i64 mlv, .slice mha mlh mhc, .int .i64 mri, .slice mka mlk mkc, .slice mva mlw mvc, .slice mca mlc mcc] 124)) from (Below.refl _ _).alloc (Nat.le_refl _) _); have hce : RS.cells ⟨x, (Nd.mk mlv ⟨mha, mhc, mhs⟩ mri ⟨mka, mkc, mK⟩ ⟨mva, mvc, mV⟩ ⟨mca, mcc, mC⟩)⟩ = [.int .u64 (x : Nat), .int .i64 mlv, .slice mha mlh mhc, .int .i64 mri, .slice mka mlk mkc, .slice mva mlw mvc, .slice mca mlc mcc] := (by simp only [RS.cells, Tx.v, TL.v, IL.v, mL.out.1, mL.out.2.1, mL.out.2.2.1, mL.out.2.2.2]); have HN6 := hide (HMO.out wc _ w5 (Nd.mk mlv ⟨mha, mhc, mhs⟩ mri ⟨mka, mkc, mK⟩ ⟨mva, mvc, mV⟩ ⟨mca, mcc, mC⟩) g' c' BC.out hal MO.out MP.out (by rw [hce]; exact hown5) hg5 (hor5.imp id (fun e => Nat.le_of_eq e.symm))); have hu5 := (show Upd (fun k => v.ownBlock = some k) wy w5 from (Upd.of_below (BC.out.trans (hal.mono BC.out.size)) _).trans (Upd.of_grown hg5 (fun k hk _ => hk))); have g5 := hu5.heap HH1.out (fun e => (HVL.out _ e).2 rfl); have f5 := frozen_of g5 1; have q5 : w5.cell? ⟨W.heap.size, 1, none⟩ = some v := (by rw [cell_of_row _ _ _ _ _ _ g5]; rfl); have nA : ¬ v.ownBlock = some A := (fun e => by have := HVS.out _ e; omega); have nG : ¬ v.ownBlock = some g := (fun e => by have := HVS.out _ e; omega); have s1 := hu5.cell c1 nA; have t0 := hu5.cell a0 nG; have t1 := hu5.cell a1 nG; have t2 := hu5.cell a2 nG; have t3 := hu5.cell a3 nG; have t4 := hu5.cell a4 nG; have t5 := hu5.cell a5 nG; have t6 := hu5.cell a6 nG; have u6 := (show Upd (fun k => k = W.heap.size) w5 (w5.setCell ⟨W.heap.size, 1, none⟩ (.slice (some ⟨g', 0, none⟩) (i + 1) c')) from (Upd.refl _ _).setCell _ _ (fun _ => rfl)); have s1' := u6.cell s1 hAB; have t0' := u6.cell t0 hgB; have t1' := u6.cell t1 hgB; have t2' := u6.cell t2 hgB; have t3' := u6.cell t3 hgB; have t4' := u6.cell t4 hgB; have t5' := u6.cell t5 hgB; have t6' := u6.cell t6 hgB; clear hown5 hg5 hor5 hlt5 hal hce hu5 g5 nA nG u6)
      refine hK.out _ _ ?hS13 (fun hHeld => ?rest13)
      case hS13 => ((try dsimp only); go_keep)
      case rest13 =>
      clear hK K
      try simp only [Act.put, List.getElem_toArray, List.getElem_cons_zero, List.getElem_cons_succ, List.setIfInBounds_toArray, List.set_cons_zero, List.set_cons_succ]
      refine wpAnyH_take (i := 25) rfl (by kernel_rfl) (by kernel_rfl) (by kernel_rfl) (fun _ _ _ h => h) (.inl ⟨by rfl, by intro w h; (try dsimp only at h); go_simp; try with_reducible rfl⟩) (by assumption) ?_
      refine wpAnyH_take (i := 26) rfl (by kernel_rfl) (by kernel_rfl) (by kernel_rfl) (fun _ _ _ h => h) (.inl ⟨by rfl, by intro w h; (try dsimp only at h); go_simp; try with_reducible rfl⟩) (by assumption) ?_
      try simp only [Act.put, List.getElem_toArray, List.getElem_cons_zero, List.getElem_cons_succ, List.setIfInBounds_toArray, List.set_cons_zero, List.set_cons_succ]
      refine wpAnyH_ready (rs := [27]) (by kernel_rfl) (by simp) ?_
      refine AllReadyH.cons rfl (fun K hK => ?step14) ?more14
      case step14 =>
       go_simp
       refine hK.out _ _ ?hS14 (fun hHeld => ?rest14)
       case hS14 => ((try dsimp only); go_keep)
       case rest14 =>
       clear hK K
       try simp only [Act.put, List.getElem_toArray, List.getElem_cons_zero, List.getElem_cons_succ, List.setIfInBounds_toArray, List.set_cons_zero, List.set_cons_succ]
       refine wpAnyH_done (by kernel_rfl) ?_ _
       go_wp2_with fail
       have HN := HN6
       go_roundw
       case rel => exact ⟨i + 1, by omega, by go_num, HN⟩
       case measure => simp [intOf]; omega
      case more14 =>
      exact AllReadyH.nil
     case more13 =>
     exact AllReadyH.nil
    case more12 =>
    exact AllReadyH.nil
   case more11 =>
   exact AllReadyH.nil
  case more6 =>
  exact AllReadyH.nil
end
end Go.Proofs.YtealejbfloacpaaGreat
