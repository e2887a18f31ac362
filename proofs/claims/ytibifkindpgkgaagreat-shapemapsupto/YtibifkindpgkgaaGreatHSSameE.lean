/- The document's SameEntries of equal lists. -/
import Derived.Test.YtibifkindpgkgaaGreatHSMapW
import Derived.Test.YtibifkindpgkgaaGreatG14
namespace Go.Proofs.YtibifkindpgkgaaGreat
open Go.RowKit
set_option maxRecDepth 100000

/-- A list of entries that may be read. -/
def EnRd (W : World) (oa : Option Addr) (E : List En) : Prop := ∀ j (h : j < E.length), ∃ g, oa = some ⟨g, 0, none⟩ ∧ W.cell? ⟨g, j * 2, none⟩ = some E[j].1.v ∧ W.cell? ⟨g, j * 2 + 1, none⟩ = some E[j].2.v ∧ E[j].1.Ok W ∧ E[j].2.Ok W
theorem EnRd.below {W Y : World} {oa : Option Addr} {E : List En} (h : EnRd W oa E) (hb : Below W.heap.size W Y) : EnRd Y oa E := fun j hj => by
  obtain ⟨g, h1, h2, h3, h4, h5⟩ := h j hj
  exact ⟨g, h1, (hb.cell (p := ⟨g, j * 2, none⟩) (World.block_lt_of_cell? W ⟨g, j * 2, none⟩ h2)).trans h2, (hb.cell (p := ⟨g, j * 2 + 1, none⟩) (World.block_lt_of_cell? W ⟨g, j * 2 + 1, none⟩ h3)).trans h3, h4.below hb, h5.below hb⟩
theorem EnRd.of {W : World} {N : Nat} {oa : Option Addr} {n oc : Nat} {E : List En} (hrow : W.ownsRow N 41 2 (.slice oa n oc) E.length (E.flatMap EnC)) (hown : EnO W N E) : EnRd W oa E := fun j h => by
  rcases hrow.2 with ⟨q1, q2⟩ | ⟨g, cap, cur, q1, q2, q3, q4, q5, q6, q7⟩
  · omega
  · simp only [Value.slice.injEq] at q1
    have e0 := enC_at E j 0 h (by omega)
    have e1 := enC_at E j 1 h (by omega)
    have cl : ∀ k u, (E.flatMap EnC)[k]? = some u → W.cell? ⟨g, k, none⟩ = some u := fun k u hu => by
      rw [cell_of_row _ _ _ _ _ _ q3, ← Array.getElem?_toList]
      rw [← q7, List.getElem?_take] at hu
      split at hu
      · exact hu
      · cases hu
    have ho := hown E[j] (List.getElem_mem h)
    exact ⟨g, q1.1, cl _ _ e0, cl _ _ e1, ho.1.ok, ho.2.ok⟩
set_option maxRecDepth 100000 in
set_option maxHeartbeats 3200000 in
theorem sameEntries_any (oa ob : Option Addr) (n oc od : Nat) (E1 E2 : List En) (W : World) (h1 : E1.length = n) (h2 : E2.length = n) (hz : (n : Int) ≤ 9223372036854775807) (r1 : EnRd W oa E1) (r2 : EnRd W ob E2) (he : E1.map enP = E2.map enP) :
    Calls Tryz.prog 12 #[.slice oa n oc, .slice ob n od] W fun e w' => e = .returned (.bool true) ∧ ∃ m, w' = W.drewN m := by
  have HR1 := hide r1
  have HR2 := hide r2
  have H1 := hide h1
  have H2 := hide h2
  have HE : Hid (∀ j (a : j < E1.length) (b : j < E2.length), E1[j].1.s = E2[j].1.s ∧ E1[j].2.s = E2[j].2.s) := fun j a b => by
    have h3 : (E1.map enP)[j]'(by rw [List.length_map]; exact a) = (E2.map enP)[j]'(by rw [List.length_map]; exact b) := by simp only [he]
    rw [List.getElem_map, List.getElem_map] at h3
    exact ⟨congrArg Prod.fst h3, congrArg Prod.snd h3⟩
  clear r1 r2 h1 h2 he
  go_enter Tryz.func12, Tryz.ntmps12
  go_wp2_with fail
  go_loopw [5] (fun q5 wr => ∃ j : Nat, j ≤ n ∧ q5 = .int .i64 (j : Int) ∧ Hid (∃ m, wr = W.drewN m)) (fun q5 _ => n - (intOf q5).toNat)
  case atStart => exact ⟨0, Nat.zero_le _, rfl, 0, rfl⟩
  case round =>
    obtain ⟨j, hj, rfl, HI⟩ := hrel
    rename World => wr
    by_cases hlt : j < n
    · have j1 : (j : Int) < (n : Int) := by omega
      have hb : Below W.heap.size W wr := by obtain ⟨m, hm⟩ := HI.out; rw [hm]; exact below_drewN (Below.refl _ _) m
      have ha1 : j < E1.length := by rw [H1.out]; exact hlt
      have ha2 : j < E2.length := by rw [H2.out]; exact hlt
      obtain ⟨g1, hoa, c1, c2, o1, o2⟩ := HR1.out.below hb j ha1
      obtain ⟨g2, hob, c3, c4, o3, o4⟩ := HR2.out.below hb j ha2
      obtain ⟨e1, e2⟩ := HE.out j ha1 ha2
      subst hoa hob
      generalize E1[j] = x at *
      generalize E2[j] = y at *
      obtain ⟨⟨ka, kc, kz⟩, ⟨va, vc, vz⟩⟩ := x
      obtain ⟨⟨la, lc, lz⟩, ⟨ma, mc, mz⟩⟩ := y
      simp only [Tx.v] at c1 c2 c3 c4 o1 o2 o3 o4 e1 e2
      subst e1 e2
      obtain ⟨kl, hkl⟩ : ∃ z, kz.length = z := ⟨_, rfl⟩
      obtain ⟨vl, hvl⟩ : ∃ z, vz.length = z := ⟨_, rfl⟩
      rw [hkl] at c1 c3
      rw [hvl] at c2 c4
      have k1 : ∀ q, (convert 39 9 (.slice ka kl kc)).run Tryz.prog (wr.drewN q) = .ok (.string (strOfNums kz)) (wr.drewN q) := fun q => nconv_row kc hkl (o1.drewN q).r
      have k2 : ∀ q, (convert 39 9 (.slice la kl lc)).run Tryz.prog (wr.drewN q) = .ok (.string (strOfNums kz)) (wr.drewN q) := fun q => nconv_row lc hkl (o3.drewN q).r
      have k3 : ∀ q, (convert 39 9 (.slice va vl vc)).run Tryz.prog (wr.drewN q) = .ok (.string (strOfNums vz)) (wr.drewN q) := fun q => nconv_row vc hvl (o2.drewN q).r
      have k4 : ∀ q, (convert 39 9 (.slice ma vl mc)).run Tryz.prog (wr.drewN q) = .ok (.string (strOfNums vz)) (wr.drewN q) := fun q => nconv_row mc hvl (o4.drewN q).r
      generalize strOfNums kz = s1 at *
      generalize strOfNums vz = s2 at *
      clear hb o1 o2 o3 o4 hkl hvl ha1 ha2
      go_wp2_with fail
      go_quiet (fail)
      have HI2 : Hid (∃ m, wr.drewN nq = W.drewN m) := by
        obtain ⟨m, hm⟩ := HI.out
        exact ⟨_, by rw [hm]; exact World.drewN_drewN _ _ _⟩
      go_wp2_with fail
      go_roundw
      case rel => exact ⟨j + 1, by omega, by go_num, HI2⟩
      case measure => simp [intOf]; omega
    · have j1 : ¬ (j : Int) < (n : Int) := by omega
      have HF := HI.out
      have HFF := hide HF
      clear HF
      go_wp2_with fail
      go_ret
      exact ⟨rfl, HFF.out⟩
end Go.Proofs.YtibifkindpgkgaaGreat
