/- The document's SameTexts, SameHead, SameBody, SameNode, of what is the same. -/
import Derived.Test.YtclgimklfejohaaNEq
namespace Go.Proofs.Ytclgimklfejohaa
open Go.RowKit

set_option maxRecDepth 100000 in
set_option maxHeartbeats 1600000 in
theorem sameTexts_any (a b : Option Addr) (l c d : Nat) (K L : List Tx) (w : World) (hK : (⟨a, c, K⟩ : TL).Ok w) (hL : (⟨b, d, L⟩ : TL).Ok w) (hlk : K.length = l) (hll : L.length = l) (hz : l * 24 ≤ 140737488355000) (he : K.map (·.s) = L.map (·.s)) :
    Calls Try.prog 36 #[.slice a l c, .slice b l d] w fun e w' => e = .returned (.bool true) ∧ ∃ m, w' = w.drewN m := by
  have HK := hide hK
  have HL := hide hL
  have HE := hide he
  replace hlk := hide hlk
  replace hll := hide hll
  clear hK hL he
  go_enter Try.func36, Try.ntmps36
  go_wp2
  go_loopw [5] (fun q wr => ∃ i m : Nat, i ≤ l ∧ q = .int .i64 (i : Int) ∧ wr = w.drewN m) (fun q _ => l - (intOf q).toNat)
  case atStart => exact ⟨0, 0, Nat.zero_le _, rfl, rfl⟩
  case round =>
    obtain ⟨i, m, hi, rfl, rfl⟩ := hrel
    by_cases hlt : i < l
    · have j1 : (i : Int) < (l : Int) := by omega
      have h1 : i < K.length := by rw [hlk.out]; exact hlt
      have h2 : i < L.length := by rw [hll.out]; exact hlt
      obtain ⟨b1, o1, ha1, s1⟩ := HK.out.r i h1
      obtain ⟨b2, o2, ha2, s2⟩ := HL.out.r i h2
      simp only at ha1 ha2
      subst ha1
      subst ha2
      have O1 := hide (HK.out.ok K[i] (List.getElem_mem h1))
      have O2 := hide (HL.out.ok L[i] (List.getElem_mem h2))
      have hs : K[i].s = L[i].s := by
        have := congrArg (fun l => l[i]?) HE.out
        simpa [h1, h2] using this
      obtain ⟨x, hx⟩ : ∃ x, K[i] = x := ⟨_, rfl⟩
      obtain ⟨y, hy⟩ : ∃ y, L[i] = y := ⟨_, rfl⟩
      simp only [hx, hy] at s1 s2 O1 O2 hs
      clear hx hy
      unfold Tx.v at s1 s2
      rw [hs] at s1
      obtain ⟨nk, hnk⟩ : ∃ nk, y.s.length = nk := ⟨_, rfl⟩
      rw [hnk] at s1 s2
      have r1 := O1.out.r
      rw [hs] at r1
      have k1 : ∀ q, (convert 22 9 (.slice x.a nk x.c)).run Try.prog (w.drewN q) = .ok (.string (strOfNums y.s)) (w.drewN q) := fun q => nconv_row x.c hnk r1
      have k2 : ∀ q, (convert 22 9 (.slice y.a nk y.c)).run Try.prog (w.drewN q) = .ok (.string (strOfNums y.s)) (w.drewN q) := fun q => nconv_row y.c hnk O2.out.r
      clear r1 hnk hs
      generalize strOfNums y.s = st at *
      generalize x.a = xa at *
      generalize x.c = xc at *
      generalize y.a = ya at *
      generalize y.c = yc at *
      go_wp2
      go_quiet (fail)
      go_wp2
      go_roundw
      case rel => exact ⟨i + 1, _, by omega, by go_num, rfl⟩
      case measure => simp [intOf]; omega
    · have j1 : ¬ (i : Int) < (l : Int) := by omega
      go_wp2
      go_ret
      exact ⟨rfl, _, rfl⟩

set_option maxHeartbeats 800000 in
theorem sameHead_any (lv ri : Int) (a b : Option Addr) (l c d : Nat) (s : List Int) (w : World) (hl : s.length = l) (ha : Row w .u8 a s) (hb : Row w .u8 b s) :
    Calls Try.prog 35 #[.agg #[.int .i64 lv, .slice a l c, .int .i64 ri], .agg #[.int .i64 lv, .slice b l d, .int .i64 ri]] w fun e w' => e = .returned (.bool true) ∧ Below w.heap.size w w' := by
  have HK : Hid (∀ W, Below w.heap.size w W → (convert 22 9 (.slice a l c)).run Try.prog W = .ok (.string (strOfNums s)) W) := fun W h => nconv_row c hl (ha.below2 h)
  have HL : Hid (∀ W, Below w.heap.size w W → (convert 22 9 (.slice b l d)).run Try.prog W = .ok (.string (strOfNums s)) W) := fun W h => nconv_row d hl (hb.below2 h)
  clear ha hb hl
  have k1 := HK.out _ (((Below.refl w.heap.size w).alloc (Nat.le_refl _) (.cells #[.int .i64 lv, .slice a l c, .int .i64 ri] 24)).alloc (by simp) (.cells #[.int .i64 lv, .slice b l d, .int .i64 ri] 24))
  have k2 := HL.out _ (((Below.refl w.heap.size w).alloc (Nat.le_refl _) (.cells #[.int .i64 lv, .slice a l c, .int .i64 ri] 24)).alloc (by simp) (.cells #[.int .i64 lv, .slice b l d, .int .i64 ri] 24))
  generalize strOfNums s = st at *
  go_enter Try.func35, Try.ntmps35
  go_wp2
  go_ret
  exact ⟨by simp, ((Below.refl _ _).alloc (Nat.le_refl _) _).alloc (by simp) _⟩

/-- A body: keys, values, kids. -/
theorem three_new {W : World} {b : Nat} {T : TypeId} {x0 x1 x2 : Value} (h : W.heap[b]? = some (.cells #[x0, x1, x2] T (0, 0))) : W.cell? ⟨b, 0, none⟩ = some x0 ∧ W.cell? ⟨b, 1, none⟩ = some x1 ∧ W.cell? ⟨b, 2, none⟩ = some x2 := by
  refine ⟨?_, ?_, ?_⟩ <;> (rw [cell_of_row _ _ _ _ _ _ h]; rfl)
set_option maxRecDepth 100000 in
set_option maxHeartbeats 1600000 in
theorem sameBody_any (n m : Nd) (w : World) (hn : n.Ok w) (hm : m.Ok w) (hk : n.ks.p = m.ks.p) (hv : n.vs.p = m.vs.p) (hc : n.cs.s = m.cs.s) :
    Calls Try.prog 16 #[.agg #[n.ks.v, n.vs.v, n.cs.v], .agg #[m.ks.v, m.vs.v, m.cs.v]] w fun e w' => e = .returned (.bool true) ∧ Below w.heap.size w w' := by
  obtain ⟨lv, hi, ri, ⟨ka, kc, K⟩, ⟨va, vc, V⟩, ⟨ca, cc, C⟩⟩ := n
  obtain ⟨lv', hi', ri', ⟨ka', kc', K'⟩, ⟨va', vc', V'⟩, ⟨ca', cc', C'⟩⟩ := m
  have hkz := hn.kz
  have hvz := hn.vz
  have hcz := hn.cz
  simp only at hc hkz hvz hcz
  subst hc
  simp only [TL.p] at hk hv
  have hkl : K'.length = K.length := by have := congrArg List.length hk; simpa using this.symm
  have hvl : V'.length = V.length := by have := congrArg List.length hv; simpa using this.symm
  have HKK : Hid (∀ W, Below w.heap.size w W → Calls Try.prog 36 #[.slice ka K.length kc, .slice ka' K.length kc'] W fun e w' => e = .returned (.bool true) ∧ ∃ m, w' = W.drewN m) := fun W h => sameTexts_any ka ka' K.length kc kc' K K' W (hn.k.below h) (hm.k.below h) rfl hkl (by omega) hk
  have HVV : Hid (∀ W, Below w.heap.size w W → Calls Try.prog 36 #[.slice va V.length vc, .slice va' V.length vc'] W fun e w' => e = .returned (.bool true) ∧ ∃ m, w' = W.drewN m) := fun W h => sameTexts_any va va' V.length vc vc' V V' W (hn.v.below h) (hm.v.below h) rfl hvl (by omega) hv
  have HC1 : Hid (∀ W, Below w.heap.size w W → Row W .i64 ca C) := fun W h => (hn.c.below h).r
  have HC2 : Hid (∀ W, Below w.heap.size w W → Row W .i64 ca' C) := fun W h => (hm.c.below h).r
  simp only [TL.v, IL.v]
  rw [hkl, hvl]
  clear hn hm hk hv hkl hvl hkz hvz
  generalize K.length = lk at *
  generalize V.length = lw at *
  obtain ⟨lc, hlc⟩ : ∃ lc, C.length = lc := ⟨_, rfl⟩
  rw [hlc] at hcz ⊢
  replace hlc := hide hlc
  obtain ⟨w0, hw0⟩ : ∃ w0, w0 = w.alloc (.cells #[.slice ka lk kc, .slice va lw vc, .slice ca lc cc] 28) := ⟨_, rfl⟩
  obtain ⟨w1, hw1⟩ : ∃ w1, w1 = w0.alloc (.cells #[.slice ka' lk kc', .slice va' lw vc', .slice ca' lc cc'] 28) := ⟨_, rfl⟩
  have z0 : w0.heap.size = w.heap.size + 1 := by rw [hw0]; simp
  have b0 : Below w.heap.size w w0 := by rw [hw0]; exact (Below.refl _ _).alloc (Nat.le_refl _) _
  have b1 : Below w0.heap.size w0 w1 := by rw [hw1]; exact (Below.refl _ _).alloc (Nat.le_refl _) _
  have B1 : Hid (Below w.heap.size w w1) := b0.trans (b1.mono b0.size)
  have g0 : w0.heap[w.heap.size]? = some (.cells #[.slice ka lk kc, .slice va lw vc, .slice ca lc cc] 28 (0, 0)) := by rw [hw0]; exact heap_alloc_new w _
  have g1 : w1.heap[w.heap.size + 1]? = some (.cells #[.slice ka' lk kc', .slice va' lw vc', .slice ca' lc cc'] 28 (0, 0)) := by rw [← z0, hw1]; exact heap_alloc_new w0 _
  have A1 := (b1.block _ (by omega)).trans g0
  obtain ⟨c0, c1, c2⟩ := three_new A1
  obtain ⟨d0, d1, d2⟩ := three_new g1
  have HW : Hid ((w.alloc (.cells #[.slice ka lk kc, .slice va lw vc, .slice ca lc cc] 28)).alloc (.cells #[.slice ka' lk kc', .slice va' lw vc', .slice ca' lc cc'] 28) = w1) := by show _ = _; rw [hw1, hw0]
  clear hw0 hw1 z0 b0 b1 g0 g1 A1
  go_enter Try.func16, Try.ntmps16
  go_wp2_with fail
  rw [HW.out]
  refine (HKK.out w1 B1.out).mono ?_
  rintro e w2 ⟨rfl, q, rfl⟩
  clear HW HKK
  go_wp2_with fail
  refine (HVV.out (w1.drewN q) (below_drewN B1.out q)).mono ?_
  rintro e w2 ⟨rfl, q2, rfl⟩
  clear HVV
  go_wp2_with fail
  go_loopw [7] (fun x wr => ∃ i m : Nat, i ≤ lc ∧ x = .int .i64 (i : Int) ∧ wr = w1.drewN m) (fun x _ => lc - (intOf x).toNat)
  case atStart => exact ⟨0, q + q2, Nat.zero_le _, rfl, rfl⟩
  case round =>
    obtain ⟨i, m, hi, rfl, rfl⟩ := hrel
    by_cases hlt : i < lc
    · have j1 : (i : Int) < (lc : Int) := by omega
      obtain ⟨p1, o1, ha1, s1⟩ := HC1.out w1 B1.out i (by rw [hlc.out]; exact hlt)
      obtain ⟨p2, o2, ha2, s2⟩ := HC2.out w1 B1.out i (by rw [hlc.out]; exact hlt)
      subst ha1
      subst ha2
      generalize C.getD i 0 = x at *
      go_wp2
      go_quiet (fail)
      go_wp2
      go_roundw
      case rel => exact ⟨i + 1, _, by omega, by go_num, rfl⟩
      case measure => simp [intOf]; omega
    · have j1 : ¬ (i : Int) < (lc : Int) := by omega
      go_wp2
      go_ret
      exact ⟨rfl, below_drewN B1.out _⟩

set_option maxRecDepth 100000 in
set_option maxHeartbeats 1600000 in
theorem sameNode_any (n m : Nd) (w : World) (hn : n.Ok w) (hm : m.Ok w) (h : n.p = m.p) :
    Calls Try.prog 14 #[n.v, m.v] w fun e w' => e = .returned (.bool true) ∧ Below w.heap.size w w' := by
  have HBD : Hid (∀ W, Below w.heap.size w W → Calls Try.prog 16 #[.agg #[n.ks.v, n.vs.v, n.cs.v], .agg #[m.ks.v, m.vs.v, m.cs.v]] W fun e w' => e = .returned (.bool true) ∧ Below W.heap.size W w') := fun W hb => sameBody_any n m W (hn.below hb) (hm.below hb) (congrArg NP.ks h) (congrArg NP.vs h) (congrArg NP.cs h)
  obtain ⟨lv, ⟨ha, hc, hs⟩, ri, ⟨ka, kc, K⟩, ⟨va, vc, V⟩, ⟨ca, cc, C⟩⟩ := n
  obtain ⟨lv', ⟨ha', hc', hs'⟩, ri', ⟨ka', kc', K'⟩, ⟨va', vc', V'⟩, ⟨ca', cc', C'⟩⟩ := m
  have e1 : lv = lv' := congrArg NP.lv h
  have e2 : hs = hs' := congrArg NP.hi h
  have e3 : ri = ri' := congrArg NP.ri h
  subst e1
  subst e2
  subst e3
  have HHD : Hid (∀ W, Below w.heap.size w W → Calls Try.prog 35 #[.agg #[.int .i64 lv, .slice ha hs.length hc, .int .i64 ri], .agg #[.int .i64 lv, .slice ha' hs.length hc', .int .i64 ri]] W fun e w' => e = .returned (.bool true) ∧ Below W.heap.size W w') := fun W hb => sameHead_any lv ri ha ha' hs.length hc hc' hs W rfl (hn.below hb).h.r (hm.below hb).h.r
  clear hn hm h
  simp only [Nd.v, Tx.v, TL.v, IL.v] at HBD ⊢
  generalize hs.length = lh at *
  generalize K.length = lk at *
  generalize V.length = lw at *
  generalize C.length = lc at *
  generalize K'.length = lk' at *
  generalize V'.length = lw' at *
  generalize C'.length = lc' at *
  obtain ⟨w0, hw0⟩ : ∃ w0, w0 = w.alloc (.cells #[.int .i64 lv, .slice ha lh hc, .int .i64 ri, .slice ka lk kc, .slice va lw vc, .slice ca lc cc] 30) := ⟨_, rfl⟩
  obtain ⟨w1, hw1⟩ : ∃ w1, w1 = w0.alloc (.cells #[.int .i64 lv, .slice ha' lh hc', .int .i64 ri, .slice ka' lk' kc', .slice va' lw' vc', .slice ca' lc' cc'] 30) := ⟨_, rfl⟩
  have z0 : w0.heap.size = w.heap.size + 1 := by rw [hw0]; simp
  have b0 : Below w.heap.size w w0 := by rw [hw0]; exact (Below.refl _ _).alloc (Nat.le_refl _) _
  have b1 : Below w0.heap.size w0 w1 := by rw [hw1]; exact (Below.refl _ _).alloc (Nat.le_refl _) _
  have B1 : Hid (Below w.heap.size w w1) := b0.trans (b1.mono b0.size)
  have g0 : w0.heap[w.heap.size]? = some (.cells #[.int .i64 lv, .slice ha lh hc, .int .i64 ri, .slice ka lk kc, .slice va lw vc, .slice ca lc cc] 30 (0, 0)) := by rw [hw0]; exact heap_alloc_new w _
  have G1 : Hid (w1.heap[w.heap.size + 1]? = some (.cells #[.int .i64 lv, .slice ha' lh hc', .int .i64 ri, .slice ka' lk' kc', .slice va' lw' vc', .slice ca' lc' cc'] 30 (0, 0))) := by show _ = _; rw [← z0, hw1]; exact heap_alloc_new w0 _
  have A1 : Hid (w1.heap[w.heap.size]? = _) := (b1.block _ (by omega)).trans g0
  have HW : Hid ((w.alloc (.cells #[.int .i64 lv, .slice ha lh hc, .int .i64 ri, .slice ka lk kc, .slice va lw vc, .slice ca lc cc] 30)).alloc (.cells #[.int .i64 lv, .slice ha' lh hc', .int .i64 ri, .slice ka' lk' kc', .slice va' lw' vc', .slice ca' lc' cc'] 30) = w1) := by show _ = _; rw [hw1, hw0]
  clear hw0 hw1 z0 b0 b1 g0
  go_enter Try.func14, Try.ntmps14
  go_wp2_with fail
  rw [HW.out]
  refine (HHD.out w1 B1.out).mono ?_
  rintro e w2 ⟨rfl, b2⟩
  have A2 : Hid (w2.heap[w.heap.size]? = _) := (b2.block _ (lt_of_block A1.out)).trans A1.out
  have G2 : Hid (w2.heap[w.heap.size + 1]? = _) := (b2.block _ (lt_of_block G1.out)).trans G1.out
  have B2 := hide (B1.out.trans (b2.mono B1.out.size))
  have c3 : w2.cell? ⟨w.heap.size, 3, none⟩ = some (.slice ka lk kc) := by rw [cell_of_row _ _ _ _ _ _ A2.out]; rfl
  have c4 : w2.cell? ⟨w.heap.size, 4, none⟩ = some (.slice va lw vc) := by rw [cell_of_row _ _ _ _ _ _ A2.out]; rfl
  have c5 : w2.cell? ⟨w.heap.size, 5, none⟩ = some (.slice ca lc cc) := by rw [cell_of_row _ _ _ _ _ _ A2.out]; rfl
  have d3 : w2.cell? ⟨w.heap.size + 1, 3, none⟩ = some (.slice ka' lk' kc') := by rw [cell_of_row _ _ _ _ _ _ G2.out]; rfl
  have d4 : w2.cell? ⟨w.heap.size + 1, 4, none⟩ = some (.slice va' lw' vc') := by rw [cell_of_row _ _ _ _ _ _ G2.out]; rfl
  have d5 : w2.cell? ⟨w.heap.size + 1, 5, none⟩ = some (.slice ca' lc' cc') := by rw [cell_of_row _ _ _ _ _ _ G2.out]; rfl
  clear b2 HW
  go_wp2_with fail
  refine (HBD.out w2 B2.out).mono ?_
  rintro e w3 ⟨rfl, b3⟩
  have B3 := hide (B2.out.trans (b3.mono B2.out.size))
  clear b3
  go_wp2_with fail
  go_ret
  exact ⟨rfl, B3.out⟩

end Go.Proofs.Ytclgimklfejohaa
