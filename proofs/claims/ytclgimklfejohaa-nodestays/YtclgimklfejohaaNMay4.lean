/- Check's parts of the program: keysMay. -/
import Derived.Test.YtclgimklfejohaaNMay2
import Derived.Test.YtclgimklfejohaaNFind
namespace Go.Proofs.Ytclgimklfejohaa
open Go.RowKit

/-- May a node have its keys? -/
def KyP (hi : List Int) (ks : List (List Int)) : Prop := ∀ j, j < ks.length → ((1 ≤ (ks.getD j []).length ∧ (ks.getD j []).length ≤ 64) ∧ beyB hi (ks.getD j []) = false) ∧ (0 < j → cmpI (ks.getD (j - 1) []) (ks.getD j []) < 0)
instance (hi : List Int) (ks : List (List Int)) : Decidable (KyP hi ks) := by unfold KyP; exact inferInstance

set_option maxRecDepth 100000 in
set_option maxHeartbeats 3200000 in
theorem keysMay_any (n : Nd) (w : World) (hn : n.Ok w) : Calls Try.prog 40 #[n.v] w fun e w' => e = .returned (.bool (decide (KyP n.hi.s n.ks.p))) ∧ Below w.heap.size w w' := by
  have HBE : Hid (∀ (x : Tx) (W : World), Below w.heap.size w W → x.Ok W → Calls Try.prog 53 #[n.v, x.v] W fun e w' => e = .returned (.bool (beyB n.hi.s x.s)) ∧ Below W.heap.size W w') := fun x W h hx => beyond_any n x W (hn.below h) hx
  obtain ⟨rv, hrv⟩ : ∃ rv, rv = decide (KyP n.hi.s n.ks.p) := ⟨_, rfl⟩
  rw [← hrv]
  have hkz := hn.kz
  have HK : Hid (∀ W, Below w.heap.size w W → n.ks.Ok W) := fun W h => (hn.below h).k
  clear hn
  obtain ⟨lv, ⟨ha, hc, hs⟩, ri, ⟨ka, kc, K⟩, ⟨va, vc, V⟩, ⟨ca, cc, C⟩⟩ := n
  simp only [Nd.v, Tx.v, TL.v, IL.v, TL.p] at HBE HK hkz hrv ⊢
  replace hrv := hide hrv
  obtain ⟨l, hl⟩ : ∃ l, K.length = l := ⟨_, rfl⟩
  rw [hl] at hkz HBE ⊢
  replace hl := hide hl
  generalize hs.length = lh at *
  generalize V.length = lw at *
  generalize C.length = lc at *
  have HPL : Hid ((K.map (·.s)).length = l) := by show _ = _; rw [List.length_map, hl.out]
  have HGE : Hid (∀ i (h : i < K.length), (K.map (·.s)).getD i [] = K[i].s) := fun i h => tl_getD (t := ⟨ka, kc, K⟩) h
  obtain ⟨w0, hw0⟩ : ∃ w0, w0 = w.alloc (.cells #[.int .i64 lv, .slice ha lh hc, .int .i64 ri, .slice ka l kc, .slice va lw vc, .slice ca lc cc] 30) := ⟨_, rfl⟩
  have B0 : Hid (Below w.heap.size w w0) := by show Below _ _ _; rw [hw0]; exact (Below.refl _ _).alloc (Nat.le_refl _) _
  have G0 : Hid (w0.heap[w.heap.size]? = some (.cells #[.int .i64 lv, .slice ha lh hc, .int .i64 ri, .slice ka l kc, .slice va lw vc, .slice ca lc cc] 30 (0, 0))) := by show _ = _; rw [hw0]; exact heap_alloc_new w _
  have HW0 := hide hw0
  clear hw0
  go_enter Try.func40, Try.ntmps40
  go_wp2_with fail
  rw [← HW0.out]
  go_loopw [9] (fun q wr => ∃ i : Nat, q = .int .i64 (i : Int) ∧ i ≤ l ∧ Hid (Below w.heap.size w wr) ∧ Hid (wr.heap[w.heap.size]? = some (.cells #[.int .i64 lv, .slice ha lh hc, .int .i64 ri, .slice ka l kc, .slice va lw vc, .slice ca lc cc] 30 (0, 0))) ∧ Hid (∀ j, j < i → ((1 ≤ ((K.map (·.s)).getD j []).length ∧ ((K.map (·.s)).getD j []).length ≤ 64) ∧ beyB hs ((K.map (·.s)).getD j []) = false) ∧ (0 < j → cmpI ((K.map (·.s)).getD (j - 1) []) ((K.map (·.s)).getD j []) < 0))) (fun q _ => l - (intOf q).toNat)
  case atStart => exact ⟨0, rfl, Nat.zero_le _, B0, G0, fun j hj => absurd hj (Nat.not_lt_zero j)⟩
  case round =>
    clear B0 G0 HW0
    obtain ⟨i, rfl, hle, B1, G1, HE⟩ := hrel
    rename World => wr
    by_cases hlt : i < l
    · have j1 : (i : Int) < (l : Int) := by omega
      have j2 : (0 : Int) ≤ (i : Int) := by omega
      have h1 : i < K.length := by rw [hl.out]; exact hlt
      obtain ⟨b1, o1, ha1, s1⟩ := (HK.out wr B1.out).r i h1
      simp only at ha1
      subst ha1
      have HXO : Hid (∀ W, Below w.heap.size w W → K[i].Ok W) := fun W h => (HK.out W h).ok K[i] (List.getElem_mem h1)
      have e1 := HGE.out i h1
      obtain ⟨x, hx⟩ : ∃ x, x = K[i] := ⟨_, rfl⟩
      simp only [← hx] at s1 HXO e1
      clear hx
      replace e1 := hide e1
      unfold Tx.v at s1
      have HB := hide (HBE.out x wr B1.out (HXO.out wr B1.out))
      obtain ⟨bb, hbb⟩ : ∃ bb, bb = beyB hs x.s := ⟨_, rfl⟩
      rw [← hbb] at HB
      replace hbb := hide hbb
      obtain ⟨n1, hn1⟩ : ∃ n1, x.s.length = n1 := ⟨_, rfl⟩
      rw [hn1] at s1 HB
      replace hn1 := hide hn1
      have hz1 : n1 ≤ 140737488351232 := by have := (HXO.out wr B1.out).z; rw [hn1.out] at this; exact this
      have HNO : Hid (∀ P : Prop, (((1 ≤ n1 ∧ n1 ≤ 64) ∧ bb = false) ∧ (0 < i → cmpI ((K.map (·.s)).getD (i - 1) []) x.s < 0) → P) → ¬ P → rv = false) := fun P h1 h2 => by
        rw [hrv.out]
        refine decide_eq_false fun h => h2 (h1 ?_)
        have := h i (by rw [HPL.out]; exact hlt)
        rw [e1.out, hn1.out, ← hbb.out] at this
        exact this
      by_cases hin : 1 ≤ n1 ∧ n1 ≤ 64
      · have HIN : Hid ((1 : Int) ≤ (n1 : Int) ∧ (n1 : Int) ≤ 64) := ⟨by omega, by omega⟩
        cases bb with
        | true =>
          have HF : Hid (rv = false) := HNO.out False (fun h => absurd h.1.2 (by decide)) id
          obtain ⟨c0, c1, c2, c3, c4, c5⟩ := Six.of G1.out
          clear hin HNO HE
          go_wp2_with fail
          refine keep (within_yes _ _ _ _ HIN.out.1 HIN.out.2) ?_
          go_wp2_with fail
          refine HB.out.mono ?_
          rintro e w2 ⟨rfl, b⟩
          have B2 := hide (B1.out.trans (b.mono B1.out.size))
          clear b
          go_wp2_with fail
          go_ret
          exact ⟨by rw [HF.out]; rfl, B2.out⟩
        | false =>
          obtain ⟨c0, c1, c2, c3, c4, c5⟩ := Six.of G1.out
          have HI2 := hide hin
          clear hin
          go_wp2_with fail
          refine keep (within_yes _ _ _ _ HIN.out.1 HIN.out.2) ?_
          go_wp2_with fail
          refine HB.out.mono ?_
          rintro e w2 ⟨rfl, b⟩
          have B2 := hide (B1.out.trans (b.mono B1.out.size))
          have G2 : Hid (w2.heap[w.heap.size]? = _) := (b.block _ (lt_of_block G1.out)).trans G1.out
          clear b c0 c1 c2 c3 c4 c5 HB s1 G1
          by_cases h0 : i = 0
          · subst h0
            have HE2 : Hid (∀ j, j < 0 + 1 → ((1 ≤ ((K.map (·.s)).getD j []).length ∧ ((K.map (·.s)).getD j []).length ≤ 64) ∧ beyB hs ((K.map (·.s)).getD j []) = false) ∧ (0 < j → cmpI ((K.map (·.s)).getD (j - 1) []) ((K.map (·.s)).getD j []) < 0)) := fun j hj => by
              obtain rfl : j = 0 := by omega
              rw [e1.out, hn1.out, ← hbb.out]
              exact ⟨⟨HI2.out, rfl⟩, fun h => absurd h (Nat.lt_irrefl 0)⟩
            clear HNO HE
            go_wp2_with fail
            go_roundw
            case rel => exact ⟨1, by go_num, by omega, B2, G2, HE2⟩
            case measure => simp [intOf]; omega
          · obtain ⟨j, rfl⟩ : ∃ j, i = j + 1 := ⟨i - 1, by omega⟩
            have h2 : j < K.length := by omega
            obtain ⟨b2, o2, ha2, s2⟩ := (HK.out w2 B2.out).r j h2
            simp only [Option.some.injEq, Addr.mk.injEq, and_true] at ha2
            obtain ⟨rfl, rfl⟩ := ha2
            have HYO := hide ((HK.out w2 B2.out).ok K[j] (List.getElem_mem h2))
            have e2 := HGE.out j h2
            obtain ⟨y, hy⟩ : ∃ y, y = K[j] := ⟨_, rfl⟩
            simp only [← hy] at s2 HYO e2
            clear hy
            replace e2 := hide e2
            unfold Tx.v at s2
            obtain ⟨n2, hn2⟩ : ∃ n2, y.s.length = n2 := ⟨_, rfl⟩
            rw [hn2] at s2
            obtain ⟨d, hd⟩ : ∃ d, d = decide (cmpI y.s x.s < 0) := ⟨_, rfl⟩
            have HBL := hide (nbelow_any y.a x.a n2 y.c n1 x.c y.s x.s w2 hn2 hn1.out HYO.out.r (HXO.out w2 B2.out).r HYO.out.b8 (HXO.out w2 B2.out).b8)
            rw [← hd] at HBL
            replace hd := hide hd
            obtain ⟨c0, c1, c2, c3, c4, c5⟩ := Six.of G2.out
            have hw1 : IntKind.i64.wrap ((j : Int) + 1 - 1) = (j : Int) := by rw [IntKind.wrap_i64]; omega
            have hw2 : IntKind.i64.wrap (((j + 1 : Nat) : Int) - 1) = (j : Int) := by rw [IntKind.wrap_i64]; omega
            have hw3 : IntKind.i64.wrap (j : Int) = (j : Int) := by rw [IntKind.wrap_i64]; omega
            have j4 : (0 : Int) < (j : Int) + 1 := by omega
            have j5 : (0 : Int) ≤ (j : Int) := by omega
            have j3 : (j : Int) < (l : Int) := by omega
            cases d with
            | true =>
              have HE2 : Hid (∀ j', j' < j + 1 + 1 → ((1 ≤ ((K.map (·.s)).getD j' []).length ∧ ((K.map (·.s)).getD j' []).length ≤ 64) ∧ beyB hs ((K.map (·.s)).getD j' []) = false) ∧ (0 < j' → cmpI ((K.map (·.s)).getD (j' - 1) []) ((K.map (·.s)).getD j' []) < 0)) := fun j' hj => by
                by_cases e : j' = j + 1
                · rw [e, e1.out, hn1.out, ← hbb.out, Nat.add_sub_cancel, e2.out]
                  exact ⟨⟨HI2.out, rfl⟩, fun _ => of_decide_eq_true hd.out.symm⟩
                · exact HE.out j' (by omega)
              clear HNO HE
              go_wp2_with fail
              refine keep HBL.out ?_
              go_wp2_with fail
              go_roundw
              case rel => exact ⟨j + 1 + 1, by go_num, by omega, B2, G2, HE2⟩
              case measure => simp [intOf]; omega
            | false =>
              have HF : Hid (rv = false) := HNO.out False (fun h => by
                have := h.2 (Nat.succ_pos j)
                rw [Nat.add_sub_cancel, e2.out] at this
                exact of_decide_eq_false hd.out.symm this) id
              clear HNO HE
              go_wp2_with fail
              refine keep HBL.out ?_
              go_wp2_with fail
              go_ret
              exact ⟨by rw [HF.out]; rfl, B2.out⟩
      · have HF : Hid (rv = false) := HNO.out False (fun h => hin h.1.1) id
        have HIN : Hid (¬ ((1 : Int) ≤ (n1 : Int) ∧ (n1 : Int) ≤ 64)) := fun h => hin ⟨by omega, by omega⟩
        clear hin HNO HE
        go_wp2_with fail
        refine keep (within_no _ _ _ _ HIN.out) ?_
        go_wp2_with fail
        go_ret
        exact ⟨by rw [HF.out]; rfl, B1.out⟩
    · have j1 : ¬ (i : Int) < (l : Int) := by omega
      have HF : Hid (rv = true) := by
        show _ = _
        rw [hrv.out]
        refine decide_eq_true fun j hj => HE.out j ?_
        rw [HPL.out] at hj
        omega
      go_wp2_with fail
      go_ret
      exact ⟨by rw [HF.out]; rfl, B1.out⟩

end Go.Proofs.Ytclgimklfejohaa
