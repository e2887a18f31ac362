/- Check's parts of the program: slices.Index, slices.Contains, valuesMay, kidsMay. -/
import Derived.Test.YtclgimklfejohaaNConf
import Derived.Test.YtclgimklfejohaaNLentE
namespace Go.Proofs.Ytclgimklfejohaa
open Go.RowKit

/-- Is a number among the first l? -/
def isAt (s : List Int) (l : Nat) (x : Int) : Prop := ∃ j, j < l ∧ s.getD j 0 = x
instance (s : List Int) (l : Nat) (x : Int) : Decidable (isAt s l x) := by unfold isAt; exact inferInstance

set_option maxRecDepth 100000 in
set_option maxHeartbeats 800000 in
theorem index_any (a : Option Addr) (l c : Nat) (s : List Int) (x : Int) (w : World) (hr : Row w .i64 a s) (hl : l ≤ s.length) (hz : l * 8 ≤ 140737488355000) :
    Calls Try.prog 59 #[.slice a l c, .int .i64 x] w fun e w' => (∃ v : Int, e = .returned (.int .i64 v) ∧ (0 ≤ v ↔ isAt s l x)) ∧ w' = w := by
  have HR := hide hr
  replace hl := hide hl
  clear hr
  go_enter Try.func59, Try.ntmps59
  go_wp2_with fail
  go_loopw [8] (fun q wr => ∃ i : Nat, q = .int .i64 (i : Int) ∧ i ≤ l ∧ Hid (wr = w) ∧ Hid (∀ j, j < i → s.getD j 0 ≠ x)) (fun q _ => l - (intOf q).toNat)
  case atStart => exact ⟨0, rfl, Nat.zero_le _, rfl, fun j hj => absurd hj (Nat.not_lt_zero j)⟩
  case round =>
    obtain ⟨i, rfl, hle, HW, HE⟩ := hrel
    rename World => wr
    obtain rfl : wr = w := HW.out
    by_cases hlt : i < l
    · have j1 : (i : Int) < (l : Int) := by omega
      have j2 : (0 : Int) ≤ (i : Int) := by omega
      obtain ⟨b, o, hae, s0⟩ := HR.out i (by have := hl.out; omega)
      subst hae
      obtain ⟨y, hy⟩ : ∃ y, y = s.getD i 0 := ⟨_, rfl⟩
      rw [← hy] at s0
      by_cases hxy : x = y
      · have HF : Hid (isAt s l x) := ⟨i, hlt, by rw [hxy, hy]⟩
        have HI : Hid (0 ≤ (i : Int)) := j2
        subst hxy
        clear hy HE
        go_wp2_with fail
        go_ret
        exact ⟨⟨_, rfl, fun _ => HF.out, fun _ => HI.out⟩, rfl⟩
      · have HE2 : Hid (∀ j, j < i + 1 → s.getD j 0 ≠ x) := fun j hj => by
          by_cases e : j = i
          · rw [e, ← hy]; exact fun h => hxy h.symm
          · exact HE.out j (by omega)
        have j3 : (x == y) = false := by rw [beq_eq_false_iff_ne]; exact hxy
        clear hy HE
        go_wp2_with fail
        go_roundw
        case rel => exact ⟨i + 1, by go_num, by omega, True.intro, HE2⟩
        case measure => simp [intOf]; omega
    · have j1 : ¬ (i : Int) < (l : Int) := by omega
      obtain rfl : i = l := by omega
      have HF : Hid (¬ isAt s i x) := fun ⟨j, h1, h2⟩ => HE.out j h1 h2
      go_wp2_with fail
      go_ret
      exact ⟨⟨_, rfl, fun h => absurd h (by decide), fun h => absurd h HF.out⟩, rfl⟩

set_option maxHeartbeats 400000 in
theorem contains_any (a : Option Addr) (l c : Nat) (s : List Int) (x : Int) (w : World) (hr : Row w .i64 a s) (hl : l ≤ s.length) (hz : l * 8 ≤ 140737488355000) :
    Calls Try.prog 58 #[.slice a l c, .int .i64 x] w fun e w' => e = .returned (.bool (decide (isAt s l x))) ∧ w' = w := by
  have HC := hide (index_any a l c s x w hr hl hz)
  clear hr hl hz
  go_enter Try.func58, Try.ntmps58
  go_wp2_with fail
  refine HC.out.mono ?_
  rintro e w' ⟨⟨v, rfl, hv⟩, rfl⟩
  have HV : Hid (decide (0 ≤ v) = decide (isAt s l x)) := by show _ = _; exact decide_eq_decide.2 hv
  clear hv HC
  go_wp2
  go_ret
  exact ⟨by rw [HV.out]; rfl, rfl⟩

/-- May there be such values? -/
def VlP (vs : List (List Int)) : Prop := ∀ j, j < vs.length → (vs.getD j []).length ≤ 256
instance (vs : List (List Int)) : Decidable (VlP vs) := by unfold VlP; exact inferInstance

set_option maxRecDepth 100000 in
set_option maxHeartbeats 800000 in
theorem values_any (a : Option Addr) (l c : Nat) (K : List Tx) (w : World) (hK : (⟨a, c, K⟩ : TL).Ok w) (hl : K.length = l) (hz : l * 24 ≤ 140737488355000) :
    Calls Try.prog 54 #[.slice a l c] w fun e w' => e = .returned (.bool (decide (VlP (K.map (·.s))))) ∧ w' = w := by
  have HK := hide hK
  replace hl := hide hl
  obtain ⟨rv, hrv⟩ : ∃ rv, rv = decide (VlP (K.map (·.s))) := ⟨_, rfl⟩
  rw [← hrv]
  replace hrv := hide hrv
  clear hK
  have HPL : Hid ((K.map (·.s)).length = l) := by show _ = _; rw [List.length_map, hl.out]
  have HGE : Hid (∀ i (h : i < K.length), (K.map (·.s)).getD i [] = K[i].s) := fun i h => by simp [h]
  go_enter Try.func54, Try.ntmps54
  go_wp2_with fail
  go_loopw [7] (fun q wr => ∃ i : Nat, q = .int .i64 (i : Int) ∧ i ≤ l ∧ Hid (wr = w) ∧ Hid (∀ j, j < i → ((K.map (·.s)).getD j []).length ≤ 256)) (fun q _ => l - (intOf q).toNat)
  case atStart => exact ⟨0, rfl, Nat.zero_le _, rfl, fun j hj => absurd hj (Nat.not_lt_zero j)⟩
  case round =>
    obtain ⟨i, rfl, hle, HW, HE⟩ := hrel
    rename World => wr
    obtain rfl : wr = w := HW.out
    by_cases hlt : i < l
    · have j1 : (i : Int) < (l : Int) := by omega
      have j2 : (0 : Int) ≤ (i : Int) := by omega
      have h1 : i < K.length := by rw [hl.out]; omega
      obtain ⟨b1, o1, ha1, s1⟩ := HK.out.r i h1
      simp only at ha1
      subst ha1
      have O1 := hide (HK.out.ok K[i] (List.getElem_mem h1))
      have e1 := HGE.out i h1
      obtain ⟨x, hx⟩ : ∃ x, K[i] = x := ⟨_, rfl⟩
      simp only [hx] at s1 O1 e1
      clear hx
      unfold Tx.v at s1
      obtain ⟨n1, hn1⟩ : ∃ n, x.s.length = n := ⟨_, rfl⟩
      rw [hn1] at s1
      have hz1 : n1 ≤ 140737488351232 := by have := O1.out.z; omega
      by_cases hc : n1 ≤ 256
      · have HE2 : Hid (∀ j, j < i + 1 → ((K.map (·.s)).getD j []).length ≤ 256) := fun j hj => by
          by_cases e : j = i
          · rw [e, e1, hn1]; exact hc
          · exact HE.out j (by omega)
        have hc2 : ¬ (256 : Int) < (n1 : Int) := by omega
        clear HE e1 hn1
        go_wp2_with fail
        go_roundw
        case rel => exact ⟨i + 1, by go_num, by omega, True.intro, HE2⟩
        case measure => simp [intOf]; omega
      · have HF : Hid (rv = false) := by
          show _ = _
          rw [hrv.out]
          refine decide_eq_false fun h => hc ?_
          have := h i (by rw [HPL.out]; exact hlt)
          rw [e1, hn1] at this
          exact this
        have hc2 : (256 : Int) < (n1 : Int) := by omega
        clear HE e1 hn1
        go_wp2_with fail
        go_ret
        exact ⟨by rw [HF.out]; rfl, rfl⟩
    · have j1 : ¬ (i : Int) < (l : Int) := by omega
      have HF : Hid (rv = true) := by
        show _ = _
        rw [hrv.out]
        refine decide_eq_true fun j hj => HE.out j ?_
        rw [HPL.out] at hj
        omega
      go_wp2_with fail
      go_ret
      exact ⟨by rw [HF.out]; rfl, rfl⟩

/-- May there be such kids? -/
def KdP (cs : List Int) (nd : Int) : Prop := ∀ i, i < cs.length → (1 ≤ cs.getD i 0 ∧ cs.getD i 0 ≤ nd) ∧ ¬ isAt cs i (cs.getD i 0)
instance (cs : List Int) (nd : Int) : Decidable (KdP cs nd) := by unfold KdP; exact inferInstance

set_option maxRecDepth 100000 in
set_option maxHeartbeats 800000 in
theorem kids_any (a : Option Addr) (l c : Nat) (s : List Int) (nd : Int) (w : World) (hr : Row w .i64 a s) (hl : s.length = l) (hlc : l ≤ c) (hz : l * 8 ≤ 140737488355000) :
    Calls Try.prog 55 #[.slice a l c, .int .i64 nd] w fun e w' => e = .returned (.bool (decide (KdP s nd))) ∧ w' = w := by
  have HR := hide hr
  replace hl := hide hl
  obtain ⟨rv, hrv⟩ : ∃ rv, rv = decide (KdP s nd) := ⟨_, rfl⟩
  rw [← hrv]
  replace hrv := hide hrv
  clear hr
  have HCO : Hid (∀ i, i ≤ l → ∀ x, Calls Try.prog 58 #[.slice a i c, .int .i64 x] w fun e w' => e = .returned (.bool (decide (isAt s i x))) ∧ w' = w) := fun i hi x => contains_any a i c s x w HR.out (by rw [hl.out]; exact hi) (by omega)
  go_enter Try.func55, Try.ntmps55
  go_wp2_with fail
  go_loopw [9] (fun q wr => ∃ i : Nat, q = .int .i64 (i : Int) ∧ i ≤ l ∧ Hid (wr = w) ∧ Hid (∀ j, j < i → (1 ≤ s.getD j 0 ∧ s.getD j 0 ≤ nd) ∧ ¬ isAt s j (s.getD j 0))) (fun q _ => l - (intOf q).toNat)
  case atStart => exact ⟨0, rfl, Nat.zero_le _, rfl, fun j hj => absurd hj (Nat.not_lt_zero j)⟩
  case round =>
    obtain ⟨i, rfl, hle, HW, HE⟩ := hrel
    rename World => wr
    obtain rfl : wr = w := HW.out
    by_cases hlt : i < l
    · have j1 : (i : Int) < (l : Int) := by omega
      have j2 : (0 : Int) ≤ (i : Int) := by omega
      obtain ⟨b, o, hae, s0⟩ := HR.out i (by rw [hl.out]; exact hlt)
      subst hae
      obtain ⟨y, hy⟩ : ∃ y, y = s.getD i 0 := ⟨_, rfl⟩
      rw [← hy] at s0
      have HY := hide hy
      clear hy
      by_cases hin : 1 ≤ y ∧ y ≤ nd
      · have qq := fun W => uptoI (some ⟨b, o, none⟩) l c i (by omega) W
        have HC1 := hide (HCO.out i hle y)
        by_cases hat : isAt s i y
        · have HF : Hid (rv = false) := by
            show _ = _
            rw [hrv.out]
            refine decide_eq_false fun h => (h i (by rw [hl.out]; exact hlt)).2 ?_
            rw [← HY.out]; exact hat
          rw [decide_eq_true hat] at HC1
          have HIN := hide hin
          clear HE hat hin
          go_wp2_with fail
          refine keep (within_yes _ _ _ _ HIN.out.1 HIN.out.2) ?_
          go_wp2_with fail
          refine keep HC1.out ?_
          go_wp2_with fail
          go_ret
          exact ⟨by rw [HF.out]; rfl, rfl⟩
        · have HE2 : Hid (∀ j, j < i + 1 → (1 ≤ s.getD j 0 ∧ s.getD j 0 ≤ nd) ∧ ¬ isAt s j (s.getD j 0)) := fun j hj => by
            by_cases e : j = i
            · rw [e, ← HY.out]; exact ⟨hin, hat⟩
            · exact HE.out j (by omega)
          rw [decide_eq_false hat] at HC1
          have HIN := hide hin
          clear HE hat hin
          go_wp2_with fail
          refine keep (within_yes _ _ _ _ HIN.out.1 HIN.out.2) ?_
          go_wp2_with fail
          refine keep HC1.out ?_
          go_wp2_with fail
          go_roundw
          case rel => exact ⟨i + 1, by go_num, by omega, True.intro, HE2⟩
          case measure => simp [intOf]; omega
      · have HF : Hid (rv = false) := by
          show _ = _
          rw [hrv.out]
          refine decide_eq_false fun h => hin ?_
          have := (h i (by rw [hl.out]; exact hlt)).1
          rw [← HY.out] at this
          exact this
        have HIN : Hid (¬ (1 ≤ y ∧ y ≤ nd)) := hin
        clear HE hin
        go_wp2_with fail
        refine keep (within_no _ _ _ _ HIN.out) ?_
        go_wp2_with fail
        go_ret
        exact ⟨by rw [HF.out]; rfl, rfl⟩
    · have j1 : ¬ (i : Int) < (l : Int) := by omega
      have HF : Hid (rv = true) := by
        show _ = _
        rw [hrv.out]
        refine decide_eq_true fun j hj => HE.out j ?_
        rw [hl.out] at hj
        omega
      go_wp2_with fail
      go_ret
      exact ⟨by rw [HF.out]; rfl, rfl⟩

end Go.Proofs.Ytclgimklfejohaa
