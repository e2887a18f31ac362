/- The document's Compare, Rises, Right; the law's leaf, inner. -/
import Derived.Test.YtclgimklfejohaaNFind
namespace Go.Proofs.Ytclgimklfejohaa
open Go.RowKit

theorem cmpI_end (xs ys : List Int) (k : Nat) (h : ∀ i, i < k → xs.getD i 0 = ys.getD i 0) (h1 : k ≤ xs.length) (h2 : k ≤ ys.length) (hk : k = xs.length ∨ k = ys.length) :
    cmpI xs ys = if xs.length < ys.length then -1 else if ys.length < xs.length then 1 else 0 := by
  have hc : comN xs ys = k := comN_of k xs ys h1 h2 h (by rcases hk with h | h <;> simp [h])
  rw [cmpI_com, hc]
  by_cases a : k = xs.length
  · rw [if_pos a]
    by_cases b : k = ys.length
    · rw [if_pos b, if_neg (by omega), if_neg (by omega)]
    · rw [if_neg b, if_pos (by omega)]
  · have b : k = ys.length := hk.resolve_left a
    rw [if_neg a, if_pos b, if_neg (by omega), if_pos (by omega)]
theorem cmpI_part (xs ys : List Int) (k : Nat) (h : ∀ i, i < k → xs.getD i 0 = ys.getD i 0) (h1 : k < xs.length) (h2 : k < ys.length) (hne : xs.getD k 0 ≠ ys.getD k 0) :
    cmpI xs ys = if xs.getD k 0 < ys.getD k 0 then -1 else 1 := by
  have hc : comN xs ys = k := comN_of k xs ys (by omega) (by omega) h (.inr (.inr hne))
  rw [cmpI_com, hc, if_neg (by omega), if_neg (by omega)]

set_option maxRecDepth 100000 in
set_option maxHeartbeats 1600000 in
theorem rcmp_any (a b : Option Addr) (l1 c1 l2 c2 : Nat) (xs ys : List Int) (w : World) (h1 : xs.length = l1) (h2 : ys.length = l2) (z1 : l1 ≤ 140737488355328) (z2 : l2 ≤ 140737488355328) (r1 : Row w .u8 a xs) (r2 : Row w .u8 b ys) :
    Calls Try.prog 17 #[.slice a l1 c1, .slice b l2 c2] w fun e w' => e = .returned (.int .i64 (cmpI xs ys)) ∧ ∃ m, w' = w.drewN m := by
  have R1 := hide r1
  have R2 := hide r2
  have H1 := hide h1
  have H2 := hide h2
  obtain ⟨cv, hcv⟩ : ∃ cv, cv = cmpI xs ys := ⟨_, rfl⟩
  rw [← hcv]
  replace hcv := hide hcv
  clear r1 r2 h1 h2
  go_enter Try.func17, Try.ntmps17
  go_wp2_with fail
  go_loopw [5] (fun q wr => ∃ k m : Nat, k ≤ l1 ∧ k ≤ l2 ∧ q = .int .i64 (k : Int) ∧ wr = w.drewN m ∧ Hid (∀ i, i < k → xs.getD i 0 = ys.getD i 0)) (fun q _ => l1 - (intOf q).toNat)
  case atStart => exact ⟨0, 0, Nat.zero_le _, Nat.zero_le _, rfl, rfl, fun i hi => absurd hi (Nat.not_lt_zero i)⟩
  case round =>
    obtain ⟨k, m, hk1, hk2, rfl, rfl, HE⟩ := hrel
    by_cases hlt : k < l1 ∧ k < l2
    · have i1 : (k : Int) < (l1 : Int) := by omega
      have i2 : (k : Int) < (l2 : Int) := by omega
      obtain ⟨b1, o1, rfl, g1⟩ := R1.out k (by rw [H1.out]; exact hlt.1)
      obtain ⟨b2, o2, rfl, g2⟩ := R2.out k (by rw [H2.out]; exact hlt.2)
      have HP : Hid (xs.getD k 0 ≠ ys.getD k 0 → cmpI xs ys = if xs.getD k 0 < ys.getD k 0 then -1 else 1) := fun h => cmpI_part xs ys k HE.out (by rw [H1.out]; exact hlt.1) (by rw [H2.out]; exact hlt.2) h
      have HQ : Hid (xs.getD k 0 = ys.getD k 0 → ∀ i, i < k + 1 → xs.getD i 0 = ys.getD i 0) := fun heq i hi => by
        by_cases e : i = k
        · subst e; exact heq
        · exact HE.out i (by omega)
      have hkk := hlt.1
      generalize xs.getD k 0 = c at *
      generalize ys.getD k 0 = d at *
      clear hlt
      rcases three c d with h | h | h
      · have HF : Hid (cv = -1) := by show _ = _; rw [hcv.out, HP.out (by omega), if_pos h]
        go_wp2
        go_quiet (fail)
        go_wp2
        go_ret
        exact ⟨ret_int HF.out.symm, _, World.drewN_drewN _ _ _⟩
      · subst h
        have i3 : ¬ c < c := Int.lt_irrefl c
        have HQ2 := hide (HQ.out rfl)
        clear HQ HP
        go_wp2
        go_quiet (fail)
        go_wp2
        go_quiet (fail)
        go_wp2
        go_roundw
        case rel => exact ⟨k + 1, _, by omega, by omega, by go_num, rfl, HQ2⟩
        case measure => simp [intOf]; omega
      · have HF : Hid (cv = 1) := by show _ = _; rw [hcv.out, HP.out (by omega), if_neg (by omega)]
        have i3 : ¬ c < d := by omega
        go_wp2
        go_quiet (fail)
        go_wp2
        go_quiet (fail)
        go_wp2
        go_ret
        exact ⟨ret_int HF.out.symm, _, by rw [World.drewN_drewN, World.drewN_drewN]⟩
    · have HC : Hid (cmpI xs ys = if l1 < l2 then -1 else if l2 < l1 then 1 else 0) := by
        show _ = _
        rw [cmpI_end xs ys k HE.out (by rw [H1.out]; exact hk1) (by rw [H2.out]; exact hk2) (by rw [H1.out, H2.out]; omega), H1.out, H2.out]
      have HD : Hid (¬ (k < l1 ∧ k < l2)) := hlt
      rcases Nat.lt_trichotomy l1 l2 with h | h | h
      · have HF : Hid (cv = -1) := by show _ = _; rw [hcv.out, HC.out, if_pos h]
        have i1 : ¬ (k : Int) < (l1 : Int) := by omega
        have i3 : (l1 : Int) < (l2 : Int) := by omega
        clear hlt
        go_wp2
        go_ret
        exact ⟨ret_int HF.out.symm, _, rfl⟩
      · subst h
        have HF : Hid (cv = 0) := by show _ = _; rw [hcv.out, HC.out, if_neg (by omega), if_neg (by omega)]
        have i1 : ¬ (k : Int) < (l1 : Int) := by omega
        clear hlt
        go_wp2
        go_ret
        exact ⟨ret_int HF.out.symm, _, rfl⟩
      · have HF : Hid (cv = 1) := by show _ = _; rw [hcv.out, HC.out, if_neg (by omega), if_pos h]
        have i1 : (k : Int) < (l1 : Int) := by omega
        have i2 : ¬ (k : Int) < (l2 : Int) := by omega
        have i3 : ¬ (l1 : Int) < (l2 : Int) := by omega
        have i4 : (l2 : Int) < (l1 : Int) := by omega
        clear hlt
        go_wp2
        go_ret
        exact ⟨ret_int HF.out.symm, _, rfl⟩

/-- Do keys rise? -/
def Rs (l : List (List Int)) : Prop := ∀ j, j < l.length - 1 → cmpI (l.getD j []) (l.getD (j + 1) []) < 0
instance (l : List (List Int)) : Decidable (Rs l) := by unfold Rs; exact inferInstance
theorem tl_getD {t : TL} {i : Nat} (h : i < t.L.length) : t.p.getD i [] = t.L[i].s := by simp [TL.p, h]

set_option maxRecDepth 100000 in
set_option maxHeartbeats 1600000 in
theorem rises_any (a : Option Addr) (l c : Nat) (K : List Tx) (w : World) (hK : (⟨a, c, K⟩ : TL).Ok w) (hl : K.length = l) (hz : l * 24 ≤ 140737488355000) :
    Calls Try.prog 26 #[.slice a l c] w fun e w' => e = .returned (.bool (decide (Rs (K.map (·.s))))) ∧ ∃ m, w' = w.drewN m := by
  have HK := hide hK
  replace hl := hide hl
  obtain ⟨rv, hrv⟩ : ∃ rv, rv = decide (Rs (K.map (·.s))) := ⟨_, rfl⟩
  rw [← hrv]
  replace hrv := hide hrv
  clear hK
  have HPL : Hid ((K.map (·.s)).length = l) := by show _ = _; rw [List.length_map, hl.out]
  have HGE : Hid (∀ i (h : i < K.length), (K.map (·.s)).getD i [] = K[i].s) := fun i h => tl_getD (t := ⟨a, c, K⟩) h
  go_enter Try.func26, Try.ntmps26
  go_wp2_with fail
  go_loopw [3] (fun q wr => ∃ i : Nat, (i ≤ l ∨ i = 1) ∧ 1 ≤ i ∧ q = .int .i64 (i : Int) ∧ Hid (∃ m, wr = w.drewN m) ∧ Hid (∀ j, j < i - 1 → cmpI ((K.map (·.s)).getD j []) ((K.map (·.s)).getD (j + 1) []) < 0)) (fun q _ => l - (intOf q).toNat)
  case atStart => exact ⟨1, .inr rfl, Nat.le_refl _, rfl, ⟨0, rfl⟩, fun j hj => absurd hj (Nat.not_lt_zero j)⟩
  case round =>
    obtain ⟨i, hi, hi1, rfl, HWR, HE⟩ := hrel
    rename World => wr
    have HKR : Hid ((⟨a, c, K⟩ : TL).Ok wr) := by obtain ⟨m, e⟩ := HWR.out; show TL.Ok _ _; rw [e]; exact HK.out.drewN m
    by_cases hlt : i < l
    · have j1 : (i : Int) < (l : Int) := by omega
      obtain ⟨j, rfl⟩ : ∃ j, i = j + 1 := ⟨i - 1, by omega⟩
      have h1 : j < K.length := by rw [hl.out]; omega
      have h2 : j + 1 < K.length := by rw [hl.out]; omega
      obtain ⟨b1, o1, ha1, s1⟩ := HKR.out.r j h1
      obtain ⟨b2, o2, ha2, s2⟩ := HKR.out.r (j + 1) h2
      simp only at ha1 ha2
      rw [ha1] at ha2
      cases ha2
      subst ha1
      have O1 := hide (HKR.out.ok K[j] (List.getElem_mem h1))
      have O2 := hide (HKR.out.ok K[j + 1] (List.getElem_mem h2))
      have e1 := HGE.out j h1
      have e2 := HGE.out (j + 1) h2
      obtain ⟨x, hx⟩ : ∃ x, K[j] = x := ⟨_, rfl⟩
      obtain ⟨y, hy⟩ : ∃ y, K[j + 1] = y := ⟨_, rfl⟩
      simp only [hx] at s1 O1 e1
      simp only [hy] at s2 O2 e2
      clear hx hy
      unfold Tx.v at s1 s2
      obtain ⟨n1, hn1⟩ : ∃ n, x.s.length = n := ⟨_, rfl⟩
      obtain ⟨n2, hn2⟩ : ∃ n, y.s.length = n := ⟨_, rfl⟩
      rw [hn1] at s1
      rw [hn2] at s2
      obtain ⟨cv, hcv⟩ : ∃ cv, cv = cmpI x.s y.s := ⟨_, rfl⟩
      have HCM : Hid (∀ q, Calls Try.prog 17 #[.slice x.a n1 x.c, .slice y.a n2 y.c] (wr.drewN q) fun e w' => e = .returned (.int .i64 cv) ∧ ∃ n, w' = wr.drewN n) := fun q => by
        rw [hcv]
        refine (rcmp_any x.a y.a n1 x.c n2 y.c x.s y.s (wr.drewN q) hn1 hn2 (by have := O1.out.z; omega) (by have := O2.out.z; omega) O1.out.r O2.out.r).mono ?_
        rintro e w' ⟨rfl, m, rfl⟩
        exact ⟨rfl, q + m, World.drewN_drewN _ _ _⟩
      have HCV : Hid (cmpI ((K.map (·.s)).getD j []) ((K.map (·.s)).getD (j + 1) []) = cv) := by show _ = _; rw [e1, e2, hcv]
      have hf := cmpI_fits x.s y.s
      rw [← hcv] at hf
      clear e1 e2 hcv hn1 hn2 O1 O2 HGE
      generalize x.a = xa at *
      generalize x.c = xc at *
      generalize y.a = ya at *
      generalize y.c = yc at *
      have hw1 : IntKind.i64.wrap ((j : Int) + 1 - 1) = (j : Int) := by rw [IntKind.wrap_i64]; omega
      have hw2 : IntKind.i64.wrap (((j + 1 : Nat) : Int) - 1) = (j : Int) := by rw [IntKind.wrap_i64]; omega
      have hw3 : IntKind.i64.wrap (j : Int) = (j : Int) := by rw [IntKind.wrap_i64]; omega
      have j4 : (j : Int) + 1 < (l : Int) := by omega
      have j5 : (0 : Int) ≤ (j : Int) := by omega
      have j6 : (0 : Int) ≤ (j : Int) + 1 := by omega
      have j3 : (j : Int) < (l : Int) := by omega
      by_cases hc : cv < 0
      · have hc2 : ¬ 0 ≤ cv := by omega
        have HE2 : Hid (∀ j', j' < j + 1 + 1 - 1 → cmpI ((K.map (·.s)).getD j' []) ((K.map (·.s)).getD (j' + 1) []) < 0) := fun j' hj' => by
          by_cases e : j' = j
          · subst e; rw [HCV.out]; exact hc
          · exact HE.out j' (by omega)
        clear HE HCV
        go_wp2_with fail
        go_quiet ((go_at_call 17; with_reducible exact HCM.out _))
        go_wp2_with fail
        go_roundw
        case rel => exact ⟨j + 1 + 1, .inl (by omega), by omega, by go_num, (by obtain ⟨m, e⟩ := HWR.out; exact ⟨_, by rw [e]; exact World.drewN_drewN _ _ _⟩), HE2⟩
        case measure => simp [intOf]; omega
      · have hc2 : 0 ≤ cv := by omega
        have HF : Hid (rv = false) := by
          show _ = _
          rw [hrv.out]
          refine decide_eq_false fun h => hc ?_
          rw [← HCV.out]
          exact h j (by rw [HPL.out]; omega)
        clear HE HCV
        go_wp2_with fail
        go_quiet ((go_at_call 17; with_reducible exact HCM.out _))
        go_wp2_with fail
        go_ret
        exact ⟨by rw [HF.out]; rfl, (by obtain ⟨m, e⟩ := HWR.out; exact ⟨_, by rw [e]; exact World.drewN_drewN _ _ _⟩)⟩
    · have j1 : ¬ (i : Int) < (l : Int) := by omega
      have HF : Hid (rv = true) := by
        show _ = _
        rw [hrv.out]
        refine decide_eq_true fun j hj => HE.out j ?_
        rw [HPL.out] at hj
        omega
      go_wp2_with fail
      go_ret
      exact ⟨by rw [HF.out]; rfl, HWR.out⟩

/-- Is a node right? -/
def RtP (p : NP) : Prop := Rs p.ks ∧ ((p.lv = 0 ∧ p.vs.length = p.ks.length ∧ p.cs.length = 0) ∨ (0 < p.lv ∧ p.vs.length = 0 ∧ p.cs.length = p.ks.length + 1))
instance (p : NP) : Decidable (RtP p) := by unfold RtP; exact inferInstance

set_option maxRecDepth 100000 in
set_option maxHeartbeats 1600000 in
theorem right_any (n : Nd) (w : World) (hn : n.Ok w) :
    Calls Try.prog 7 #[n.v] w fun e w' => e = .returned (.bool (decide (RtP n.p))) ∧ Below w.heap.size w w' := by
  obtain ⟨lv, ⟨ha, hc, hs⟩, ri, ⟨ka, kc, K⟩, ⟨va, vc, V⟩, ⟨ca, cc, C⟩⟩ := n
  have hkz := hn.kz
  have hvz := hn.vz
  have hcz := hn.cz
  simp only at hkz hvz hcz
  obtain ⟨rb, hrb⟩ : ∃ rb, rb = decide (Rs (K.map (·.s))) := ⟨_, rfl⟩
  have HRS : Hid (∀ W, Below w.heap.size w W → Calls Try.prog 26 #[.slice ka K.length kc] W fun e w' => e = .returned (.bool rb) ∧ ∃ m, w' = W.drewN m) := fun W h => by rw [hrb]; exact rises_any ka K.length kc K W (hn.k.below h) rfl (by omega)
  obtain ⟨R, hR⟩ : ∃ R, R = decide (RtP (⟨lv, ⟨ha, hc, hs⟩, ri, ⟨ka, kc, K⟩, ⟨va, vc, V⟩, ⟨ca, cc, C⟩⟩ : Nd).p) := ⟨_, rfl⟩
  have hRR : R = (rb && (decide ((lv = 0 ∧ V.length = K.length ∧ C.length = 0) ∨ (0 < lv ∧ V.length = 0 ∧ C.length = K.length + 1)))) := by
    rw [hR, hrb]
    simp only [RtP, Nd.p, TL.p, List.length_map, Bool.decide_and]
  rw [← hR]
  clear hR hn hrb
  simp only [Nd.v, Tx.v, TL.v, IL.v]
  generalize hs.length = lh at *
  generalize K.length = lk at *
  generalize V.length = lw at *
  generalize C.length = lc at *
  obtain ⟨w0, hw0⟩ : ∃ w0, w0 = w.alloc (.cells #[.int .i64 lv, .slice ha lh hc, .int .i64 ri, .slice ka lk kc, .slice va lw vc, .slice ca lc cc] 30) := ⟨_, rfl⟩
  have B0 : Hid (Below w.heap.size w w0) := by show Below _ _ _; rw [hw0]; exact (Below.refl _ _).alloc (Nat.le_refl _) _
  have g0 : w0.heap[w.heap.size]? = some (.cells #[.int .i64 lv, .slice ha lh hc, .int .i64 ri, .slice ka lk kc, .slice va lw vc, .slice ca lc cc] 30 (0, 0)) := by rw [hw0]; exact heap_alloc_new w _
  have c0 : w0.cell? ⟨w.heap.size, 0, none⟩ = some (.int .i64 lv) := by rw [cell_of_row _ _ _ _ _ _ g0]; rfl
  have c3 : w0.cell? ⟨w.heap.size, 3, none⟩ = some (.slice ka lk kc) := by rw [cell_of_row _ _ _ _ _ _ g0]; rfl
  have c4 : w0.cell? ⟨w.heap.size, 4, none⟩ = some (.slice va lw vc) := by rw [cell_of_row _ _ _ _ _ _ g0]; rfl
  have c5 : w0.cell? ⟨w.heap.size, 5, none⟩ = some (.slice ca lc cc) := by rw [cell_of_row _ _ _ _ _ _ g0]; rfl
  have HW0 := hide hw0
  clear hw0 g0
  by_cases h0 : lv = 0
  · subst h0
    have hRR2 : R = (rb && (decide (lw = lk) && decide (lc = 0))) := by
      rw [hRR]
      congr 1
      by_cases a : lw = lk <;> by_cases b : lc = 0 <;> simp [a, b]
    clear hRR
    have HRR := hide hRR2
    clear hRR2
    cases rb with
    | false =>
      go_enter Try.func7, Try.ntmps7
      go_wp2_with fail
      rw [← HW0.out]
      refine (HRS.out w0 B0.out).mono ?_
      rintro e w2 ⟨rfl, q, rfl⟩
      go_wp2_with fail
      go_ret
      exact ⟨by rw [HRR.out]; rfl, below_drewN B0.out q⟩
    | true =>
      by_cases a : lw = lk
      · subst a
        by_cases b : lc = 0
        · subst b
          go_enter Try.func7, Try.ntmps7
          go_wp2_with fail
          rw [← HW0.out]
          refine (HRS.out w0 B0.out).mono ?_
          rintro e w2 ⟨rfl, q, rfl⟩
          go_wp2_with fail
          go_ret
          exact ⟨by rw [HRR.out]; simp, below_drewN B0.out q⟩
        · have b' : ((lc : Int) == 0) = false := by rw [beq_eq_false_iff_ne]; omega
          have HF : Hid (R = false) := by show _ = _; rw [HRR.out]; simp [b]
          go_enter Try.func7, Try.ntmps7
          go_wp2_with fail
          rw [← HW0.out]
          refine (HRS.out w0 B0.out).mono ?_
          rintro e w2 ⟨rfl, q, rfl⟩
          go_wp2_with fail
          go_ret
          exact ⟨by rw [HF.out]; rfl, below_drewN B0.out q⟩
      · have a' : ((lw : Int) == (lk : Int)) = false := by rw [beq_eq_false_iff_ne]; omega
        have HF : Hid (R = false) := by show _ = _; rw [HRR.out]; simp [a]
        go_enter Try.func7, Try.ntmps7
        go_wp2_with fail
        rw [← HW0.out]
        refine (HRS.out w0 B0.out).mono ?_
        rintro e w2 ⟨rfl, q, rfl⟩
        go_wp2_with fail
        go_ret
        exact ⟨by rw [HF.out]; rfl, below_drewN B0.out q⟩
  · have h0' : (lv == 0) = false := by rw [beq_eq_false_iff_ne]; exact h0
    have hRR2 : R = (rb && (decide (0 < lv) && (decide (lw = 0) && decide (lc = lk + 1)))) := by
      rw [hRR]
      congr 1
      by_cases a : 0 < lv <;> by_cases b : lw = 0 <;> by_cases c : lc = lk + 1 <;> simp [h0, a, b, c]
    clear hRR
    have HRR := hide hRR2
    clear hRR2
    cases rb with
    | false =>
      have HF : Hid (R = false) := by show _ = _; rw [HRR.out]; rfl
      go_enter Try.func7, Try.ntmps7
      go_wp2_with fail
      rw [← HW0.out]
      refine (HRS.out w0 B0.out).mono ?_
      rintro e w2 ⟨rfl, q, rfl⟩
      go_wp2_with fail
      go_ret
      exact ⟨by rw [HF.out]; rfl, below_drewN B0.out q⟩
    | true =>
      by_cases hp : 0 < lv
      · by_cases a : lw = 0
        · subst a
          by_cases b : lc = lk + 1
          · have b' : ((lc : Int) == (lk : Int) + 1) = true := by rw [beq_iff_eq]; omega
            have HF : Hid (R = true) := by show _ = _; rw [HRR.out]; simp [hp, b]
            replace b := hide b
            go_enter Try.func7, Try.ntmps7
            go_wp2_with fail
            rw [← HW0.out]
            refine (HRS.out w0 B0.out).mono ?_
            rintro e w2 ⟨rfl, q, rfl⟩
            go_wp2_with fail
            go_ret
            exact ⟨by rw [HF.out]; rfl, below_drewN B0.out q⟩
          · have b' : ((lc : Int) == (lk : Int) + 1) = false := by rw [beq_eq_false_iff_ne]; omega
            have HF : Hid (R = false) := by show _ = _; rw [HRR.out]; simp [b]
            go_enter Try.func7, Try.ntmps7
            go_wp2_with fail
            rw [← HW0.out]
            refine (HRS.out w0 B0.out).mono ?_
            rintro e w2 ⟨rfl, q, rfl⟩
            go_wp2_with fail
            go_ret
            exact ⟨by rw [HF.out]; rfl, below_drewN B0.out q⟩
        · have a' : ((lw : Int) == 0) = false := by rw [beq_eq_false_iff_ne]; omega
          have HF : Hid (R = false) := by show _ = _; rw [HRR.out]; simp [a]
          go_enter Try.func7, Try.ntmps7
          go_wp2_with fail
          rw [← HW0.out]
          refine (HRS.out w0 B0.out).mono ?_
          rintro e w2 ⟨rfl, q, rfl⟩
          go_wp2_with fail
          go_ret
          exact ⟨by rw [HF.out]; rfl, below_drewN B0.out q⟩
      · have HF : Hid (R = false) := by show _ = _; rw [HRR.out]; simp [hp]
        go_enter Try.func7, Try.ntmps7
        go_wp2_with fail
        rw [← HW0.out]
        refine (HRS.out w0 B0.out).mono ?_
        rintro e w2 ⟨rfl, q, rfl⟩
        go_wp2_with fail
        go_ret
        exact ⟨by rw [HF.out]; rfl, below_drewN B0.out q⟩

end Go.Proofs.Ytclgimklfejohaa
