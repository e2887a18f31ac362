/- The document's Beyond, Find, Child. -/
import Derived.Test.YteciiehnoakgdaaNRef
import Derived.Test.YteciiehnoakgdaaNClone2
namespace Go.Proofs.Yteciiehnoakgdaa
open Go.RowKit

set_option maxRecDepth 100000 in
set_option maxHeartbeats 800000 in
theorem rbeyond_any (n : Nd) (k : Tx) (w : World) (hn : n.Ok w) (hk : k.Ok w) :
    Calls Try.prog 18 #[n.v, k.v] w fun e w' => e = .returned (.bool (beyB n.hi.s k.s)) ∧ Below w.heap.size w w' := by
  obtain ⟨lv, ⟨ha, hc, hs⟩, ri, ⟨ka, kc, K⟩, ⟨va, vc, V⟩, ⟨ca, cc, C⟩⟩ := n
  obtain ⟨xa, xc, xs⟩ := k
  have HH : Hid (∀ W, Below w.heap.size w W → (⟨ha, hc, hs⟩ : Tx).Ok W) := fun W h => hn.h.below h
  have HK : Hid (∀ W, Below w.heap.size w W → (⟨xa, xc, xs⟩ : Tx).Ok W) := fun W h => hk.below h
  have zh := hn.h.z
  have zx := hk.z
  clear hn hk
  simp only at zh zx
  simp only [Nd.v, Tx.v, TL.v, IL.v, beyB]
  obtain ⟨lh, hlh⟩ : ∃ lh, hs.length = lh := ⟨_, rfl⟩
  obtain ⟨lx, hlx⟩ : ∃ lx, xs.length = lx := ⟨_, rfl⟩
  rw [hlh] at zh
  rw [hlx] at zx
  rw [hlh, hlx]
  replace hlh := hide hlh
  replace hlx := hide hlx
  by_cases h0 : 0 < lh
  · have i1 : (0 : Int) < (lh : Int) := by omega
    rw [decide_eq_true h0, Bool.true_and]
    obtain ⟨cv, hcv⟩ : ∃ cv, cv = cmpI xs hs := ⟨_, rfl⟩
    have HBL : Hid (∀ W, Below w.heap.size w W → Calls Try.prog 47 #[.slice xa lx xc, .slice ha lh hc] W fun e w' => e = .returned (.int .i64 cv) ∧ ∃ m, w' = W.drewN m) := fun W h => by rw [hcv]; exact rcmp_any xa ha lx xc lh hc xs hs W hlx.out hlh.out (by omega) (by omega) (HK.out _ h).r (HH.out _ h).r
    rw [← hcv]
    clear hcv
    go_enter Try.func18, Try.ntmps18
    go_wp2_with fail
    refine (HBL.out _ ((Below.refl _ _).alloc (Nat.le_refl _) _)).mono ?_
    rintro e w2 ⟨rfl, m, rfl⟩
    go_wp2_with fail
    go_ret
    exact ⟨rfl, below_drewN ((Below.refl _ _).alloc (Nat.le_refl _) _) m⟩
  · obtain rfl : lh = 0 := by omega
    rw [decide_eq_false h0, Bool.false_and]
    clear h0
    go_enter Try.func18, Try.ntmps18
    go_wp2_with fail
    go_ret
    exact ⟨rfl, (Below.refl _ _).alloc (Nat.le_refl _) _⟩

set_option maxRecDepth 100000 in
set_option maxHeartbeats 1600000 in
theorem rfind_any (n : Nd) (k : Tx) (w : World) (hn : n.Ok w) (hk : k.Ok w) :
    Calls Try.prog 17 #[n.v, k.v] w fun e w' => e = .returned (.tuple #[.int .i64 (cntB n.ks.p k.s : Nat), .bool (isIn n.ks.p k.s)]) ∧ Below w.heap.size w w' := by
  obtain ⟨lv, ⟨ha, hc, hs⟩, ri, ⟨ka, kc, K⟩, ⟨va, vc, V⟩, ⟨ca, cc, C⟩⟩ := n
  obtain ⟨xa, xc, xs⟩ := k
  have HS : Hid (∀ W, Below w.heap.size w W → (⟨ka, kc, K⟩ : TL).Ok W) := fun W h => hn.k.below h
  have HK : Hid (∀ W, Below w.heap.size w W → (⟨xa, xc, xs⟩ : Tx).Ok W) := fun W h => hk.below h
  have hz := hn.kz
  have zx := hk.z
  clear hn hk
  simp only [Nd.v, Tx.v, TL.v, IL.v]
  simp only at hz zx
  obtain ⟨ps, hps⟩ : ∃ ps, ps = (⟨ka, kc, K⟩ : TL).p := ⟨_, rfl⟩
  rw [← hps]
  have hpl : ps.length = K.length := by rw [hps]; simp [TL.p]
  have HPS : Hid (∀ i (h : i < K.length), ps[i]? = some K[i].s) := fun i h => by rw [hps]; simp [TL.p, h]
  obtain ⟨lk, hlk⟩ : ∃ lk, K.length = lk := ⟨_, rfl⟩
  obtain ⟨lx, hlx⟩ : ∃ lx, xs.length = lx := ⟨_, rfl⟩
  rw [hlk] at hz hpl
  rw [hlx] at zx
  rw [hlk, hlx]
  replace hlk := hide hlk
  replace hlx := hide hlx
  have HPL := hide hpl
  clear hps hpl
  go_enter Try.func17, Try.ntmps17
  go_wp2_with fail
  go_loopw [6, 7, 8] (fun q6 q7 q8 wr => ∃ i : Nat, i ≤ lk ∧ q6 = .int .i64 (cntB (ps.take i) xs : Nat) ∧ q7 = .bool (isIn (ps.take i) xs) ∧ q8 = .int .i64 (i : Int) ∧ Hid (Below w.heap.size w wr) ∧ Hid (wr.cell? ⟨w.heap.size, 3, none⟩ = some (.slice ka lk kc))) (fun _ _ q8 _ => lk - (intOf q8).toNat)
  case atStart => exact ⟨0, Nat.zero_le _, by simp [cntB], by simp [isIn], rfl, (Below.refl _ _).alloc (Nat.le_refl _) _, by show _ = _; rw [cell_of_row _ _ _ _ _ _ (heap_alloc_new w _)]; rfl⟩
  case round =>
    obtain ⟨i, hi, rfl, rfl, rfl, HB, HC3⟩ := hrel
    rename World => wr
    have c3 := HC3.out
    by_cases hlt : i < lk
    · have j1 : (i : Int) < (lk : Int) := by omega
      have hiK : i < K.length := by rw [hlk.out]; exact hlt
      have hS := HS.out wr HB.out
      obtain ⟨b, o, hka, s0⟩ := hS.r i hiK
      simp only at hka
      subst hka
      have OK := hide (hS.ok K[i] (List.getElem_mem hiK))
      have hip : i < ps.length := by rw [HPL.out]; exact hlt
      have hpi : ps[i] = K[i].s := by have := HPS.out i hiK; rw [List.getElem?_eq_getElem hip] at this; exact Option.some.inj this
      have e1 := cntB_next (key := xs) hip
      have e2 := isIn_next (key := xs) hip
      rw [hpi] at e1 e2
      obtain ⟨kk, hkk⟩ : ∃ kk, K[i] = kk := ⟨_, rfl⟩
      simp only [hkk] at s0 OK e1 e2
      unfold Tx.v at s0
      obtain ⟨nk, hnk⟩ : ∃ nk, kk.s.length = nk := ⟨_, rfl⟩
      rw [hnk] at s0
      have hcb := cntB_le (ps.take i) xs
      have hct : (ps.take i).length ≤ i := by rw [List.length_take]; omega
      obtain ⟨cb, hcb'⟩ : ∃ cb, cb = cntB (ps.take i) xs := ⟨_, rfl⟩
      obtain ⟨ib, hib⟩ : ∃ ib, ib = isIn (ps.take i) xs := ⟨_, rfl⟩
      rw [← hcb'] at e1 hcb ⊢
      rw [← hib] at e2 ⊢
      have hcb2 : cb ≤ i := by omega
      obtain ⟨cv, hcv⟩ : ∃ cv, cv = cmpI kk.s xs := ⟨_, rfl⟩
      have HCM := hide (rcmp_any kk.a xa nk kk.c lx xc kk.s xs wr hnk hlx.out (by have := OK.out.z; omega) (by omega) OK.out.r (HK.out wr HB.out).r)
      have hf := cmpI_fits kk.s xs
      have e3 : decide (kk.s = xs) = (cv == 0) := by
        rw [hcv]
        by_cases h : kk.s = xs
        · rw [decide_eq_true h, h, cmpI_refl]; rfl
        · rw [decide_eq_false h]
          symm
          rw [beq_eq_false_iff_ne]
          exact fun e => h (cmpI_zero _ _ e)
      rw [← hcv] at HCM e1 hf
      rw [e3] at e2
      have E1 := hide e1
      have E2 := hide e2
      clear hS hpi e1 e2 e3 hkk hnk hcb hct hcb' hib hcv HPS
      generalize kk.a = kka at *
      generalize kk.c = kkc at *
      go_wp2_with fail
      refine HCM.out.mono ?_
      rintro e w2 ⟨rfl, m, hw2⟩
      have HB2 : Hid (Below w.heap.size w w2) := by show Below _ _ _; rw [hw2]; exact below_drewN HB.out m
      have HC2 : Hid (w2.cell? ⟨w.heap.size, 3, none⟩ = some (.slice (some ⟨b, o, none⟩) lk kc)) := by show _ = _; rw [hw2]; exact HC3.out
      clear hw2 HCM s0 c3
      by_cases hc0 : cv < 0
      · rw [if_pos hc0] at E1
        have hne : (cv == 0) = false := by rw [beq_eq_false_iff_ne]; omega
        rw [hne, Bool.or_false] at E2
        cases ib with
        | true =>
          go_wp2_with fail
          go_roundw
          case rel => exact ⟨i + 1, by omega, by rw [E1.out]; go_num, by rw [E2.out], by go_num, HB2, HC2⟩
          case measure => simp [intOf]; omega
        | false =>
          go_wp2_with fail
          go_roundw
          case rel => exact ⟨i + 1, by omega, by rw [E1.out]; go_num, by rw [E2.out], by go_num, HB2, HC2⟩
          case measure => simp [intOf]; omega
      · rw [if_neg hc0] at E1
        obtain ⟨bb, hbb⟩ : ∃ bb, bb = (cv == 0) := ⟨_, rfl⟩
        rw [← hbb] at E2
        cases ib with
        | true =>
          clear hbb
          go_wp2_with fail
          go_roundw
          case rel => exact ⟨i + 1, by omega, by rw [E1.out]; rfl, by rw [E2.out]; rfl, by go_num, HB2, HC2⟩
          case measure => simp [intOf]; omega
        | false =>
          replace hbb := hide hbb
          go_wp2_with fail
          go_roundw
          case rel => exact ⟨i + 1, by omega, by rw [E1.out]; rfl, by rw [E2.out, hbb.out]; rfl, by go_num, HB2, HC2⟩
          case measure => simp [intOf]; omega
    · have j1 : ¬ (i : Int) < (lk : Int) := by omega
      obtain rfl : i = lk := by omega
      have HT : Hid (ps.take i = ps) := List.take_of_length_le (by rw [HPL.out]; exact Nat.le_refl _)
      rw [HT.out]
      obtain ⟨cb, hcb⟩ : ∃ cb, cb = cntB ps xs := ⟨_, rfl⟩
      obtain ⟨ib, hib⟩ : ∃ ib, ib = isIn ps xs := ⟨_, rfl⟩
      rw [← hcb, ← hib]
      replace hcb := hide hcb
      replace hib := hide hib
      go_wp2_with fail
      go_ret2
      exact ⟨by rw [← hcb.out, ← hib.out]; rfl, HB.out⟩
set_option maxRecDepth 100000 in
set_option maxHeartbeats 1600000 in
theorem rchild_any (n : Nd) (k : Tx) (w : World) (hn : n.Ok w) (hk : k.Ok w) :
    Calls Try.prog 19 #[n.v, k.v] w fun e w' => e = .returned (.int .i64 (chiN n.ks.p n.cs.s k.s)) ∧ Below w.heap.size w w' := by
  obtain ⟨lv, ⟨ha, hc, hs⟩, ri, ⟨ka, kc, K⟩, ⟨va, vc, V⟩, ⟨ca, cc, C⟩⟩ := n
  obtain ⟨xa, xc, xs⟩ := k
  have HS : Hid (∀ W, Below w.heap.size w W → (⟨ka, kc, K⟩ : TL).Ok W) := fun W h => hn.k.below h
  have HK : Hid (∀ W, Below w.heap.size w W → (⟨xa, xc, xs⟩ : Tx).Ok W) := fun W h => hk.below h
  have HC : Hid (∀ W, Below w.heap.size w W → (⟨ca, cc, C⟩ : IL).Ok W) := fun W h => hn.c.below h
  have hz := hn.kz
  have hzc := hn.cz
  have zx := hk.z
  clear hn hk
  simp only [Nd.v, Tx.v, TL.v, IL.v]
  simp only at hz hzc zx
  obtain ⟨ps, hps⟩ : ∃ ps, ps = (⟨ka, kc, K⟩ : TL).p := ⟨_, rfl⟩
  rw [← hps]
  have hpl : ps.length = K.length := by rw [hps]; simp [TL.p]
  have HPS : Hid (∀ i (h : i < K.length), ps[i]? = some K[i].s) := fun i h => by rw [hps]; simp [TL.p, h]
  obtain ⟨lk, hlk⟩ : ∃ lk, K.length = lk := ⟨_, rfl⟩
  obtain ⟨lx, hlx⟩ : ∃ lx, xs.length = lx := ⟨_, rfl⟩
  obtain ⟨lc, hlc⟩ : ∃ lc, C.length = lc := ⟨_, rfl⟩
  have HV : Hid (chiN ps C xs = if lc = 0 then 0 else C.getD (min (cntL ps xs) (lc - 1)) 0) := by show _ = _; unfold chiN; rw [hlc]
  obtain ⟨R, hR⟩ : ∃ R, R = chiN ps C xs := ⟨_, rfl⟩
  rw [← hR]
  rw [HV.out] at hR
  clear HV
  rw [hlk] at hz hpl
  rw [hlc] at hzc
  rw [hlx] at zx
  rw [hlk, hlx, hlc]
  replace hlk := hide hlk
  replace hlx := hide hlx
  replace hlc := hide hlc
  have HPL := hide hpl
  clear hps hpl
  by_cases h0 : lc = 0
  · subst h0
    rw [if_pos rfl] at hR
    subst hR
    go_enter Try.func19, Try.ntmps19
    go_wp2_with fail
    go_ret
    exact ⟨rfl, (Below.refl _ _).alloc (Nat.le_refl _) _⟩
  · rw [if_neg h0] at hR
    replace hR := hide hR
    have j0 : ((lc : Int) == 0) = false := by rw [beq_eq_false_iff_ne]; omega
    go_enter Try.func19, Try.ntmps19
    go_wp2_with fail
    go_loopw [5, 6] (fun q5 q6 wr => ∃ i : Nat, i ≤ lk ∧ q5 = .int .i64 (cntL (ps.take i) xs : Nat) ∧ q6 = .int .i64 (i : Int) ∧ Hid (Below w.heap.size w wr) ∧ Hid (wr.cell? ⟨w.heap.size, 3, none⟩ = some (.slice ka lk kc)) ∧ Hid (wr.cell? ⟨w.heap.size, 5, none⟩ = some (.slice ca lc cc))) (fun _ q6 _ => lk - (intOf q6).toNat)
    case atStart => exact ⟨0, Nat.zero_le _, by simp [cntL], rfl, (Below.refl _ _).alloc (Nat.le_refl _) _, by show _ = _; rw [cell_of_row _ _ _ _ _ _ (heap_alloc_new w _)]; rfl, by show _ = _; rw [cell_of_row _ _ _ _ _ _ (heap_alloc_new w _)]; rfl⟩
    case round =>
      obtain ⟨i, hi, rfl, rfl, HB, HC3, HC5⟩ := hrel
      rename World => wr
      by_cases hlt : i < lk
      · have c3 := HC3.out
        have j1 : (i : Int) < (lk : Int) := by omega
        have hiK : i < K.length := by rw [hlk.out]; exact hlt
        have hS := HS.out wr HB.out
        obtain ⟨b, o, hka, s0⟩ := hS.r i hiK
        simp only at hka
        subst hka
        have OK := hide (hS.ok K[i] (List.getElem_mem hiK))
        have hip : i < ps.length := by rw [HPL.out]; exact hlt
        have hpi : ps[i] = K[i].s := by have := HPS.out i hiK; rw [List.getElem?_eq_getElem hip] at this; exact Option.some.inj this
        have e1 := cntL_next (key := xs) hip
        rw [hpi] at e1
        obtain ⟨kk, hkk⟩ : ∃ kk, K[i] = kk := ⟨_, rfl⟩
        simp only [hkk] at s0 OK e1
        unfold Tx.v at s0
        obtain ⟨nk, hnk⟩ : ∃ nk, kk.s.length = nk := ⟨_, rfl⟩
        rw [hnk] at s0
        have hcb := cntL_le (ps.take i) xs
        have hct : (ps.take i).length ≤ i := by rw [List.length_take]; omega
        obtain ⟨cb, hcb'⟩ : ∃ cb, cb = cntL (ps.take i) xs := ⟨_, rfl⟩
        rw [← hcb'] at e1 hcb ⊢
        have hcb2 : cb ≤ i := by omega
        obtain ⟨cv, hcv⟩ : ∃ cv, cv = cmpI kk.s xs := ⟨_, rfl⟩
        have HCM := hide (rcmp_any kk.a xa nk kk.c lx xc kk.s xs wr hnk hlx.out (by have := OK.out.z; omega) (by omega) OK.out.r (HK.out wr HB.out).r)
        rw [cmpI_swap kk.s xs] at e1
        rw [← hcv] at HCM e1
        have E1 := hide e1
        clear hS hpi e1 hkk hnk hcb hct hcb' hcv HPS
        generalize kk.a = kka at *
        generalize kk.c = kkc at *
        go_wp2_with fail
        refine HCM.out.mono ?_
        rintro e w2 ⟨rfl, m, hw2⟩
        have HB2 : Hid (Below w.heap.size w w2) := by show Below _ _ _; rw [hw2]; exact below_drewN HB.out m
        have HC2 : Hid (w2.cell? ⟨w.heap.size, 3, none⟩ = some (.slice (some ⟨b, o, none⟩) lk kc)) := by show _ = _; rw [hw2]; exact HC3.out
        have HC4 : Hid (w2.cell? ⟨w.heap.size, 5, none⟩ = some (.slice ca lc cc)) := by show _ = _; rw [hw2]; exact HC5.out
        clear hw2 HCM s0 c3
        by_cases hc0 : cv ≤ 0
        · rw [if_pos (by omega)] at E1
          go_wp2_with fail
          go_roundw
          case rel => exact ⟨i + 1, by omega, by rw [E1.out]; go_num, by go_num, HB2, HC2, HC4⟩
          case measure => simp [intOf]; omega
        · rw [if_neg (by omega)] at E1
          go_wp2_with fail
          go_roundw
          case rel => exact ⟨i + 1, by omega, by rw [E1.out]; rfl, by go_num, HB2, HC2, HC4⟩
          case measure => simp [intOf]; omega
      · have c3 := HC3.out
        have c5 := HC5.out
        have j1 : ¬ (i : Int) < (lk : Int) := by omega
        obtain rfl : i = lk := by omega
        have HT : Hid (ps.take i = ps) := List.take_of_length_le (by rw [HPL.out]; exact Nat.le_refl _)
        rw [HT.out]
        have hcb := cntL_le ps xs
        rw [HPL.out] at hcb
        obtain ⟨cb, hcb'⟩ : ∃ cb, cb = cntL ps xs := ⟨_, rfl⟩
        rw [← hcb'] at hcb ⊢
        replace hcb' := hide hcb'
        obtain ⟨m, hm⟩ : ∃ m, m = min cb (lc - 1) := ⟨_, rfl⟩
        have hml : m < lc := by omega
        have HF : Hid (C.getD (min (cntL ps xs) (lc - 1)) 0 = C.getD m 0) := by show _ = _; rw [← hcb'.out, ← hm]
        obtain ⟨b, o, hca, s0⟩ := (HC.out _ HB.out).r m (by rw [hlc.out]; exact hml)
        simp only at hca s0
        subst hca
        obtain ⟨y, hy⟩ : ∃ y, y = C.getD m 0 := ⟨_, rfl⟩
        rw [← hy] at s0 HF
        clear hy
        have j3 : (m : Int) < (lc : Int) := by omega
        by_cases hq : lc - 1 < cb
        · have j2 : (lc : Int) - 1 < (cb : Int) := by omega
          obtain ⟨m', rfl⟩ : ∃ m', lc = m' + 1 := ⟨lc - 1, by omega⟩
          obtain rfl : m = m' := by omega
          have j4 : ((m + 1 : Nat) : Int) - 1 = (m : Int) := by omega
          clear hm
          go_wp2_with fail
          go_ret
          exact ⟨ret_int (HF.out.symm.trans hR.out.symm), HB.out⟩
        · have j2 : ¬ (lc : Int) - 1 < (cb : Int) := by omega
          obtain rfl : m = cb := by omega
          clear hm
          go_wp2_with fail
          go_ret
          exact ⟨ret_int (HF.out.symm.trans hR.out.symm), HB.out⟩

end Go.Proofs.Yteciiehnoakgdaa
