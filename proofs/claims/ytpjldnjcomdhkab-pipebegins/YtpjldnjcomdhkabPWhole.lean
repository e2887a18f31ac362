/- PipeWhole: the walk. -/
import Derived.Test.YtpjldnjcomdhkabPPure
import Derived.Test.YtpjldnjcomdhkabPSame
namespace Go.Proofs.Ytpjldnjcomdhkab
open Go.RowKit

theorem wf_app {ys zs : List Int} {c : Nat} (ts : List Int) (fail : Int) : ∃ n c', snkWf ts fail (c, ys) zs = ((snkWf ts fail (c, ys) zs).1, (snkWf ts fail (c, ys) zs).2.1, (c', ys ++ zs.take n)) ∧ n ≤ zs.length := by
  unfold snkWf
  split
  · exact ⟨0, c + 1, by simp, Nat.zero_le _⟩
  · exact ⟨mostN ts (c + 1) zs.length, c + 1, rfl, mostN_le _ _ _⟩

/-- A sink is handed something: nil, empty or not. -/
theorem write_any {W : World} {B : Nat} {M : Nat → Prop} {ts : List Int} {fail : Int} {g c : Nat} {zs : List Int} (p : Option Addr) (len pc : Nat) (ys : List Int) (h : SnkAt W B M ts fail g c zs) (hc : c < 4611686018427387904)
    (hl : ys.length = len) (hpc : len ≤ pc) (hn0 : p = none → len = 0 ∧ pc = 0) (hr : Row W .u8 p ys) (hpg : ∀ x, p = some x → 0 < len → x.block ≠ g) (hz : zs.length + len ≤ 140737488355328) (hB : B ≤ W.heap.size) :
    Calls Try.prog 9 #[.pointer (some ⟨g, 0, none⟩), .slice p len pc] W fun e w' => e = .returned (.tuple #[.int .i64 (snkWf ts fail (c, zs) ys).1, .int .i64 (snkWf ts fail (c, zs) ys).2.1]) ∧ ∃ M', SnkAt w' B M' ts fail g (snkWf ts fail (c, zs) ys).2.2.1 (snkWf ts fail (c, zs) ys).2.2.2 ∧ Upd M W w' ∧ ∀ i, M' i → M i ∨ W.heap.size ≤ i := by
  by_cases hf : failsAt fail (c + 1) = true
  · refine (write_broken (.slice p len pc) h hc hf).mono fun e w' ⟨h1, h2, h3⟩ => ⟨?_, M, ?_, h3.mono (fun i _ e => e ▸ h.mg), fun i hi => .inl hi⟩
    · simp only [snkWf, hf, if_true]; exact h1
    · simp only [snkWf, hf, if_true]; exact h2
  · have hf' : failsAt fail (c + 1) = false := by simpa using hf
    refine (write_go p len pc ys (mostN ts (c + 1) len) h hc hf' hl hpc hn0 hr hpg hz hB rfl).mono fun e w' ⟨h1, M', h2, h3, h4⟩ => ⟨?_, M', ?_, h3, h4⟩
    · simp only [snkWf, hf', hl]; exact h1
    · simp only [snkWf, hf', hl]; exact h2

theorem row_lt' {w : World} {k : IntKind} {a : Option Addr} {zs : List Int} (h : Row w k a zs) {x : Addr} (hx : a = some x) (hp : 0 < zs.length) : x.block < w.heap.size := by
  obtain ⟨b, off, ha, hb, _⟩ := h.cons hp
  rw [hx] at ha
  cases ha
  exact hb

set_option maxRecDepth 100000 in
set_option maxHeartbeats 3200000 in
theorem pipeWhole_any (ab ag at' af : Option Addr) (lb cb lg cg lt ct lf cf : Nat) (zs gs ts ys : List Int) (fail fail2 size : Int) (eager : Bool) (w : World)
    (hlb : zs.length = lb) (hlg : gs.length = lg) (hlt : ts.length = lt) (hlf : ys.length = lf) (hm : lb ≤ 1048576) (hmg : lg ≤ 1048576) (hmt : lt ≤ 1048576) (hmf : lf ≤ 1048576) (hfc : lf ≤ cf) (hbc : lb ≤ cb)
    (nb : ab = none → lb = 0 ∧ cb = 0) (ng : ag = none → lg = 0 ∧ cg = 0) (nt : at' = none → lt = 0 ∧ ct = 0) (nf : af = none → lf = 0 ∧ cf = 0) (rb : Row w .u8 ab zs) (rg : Row w .i64 ag gs) (rt : Row w .i64 at' ts) (rf : Row w .u8 af ys) (b8 : B8 zs) :
    Calls Try.prog 4 #[.agg #[.slice ab lb cb, .slice ag lg cg, .int .i64 fail, .bool eager, .slice at' lt ct, .int .i64 fail2, .int .i64 size], .slice af lf cf] w fun e w' => e = .returned (.bool true) ∧ Below w.heap.size w w' := by
  have hwA := heap_alloc_new w (.cells #[.slice ab lb cb, .slice ag lg cg, .int .i64 fail, .bool eager, .slice at' lt ct, .int .i64 fail2, .int .i64 size] 28)
  have hbA : Below w.heap.size w (w.alloc (.cells #[.slice ab lb cb, .slice ag lg cg, .int .i64 fail, .bool eager, .slice at' lt ct, .int .i64 fail2, .int .i64 size] 28)) := (Below.refl _ _).alloc (Nat.le_refl _) _
  have hzA : w.heap.size < (w.alloc (.cells #[.slice ab lb cb, .slice ag lg cg, .int .i64 fail, .bool eager, .slice at' lt ct, .int .i64 fail2, .int .i64 size] 28)).heap.size := by simp
  have HRB := hide rb
  have HRG := hide rg
  have HRT := hide rt
  have HRF := hide rf
  have HNB := hide nb
  have HNG := hide ng
  have HNT := hide nt
  have HNF := hide nf
  have HB8 := hide b8
  clear rb rg rt rf nb ng nt nf b8
  go_enter Try.func4, Try.ntmps4
  go_wp2_with fail
  generalize w.alloc (.cells #[.slice ab lb cb, .slice ag lg cg, .int .i64 fail, .bool eager, .slice at' lt ct, .int .i64 fail2, .int .i64 size] 28) = wA at *
  generalize hgA : w.heap.size = gA at *
  replace hgA := hide hgA
  refine (lives_any wA).mono ?_
  rintro e w1 ⟨rfl, hb1⟩
  have hwx := (hb1.block gA hzA).trans hwA
  have hb01 : Below gA w w1 := hbA.trans (hb1.mono (by omega))
  have hz1 : gA < w1.heap.size := lt_of_block hwx
  clear hwA hbA hzA hb1
  have c0 : w1.cell? ⟨gA, 0, none⟩ = some (.slice ab lb cb) := (cell_of_row _ _ _ _ _ _ hwx).trans rfl
  have c1 : w1.cell? ⟨gA, 1, none⟩ = some (.slice ag lg cg) := (cell_of_row _ _ _ _ _ _ hwx).trans rfl
  have c2 : w1.cell? ⟨gA, 2, none⟩ = some (.int .i64 fail) := (cell_of_row _ _ _ _ _ _ hwx).trans rfl
  have c3 : w1.cell? ⟨gA, 3, none⟩ = some (.bool eager) := (cell_of_row _ _ _ _ _ _ hwx).trans rfl
  have HWX := hide hwx
  clear hwx
  go_wp2_with fail
  refine (newSource_any ab ag lb cb lg cg zs gs fail eager w1 hlb hlg (by omega) (by omega) HNB.out HNG.out (HRB.out.below2 (hgA.out ▸ hb01)) (HRG.out.below2 (hgA.out ▸ hb01))).mono ?_
  rintro e w2 ⟨g, M, rfl, hS, hM, hb2⟩
  have hb02 : Below gA w w2 := hb01.trans (hb2.mono (by omega))
  have HWX2 := hide ((hb2.block gA hz1).trans HWX.out)
  have c4 : w2.cell? ⟨gA, 4, none⟩ = some (.slice at' lt ct) := (cell_of_row _ _ _ _ _ _ HWX2.out).trans rfl
  have c5 : w2.cell? ⟨gA, 5, none⟩ = some (.int .i64 fail2) := (cell_of_row _ _ _ _ _ _ HWX2.out).trans rfl
  have hz2 : gA < w2.heap.size := lt_of_block HWX2.out
  have hzz2 := hb2.size
  have HM := hide (show (∀ i, M i → w1.heap.size ≤ i) from hM)
  have HS := hide hS
  clear hS hM hb01 HWX c0 c1 c2 c3 hb2
  go_wp2_with fail
  refine (newSink_any at' lt ct ts fail2 w2 hlt (by omega) HNT.out (HRT.out.below2 (hgA.out ▸ hb02))).mono ?_
  rintro e w3 ⟨g2, M2, rfl, hK, hb3⟩
  have HWX3 := hide ((hb3.block gA hz2).trans HWX2.out)
  have HS3 := hide (HS.out.upd (Upd.of_below hb3 Noth) (fun i _ e => e))
  have hMlt := HS.out.lt.1
  have HD3 : Hid (∀ i, M i → ¬ M2 i) := hide (fun i hi e => by have := hMlt i hi; have := (hK.lt i e).1; omega)
  have hb03 : Below gA w w3 := hb02.trans (hb3.mono (by omega))
  have HMB : Hid (∀ i, M i → gA + 1 ≤ i) := hide (fun i hi => by have := HM.out i hi; omega)
  have HK3 := hide (hK.mono (show gA + 1 ≤ w2.heap.size by omega))
  have hz3 : gA < w3.heap.size := lt_of_block HWX3.out
  have hzz3 := hb3.size
  have HWR := hide (write_any af lf cf ys HK3.out (by omega) hlf hfc HNF.out (HRF.out.below2 (hgA.out ▸ hb03)) (fun x hx h0 e => by
    have h1 := (row_lt' HRF.out hx (by omega))
    have h2 := (HK3.out.lt _ HK3.out.mg).1
    have h3 := hgA.out
    omega) (by simp; omega) (by omega))
  obtain ⟨n1, c1, hw1, hn1⟩ := wf_app (ys := []) (zs := ys) (c := 0) ts fail2
  clear hK hb3 HS HWX2 hb02 c4 c5 HM hMlt
  go_wp2_with fail
  refine HWR.out.mono ?_
  rintro e w4 ⟨rfl, M4, hK4, hu4, hm4⟩
  rw [hw1] at hK4
  simp only [List.nil_append] at hK4
  obtain ⟨F, hF⟩ : ∃ F, F = ys.take n1 := ⟨_, rfl⟩
  rw [← hF] at hK4
  have hFl : F.length ≤ 1048576 := by rw [hF, List.length_take]; omega
  have hc1 : c1 ≤ 1 := by
    have := congrArg (fun q => q.2.2.1) hw1
    simp only [snkWf] at this
    split at this <;> simp at this <;> omega
  replace hF := hide hF
  have hM2 := HK3.out.lt
  have hMlt3 := HS3.out.lt.1
  have hdis4 : ∀ i, M i → ¬ M4 i := fun i hi e => (hm4 i e).elim (fun h => HD3.out i hi h) (fun h => by have := hMlt3 i hi; omega)
  have HS4 := hide (HS3.out.upd hu4 (fun i hi e => HD3.out i hi e))
  have HWX4 := hide (hu4.heap HWX3.out (fun e => by have := (hM2 gA e).1; omega))
  have HB4 : Hid (Below gA w w4) := hide (hb03.trans (hu4.below (by omega) (fun k hk e => by have := (hM2 k e).1; omega)))
  have hz4 := hu4.size
  have HBY := hide (sbytes_any hK4 (by omega))
  replace hK4 := hide hK4
  replace hdis4 := hide hdis4
  clear hw1 hM2 hMlt3 hu4 hm4 HS3 HWX3 hb03 HWR HK3 HD3
  go_wp2_with fail
  refine HBY.out.mono ?_
  rintro e w5 ⟨v5, rfl, ho5, hb5⟩
  have HS5 := hide (HS4.out.upd (Upd.of_below hb5 Noth) (fun i _ e => e))
  have HK5 := hide (hK4.out.upd (Upd.of_below hb5 Noth) (fun i _ e => e))
  have HWX5 := hide ((hb5.block gA (by omega)).trans HWX4.out)
  have HB5 := hide (HB4.out.trans (hb5.mono (by omega)))
  have hz5 := hb5.size
  have c6 : w5.cell? ⟨gA, 6, none⟩ = some (.int .i64 size) := (cell_of_row _ _ _ _ _ _ HWX5.out).trans rfl
  obtain ⟨a5, k5, rfl, hn5, hk5, hq5⟩ := ho5.sliceN (n := F.length) rfl
  replace ho5 := hide ho5
  replace hn5 := hide hn5
  replace hq5 := hide hq5
  have HCP := hide (copySS_any zs gs ts fail fail2 eager size g g2 (gA + 1) M M4 w5 0 0 c1 F HB8.out HS5.out HMB.out HK5.out hdis4.out (by omega) (by omega) (by omega) (by omega))
  obtain ⟨n, er, c', k', c2', htold, hn, hk', hok⟩ := copySS_told zs gs ts fail fail2 eager size 0 0 c1 F (Nat.zero_le _)
  rw [htold] at HCP
  simp only [List.drop_zero, Nat.sub_zero] at HCP hn hok
  have hMM : ∀ i, M i ∨ M4 i → gA + 1 ≤ i ∧ i < w4.heap.size := fun i hi => hi.elim (fun h => ⟨HMB.out i h, HS4.out.lt.1 i h⟩) (fun h => hK4.out.lt i h)
  replace hMM := hide hMM
  clear htold hb5 HBY HS4 HWX4 HB4
  replace hok := hide hok
  go_wp2_with fail
  refine HCP.out.mono ?_
  rintro e w6 ⟨rfl, ⟨_, hS6, _⟩, ⟨M6, hK6, hm6⟩, hu6⟩
  have hS6' : SrcAt w6 M zs gs fail eager g c' k' := hS6
  have hK6' : SnkAt w6 (gA + 1) M6 ts fail2 g2 c2' (F ++ zs.take n) := hK6
  have HO6 := hide (ho5.out.upd hu6 (fun i hi e => by have h1 := hq5.out i hi; have h2 := (hMM.out i e).2; omega))
  have HWX6 := hide (hu6.heap HWX5.out (fun e => by have := (hMM.out gA e).1; omega))
  have HB6 : Hid (Below gA w w6) := hide (HB5.out.trans (hu6.below (by omega) (fun k hk e => by have := (hMM.out k e).1; omega)))
  have hz6 := hu6.size
  have hTl : (F ++ zs.take n).length = F.length + n := by rw [List.length_append, List.length_take]; omega
  have HBY := hide (sbytes_any hK6' (by omega))
  have HS6 := hide hS6'
  clear hS6 hS6' hK6 hK6' hm6 hu6 HCP HS5 HK5 HB5 HWX5 ho5 c6
  go_wp2_with fail
  refine HBY.out.mono ?_
  rintro e w7 ⟨v7, rfl, ho7, hb7⟩
  have HS7 := hide (HS6.out.upd (Upd.of_below hb7 Noth) (fun i _ e => e))
  have HO57 := hide (HO6.out.below hb7)
  have HWX7 := hide ((hb7.block gA (by omega)).trans HWX6.out)
  have HB7 := hide (HB6.out.trans (hb7.mono (by omega)))
  have hz7 := hb7.size
  obtain ⟨L7, hL7⟩ : ∃ L7, L7 = F.length + n := ⟨_, rfl⟩
  rw [← hL7] at hTl
  obtain ⟨a7, k7, rfl, hn7, hk7, hq7⟩ := ho7.sliceN hTl
  replace hn7 := hide hn7
  have c0 : w7.cell? ⟨gA, 0, none⟩ = some (.slice ab lb cb) := (cell_of_row _ _ _ _ _ _ HWX7.out).trans rfl
  have R7 := ho7.row
  have R5 := HO57.out.row
  have RB7 := (HRB.out.below2 (hgA.out ▸ HB7.out)).take n
  replace ho7 := hide ho7
  replace hq7 := hide hq7
  have HLEFT := hide (left_any HS7.out)
  clear HBY hb7 HS6 HWX6 HB6 HO6
  have SM1 : Hid (∀ m c c', Calls Try.prog 12 #[.slice a7 F.length c, .slice a5 F.length c'] (w7.drewN m) fun e w' => e = .returned (.bool true) ∧ ∃ m', w' = w7.drewN m') := hide fun m c c' => Calls.quiet_of (sameq a7 a5 F.length c c' F (w7.drewN m) (by unfold maxLen; omega) rfl (by have := R7.take F.length; rwa [List.take_left'] at this; rfl) R5)
  have SM2 : Hid (∀ m a' c c', Row w7 .u8 a' (zs.take n) → Calls Try.prog 12 #[.slice a' n c, .slice ab n c'] (w7.drewN m) fun e w' => e = .returned (.bool true) ∧ ∃ m', w' = w7.drewN m') := hide fun m a' c c' hr => Calls.quiet_of (sameq a' ab n c c' (zs.take n) (w7.drewN m) (by unfold maxLen; omega) (by rw [List.length_take]; omega) hr RB7)
  have HFIN : Hid (∀ m, Below w.heap.size w (w7.drewN m)) := hide fun m => by rw [hgA.out]; exact HB7.out.trans (((Still.refl w7).drewN m).below _)
  have HADR : Hid (a7 = none ∨ ∃ b7, a7 = some ⟨b7, 0, none⟩ ∧ Row w7 .u8 (some ⟨b7, F.length, none⟩) (zs.take n)) := hide (by
    rcases ho7.out with ⟨h1, _⟩ | ⟨g', cap', cur, h1, _⟩
    · simp only [Value.slice.injEq] at h1; exact .inl h1.1
    · simp only [Value.slice.injEq] at h1
      refine .inr ⟨g', h1.1, ?_⟩
      have h2 := h1.1
      subst h2
      have := R7.drop F.length
      rw [List.drop_left' rfl] at this
      simpa using this)
  have hRN : n = 0 → Row w7 .u8 a7 (zs.take n) := fun h => by subst h; exact row_nil _ _ _
  replace hRN := hide hRN
  have HOK := hide hok
  clear R7 R5 RB7 hok
  have c0' := c0
  generalize F.length = lF at *
  go_wp2_with fail
  refine keep HLEFT.out ?_
  have j1 : ¬ (n : Int) < 0 := by omega
  have j2 : ¬ (lb : Int) < (n : Int) := by omega
  have j3 : ((L7 : Int) != (lF : Int) + (n : Int)) = false := by simp; omega
  have j4 : (lF : Int) ≤ (k7 : Int) := by omega
  have j5 : (n : Int) ≤ (cb : Int) := by omega
  have j6 : (lF : Int) ≤ (L7 : Int) := by omega
  have j7 : L7 - lF = n := by omega
  have j8 : (0 : Int) ≤ (n : Int) := by omega
  have j9 : (0 : Int) ≤ (lF : Int) := by omega
  have j10 : (L7 : Int) ≤ (k7 : Int) := by omega
  have j11 : L7 ≤ 4194304 := by omega
  have hlF : lF + n = L7 := by omega
  replace hlF := hide hlF
  clear hL7
  rcases HADR.out with ha | ⟨b7, ha, hrow⟩
  · obtain ⟨q1, q2⟩ := hn7.out ha
    subst ha
    have hl0 : lF = 0 := by have := hlF.out; omega
    have hn0 : n = 0 := by have := hlF.out; omega
    have HROW := hide (hRN.out hn0)
    subst q2
    subst hl0
    clear HADR
    have hL0 : L7 = 0 := by omega
    subst hL0
    subst hn0
    · go_wp2_with fail
      go_quiet (first | (go_at_call 12; with_reducible exact SM2.out _ _ _ _ HROW.out) | (go_at_call 12; with_reducible exact SM1.out _ _ _))
      by_cases he : er = 0
      · subst he
        obtain ⟨h1, h2⟩ := HOK.out rfl
        have h3 : lb = 0 := by omega
        have h4 : zs.length - k' = 0 := by omega
        have h5 : ((zs.length - k' : Nat) : Int) = 0 := by omega
        clear h1 h2
        subst h3
        rw [hlb] at h4 h5
        go_wp2_with fail
        go_ret
        exact ⟨rfl, HFIN.out _⟩
      · have he1 : (er != 0) = true := by simp [he]
        go_wp2_with fail
        go_ret
        exact ⟨rfl, HFIN.out _⟩
  · subst ha
    by_cases hlk : lF = k7
    · have hn0 : n = 0 := by have := hlF.out; omega
      have HROW := hide (hRN.out hn0)
      subst hlk
      subst hn0
      clear HADR hrow
      go_wp2_with fail
      go_quiet (first | (go_at_call 12; with_reducible exact SM2.out _ _ _ _ HROW.out) | (go_at_call 12; with_reducible exact SM1.out _ _ _))
      by_cases he : er = 0
      · subst he
        obtain ⟨h1, h2⟩ := HOK.out rfl
        have h3 : lb = 0 := by omega
        have h4 : zs.length - k' = 0 := by omega
        have h5 : ((zs.length - k' : Nat) : Int) = 0 := by omega
        clear h1 h2
        subst h3
        rw [hlb] at h4 h5
        go_wp2_with fail
        go_ret
        exact ⟨rfl, HFIN.out _⟩
      · have he1 : (er != 0) = true := by simp [he]
        go_wp2_with fail
        go_ret
        exact ⟨rfl, HFIN.out _⟩
    · have hlk' : ¬ k7 = lF := fun e => hlk e.symm
      have HROW := hide hrow
      clear HADR hrow
      go_wp2_with fail
      go_quiet (first | (go_at_call 12; with_reducible exact SM2.out _ _ _ _ HROW.out) | (go_at_call 12; with_reducible exact SM1.out _ _ _))
      by_cases he : er = 0
      · subst he
        obtain ⟨h1, h2⟩ := HOK.out rfl
        have h3 : n = lb := by omega
        have h4 : zs.length - k' = 0 := by omega
        have h5 : lb - k' = 0 := by omega
        have h6 : ((lb - k' : Nat) : Int) = 0 := by omega
        clear h1 h2
        go_wp2_with fail
        go_ret
        exact ⟨rfl, HFIN.out _⟩
      · have he1 : (er != 0) = true := by simp [he]
        go_wp2_with fail
        go_ret
        exact ⟨rfl, HFIN.out _⟩

end Go.Proofs.Ytpjldnjcomdhkab
