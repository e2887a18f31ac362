/- A descent: the statements' pick and head. -/
import Derived.Test.YtpfmfobnanhcdaaG25
import Derived.Test.YtpfmfobnanhcdaaG21
import Derived.Lib.SlBytesConst
import Derived.Test.YtpfmfobnanhcdaaG30
import Derived.Test.YtpfmfobnanhcdaaG3
import Derived.Test.YtpfmfobnanhcdaaG29
namespace Go.Proofs.Ytpfmfobnanhcdaa
open Go.RowKit
set_option maxRecDepth 100000

set_option maxHeartbeats 800000 in
theorem pick12_any (c : Int) (n : Nat) (w : World) (hn : 0 < n) (hn2 : n < 9223372036854775807) (h1 : -9223372036854775808 ≤ c) (h2 : c ≤ 9223372036854775807) :
    Calls Try.prog 10 #[.int .i64 c, .int .i64 (n : Nat)] w fun e w' => e = .returned (.int .i64 (pickN c n : Nat)) ∧ w' = w := by
  have j0 : ¬ (n : Int) = 0 := by omega
  have j00 : ¬ (n : Int) = -1 := by omega
  have hE := pickN_eq c n hn
  have hL := pickN_lt c n hn
  obtain ⟨r, hr⟩ : ∃ r, r = ((pickN c n : Nat) : Int) := ⟨_, rfl⟩
  rw [← hr] at hE ⊢
  have hr0 : 0 ≤ r := by omega
  have hr1 : r < (n : Int) := by omega
  clear hr hL
  by_cases hc : c < 0
  · rw [if_pos hc] at hE
    have HM : Hid (-(Int.tmod (c + 1) (n : Int)) = r) := by show _ = _; rw [← Int.neg_tmod, Int.tmod_eq_emod_of_nonneg (by omega)]; exact hE.symm
    clear hE
    go_enter Try.func10, Try.ntmps10
    go_wp2_with fail
    go_ret
    exact ⟨ret_int HM.out, rfl⟩
  · rw [if_neg hc] at hE
    have HM := hide hE
    clear hE
    go_enter Try.func10, Try.ntmps10
    go_wp2_with fail
    go_ret
    exact ⟨ret_int HM.out.symm, rfl⟩

/-- The live question's machine, behind its steps. -/
def hst : Nat → MS
  | 0 => MS.new [107] 0
  | i + 1 => (hst i).step (AS.new 3)
theorem hst_facts : (hst 1).nx = 1 ∧ (hst 2).nx = 2 ∧ (hst 3).nx = 3 ∧ (hst 4).nx = 4 ∧ (hst 5).nx = 5 ∧ (hst 5).id = 1 ∧ (hst 5).wd = 0 ∧ (hst 5).nd = NP.zero := ⟨by decide +kernel, by decide +kernel, by decide +kernel, by decide +kernel, by decide +kernel, by decide +kernel, by decide +kernel, by kernel_rfl⟩
theorem hst_cnt : ∀ i, i ≤ 5 → (hst i).an = 0 ∧ (hst i).mo = 0 := by decide +kernel
theorem hst_lt : ∀ i, i < 4 → (hst (i + 1)).nx < 5 := by decide +kernel
def HdS (W : World) (P A : Nat) (i : Nat) (F : Nat → Prop) : Prop := (∃ k n D, PM W P A k n D (hst i)) ∧ PX W A F (AS.new 3)
theorem hd_step {W : World} {P A : Nat} {i : Nat} {F : Nat → Prop} (h : HdS W P A i F) (hi : i < 5) (hP : ¬ F P) : Calls Try.prog 14 #[.pointer (some ⟨P, 0, none⟩)] W fun e w' => e = .returned (.bool (decide (5 ≤ (hst (i + 1)).nx))) ∧ HdS w' P A (i + 1) F ∧ Upd (fun k => k = P) W w' := by
  obtain ⟨⟨k, n, D, hm⟩, hp⟩ := h
  have hc := hst_cnt i (by omega)
  refine (step_any hm hp (by rw [hc.1]; decide) (by rw [hc.2]; decide)).mono ?_
  rintro e w' ⟨rfl, n', D', h1, h2, h3⟩
  exact ⟨rfl, ⟨⟨k, n', D', h1⟩, hp.upd h3 (fun x hx e => hP (e ▸ hx))⟩, h3⟩
theorem tx_k {w : World} : (⟨some ⟨w.heap.size, 0, none⟩, 1, [107]⟩ : Tx).Ok (w.alloc (.cells #[.int .u8 107] 5 (1, 2))) := by
  refine ⟨fun i hi => ?_, (fun e => by cases e), (by simp), fun c hc => ?_, (by simp)⟩
  · obtain rfl : i = 0 := by simp at hi; omega
    exact ⟨w.heap.size, 0, rfl, by rw [cell_of_row _ _ _ _ _ _ (heap_alloc_new w _)]; rfl⟩
  · simp only [List.mem_singleton] at hc; omega

set_option maxRecDepth 100000 in
set_option maxHeartbeats 3200000 in
theorem dhead_any (w : World) : Calls Try.prog 8 #[] w fun e w' => e = .returned (.bool true) ∧ Below w.heap.size w w' := by
  have HBG := hide (begun_good 3 w (by decide) (by decide))
  go_enter Try.func8, Try.ntmps8
  go_wp2_with fail
  refine HBG.out.mono ?_
  rintro e w1 ⟨P0, AX, AY, rfl, hA, hb⟩
  obtain ⟨c0, c1⟩ := hA.cells
  have hPl : P0 < w1.heap.size := hA.klt P0 hA.kp
  have HPX : Hid (∃ F, PX w1 AX F (AS.new 3)) := hA.px
  have B1 := hide hb
  obtain ⟨w2, hw2⟩ : ∃ w2, w2 = w1.alloc (.cells #[.int .u8 107] 5 (1, 2)) := ⟨_, rfl⟩
  have b2 : Below w1.heap.size w1 w2 := by rw [hw2]; exact (Below.refl _ _).alloc (Nat.le_refl _) _
  have HT : Hid ((⟨some ⟨w1.heap.size, 0, none⟩, 1, [107]⟩ : Tx).Ok w2) := by show Tx.Ok _ _; rw [hw2]; exact tx_k
  have HN := hide (dnew_any (A := AX) _ 0 HT.out)
  simp only [Tx.v, show ([107] : List Int).length = 1 from rfl] at HN
  have q2 := Lib.run_convert_bytes_const (P := Try.prog) w1 28 5 #[.int .u8 107] 1 1 Try.underlying28 Try.underlying5
  simp only [show (#[Value.int .u8 107] : Array Value).size = 1 from rfl] at q2
  have HW2 := hide hw2
  have B2 := hide b2
  clear hA hb hw2 b2 HBG HT
  go_wp2_with fail
  rw [← HW2.out]
  refine HN.out.mono ?_
  rintro e w3 ⟨P, k, n, D, rfl, hm, hP, hD, hb3⟩
  obtain ⟨F, hF⟩ := HPX.out
  have hFl := hF.lt
  have B23 := hide (B2.out.trans (hb3.mono B2.out.size))
  have hP2 : w1.heap.size ≤ P := Nat.le_trans B2.out.size hP
  have HFP : Hid (¬ F P) := fun e => by have := hFl P e; omega
  have H0 : Hid (HdS w3 P AX 0 F ∧ Below w.heap.size w w3) := ⟨⟨⟨k, n, D, hm⟩, hF.upd (S := Noth) (Upd.of_below B23.out _) (fun _ _ e => e)⟩, B1.out.trans (B23.out.mono B1.out.size)⟩
  have HPw : Hid (w.heap.size ≤ P) := Nat.le_trans B1.out.size hP2
  clear hm hP hD hb3 hF hFl hP2 HN HW2 HPX B23 B2 B1 c0 c1 hPl
  go_wp2_with fail
  go_loopw [4] (fun q wr => ∃ i : Nat, i ≤ 4 ∧ q = .int .i64 (i : Int) ∧ Hid (HdS wr P AX i F ∧ Below w.heap.size w wr)) (fun q _ => 4 - (intOf q).toNat)
  case atStart => exact ⟨0, Nat.zero_le _, rfl, H0⟩
  case round =>
    clear H0
    obtain ⟨i, hi, rfl, HI⟩ := hrel
    rename World => wr
    by_cases hlt : i < 4
    · have j1 : (i : Int) < 4 := by omega
      have HS := hide (hd_step HI.out.1 (by omega) HFP.out)
      rw [decide_eq_false (by have := hst_lt i hlt; omega)] at HS
      go_wp2_with fail
      refine HS.out.mono ?_
      rintro e w4 ⟨rfl, h1, h2⟩
      have HI2 : Hid (HdS w4 P AX (i + 1) F ∧ Below w.heap.size w w4) := ⟨h1, HI.out.2.trans (h2.below HI.out.2.size (fun k hk e => by have := HPw.out; omega))⟩
      clear h1 h2 HS
      go_wp2_with fail
      go_roundw
      case rel => exact ⟨i + 1, by omega, by go_num, HI2⟩
      case measure => simp [intOf]; omega
    · have j1 : ¬ (i : Int) < 4 := by omega
      obtain rfl : i = 4 := by omega
      have HS := hide (hd_step HI.out.1 (by omega) HFP.out)
      rw [decide_eq_true (by rw [hst_facts.2.2.2.2.1]; decide)] at HS
      go_wp2_with fail
      refine HS.out.mono ?_
      rintro e w4 ⟨rfl, h1, h2⟩
      have B4 : Hid (Below w.heap.size w w4) := HI.out.2.trans (h2.below HI.out.2.size (fun k hk e => by have := HPw.out; omega))
      obtain ⟨⟨k4, n4, D4, h4⟩, _⟩ := h1
      have HAT := hide (dat_any h4 (by rw [hst_facts.2.2.2.2.1]; decide))
      rw [hst_facts.2.2.2.2.2.1, hst_facts.2.2.2.2.2.2.1, hst_facts.2.2.2.2.2.2.2] at HAT
      clear h4 h2 HS HI
      go_wp2_with fail
      refine HAT.out.mono ?_
      rintro e w5 ⟨⟨lv, ⟨ha, hc, hs⟩, ri, ⟨ka, kc, K⟩, ⟨va, vc, V⟩, ⟨ca, cc, C⟩⟩, rfl, hp5, ho5, hb5⟩
      have hK : K.length = 0 := by
        have : (⟨ka, kc, K⟩ : TL).p = [] := congrArg NP.ks hp5
        rw [← TL.p_len ⟨ka, kc, K⟩, this]; rfl
      have B5 := hide (B4.out.trans (hb5.mono B4.out.size))
      simp only [Nd.v, Tx.v, TL.v, IL.v, hK]
      simp only [show (((0 : Nat)) : Int) = 0 from rfl]
      generalize hs.length = lh at *
      generalize V.length = lw at *
      generalize C.length = lc at *
      clear hp5 ho5 hb5 hK HAT
      go_wp2_with fail
      go_ret
      exact ⟨rfl, B5.out.trans (((Below.refl _ _).alloc (Nat.le_refl _) _).mono B5.out.size)⟩
end Go.Proofs.Ytpfmfobnanhcdaa

namespace Go.Proofs.Ytpfmfobnanhcdaa
open Go.RowKit
set_option maxRecDepth 100000

theorem owns_updN {S : Nat → Prop} {w w' : World} {base size : Nat} {e : TypeId} {v : Value} {n : Nat} {xs : List Value} (h : w.ownsRow base e size v n xs) (hu : Upd S w w') (hs : ∀ k, v.ownBlock = some k → ¬ S k) : w'.ownsRow base e size v n xs :=
  owns_blkN h (fun k hk => hu.block k (h.lt k hk).2 (hs k hk))
/-- A pair: where the machines lie, and what they are. -/
structure Mc where
  p : Nat
  q : Nat
  m : MS
  r : RMS
def pqV (x : Nat × Nat) : List Value := [.pointer (some ⟨x.1, 0, none⟩), .pointer (some ⟨x.2, 0, none⟩)]
/-- What belongs to a machine bears its number. -/
def MchX (W : World) (A : Nat) (lab : Nat → Nat) (t p : Nat) (m : MS) : Prop := ∃ k n D, PM W p A k n D m ∧ lab p = t ∧ ∀ x, D x → lab x = t
def MchY (W : World) (A : Nat) (lab : Nat → Nat) (t p : Nat) (m : RMS) : Prop := ∃ k n D, RM W p A k n D m ∧ lab p = t ∧ ∀ x, D x → lab x = t
theorem MchX.upd {W W' : World} {A : Nat} {lab lab' : Nat → Nat} {t p : Nat} {m : MS} {S : Nat → Prop} (h : MchX W A lab t p m) (hu : Upd S W W') (hs : ∀ x, x < W.heap.size → lab x = t → ¬ S x) (hl : ∀ x, x < W.heap.size → lab' x = lab x) : MchX W' A lab' t p m := by
  obtain ⟨k, n, D, h1, h2, h3⟩ := h
  have hp := lt_of_block h1.c
  refine ⟨k, n, D, h1.upd hu ?_, by rw [hl p hp]; exact h2, fun x hx => by rw [hl x (h1.lt x hx)]; exact h3 x hx⟩
  rintro x (rfl | hx)
  · exact hs _ hp h2
  · exact hs x (h1.lt x hx) (h3 x hx)
theorem MchY.upd {W W' : World} {A : Nat} {lab lab' : Nat → Nat} {t p : Nat} {m : RMS} {S : Nat → Prop} (h : MchY W A lab t p m) (hu : Upd S W W') (hs : ∀ x, x < W.heap.size → lab x = t → ¬ S x) (hl : ∀ x, x < W.heap.size → lab' x = lab x) : MchY W' A lab' t p m := by
  obtain ⟨k, n, D, h1, h2, h3⟩ := h
  have hp := lt_of_block h1.c
  refine ⟨k, n, D, h1.upd hu ?_, by rw [hl p hp]; exact h2, fun x hx => by rw [hl x (h1.lt x hx)]; exact h3 x hx⟩
  rintro x (rfl | hx)
  · exact hs _ hp h2
  · exact hs x (h1.lt x hx) (h3 x hx)
/-- An arena's world where others turn what is not the arenas'. -/
theorem AW.turn {K K' S : Nat → Prop} {W W' : World} {P AX AY : Nat} {s t : AS} (h : AW K W P AX AY s t) (hu : Upd S W W') (hs : ∀ k, S k → K k) (hp : ¬ S P) (h1 : ∀ k, K' k → K k ∨ (W.heap.size ≤ k ∧ k < W'.heap.size)) (h2 : K' P) : AW K' W' P AX AY s t := by
  obtain ⟨FX, FY, a1, a2, a3, a4, a5, a6, a7⟩ := h
  refine ⟨FX, FY, hu.heap a1 hp, a2.upd hu (fun k hk e => a5 k (.inl hk) (hs k e)), a3.upd hu (fun k hk e => a5 k (.inr hk) (hs k e)), a4, fun k hk hk' => ?_, h2, fun k hk => ?_⟩
  · rcases h1 k hk' with h | h
    · exact a5 k hk h
    · rcases hk with hk | hk
      · have := a2.lt k hk; omega
      · have := a3.lt k hk; omega
  · rcases h1 k hk with h | h
    · exact Nat.lt_of_lt_of_le (a7 k h) hu.size
    · exact h.2
/-- Both arenas, the machines, and the list that leads to them. -/
structure DW (w0 : World) (K : Nat → Prop) (lab : Nat → Nat) (c : Nat) (W : World) (P AX AY : Nat) (s : AS) (L : List Mc) (Q : List (Nat × Nat)) (v : Value) : Prop where
  aw : AW K W P AX AY s s
  bw : Below w0.heap.size w0 W
  kb : ∀ k, k < w0.heap.size → K k
  lz : ∀ k, W.heap.size ≤ k → lab k = 0
  lk : ∀ k, lab k ≠ 0 → K k
  lb : ∀ k, lab k ≠ 0 → w0.heap.size ≤ k
  lp : lab P = 0
  row : W.ownsRow w0.heap.size 52 2 v Q.length (Q.flatMap pqV)
  rl : ∀ k, v.ownBlock = some k → lab k = 1
  mx : ∀ i (h : i < L.length), MchX W AX lab (2 * i + 2) L[i].p L[i].m
  my : ∀ i (h : i < L.length), MchY W AY lab (2 * i + 3) L[i].q L[i].r
  cn : ∀ x ∈ L, x.m.an ≤ c ∧ x.m.mo ≤ c ∧ x.r.an ≤ c ∧ x.r.mo ≤ c
section
variable {w0 : World} {K : Nat → Prop} {lab : Nat → Nat} {c : Nat} {W W' : World} {P AX AY : Nat} {s s' : AS} {L : List Mc} {Q : List (Nat × Nat)} {v : Value}
theorem DW.plt (h : DW w0 K lab c W P AX AY s L Q v) : P < W.heap.size := h.aw.klt P h.aw.kp
/-- The arenas turn. -/
theorem DW.raw (h : DW w0 K lab c W P AX AY s L Q v) (ha : AW K W' P AX AY s' s') (hu : Upd (fun k => ¬ K k) W W') : DW w0 K lab c W' P AX AY s' L Q v := by
  have hne : ∀ t, t ≠ 0 → ∀ x, x < W.heap.size → lab x = t → ¬ ¬ K x := fun t ht x _ e hn => hn (h.lk x (by omega))
  refine ⟨ha, h.bw.trans (hu.below h.bw.size (fun k hk e => e (h.kb k hk))), h.kb, fun k hk => h.lz k (Nat.le_trans hu.size hk), h.lk, h.lb, h.lp, ?_, h.rl, fun i hi => (h.mx i hi).upd hu (hne _ (by omega)) (fun _ _ => rfl), fun i hi => (h.my i hi).upd hu (hne _ (by omega)) (fun _ _ => rfl), h.cn⟩
  exact owns_updN h.row hu (fun k hk e => e (h.lk k (by rw [h.rl k hk]; decide)))
/-- New memory. -/
theorem DW.below (h : DW w0 K lab c W P AX AY s L Q v) (hb : Below W.heap.size W W') : DW w0 K lab c W' P AX AY s L Q v := by
  have hu : Upd Noth W W' := Upd.of_below hb _
  exact ⟨h.aw.below hb, h.bw.trans (hb.mono h.bw.size), h.kb, fun k hk => h.lz k (Nat.le_trans hb.size hk), h.lk, h.lb, h.lp, owns_updN h.row hu (fun _ _ e => e), h.rl, fun i hi => (h.mx i hi).upd hu (fun _ _ _ e => e) (fun _ _ => rfl), fun i hi => (h.my i hi).upd hu (fun _ _ _ e => e) (fun _ _ => rfl), h.cn⟩
/-- New memory, that the arenas leave alone. -/
theorem DW.more (h : DW w0 K lab c W P AX AY s L Q v) (hb : Below W.heap.size W W') : DW w0 (fun k => K k ∨ (W.heap.size ≤ k ∧ k < W'.heap.size)) lab c W' P AX AY s L Q v := by
  have h' := h.below hb
  exact ⟨h.aw.more hb (fun _ hk => hk) (.inl h.aw.kp), h'.bw, fun k hk => .inl (h.kb k hk), h'.lz, fun k hk => .inl (h.lk k hk), h.lb, h.lp, h'.row, h.rl, h'.mx, h'.my, h.cn⟩
/-- Somebody else's blocks are turned. -/
theorem DW.spoil {S : Nat → Prop} (h : DW w0 K lab c W P AX AY s L Q v) (hu : Upd S W W') (hs : ∀ k, S k → K k ∧ lab k = 0 ∧ w0.heap.size ≤ k ∧ k ≠ P) : DW w0 K lab c W' P AX AY s L Q v := by
  refine ⟨h.aw.turn hu (fun k hk => (hs k hk).1) (fun e => (hs P e).2.2.2 rfl) (fun _ hk => .inl hk) h.aw.kp, h.bw.trans (hu.below h.bw.size (fun k hk e => by have := (hs k e).2.2.1; omega)), h.kb, fun k hk => h.lz k (Nat.le_trans hu.size hk), h.lk, h.lb, h.lp, owns_updN h.row hu (fun k hk e => by have := h.rl k hk; have := (hs k e).2.1; omega), h.rl, fun i hi => (h.mx i hi).upd hu (fun x _ hx e => by have := (hs x e).2.1; omega) (fun _ _ => rfl), fun i hi => (h.my i hi).upd hu (fun x _ hx e => by have := (hs x e).2.1; omega) (fun _ _ => rfl), h.cn⟩
theorem DW.less {c' : Nat} (h : DW w0 K lab c W P AX AY s L Q v) (hc : c ≤ c') : DW w0 K lab c' W P AX AY s L Q v :=
  ⟨h.aw, h.bw, h.kb, h.lz, h.lk, h.lb, h.lp, h.row, h.rl, h.mx, h.my, fun x hx => by have := h.cn x hx; omega⟩
/-- The blocks that are new bear the number t. -/
def labT (lab : Nat → Nat) (W W' : World) (t : Nat) (k : Nat) : Nat := if W.heap.size ≤ k ∧ k < W'.heap.size then t else lab k
theorem labT_old {t x : Nat} (h : x < W.heap.size) : labT lab W W' t x = lab x := if_neg (by omega)
theorem labT_new {t x : Nat} (h : W.heap.size ≤ x) (h' : x < W'.heap.size) : labT lab W W' t x = t := if_pos ⟨h, h'⟩
/-- A machine of number t turns its own block. -/
theorem DW.turn {t p c' : Nat} {L' : List Mc} (h : DW w0 K lab c W P AX AY s L Q v) (hu : Upd (fun k => k = p) W W') (ht : 2 ≤ t) (hp : lab p = t) (hL : L'.length = L.length)
    (hX : ∀ i (h : i < L.length) (h' : i < L'.length), 2 * i + 2 ≠ t → L'[i].p = L[i].p ∧ L'[i].m = L[i].m) (hY : ∀ i (h : i < L.length) (h' : i < L'.length), 2 * i + 3 ≠ t → L'[i].q = L[i].q ∧ L'[i].r = L[i].r)
    (gX : ∀ i (h : i < L'.length), 2 * i + 2 = t → MchX W' AX (labT lab W W' t) t L'[i].p L'[i].m) (gY : ∀ i (h : i < L'.length), 2 * i + 3 = t → MchY W' AY (labT lab W W' t) t L'[i].q L'[i].r) (hcn : ∀ x ∈ L', x.m.an ≤ c' ∧ x.m.mo ≤ c' ∧ x.r.an ≤ c' ∧ x.r.mo ≤ c') :
    DW w0 (fun k => K k ∨ (W.heap.size ≤ k ∧ k < W'.heap.size)) (labT lab W W' t) c' W' P AX AY s L' Q v := by
  have hpn : lab p ≠ 0 := by omega
  have hb0 := h.bw.size
  refine ⟨h.aw.turn hu (fun k e => by rw [e]; exact h.lk p hpn) (fun e => hpn (by rw [← e]; exact h.lp)) (fun _ hk => hk) (.inl h.aw.kp), h.bw.trans (hu.below h.bw.size (fun k hk e => by have := h.lb p hpn; omega)), fun k hk => .inl (h.kb k hk), ?_, ?_, ?_, ?_, ?_, ?_, ?_, ?_, hcn⟩
  · intro k hk
    unfold labT
    rw [if_neg (by omega)]
    exact h.lz k (Nat.le_trans hu.size hk)
  · intro k hk
    unfold labT at hk
    by_cases hn : W.heap.size ≤ k ∧ k < W'.heap.size
    · exact .inr hn
    · rw [if_neg hn] at hk; exact .inl (h.lk k hk)
  · intro k hk
    unfold labT at hk
    by_cases hn : W.heap.size ≤ k ∧ k < W'.heap.size
    · omega
    · rw [if_neg hn] at hk; exact h.lb k hk
  · rw [labT_old h.plt]; exact h.lp
  · exact owns_updN h.row hu (fun k hk e => by have := h.rl k hk; rw [e] at this; omega)
  · intro k hk
    have h1 := h.rl k hk
    have : k < W.heap.size := Decidable.byContradiction fun hc => by have := h.lz k (by omega); omega
    rw [labT_old this]; exact h1
  · intro i hi
    by_cases e : 2 * i + 2 = t
    · rw [e]; exact gX i hi e
    · have hi' : i < L.length := by omega
      obtain ⟨e1, e2⟩ := hX i hi' hi e
      rw [e1, e2]
      exact (h.mx i hi').upd hu (fun x _ hx e' => by rw [e'] at hx; omega) (fun x hx => labT_old hx)
  · intro i hi
    by_cases e : 2 * i + 3 = t
    · rw [e]; exact gY i hi e
    · have hi' : i < L.length := by omega
      obtain ⟨e1, e2⟩ := hY i hi' hi e
      rw [e1, e2]
      exact (h.my i hi').upd hu (fun x _ hx e' => by rw [e'] at hx; omega) (fun x hx => labT_old hx)
end
theorem ms_cnt (m : MS) (s : AS) : (m.step s).an ≤ m.an + 1 ∧ (m.step s).mo ≤ m.mo + 1 := by
  unfold MS.step MS.goTo MS.fail MS.valid MS.choose MS.fail MS.goTo
  repeat' split
  all_goals simp
theorem rms_cnt (m : RMS) (s : AS) : (m.step s).an ≤ m.an + 1 ∧ (m.step s).mo ≤ m.mo + 1 := by
  unfold RMS.step RMS.decide
  repeat' split
  all_goals simp
section
variable {w0 : World} {K : Nat → Prop} {lab : Nat → Nat} {c : Nat} {W : World} {P AX AY : Nat} {s : AS} {L : List Mc} {Q : List (Nat × Nat)} {v : Value}
/-- What a step of pair i leaves. -/
def StpX (w0 : World) (K : Nat → Prop) (lab : Nat → Nat) (W : World) (c P AX AY : Nat) (s : AS) (L : List Mc) (Q : List (Nat × Nat)) (v : Value) (w' : World) : Prop := ∃ K' lab', DW w0 K' lab' c w' P AX AY s L Q v ∧ (∀ k, K k → K' k) ∧ (∀ k, k < W.heap.size → lab' k = lab k) ∧ Upd (fun k => lab k ≠ 0) W w'
theorem dw_stepX (h : DW w0 K lab c W P AX AY s L Q v) (i : Nat) (hi : i < L.length) (hc : c < 4611686018427387904) :
    Calls Try.prog 14 #[.pointer (some ⟨L[i].p, 0, none⟩)] W fun e w' => e = .returned (.bool (decide (5 ≤ (L[i].m.step s).nx))) ∧ StpX w0 K lab W (c + 1) P AX AY s (L.set i ⟨L[i].p, L[i].q, L[i].m.step s, L[i].r⟩) Q v w' := by
  obtain ⟨k, n, D, hm, hp, hD⟩ := h.mx i hi
  obtain ⟨F, hF⟩ := h.aw.px
  have hcn := h.cn L[i] (List.getElem_mem hi)
  refine (step_any hm hF (by omega) (by omega)).mono ?_
  rintro e w' ⟨rfl, n', D', h1, h2, h3⟩
  refine ⟨rfl, _, _, h.turn (t := 2 * i + 2) (c' := c + 1) h3 (by omega) hp (List.length_set ..) ?_ ?_ ?_ ?_ ?_, fun _ hk => .inl hk, fun _ hk => labT_old hk, h3.mono (fun k _ e => by rw [e, hp]; omega)⟩
  · intro j hj hj' hne
    rw [List.getElem_set_ne (by omega)]
    exact ⟨rfl, rfl⟩
  · intro j hj hj' _
    by_cases e : i = j
    · subst e; rw [List.getElem_set_self]; exact ⟨rfl, rfl⟩
    · rw [List.getElem_set_ne e]; exact ⟨rfl, rfl⟩
  · intro j hj e
    obtain rfl : j = i := by omega
    rw [List.getElem_set_self]
    have hpl := lt_of_block hm.c
    refine ⟨k, n', D', h1, by rw [labT_old hpl]; exact hp, fun x hx => ?_⟩
    by_cases hxn : W.heap.size ≤ x
    · exact labT_new hxn (h1.lt x hx)
    · rw [labT_old (by omega)]
      rcases h2 x hx with hd | hd
      · exact hD x hd
      · omega
  · intro j _ e; omega
  · intro x hx
    rcases List.mem_or_eq_of_mem_set hx with h4 | h4
    · have := h.cn x h4; omega
    · subst h4
      have := ms_cnt L[i].m s
      simp only
      omega
theorem dw_stepY (h : DW w0 K lab c W P AX AY s L Q v) (i : Nat) (hi : i < L.length) (hc : c < 4611686018427387904) :
    Calls Try.prog 15 #[.pointer (some ⟨L[i].q, 0, none⟩)] W fun e w' => e = .returned (.bool (decide ((L[i].r.step s).nx = 5))) ∧ StpX w0 K lab W (c + 1) P AX AY s (L.set i ⟨L[i].p, L[i].q, L[i].m, L[i].r.step s⟩) Q v w' := by
  obtain ⟨k, n, D, hm, hp, hD⟩ := h.my i hi
  obtain ⟨F, hF⟩ := h.aw.rx
  have hcn := h.cn L[i] (List.getElem_mem hi)
  refine (rdstep_any hm hF (by omega) (by omega)).mono ?_
  rintro e w' ⟨rfl, n', D', h1, h2, h3⟩
  refine ⟨rfl, _, _, h.turn (t := 2 * i + 3) (c' := c + 1) h3 (by omega) hp (List.length_set ..) ?_ ?_ ?_ ?_ ?_, fun _ hk => .inl hk, fun _ hk => labT_old hk, h3.mono (fun k _ e => by rw [e, hp]; omega)⟩
  · intro j hj hj' _
    by_cases e : i = j
    · subst e; rw [List.getElem_set_self]; exact ⟨rfl, rfl⟩
    · rw [List.getElem_set_ne e]; exact ⟨rfl, rfl⟩
  · intro j hj hj' hne
    rw [List.getElem_set_ne (by omega)]
    exact ⟨rfl, rfl⟩
  · intro j _ e; omega
  · intro j hj e
    obtain rfl : j = i := by omega
    rw [List.getElem_set_self]
    have hpl := lt_of_block hm.c
    refine ⟨k, n', D', h1, by rw [labT_old hpl]; exact hp, fun x hx => ?_⟩
    by_cases hxn : W.heap.size ≤ x
    · exact labT_new hxn (h1.lt x hx)
    · rw [labT_old (by omega)]
      rcases h2 x hx with hd | hd
      · exact hD x hd
      · omega
  · intro x hx
    rcases List.mem_or_eq_of_mem_set hx with h4 | h4
    · have := h.cn x h4; omega
    · subst h4
      have := rms_cnt L[i].r s
      simp only
      omega
end
end Go.Proofs.Ytpfmfobnanhcdaa

namespace Go.Proofs.Ytpfmfobnanhcdaa
open Go.RowKit
set_option maxRecDepth 100000

/-- Two new machines, and the box that leads to them. -/
def NewB (W wx : World) (AX AY : Nat) (key : List Int) (lev : Int) (p q gb : Nat) : Prop := ∃ N1 k n D k' n' D', W.heap.size ≤ N1 ∧ PM wx p AX k n D (MS.new key lev) ∧ RM wx q AY k' n' D' (RMS.new key lev) ∧ (W.heap.size ≤ p ∧ p < N1) ∧ (∀ x, D x → W.heap.size ≤ x ∧ x < N1) ∧ N1 ≤ q ∧ (∀ x, D' x → N1 ≤ x) ∧ wx.heap[gb]? = some (.cells #[.pointer (some ⟨p, 0, none⟩), .pointer (some ⟨q, 0, none⟩)] 52 (0, 0)) ∧ W.heap.size ≤ gb ∧ Below W.heap.size W wx
section
variable {w0 : World} {K : Nat → Prop} {lab : Nat → Nat} {c : Nat} {W W' : World} {P AX AY : Nat} {s : AS} {L : List Mc} {Q : List (Nat × Nat)} {v : Value}
theorem DW.add {key : List Int} {lev : Int} {p q gb : Nat} (h : DW w0 K lab c W P AX AY s L Q v) (hn : NewB W W' AX AY key lev p q gb) : StpX w0 K lab W c P AX AY s (L ++ [⟨p, q, MS.new key lev, RMS.new key lev⟩]) Q v W' := by
  obtain ⟨N1, k, n, D, k', n', D', h1, h2, h3, h4, h5, h6, h7, _, _, hb⟩ := hn
  have hu : Upd Noth W W' := Upd.of_below hb _
  have hb0 := h.bw.size
  have hq := lt_of_block h3.c
  obtain ⟨lb2, hlb⟩ : ∃ lb2 : Nat → Nat, lb2 = fun x => if W.heap.size ≤ x ∧ x < N1 ∧ x < W'.heap.size then 2 * L.length + 2 else if N1 ≤ x ∧ x < W'.heap.size then 2 * L.length + 3 else lab x := ⟨_, rfl⟩
  have old : ∀ x, x < W.heap.size → lb2 x = lab x := fun x hx => by rw [hlb]; simp only; rw [if_neg (by omega), if_neg (by omega)]
  have inX : ∀ x, W.heap.size ≤ x → x < N1 → x < W'.heap.size → lb2 x = 2 * L.length + 2 := fun x a1 a2 a3 => by rw [hlb]; simp only; rw [if_pos ⟨a1, a2, a3⟩]
  have inY : ∀ x, N1 ≤ x → x < W'.heap.size → lb2 x = 2 * L.length + 3 := fun x a1 a2 => by rw [hlb]; simp only; rw [if_neg (by omega), if_pos ⟨a1, a2⟩]
  have out : ∀ x, W'.heap.size ≤ x → lb2 x = 0 := fun x hx => by rw [hlb]; simp only; rw [if_neg (by omega), if_neg (by omega)]; exact h.lz x (Nat.le_trans hb.size hx)
  clear hlb
  refine ⟨fun x => K x ∨ (W.heap.size ≤ x ∧ x < W'.heap.size), lb2, ⟨h.aw.turn hu (fun k e => e.elim) (fun e => e) (fun _ hk => hk) (.inl h.aw.kp), h.bw.trans (hb.mono hb0), fun k hk => .inl (h.kb k hk), out, ?_, ?_, ?_, ?_, ?_, ?_, ?_, ?_⟩, fun _ hk => .inl hk, old, hu.noth⟩
  · intro x hx
    by_cases e : x < W.heap.size
    · rw [old x e] at hx; exact .inl (h.lk x hx)
    · by_cases e' : x < W'.heap.size
      · exact .inr ⟨by omega, e'⟩
      · exact absurd (out x (by omega)) hx
  · intro x hx
    by_cases e : x < W.heap.size
    · rw [old x e] at hx; exact h.lb x hx
    · omega
  · rw [old P h.plt]; exact h.lp
  · exact owns_updN h.row hu (fun _ _ e => e)
  · intro x hx
    have h8 := h.rl x hx
    have : x < W.heap.size := Decidable.byContradiction fun hc => by have := h.lz x (by omega); omega
    rw [old x this]; exact h8
  · intro i hi
    rw [List.length_append, List.length_singleton] at hi
    by_cases e : i < L.length
    · rw [List.getElem_append_left e]
      exact (h.mx i e).upd hu (fun _ _ _ e => e) old
    · obtain rfl : i = L.length := by omega
      rw [List.getElem_append_right (Nat.le_refl _)]
      simp only [Nat.sub_self, List.getElem_cons_zero]
      exact ⟨k, n, D, h2, inX p h4.1 h4.2 (lt_of_block h2.c), fun x hx => inX x (h5 x hx).1 (h5 x hx).2 (h2.lt x hx)⟩
  · intro i hi
    rw [List.length_append, List.length_singleton] at hi
    by_cases e : i < L.length
    · rw [List.getElem_append_left e]
      exact (h.my i e).upd hu (fun _ _ _ e => e) old
    · obtain rfl : i = L.length := by omega
      rw [List.getElem_append_right (Nat.le_refl _)]
      simp only [Nat.sub_self, List.getElem_cons_zero]
      exact ⟨k', n', D', h3, inY q h6 hq, fun x hx => inY x (h7 x hx) (h3.lt x hx)⟩
  · intro x hx
    rcases List.mem_append.1 hx with hx | hx
    · exact h.cn x hx
    · rw [List.mem_singleton] at hx
      subst hx
      exact ⟨Nat.zero_le _, Nat.zero_le _, Nat.zero_le _, Nat.zero_le _⟩
theorem DW.push {g cap : Nat} (h : DW w0 K lab c W P AX AY s L Q v) (x : Nat × Nat) (ho : W'.ownsRow w0.heap.size 52 2 (.slice (some ⟨g, 0, none⟩) (Q.length + 1) cap) (Q.length + 1) (Q.flatMap pqV ++ pqV x)) (hg : W.grownBy W' v.ownBlock) (hor : v.ownBlock = some g ∨ W.heap.size ≤ g) : StpX w0 K lab W c P AX AY s L (Q ++ [x]) (.slice (some ⟨g, 0, none⟩) (Q.length + 1) cap) W' := by
  have hu : Upd (fun k => v.ownBlock = some k) W W' := Upd.of_grown hg (fun k hk _ => hk)
  have hb0 := h.bw.size
  have hgl : g < W'.heap.size := (ho.lt g rfl).2
  refine ⟨fun x => K x ∨ (W.heap.size ≤ x ∧ x < W'.heap.size), labT lab W W' 1, ⟨h.aw.turn hu (fun k e => h.lk k (by rw [h.rl k e]; decide)) (fun e => by have := h.rl P e; rw [h.lp] at this; cases this) (fun _ hk => hk) (.inl h.aw.kp), h.bw.trans (hu.below hb0 (fun k hk e => by have := h.lb k (by rw [h.rl k e]; decide); omega)), fun k hk => .inl (h.kb k hk), ?_, ?_, ?_, ?_, ?_, ?_, ?_, ?_, h.cn⟩, fun _ hk => .inl hk, fun _ hk => labT_old hk, hu.mono (fun k _ e => by rw [h.rl k e]; decide)⟩
  · intro k hk
    unfold labT
    rw [if_neg (by omega)]
    exact h.lz k (Nat.le_trans hu.size hk)
  · intro k hk
    unfold labT at hk
    by_cases hn : W.heap.size ≤ k ∧ k < W'.heap.size
    · exact .inr hn
    · rw [if_neg hn] at hk; exact .inl (h.lk k hk)
  · intro k hk
    unfold labT at hk
    by_cases hn : W.heap.size ≤ k ∧ k < W'.heap.size
    · omega
    · rw [if_neg hn] at hk; exact h.lb k hk
  · rw [labT_old h.plt]; exact h.lp
  · simp only [List.length_append, List.length_singleton, List.flatMap_append, List.flatMap_singleton]
    exact ho
  · intro k hk
    have e : g = k := by simpa [Value.ownBlock] using hk
    subst e
    rcases hor with h1 | h1
    · have h2 := h.rl g h1
      have : g < W.heap.size := Decidable.byContradiction fun hc => by have := h.lz g (by omega); omega
      rw [labT_old this]; exact h2
    · exact labT_new h1 hgl
  · intro i hi
    exact (h.mx i hi).upd hu (fun x _ hx e => by have := h.rl x e; omega) (fun x hx => labT_old hx)
  · intro i hi
    exact (h.my i hi).upd hu (fun x _ hx e => by have := h.rl x e; omega) (fun x hx => labT_old hx)
/-- The pair at i. -/
theorem DW.at (h : DW w0 K lab c W P AX AY s L Q v) {a : Option Addr} {n cap : Nat} (hv : v = .slice a n cap) (hn : Q.length = n) (i : Nat) (hi : i < Q.length) : ∃ g, a = some ⟨g, 0, none⟩ ∧ W.cell? ⟨g, i * 2, none⟩ = some (.pointer (some ⟨Q[i].1, 0, none⟩)) ∧ W.cell? ⟨g, i * 2 + 1, none⟩ = some (.pointer (some ⟨Q[i].2, 0, none⟩)) := by
  have hr := h.row
  subst hv
  obtain ⟨g, rfl⟩ : ∃ g, a = some ⟨g, 0, none⟩ := by
    rcases hr.2 with ⟨_, h0⟩ | ⟨g, c, cur, hv, _⟩
    · omega
    · cases hv; exact ⟨g, rfl⟩
  have hf : ∀ j, j < 2 → (Q.flatMap pqV)[i * 2 + j]? = (pqV Q[i])[j]? := by
    clear h hr hn
    induction Q generalizing i with
    | nil => simp at hi
    | cons q Q ih =>
      intro j hj
      cases i with
      | zero => simp only [Nat.zero_mul, Nat.zero_add, List.getElem_cons_zero, List.flatMap_cons]; rw [List.getElem?_append_left (by simp [pqV]; omega)]
      | succ i =>
        rw [List.flatMap_cons, List.getElem?_append_right (by simp [pqV]; omega), List.getElem_cons_succ, ← ih i (by simpa using hi) j hj]
        congr 1
        simp [pqV]
        omega
  have q0 := hr.cells (g := g) rfl (i * 2) (.pointer (some ⟨Q[i].1, 0, none⟩)) (by have := hf 0 (by omega); rw [Nat.add_zero] at this; rw [this]; rfl)
  have q1 := hr.cells (g := g) rfl (i * 2 + 1) (.pointer (some ⟨Q[i].2, 0, none⟩)) (by rw [hf 1 (by omega)]; rfl)
  rw [Addr.add_lit, Nat.zero_add] at q0 q1
  exact ⟨g, rfl, q0, q1⟩
end
end Go.Proofs.Ytpfmfobnanhcdaa

namespace Go.Proofs.Ytpfmfobnanhcdaa
open Go.RowKit
set_option maxRecDepth 100000

theorem sim_nx {m : MS} {r : RMS} (h : Sim m r) : decide (5 ≤ m.nx) = decide (r.nx = 5) := by
  rw [h.nx]
  by_cases h5 : 5 ≤ m.nx
  · rw [decide_eq_true h5, decide_eq_true (by omega)]
  · rw [decide_eq_false h5, decide_eq_false (by omega)]
/-- Between two steps of the pair kp; two boxes stand by. -/
def PlI (w : World) (c : Nat) (W : World) (P AX AY : Nat) (s : AS) (n kp pp qq : Nat) (v : Value) (B1 B2 : Nat) (o1 o2 : Obj) : Prop :=
  ∃ K lab L, DW w K lab c W P AX AY s L (L.map fun x => (x.p, x.q)) v ∧ L.length = n ∧ (∀ x ∈ L, Sim x.m x.r) ∧ (∃ h : kp < L.length, L[kp].p = pp ∧ L[kp].q = qq) ∧ lab B1 = 0 ∧ lab B2 = 0 ∧ W.heap[B1]? = some o1 ∧ W.heap[B2]? = some o2
/-- Behind the step of the program's. -/
def PlJ (w : World) (c : Nat) (W : World) (P AX AY : Nat) (s : AS) (n kp pp qq : Nat) (v : Value) (B1 B2 : Nat) (o1 o2 : Obj) (b : Bool) : Prop :=
  ∃ K lab L, DW w K lab c W P AX AY s L (L.map fun x => (x.p, x.q)) v ∧ L.length = n ∧ (∀ j (h : j < L.length), j ≠ kp → Sim L[j].m L[j].r) ∧ (∃ h : kp < L.length, L[kp].p = pp ∧ L[kp].q = qq ∧ Sim L[kp].m (L[kp].r.step s) ∧ b = decide (5 ≤ L[kp].m.nx)) ∧ lab B1 = 0 ∧ lab B2 = 0 ∧ W.heap[B1]? = some o1 ∧ W.heap[B2]? = some o2
section
variable {w W : World} {c P AX AY n kp pp qq B1 B2 : Nat} {s : AS} {v : Value} {o1 o2 : Obj} {b : Bool}
theorem map_set_pq (L : List Mc) (i : Nat) (h : i < L.length) (m : MS) (r : RMS) : (L.set i ⟨L[i].p, L[i].q, m, r⟩).map (fun x => (x.p, x.q)) = L.map fun x => (x.p, x.q) := by
  apply List.ext_getElem
  · simp
  · intro j h1 h2
    simp only [List.getElem_map]
    by_cases e : i = j
    · subst e; rw [List.getElem_set_self]
    · rw [List.getElem_set_ne e]
theorem pli_step (h : PlI w c W P AX AY s n kp pp qq v B1 B2 o1 o2) (hc : c < 4611686018427387904) : Calls Try.prog 14 #[.pointer (some ⟨pp, 0, none⟩)] W fun e w' => ∃ b, e = .returned (.bool b) ∧ PlJ w (c + 1) w' P AX AY s n kp pp qq v B1 B2 o1 o2 b := by
  obtain ⟨K, lab, L, hD, hL, hS, ⟨hk, rfl, rfl⟩, h1, h2, h3, h4⟩ := h
  refine (dw_stepX hD kp hk hc).mono ?_
  rintro e w' ⟨rfl, K', lab', hD', _, hlab, hu⟩
  rw [← map_set_pq L kp hk (L[kp].m.step s) L[kp].r] at hD'
  refine ⟨_, rfl, K', lab', _, hD', by rw [List.length_set]; exact hL, ?_, ⟨by rw [List.length_set]; exact hk, ?_⟩, by rw [hlab _ (lt_of_block h3)]; exact h1, by rw [hlab _ (lt_of_block h4)]; exact h2, hu.heap h3 (fun e => e h1), hu.heap h4 (fun e => e h2)⟩
  · intro j hj hne
    rw [List.getElem_set_ne (fun e => hne e.symm)]
    exact hS _ (List.getElem_mem _)
  · rw [List.getElem_set_self]
    exact ⟨rfl, rfl, (hS _ (List.getElem_mem hk)).step s, rfl⟩
theorem plj_step (h : PlJ w c W P AX AY s n kp pp qq v B1 B2 o1 o2 b) (hc : c < 4611686018427387904) : Calls Try.prog 15 #[.pointer (some ⟨qq, 0, none⟩)] W fun e w' => e = .returned (.bool b) ∧ PlI w (c + 1) w' P AX AY s n kp pp qq v B1 B2 o1 o2 := by
  obtain ⟨K, lab, L, hD, hL, hS, ⟨hk, rfl, rfl, hs, hb⟩, h1, h2, h3, h4⟩ := h
  refine (dw_stepY hD kp hk hc).mono ?_
  rintro e w' ⟨rfl, K', lab', hD', _, hlab, hu⟩
  rw [← map_set_pq L kp hk L[kp].m (L[kp].r.step s)] at hD'
  refine ⟨by rw [hb, sim_nx hs], K', lab', _, hD', by rw [List.length_set]; exact hL, ?_, ⟨by rw [List.length_set]; exact hk, by rw [List.getElem_set_self]; exact ⟨rfl, rfl⟩⟩, by rw [hlab _ (lt_of_block h3)]; exact h1, by rw [hlab _ (lt_of_block h4)]; exact h2, hu.heap h3 (fun e => e h1), hu.heap h4 (fun e => e h2)⟩
  intro x hx
  obtain ⟨j, hj, rfl⟩ := List.getElem_of_mem hx
  by_cases e : kp = j
  · subst e; rw [List.getElem_set_self]; exact hs
  · rw [List.getElem_set_ne e]
    exact hS j (by rw [List.length_set] at hj; exact hj) (fun e' => e e'.symm)
theorem pli_told (h : PlI w c W P AX AY s n kp pp qq v B1 B2 o1 o2) : Calls Try.prog 16 #[.agg #[.pointer (some ⟨pp, 0, none⟩), .pointer (some ⟨qq, 0, none⟩)]] W fun e w' => e = .returned (.bool true) ∧ PlI w c w' P AX AY s n kp pp qq v B1 B2 o1 o2 := by
  obtain ⟨K, lab, L, hD, hL, hS, ⟨hk, rfl, rfl⟩, h1, h2, h3, h4⟩ := h
  obtain ⟨_, _, _, hx, _⟩ := hD.mx kp hk
  obtain ⟨_, _, _, hy, _⟩ := hD.my kp hk
  refine (told_anyD hx hy (hS _ (List.getElem_mem hk))).mono ?_
  rintro e w' ⟨rfl, hb⟩
  exact ⟨rfl, K, lab, L, hD.below hb, hL, hS, ⟨hk, rfl, rfl⟩, h1, h2, (hb.block _ (lt_of_block h3)).trans h3, (hb.block _ (lt_of_block h4)).trans h4⟩
end
end Go.Proofs.Ytpfmfobnanhcdaa

namespace Go.Proofs.Ytpfmfobnanhcdaa
open Go.RowKit
set_option maxRecDepth 100000

structure DOp where
  kind : Int
  a : Int
  b : Int
  key : Tx
  raw : AOp
def DOp.cs (o : DOp) : List Value := [.int .i64 o.kind, .int .i64 o.a, .int .i64 o.b, o.key.v] ++ [.int .i64 o.raw.kind, .int .i64 o.raw.a, .int .i64 o.raw.b, .int .u64 (o.raw.w : Nat), .bool o.raw.ch, .int .i64 o.raw.n.lv, o.raw.n.hi.v, .int .i64 o.raw.n.ri, o.raw.n.ks.v, o.raw.n.vs.v, o.raw.n.cs.v]
structure DOp.Ok (K : Nat → Prop) (W : World) (o : DOp) : Prop where
  k1 : -9223372036854775808 ≤ o.kind ∧ o.kind ≤ 9223372036854775807
  a1 : -9223372036854775808 ≤ o.a ∧ o.a ≤ 9223372036854775807
  b1 : -9223372036854775808 ≤ o.b ∧ o.b ≤ 9223372036854775807
  key : o.key.Ok W
  raw : o.raw.Ok K W
/-- A script in memory. -/
structure DOps (K : Nat → Prop) (W : World) (a : Option Addr) (L : List DOp) : Prop where
  c : ∀ i (h : i < L.length), ∃ b o, a = some ⟨b, o, none⟩ ∧ ∀ j (v : Value), L[i].cs[j]? = some v → W.cell? ⟨b, o + i * 15 + j, none⟩ = some v
  ok : ∀ x ∈ L, x.Ok K W
theorem DOps.move {w W : World} {K : Nat → Prop} {a : Option Addr} {L : List DOp} (h : DOps (fun k => k < w.heap.size) w a L) (hb : Below w.heap.size w W) (hk : ∀ k, k < w.heap.size → K k) : DOps K W a L := by
  have hu : Upd (fun k => ¬ k < w.heap.size) w W := ⟨hb.os, hb.tape, hb.output, hb.size, fun k _ hn => hb.block k (Decidable.byContradiction fun hc => hn hc)⟩
  refine ⟨fun i hi => ?_, fun x hx => ?_⟩
  · obtain ⟨b, o, ha, hc⟩ := h.c i hi
    refine ⟨b, o, ha, fun j v hv => ?_⟩
    have := hc j v hv
    exact (hb.cell (p := ⟨b, o + i * 15 + j, none⟩) (World.block_lt_of_cell? w _ this)).trans this
  · have := h.ok x hx
    have hr := this.raw.kept hu
    exact ⟨this.k1, this.a1, this.b1, this.key.below hb, ⟨hr.k1, hr.a1, hr.b1, hr.w1, hr.n, hr.i.mono hk⟩⟩
/-! New machines: the three ways that the box may come. -/
section
variable {W w1 w2 w3 wf : World} {AX AY : Nat} {key : List Int} {lev : Int}
theorem newb_of {N1 p q gb : Nat} {k k' : Tx} {n n' : Nd} {D D' : Nat → Prop} (h1 : W.heap.size ≤ N1) (hx : PM w3 p AX k n D (MS.new key lev)) (hy : RM w3 q AY k' n' D' (RMS.new key lev)) (hp : W.heap.size ≤ p ∧ p < N1) (hD : ∀ x, D x → W.heap.size ≤ x ∧ x < N1) (hq : N1 ≤ q) (hD' : ∀ x, D' x → N1 ≤ x) (hb : Below W.heap.size W w3) {S : Nat → Prop} (hu : Upd S w3 wf) (hs : ∀ x, S x → x = gb) (h5 : ∀ x, x = p ∨ D x → x ≠ gb) (h6 : ∀ x, x = q ∨ D' x → x ≠ gb) (hg : wf.heap[gb]? = some (.cells #[.pointer (some ⟨p, 0, none⟩), .pointer (some ⟨q, 0, none⟩)] 52 (0, 0))) (hgb : W.heap.size ≤ gb) : NewB W wf AX AY key lev p q gb :=
  ⟨N1, k, n, D, k', n', D', h1, hx.upd hu (fun x hx e => h5 x hx (hs x e)), hy.upd hu (fun x hx e => h6 x hx (hs x e)), hp, hD, hq, hD', hg, hgb, hb.trans (hu.below hb.size (fun k hk e => by have := hs k e; omega))⟩
theorem newC {wk w2 w3 : World} {pp qq : Nat} {k k' : Tx} {n n' : Nd} {D D' : Nat → Prop} (b2 : Below wk.heap.size wk w2) (hm : PM w2 pp AX k n D (MS.new key lev)) (hp : wk.heap.size ≤ pp ∧ ∀ x, D x → wk.heap.size ≤ x) (b3 : Below wk.heap.size wk w3) (hr : RM w3 qq AY k' n' D' (RMS.new key lev)) (hq : w2.heap.size ≤ qq ∧ ∀ x, D' x → w2.heap.size ≤ x) (b23 : Below w2.heap.size w2 w3) :
    NewB wk (w3.alloc (.cells #[.pointer (some ⟨pp, 0, none⟩), .pointer (some ⟨qq, 0, none⟩)] 52)) AX AY key lev pp qq w3.heap.size := by
  have hpl := lt_of_block hm.c
  have hql := lt_of_block hr.c
  have hs := b23.size
  refine newb_of (w3 := w3) (N1 := w2.heap.size) (S := Noth) b2.size (hm.upd (S := Noth) (Upd.of_below b23 _) (fun _ _ e => e)) hr ⟨hp.1, hpl⟩ (fun x hx => ⟨hp.2 x hx, hm.lt x hx⟩) hq.1 hq.2 b3 (Upd.of_below ((Below.refl _ _).alloc (Nat.le_refl _) _) _) (fun _ e => e.elim) ?_ ?_ (heap_alloc_new w3 _) b3.size
  · rintro x (rfl | hx)
    · omega
    · have := hm.lt x hx; omega
  · rintro x (rfl | hx)
    · omega
    · have := hr.lt x hx; omega
theorem newA {wk w2 w3 : World} {pp qq : Nat} {k k' : Tx} {n n' : Nd} {D D' : Nat → Prop} {o : Obj} {a0 a1 : Value} (b2 : Below wk.heap.size wk w2) (hm : PM w2 pp AX k n D (MS.new key lev)) (hp : (wk.alloc o).drew.heap.size ≤ pp ∧ ∀ x, D x → (wk.alloc o).drew.heap.size ≤ x) (b3 : Below wk.heap.size wk w3) (hr : RM w3 qq AY k' n' D' (RMS.new key lev)) (hq : w2.heap.size ≤ qq ∧ ∀ x, D' x → w2.heap.size ≤ x) (b23 : Below w2.heap.size w2 w3) (hg2 : wk.heap.size < w2.heap.size) (hg : w3.heap[wk.heap.size]? = some (.cells #[a0, a1] 52 (0, 0))) :
    NewB wk ((w3.setCell ⟨wk.heap.size, 0, none⟩ (.pointer (some ⟨pp, 0, none⟩))).setCell ⟨wk.heap.size, 1, none⟩ (.pointer (some ⟨qq, 0, none⟩))) AX AY key lev pp qq wk.heap.size := by
  have hpl := lt_of_block hm.c
  have hql := lt_of_block hr.c
  have hs := b23.size
  have e1 : (wk.alloc o).drew.heap.size = wk.heap.size + 1 := by simp
  rw [e1] at hp
  refine newb_of (w3 := w3) (N1 := w2.heap.size) (S := fun k => k = wk.heap.size) b2.size (hm.upd (S := Noth) (Upd.of_below b23 _) (fun _ _ e => e)) hr ⟨by omega, hpl⟩ (fun x hx => ⟨by have := hp.2 x hx; omega, hm.lt x hx⟩) hq.1 hq.2 b3 (updP (updP (Upd.refl _ _) _ _) _ _) (fun _ e => e) ?_ ?_ (block_setCell (block_setCell hg 0 _) 1 _) (Nat.le_refl _)
  · rintro x (rfl | hx)
    · omega
    · have := hp.2 x hx; omega
  · rintro x (rfl | hx)
    · omega
    · have := hq.2 x hx; omega
theorem newM {wk w2 w3 : World} {pp qq : Nat} {k k' : Tx} {n n' : Nd} {D D' : Nat → Prop} {o : Obj} {a0 a1 : Value} (b2 : Below wk.heap.size wk w2) (hm : PM w2 pp AX k n D (MS.new key lev)) (hp : wk.heap.size ≤ pp ∧ ∀ x, D x → wk.heap.size ≤ x) (b3 : Below wk.heap.size wk w3) (hr : RM w3 qq AY k' n' D' (RMS.new key lev)) (hq : (w2.alloc o).heap.size ≤ qq ∧ ∀ x, D' x → (w2.alloc o).heap.size ≤ x) (b23 : Below (w2.alloc o).heap.size (w2.alloc o) w3) (hg : w3.heap[w2.heap.size]? = some (.cells #[a0, a1] 52 (0, 0))) :
    NewB wk ((w3.setCell ⟨w2.heap.size, 0, none⟩ (.pointer (some ⟨pp, 0, none⟩))).setCell ⟨w2.heap.size, 1, none⟩ (.pointer (some ⟨qq, 0, none⟩))) AX AY key lev pp qq w2.heap.size := by
  have hpl := lt_of_block hm.c
  have e1 : (w2.alloc o).heap.size = w2.heap.size + 1 := by simp
  have bA : Below w2.heap.size w2 (w2.alloc o) := (Below.refl _ _).alloc (Nat.le_refl _) _
  have bb := bA.trans (b23.mono bA.size)
  rw [e1] at hq
  refine newb_of (w3 := w3) (N1 := w2.heap.size) (S := fun k => k = w2.heap.size) b2.size (hm.upd (S := Noth) (Upd.of_below bb _) (fun _ _ e => e)) hr ⟨hp.1, hpl⟩ (fun x hx => ⟨hp.2 x hx, hm.lt x hx⟩) (by omega) (fun x hx => by have := hq.2 x hx; omega) b3 (updP (updP (Upd.refl _ _) _ _) _ _) (fun _ e => e) ?_ ?_ (block_setCell (block_setCell hg 0 _) 1 _) b2.size
  · rintro x (rfl | hx)
    · omega
    · have := hm.lt x hx; omega
  · rintro x (rfl | hx)
    · omega
    · have := hq.2 x hx; omega
theorem box2 {W : World} {b : Nat} {T : TypeId} {a0 a1 x0 x1 : Value} (h : W.heap[b]? = some (.cells #[a0, a1] T (0, 0))) : ((W.setCell ⟨b, 0, none⟩ x0).setCell ⟨b, 1, none⟩ x1).heap[b]? = some (.cells #[x0, x1] T (0, 0)) := block_setCell (block_setCell h 0 x0) 1 x1
end
end Go.Proofs.Ytpfmfobnanhcdaa

namespace Go.Proofs.Ytpfmfobnanhcdaa
open Go.RowKit
set_option maxRecDepth 100000

def ptrV (p : Nat) : Value := .pointer (some ⟨p, 0, none⟩)
structure DT (w0 : World) (K : Nat → Prop) (lab : Nat → Nat) (c : Nat) (W : World) (P AX AY : Nat) (s : AS) (L : List (Nat × MS)) (v6 v7 v8 : Value) (Q : List Nat) (T : List Tx) (Z : List Int) : Prop where
  aw : AW K W P AX AY s s
  bw : Below w0.heap.size w0 W
  kb : ∀ k, k < w0.heap.size → K k
  lz : ∀ k, W.heap.size ≤ k → lab k = 0
  lk : ∀ k, lab k ≠ 0 → K k
  lb : ∀ k, lab k ≠ 0 → w0.heap.size ≤ k
  lp : lab P = 0
  r6 : W.ownsRow w0.heap.size 43 1 v6 Q.length (Q.map ptrV)
  r7 : W.ownsRow w0.heap.size 28 1 v7 T.length (T.map Tx.v)
  r8 : W.ownsRow w0.heap.size 3 1 v8 Z.length (Z.map (Value.int .i64))
  l6 : ∀ k, v6.ownBlock = some k → lab k = 1
  l7 : ∀ k, v7.ownBlock = some k → lab k = 2
  l8 : ∀ k, v8.ownBlock = some k → lab k = 3
  mx : ∀ i (h : i < L.length), MchX W AX lab (i + 4) L[i].1 L[i].2
  cn : ∀ x ∈ L, x.2.an ≤ c ∧ x.2.mo ≤ c
section
variable {w0 : World} {K : Nat → Prop} {lab : Nat → Nat} {c : Nat} {W W' : World} {P AX AY : Nat} {s s' : AS} {L : List (Nat × MS)} {v6 v7 v8 : Value} {Q : List Nat} {T : List Tx} {Z : List Int}
theorem DT.plt (h : DT w0 K lab c W P AX AY s L v6 v7 v8 Q T Z) : P < W.heap.size := h.aw.klt P h.aw.kp
theorem DT.llt (h : DT w0 K lab c W P AX AY s L v6 v7 v8 Q T Z) {k : Nat} (hk : lab k ≠ 0) : k < W.heap.size := Decidable.byContradiction fun hc => hk (h.lz k (by omega))
theorem DT.raw (h : DT w0 K lab c W P AX AY s L v6 v7 v8 Q T Z) (ha : AW K W' P AX AY s' s') (hu : Upd (fun k => ¬ K k) W W') : DT w0 K lab c W' P AX AY s' L v6 v7 v8 Q T Z := by
  have hne : ∀ t, t ≠ 0 → ∀ x, x < W.heap.size → lab x = t → ¬ ¬ K x := fun t ht x _ e hn => hn (h.lk x (by omega))
  exact ⟨ha, h.bw.trans (hu.below h.bw.size (fun k hk e => e (h.kb k hk))), h.kb, fun k hk => h.lz k (Nat.le_trans hu.size hk), h.lk, h.lb, h.lp, owns_updN h.r6 hu (fun k hk e => e (h.lk k (by rw [h.l6 k hk]; decide))), owns_updN h.r7 hu (fun k hk e => e (h.lk k (by rw [h.l7 k hk]; decide))), owns_updN h.r8 hu (fun k hk e => e (h.lk k (by rw [h.l8 k hk]; decide))), h.l6, h.l7, h.l8, fun i hi => (h.mx i hi).upd hu (hne _ (by omega)) (fun _ _ => rfl), h.cn⟩
theorem DT.below (h : DT w0 K lab c W P AX AY s L v6 v7 v8 Q T Z) (hb : Below W.heap.size W W') : DT w0 K lab c W' P AX AY s L v6 v7 v8 Q T Z := by
  have hu : Upd Noth W W' := Upd.of_below hb _
  exact ⟨h.aw.below hb, h.bw.trans (hb.mono h.bw.size), h.kb, fun k hk => h.lz k (Nat.le_trans hb.size hk), h.lk, h.lb, h.lp, owns_updN h.r6 hu (fun _ _ e => e), owns_updN h.r7 hu (fun _ _ e => e), owns_updN h.r8 hu (fun _ _ e => e), h.l6, h.l7, h.l8, fun i hi => (h.mx i hi).upd hu (fun _ _ _ e => e) (fun _ _ => rfl), h.cn⟩
theorem DT.less {c' : Nat} (h : DT w0 K lab c W P AX AY s L v6 v7 v8 Q T Z) (hc : c ≤ c') : DT w0 K lab c' W P AX AY s L v6 v7 v8 Q T Z :=
  ⟨h.aw, h.bw, h.kb, h.lz, h.lk, h.lb, h.lp, h.r6, h.r7, h.r8, h.l6, h.l7, h.l8, h.mx, fun x hx => by have := h.cn x hx; omega⟩
/-- What bears the number t is turned. -/
theorem DT.turn {t c' : Nat} {L' : List (Nat × MS)} {v6' v7' v8' : Value} {Q' : List Nat} {T' : List Tx} {Z' : List Int} (h : DT w0 K lab c W P AX AY s L v6 v7 v8 Q T Z) (hu : Upd (fun k => lab k = t) W W') (ht : t ≠ 0)
    (r6 : W'.ownsRow w0.heap.size 43 1 v6' Q'.length (Q'.map ptrV)) (l6 : ∀ k, v6'.ownBlock = some k → labT lab W W' t k = 1)
    (r7 : W'.ownsRow w0.heap.size 28 1 v7' T'.length (T'.map Tx.v)) (l7 : ∀ k, v7'.ownBlock = some k → labT lab W W' t k = 2)
    (r8 : W'.ownsRow w0.heap.size 3 1 v8' Z'.length (Z'.map (Value.int .i64))) (l8 : ∀ k, v8'.ownBlock = some k → labT lab W W' t k = 3)
    (mx : ∀ i (h : i < L'.length), MchX W' AX (labT lab W W' t) (i + 4) L'[i].1 L'[i].2) (hcn : ∀ x ∈ L', x.2.an ≤ c' ∧ x.2.mo ≤ c') :
    DT w0 (fun k => K k ∨ (W.heap.size ≤ k ∧ k < W'.heap.size)) (labT lab W W' t) c' W' P AX AY s L' v6' v7' v8' Q' T' Z' := by
  have hb0 := h.bw.size
  refine ⟨h.aw.turn hu (fun k e => h.lk k (by omega)) (fun e => ht (by rw [← e]; exact h.lp)) (fun _ hk => hk) (.inl h.aw.kp), h.bw.trans (hu.below h.bw.size (fun k hk e => by have := h.lb k (by omega); omega)), fun k hk => .inl (h.kb k hk), ?_, ?_, ?_, ?_, r6, r7, r8, l6, l7, l8, mx, hcn⟩
  · intro k hk
    unfold labT
    rw [if_neg (by omega)]
    exact h.lz k (Nat.le_trans hu.size hk)
  · intro k hk
    unfold labT at hk
    by_cases hn : W.heap.size ≤ k ∧ k < W'.heap.size
    · exact .inr hn
    · rw [if_neg hn] at hk; exact .inl (h.lk k hk)
  · intro k hk
    unfold labT at hk
    by_cases hn : W.heap.size ≤ k ∧ k < W'.heap.size
    · omega
    · rw [if_neg hn] at hk; exact h.lb k hk
  · rw [labT_old h.plt]; exact h.lp
theorem DT.old6 (h : DT w0 K lab c W P AX AY s L v6 v7 v8 Q T Z) {t : Nat} : ∀ k, v6.ownBlock = some k → labT lab W W' t k = 1 := fun k hk => by
  have := h.l6 k hk
  rw [labT_old (h.llt (by omega))]; exact this
theorem DT.old7 (h : DT w0 K lab c W P AX AY s L v6 v7 v8 Q T Z) {t : Nat} : ∀ k, v7.ownBlock = some k → labT lab W W' t k = 2 := fun k hk => by
  have := h.l7 k hk
  rw [labT_old (h.llt (by omega))]; exact this
theorem DT.old8 (h : DT w0 K lab c W P AX AY s L v6 v7 v8 Q T Z) {t : Nat} : ∀ k, v8.ownBlock = some k → labT lab W W' t k = 3 := fun k hk => by
  have := h.l8 k hk
  rw [labT_old (h.llt (by omega))]; exact this
theorem DT.oldM (h : DT w0 K lab c W P AX AY s L v6 v7 v8 Q T Z) {t : Nat} (hu : Upd (fun k => lab k = t) W W') (i : Nat) (hi : i < L.length) (hne : i + 4 ≠ t) : MchX W' AX (labT lab W W' t) (i + 4) L[i].1 L[i].2 :=
  (h.mx i hi).upd hu (fun x _ hx e => by omega) (fun x hx => labT_old hx)
def StpT (w0 : World) (c P AX AY : Nat) (s : AS) (L : List (Nat × MS)) (v6 v7 v8 : Value) (Q : List Nat) (T : List Tx) (Z : List Int) (w' : World) : Prop := ∃ K' lab', DT w0 K' lab' c w' P AX AY s L v6 v7 v8 Q T Z
theorem new_own {lab : Nat → Nat} {t : Nat} {v : Value} {g n cap : Nat} (hor : v.ownBlock = some g ∨ W.heap.size ≤ g) (hl : ∀ k, v.ownBlock = some k → lab k = t) (hlt : ∀ k, v.ownBlock = some k → k < W.heap.size) (hg : g < W'.heap.size) : ∀ k, (Value.slice (some ⟨g, 0, none⟩) n cap).ownBlock = some k → labT lab W W' t k = t := by
  intro k hk
  have e : g = k := by simpa [Value.ownBlock] using hk
  subst e
  rcases hor with h1 | h1
  · rw [labT_old (hlt g h1)]; exact hl g h1
  · exact labT_new h1 hg
theorem DT.push6 {g cap : Nat} (h : DT w0 K lab c W P AX AY s L v6 v7 v8 Q T Z) (x : Nat) (ho : W'.ownsRow w0.heap.size 43 1 (.slice (some ⟨g, 0, none⟩) (Q.length + 1) cap) (Q.length + 1) (Q.map ptrV ++ [ptrV x])) (hg : W.grownBy W' v6.ownBlock) (hor : v6.ownBlock = some g ∨ W.heap.size ≤ g) : StpT w0 c P AX AY s L (.slice (some ⟨g, 0, none⟩) (Q.length + 1) cap) v7 v8 (Q ++ [x]) T Z W' := by
  have hu : Upd (fun k => lab k = 1) W W' := Upd.of_grown hg (fun k hk _ => h.l6 k hk)
  refine ⟨_, _, h.turn hu (by decide) (by rw [List.length_append, List.map_append]; exact ho) (new_own hor h.l6 (fun k hk => h.llt (by rw [h.l6 k hk]; decide)) (ho.lt g rfl).2) (owns_updN h.r7 hu (fun k hk e => by have := h.l7 k hk; omega)) h.old7 (owns_updN h.r8 hu (fun k hk e => by have := h.l8 k hk; omega)) h.old8 (fun i hi => h.oldM hu i hi (by omega)) h.cn⟩
theorem DT.push7 {g cap : Nat} (h : DT w0 K lab c W P AX AY s L v6 v7 v8 Q T Z) (x : Tx) (ho : W'.ownsRow w0.heap.size 28 1 (.slice (some ⟨g, 0, none⟩) (T.length + 1) cap) (T.length + 1) (T.map Tx.v ++ [x.v])) (hg : W.grownBy W' v7.ownBlock) (hor : v7.ownBlock = some g ∨ W.heap.size ≤ g) : StpT w0 c P AX AY s L v6 (.slice (some ⟨g, 0, none⟩) (T.length + 1) cap) v8 Q (T ++ [x]) Z W' := by
  have hu : Upd (fun k => lab k = 2) W W' := Upd.of_grown hg (fun k hk _ => h.l7 k hk)
  refine ⟨_, _, h.turn hu (by decide) (owns_updN h.r6 hu (fun k hk e => by have := h.l6 k hk; omega)) h.old6 (by rw [List.length_append, List.map_append]; exact ho) (new_own hor h.l7 (fun k hk => h.llt (by rw [h.l7 k hk]; decide)) (ho.lt g rfl).2) (owns_updN h.r8 hu (fun k hk e => by have := h.l8 k hk; omega)) h.old8 (fun i hi => h.oldM hu i hi (by omega)) h.cn⟩
theorem DT.push8 {g cap : Nat} (h : DT w0 K lab c W P AX AY s L v6 v7 v8 Q T Z) (x : Int) (ho : W'.ownsRow w0.heap.size 3 1 (.slice (some ⟨g, 0, none⟩) (Z.length + 1) cap) (Z.length + 1) (Z.map (Value.int .i64) ++ [.int .i64 x])) (hg : W.grownBy W' v8.ownBlock) (hor : v8.ownBlock = some g ∨ W.heap.size ≤ g) : StpT w0 c P AX AY s L v6 v7 (.slice (some ⟨g, 0, none⟩) (Z.length + 1) cap) Q T (Z ++ [x]) W' := by
  have hu : Upd (fun k => lab k = 3) W W' := Upd.of_grown hg (fun k hk _ => h.l8 k hk)
  refine ⟨_, _, h.turn hu (by decide) (owns_updN h.r6 hu (fun k hk e => by have := h.l6 k hk; omega)) h.old6 (owns_updN h.r7 hu (fun k hk e => by have := h.l7 k hk; omega)) h.old7 (by rw [List.length_append, List.map_append]; exact ho) (new_own hor h.l8 (fun k hk => h.llt (by rw [h.l8 k hk]; decide)) (ho.lt g rfl).2) (fun i hi => h.oldM hu i hi (by omega)) h.cn⟩
/-- A machine more. -/
theorem DT.add {p : Nat} {k : Tx} {n : Nd} {D : Nat → Prop} {m : MS} (h : DT w0 K lab c W P AX AY s L v6 v7 v8 Q T Z) (hb : Below W.heap.size W W') (hm : PM W' p AX k n D m) (hp : W.heap.size ≤ p) (hD : ∀ x, D x → W.heap.size ≤ x) (hc : m.an ≤ c ∧ m.mo ≤ c) : StpT w0 c P AX AY s (L ++ [(p, m)]) v6 v7 v8 Q T Z W' := by
  have hu : Upd (fun k => lab k = L.length + 4) W W' := Upd.of_below hb _
  refine ⟨_, _, h.turn hu (by omega) (owns_updN h.r6 hu (fun k hk e => by have := h.l6 k hk; omega)) h.old6 (owns_updN h.r7 hu (fun k hk e => by have := h.l7 k hk; omega)) h.old7 (owns_updN h.r8 hu (fun k hk e => by have := h.l8 k hk; omega)) h.old8 (fun i hi => ?_) (fun x hx => ?_)⟩
  · rw [List.length_append, List.length_singleton] at hi
    by_cases e : i < L.length
    · rw [List.getElem_append_left e]
      exact h.oldM hu i e (by omega)
    · obtain rfl : i = L.length := by omega
      rw [List.getElem_append_right (Nat.le_refl _)]
      simp only [Nat.sub_self, List.getElem_cons_zero]
      exact ⟨k, n, D, hm, labT_new hp (lt_of_block hm.c), fun x hx => labT_new (hD x hx) (hm.lt x hx)⟩
  · rcases List.mem_append.1 hx with hx | hx
    · exact h.cn x hx
    · rw [List.mem_singleton] at hx
      subst hx
      exact hc
theorem dt_step (h : DT w0 K lab c W P AX AY s L v6 v7 v8 Q T Z) (i : Nat) (hi : i < L.length) (hc : c < 4611686018427387904) :
    Calls Try.prog 14 #[.pointer (some ⟨L[i].1, 0, none⟩)] W fun e w' => e = .returned (.bool (decide (5 ≤ (L[i].2.step s).nx))) ∧ StpT w0 (c + 1) P AX AY s (L.set i (L[i].1, L[i].2.step s)) v6 v7 v8 Q T Z w' ∧ Upd (fun k => lab k ≠ 0) W w' := by
  obtain ⟨k, n, D, hm, hp, hD⟩ := h.mx i hi
  obtain ⟨F, hF⟩ := h.aw.px
  have hcn := h.cn L[i] (List.getElem_mem hi)
  refine (step_any hm hF (by omega) (by omega)).mono ?_
  rintro e w' ⟨rfl, n', D', h1, h2, h3⟩
  have hu : Upd (fun k => lab k = i + 4) W w' := h3.mono (fun k _ e => by rw [e]; exact hp)
  refine ⟨rfl, ⟨_, _, h.turn (c' := c + 1) hu (by omega) (owns_updN h.r6 hu (fun k hk e => by have := h.l6 k hk; omega)) h.old6 (owns_updN h.r7 hu (fun k hk e => by have := h.l7 k hk; omega)) h.old7 (owns_updN h.r8 hu (fun k hk e => by have := h.l8 k hk; omega)) h.old8 (fun j hj => ?_) (fun x hx => ?_)⟩, hu.mono (fun k _ e => by omega)⟩
  · rw [List.length_set] at hj
    by_cases e : i = j
    · subst e
      rw [List.getElem_set_self]
      refine ⟨k, n', D', h1, by rw [labT_old (lt_of_block hm.c)]; exact hp, fun x hx => ?_⟩
      by_cases hxn : W.heap.size ≤ x
      · exact labT_new hxn (h1.lt x hx)
      · rw [labT_old (by omega)]
        rcases h2 x hx with hd | hd
        · exact hD x hd
        · omega
    · rw [List.getElem_set_ne e]
      exact h.oldM hu j hj (by omega)
  · rcases List.mem_or_eq_of_mem_set hx with h4 | h4
    · have := h.cn x h4; omega
    · subst h4
      have := ms_cnt L[i].2 s
      simp only
      omega
/-- A cell of a list of one's own. -/
theorem own_at {W : World} {base : Nat} {e : TypeId} {a : Option Addr} {n m cap : Nat} {xs : List Value} (h : W.ownsRow base e 1 (.slice a n cap) m xs) {i : Nat} (hi : i < xs.length) (h0 : 0 < m) : ∃ g, a = some ⟨g, 0, none⟩ ∧ W.cell? ⟨g, i, none⟩ = some xs[i] := by
  obtain ⟨g, rfl⟩ : ∃ g, a = some ⟨g, 0, none⟩ := by
    rcases h.2 with ⟨_, h1⟩ | ⟨g, c, cur, hv, _⟩
    · omega
    · cases hv; exact ⟨g, rfl⟩
  have q0 := h.cells (g := g) rfl i xs[i] (List.getElem?_eq_getElem hi)
  rw [Addr.add_lit, Nat.zero_add] at q0
  exact ⟨g, rfl, q0⟩
end
end Go.Proofs.Ytpfmfobnanhcdaa
