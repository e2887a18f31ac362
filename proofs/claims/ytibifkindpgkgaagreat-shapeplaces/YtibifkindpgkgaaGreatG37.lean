/- A descent: the statements' pick and head. -/
import Derived.Test.YtibifkindpgkgaaGreatG35
import Derived.Test.YtibifkindpgkgaaGreatG23
import Derived.Lib.SlBytesConst
import Derived.Test.YtibifkindpgkgaaGreatG31
import Derived.Test.YtibifkindpgkgaaGreatG32
namespace Go.Proofs.YtibifkindpgkgaaGreat
open Go.RowKit
set_option maxRecDepth 100000

set_option maxHeartbeats 800000 in
theorem pick12_any (c : Int) (n : Nat) (w : World) (hn : 0 < n) (hn2 : n < 9223372036854775807) (h1 : -9223372036854775808 ≤ c) (h2 : c ≤ 9223372036854775807) :
    Calls Tryz.prog 21 #[.int .i64 c, .int .i64 (n : Nat)] w fun e w' => e = .returned (.int .i64 (pickN c n : Nat)) ∧ w' = w := by
  have j0 : ¬ (n : Int) = 0 := by omega
  have j00 : ¬ (n : Int) = -1 := by omega
  have hE := pickN_eq c n hn
  have hL := pickN_lt c n hn
  obtain ⟨r, hr⟩ : ∃ r, r = ((pickN c n : Nat) : Int) := ⟨_, rfl⟩
  rw [← hr] at hE ⊢
  have hr0 : 0 ≤ r := by omega
  have hr1 : r < (n : Int) := by omega
  clear hr hL
  by_cases hc : c < 0
  · rw [if_pos hc] at hE
    have HM : Hid (-(Int.tmod (c + 1) (n : Int)) = r) := by show _ = _; rw [← Int.neg_tmod, Int.tmod_eq_emod_of_nonneg (by omega)]; exact hE.symm
    clear hE
    go_enter Tryz.func21, Tryz.ntmps21
    go_wp2_with fail
    go_ret
    exact ⟨ret_int HM.out, rfl⟩
  · rw [if_neg hc] at hE
    have HM := hide hE
    clear hE
    go_enter Tryz.func21, Tryz.ntmps21
    go_wp2_with fail
    go_ret
    exact ⟨ret_int HM.out.symm, rfl⟩

/-- The live question's machine, behind its steps. -/
def hst : Nat → MS
  | 0 => MS.new [107] 0
  | i + 1 => (hst i).step (AS.new 3)
theorem hst_facts : (hst 1).nx = 1 ∧ (hst 2).nx = 2 ∧ (hst 3).nx = 3 ∧ (hst 4).nx = 4 ∧ (hst 5).nx = 5 ∧ (hst 5).id = 1 ∧ (hst 5).wd = 0 ∧ (hst 5).nd = NP.zero := ⟨by decide +kernel, by decide +kernel, by decide +kernel, by decide +kernel, by decide +kernel, by decide +kernel, by decide +kernel, by kernel_rfl⟩
theorem hst_cnt : ∀ i, i ≤ 5 → (hst i).an = 0 ∧ (hst i).mo = 0 := by decide +kernel
theorem hst_lt : ∀ i, i < 4 → (hst (i + 1)).nx < 5 := by decide +kernel
def HdS (W : World) (P A : Nat) (i : Nat) (F : Nat → Prop) : Prop := (∃ k n D, PM W P A k n D (hst i)) ∧ PX W A F (AS.new 3)
theorem hd_step {W : World} {P A : Nat} {i : Nat} {F : Nat → Prop} (h : HdS W P A i F) (hi : i < 5) (hP : ¬ F P) : Calls Tryz.prog 24 #[.pointer (some ⟨P, 0, none⟩)] W fun e w' => e = .returned (.bool (decide (5 ≤ (hst (i + 1)).nx))) ∧ HdS w' P A (i + 1) F ∧ Upd (fun k => k = P) W w' := by
  obtain ⟨⟨k, n, D, hm⟩, hp⟩ := h
  have hc := hst_cnt i (by omega)
  refine (step_any hm hp (by rw [hc.1]; decide) (by rw [hc.2]; decide)).mono ?_
  rintro e w' ⟨rfl, n', D', h1, h2, h3⟩
  exact ⟨rfl, ⟨⟨k, n', D', h1⟩, hp.upd h3 (fun x hx e => hP (e ▸ hx))⟩, h3⟩
theorem tx_k {w : World} : (⟨some ⟨w.heap.size, 0, none⟩, 1, [107]⟩ : Tx).Ok (w.alloc (.cells #[.int .u8 107] 5 (1, 2))) := by
  refine ⟨fun i hi => ?_, (fun e => by cases e), (by simp), fun c hc => ?_, (by simp)⟩
  · obtain rfl : i = 0 := by simp at hi; omega
    exact ⟨w.heap.size, 0, rfl, by rw [cell_of_row _ _ _ _ _ _ (heap_alloc_new w _)]; rfl⟩
  · simp only [List.mem_singleton] at hc; omega

set_option maxRecDepth 100000 in
set_option maxHeartbeats 3200000 in
theorem dhead_any (w : World) : Calls Tryz.prog 17 #[] w fun e w' => e = .returned (.bool true) ∧ Below w.heap.size w w' := by
  have HBG := hide (begun_good 3 w (by decide) (by decide))
  go_enter Tryz.func17, Tryz.ntmps17
  go_wp2_with fail
  refine HBG.out.mono ?_
  rintro e w1 ⟨P0, AX, AY, rfl, hA, hb⟩
  obtain ⟨c0, c1⟩ := hA.cells
  have hPl : P0 < w1.heap.size := hA.klt P0 hA.kp
  have HPX : Hid (∃ F, PX w1 AX F (AS.new 3)) := hA.px
  have B1 := hide hb
  obtain ⟨w2, hw2⟩ : ∃ w2, w2 = w1.alloc (.cells #[.int .u8 107] 5 (1, 2)) := ⟨_, rfl⟩
  have b2 : Below w1.heap.size w1 w2 := by rw [hw2]; exact (Below.refl _ _).alloc (Nat.le_refl _) _
  have HT : Hid ((⟨some ⟨w1.heap.size, 0, none⟩, 1, [107]⟩ : Tx).Ok w2) := by show Tx.Ok _ _; rw [hw2]; exact tx_k
  have HN := hide (dnew_any (A := AX) _ 0 HT.out)
  simp only [Tx.v, show ([107] : List Int).length = 1 from rfl] at HN
  have q2 := Lib.run_convert_bytes_const (P := Tryz.prog) w1 39 5 #[.int .u8 107] 1 1 Tryz.underlying39 Tryz.underlying5
  simp only [show (#[Value.int .u8 107] : Array Value).size = 1 from rfl] at q2
  have HW2 := hide hw2
  have B2 := hide b2
  clear hA hb hw2 b2 HBG HT
  go_wp2_with fail
  rw [← HW2.out]
  refine HN.out.mono ?_
  rintro e w3 ⟨P, k, n, D, rfl, hm, hP, hD, hb3⟩
  obtain ⟨F, hF⟩ := HPX.out
  have hFl := hF.lt
  have B23 := hide (B2.out.trans (hb3.mono B2.out.size))
  have hP2 : w1.heap.size ≤ P := Nat.le_trans B2.out.size hP
  have HFP : Hid (¬ F P) := fun e => by have := hFl P e; omega
  have H0 : Hid (HdS w3 P AX 0 F ∧ Below w.heap.size w w3) := ⟨⟨⟨k, n, D, hm⟩, hF.upd (S := Noth) (Upd.of_below B23.out _) (fun _ _ e => e)⟩, B1.out.trans (B23.out.mono B1.out.size)⟩
  have HPw : Hid (w.heap.size ≤ P) := Nat.le_trans B1.out.size hP2
  clear hm hP hD hb3 hF hFl hP2 HN HW2 HPX B23 B2 B1 c0 c1 hPl
  go_wp2_with fail
  go_loopw [4] (fun q wr => ∃ i : Nat, i ≤ 4 ∧ q = .int .i64 (i : Int) ∧ Hid (HdS wr P AX i F ∧ Below w.heap.size w wr)) (fun q _ => 4 - (intOf q).toNat)
  case atStart => exact ⟨0, Nat.zero_le _, rfl, H0⟩
  case round =>
    clear H0
    obtain ⟨i, hi, rfl, HI⟩ := hrel
    rename World => wr
    by_cases hlt : i < 4
    · have j1 : (i : Int) < 4 := by omega
      have HS := hide (hd_step HI.out.1 (by omega) HFP.out)
      rw [decide_eq_false (by have := hst_lt i hlt; omega)] at HS
      go_wp2_with fail
      refine HS.out.mono ?_
      rintro e w4 ⟨rfl, h1, h2⟩
      have HI2 : Hid (HdS w4 P AX (i + 1) F ∧ Below w.heap.size w w4) := ⟨h1, HI.out.2.trans (h2.below HI.out.2.size (fun k hk e => by have := HPw.out; omega))⟩
      clear h1 h2 HS
      go_wp2_with fail
      go_roundw
      case rel => exact ⟨i + 1, by omega, by go_num, HI2⟩
      case measure => simp [intOf]; omega
    · have j1 : ¬ (i : Int) < 4 := by omega
      obtain rfl : i = 4 := by omega
      have HS := hide (hd_step HI.out.1 (by omega) HFP.out)
      rw [decide_eq_true (by rw [hst_facts.2.2.2.2.1]; decide)] at HS
      go_wp2_with fail
      refine HS.out.mono ?_
      rintro e w4 ⟨rfl, h1, h2⟩
      have B4 : Hid (Below w.heap.size w w4) := HI.out.2.trans (h2.below HI.out.2.size (fun k hk e => by have := HPw.out; omega))
      obtain ⟨⟨k4, n4, D4, h4⟩, _⟩ := h1
      have HAT := hide (dat_any h4 (by rw [hst_facts.2.2.2.2.1]; decide))
      rw [hst_facts.2.2.2.2.2.1, hst_facts.2.2.2.2.2.2.1, hst_facts.2.2.2.2.2.2.2] at HAT
      clear h4 h2 HS HI
      go_wp2_with fail
      refine HAT.out.mono ?_
      rintro e w5 ⟨⟨lv, ⟨ha, hc, hs⟩, ri, ⟨ka, kc, K⟩, ⟨va, vc, V⟩, ⟨ca, cc, C⟩⟩, rfl, hp5, ho5, hb5⟩
      have hK : K.length = 0 := by
        have : (⟨ka, kc, K⟩ : TL).p = [] := congrArg NP.ks hp5
        rw [← TL.p_len ⟨ka, kc, K⟩, this]; rfl
      have B5 := hide (B4.out.trans (hb5.mono B4.out.size))
      simp only [Nd.v, Tx.v, TL.v, IL.v, hK]
      simp only [show (((0 : Nat)) : Int) = 0 from rfl]
      generalize hs.length = lh at *
      generalize V.length = lw at *
      generalize C.length = lc at *
      clear hp5 ho5 hb5 hK HAT
      go_wp2_with fail
      go_ret
      exact ⟨rfl, B5.out.trans (((Below.refl _ _).alloc (Nat.le_refl _) _).mono B5.out.size)⟩
end Go.Proofs.YtibifkindpgkgaaGreat

namespace Go.Proofs.YtibifkindpgkgaaGreat
open Go.RowKit
set_option maxRecDepth 100000

/-- A chain that begins with a number and its low. -/
def Lk (s : AS) : Int → List Int → Chn → Prop
  | _, _, [] => False
  | id, low, x :: r => x = (id, low) ∧ (((s.n id).ri = 0 ∧ r = []) ∨ ((s.n id).ri ≠ 0 ∧ Lk s (s.n id).ri (s.n id).hi r))
theorem Lk.ne {s : AS} {id : Int} {low : List Int} {c : Chn} (h : Lk s id low c) : c ≠ [] := by
  rintro rfl; exact h
theorem Lk.head {s : AS} {id : Int} {low : List Int} {c : Chn} (h : Lk s id low c) : ∃ r, c = (id, low) :: r := by
  cases c with
  | nil => exact h.elim
  | cons x r => exact ⟨r, by rw [h.1]⟩
theorem chn_lk {s : AS} {ck : NP → Int} {lev : Int} {old : List Int} : ∀ (f : Nat) (id : Int) (low : List Int) (cur ch : Chn), s.chn ck lev old f id low cur = .inr ch → ∃ r, ch = cur ++ r ∧ Lk s id low r
  | 0, _, _, _, _, h => by rw [AS.chn] at h; cases h
  | f + 1, id, low, cur, ch, h => by
    rw [AS.chn] at h
    split at h
    · cases h
    · split at h
      · rename_i h2
        cases h
        exact ⟨[(id, low)], rfl, rfl, .inl ⟨h2, rfl⟩⟩
      · rename_i h2
        obtain ⟨r, rfl, hr⟩ := chn_lk f _ _ _ _ h
        exact ⟨(id, low) :: r, by simp, rfl, .inr ⟨h2, hr⟩⟩
theorem wchn_ok {s : AS} {ck : NP → Int} {lev : Int} {old : List Int} : ∀ (f : Nat) (id : Int) (low : List Int) (cur ch : Chn), s.chn ck lev old f id low cur = .inr ch → Met s (old ++ cur.map (·.1)) → ChnOk s ck lev cur → Met s (old ++ ch.map (·.1)) ∧ ChnOk s ck lev ch
  | 0, _, _, _, _, h, _, _ => by rw [AS.chn] at h; cases h
  | f + 1, id, low, cur, ch, h, hm, hc => by
    rw [AS.chn] at h
    split at h
    · cases h
    · rename_i he
      have he' : s.metE ck lev low (old ++ cur.map (·.1)) id = 0 := Decidable.not_not.1 he
      have hm' : Met s (old ++ (cur ++ [(id, low)]).map (·.1)) := by
        have := hm.add he'
        rw [List.map_append, ← List.append_assoc]
        exact this
      split at h
      · cases h
        exact ⟨hm', hc.add he'⟩
      · exact wchn_ok f _ _ _ _ h hm' (hc.add he')
/-- From each of its nodes on it is a chain. -/
theorem Lk.suf {s : AS} : ∀ (c : Chn) (id : Int) (low : List Int), Lk s id low c → ∀ x ∈ c, ∃ a r, c = a ++ r ∧ Lk s x.1 x.2 r
  | [], _, _, h, _, _ => h.elim
  | y :: c, id, low, h, x, hx => by
    obtain ⟨rfl, h2⟩ := h
    rcases List.mem_cons.1 hx with rfl | hx
    · exact ⟨[], (id, low) :: c, rfl, rfl, h2⟩
    · rcases h2 with ⟨_, rfl⟩ | ⟨_, h3⟩
      · cases hx
      · obtain ⟨a, r, rfl, hr⟩ := Lk.suf c _ _ h3 x hx
        exact ⟨(id, low) :: a, r, rfl, hr⟩
/-- The chains of a tree from a level down. -/
def Lv (s : AS) (ck : NP → Int) : Int → Int → Chn → List Chn → Prop
  | _, _, _, [] => False
  | lev, id, up, c :: r => Lk s id [] c ∧ ChnOk s ck lev c ∧ (∀ x ∈ up, s.kidsOk c x) ∧ ((lev = 0 ∧ r = []) ∨ (lev ≠ 0 ∧ Lv s ck (lev - 1) (s.first c) c r))
theorem wstray_none {s : AS} {up down : Chn} (h : s.stray up down = none) : ∀ x ∈ up, s.kidsOk down x := by
  unfold AS.stray at h
  rw [Option.map_eq_none_iff, List.find?_eq_none] at h
  intro x hx
  have := h x hx
  simpa using this
theorem lvs_lv {s : AS} {ck : NP → Int} : ∀ (f : Nat) (lev id : Int) (outs ls : List Chn), s.lvs ck f lev id outs = .inr ls → Met s (idsOf outs) → ∃ r, ls = outs ++ r ∧ Lv s ck lev id (outs.getLastD []) r ∧ Met s (idsOf ls)
  | 0, _, _, _, _, h, _ => by rw [AS.lvs] at h; cases h
  | f + 1, lev, id, outs, ls, h, hm => by
    rw [AS.lvs] at h
    split at h
    · cases h
    · rename_i cur hc
      obtain ⟨r0, e0, hk⟩ := chn_lk _ _ _ _ _ hc
      rw [List.nil_append] at e0
      subst e0
      obtain ⟨hm1, hco⟩ := wchn_ok _ _ _ _ _ hc (by rw [List.map_nil, List.append_nil]; exact hm) (ChnOk.nil _ _ _)
      rw [← ids_snoc] at hm1
      split at h
      · cases h
      · rename_i hs
        have hs' := wstray_none hs
        split at h
        · rename_i h0
          cases h
          exact ⟨[cur], rfl, ⟨hk, hco, hs', .inl ⟨h0, rfl⟩⟩, hm1⟩
        · rename_i h0
          obtain ⟨r, rfl, hr, hm2⟩ := lvs_lv f _ _ _ _ h hm1
          refine ⟨cur :: r, by simp, ⟨hk, hco, hs', .inr ⟨h0, ?_⟩⟩, hm2⟩
          have e : (outs ++ [cur]).getLastD [] = cur := by simp [List.getLastD_eq_getLast?]
          rw [e] at hr
          exact hr
theorem Lv.len {s : AS} {ck : NP → Int} : ∀ (ls : List Chn) (lev id : Int) (up : Chn), Lv s ck lev id up ls → (ls.length : Int) = lev + 1
  | [], _, _, _, h => h.elim
  | c :: r, lev, id, up, h => by
    obtain ⟨_, _, _, h4⟩ := h
    rcases h4 with ⟨rfl, rfl⟩ | ⟨_, h5⟩
    · rfl
    · have := Lv.len r _ _ _ h5
      rw [List.length_cons]; omega
/-- A look that is good. -/
structure Snd (s : AS) (nd lf inn fl bk : Int) (ls : List Chn) : Prop where
  cfg : cfgOk nd lf inn fl bk
  ev : ∀ id, s.inn id → s.w id % 2 = 0
  lv : Lv s (fun p => nchkE p nd lf inn fl bk) (s.rd s.root).lv s.root [] ls
  met : Met s (idsOf ls)
theorem held_even {s : AS} (h : s.held = []) : ∀ id, s.inn id → s.w id % 2 = 0 := by
  intro id hi
  unfold AS.held heldL heldN at h
  rw [List.map_eq_nil_iff, List.filter_eq_nil_iff] at h
  unfold AS.inn at hi
  have h1 := h (id - 1).toNat (by rw [List.mem_range, List.length_map]; omega)
  have e : ((s.sl.map (·.1)).getD (id - 1).toNat 0) = s.w id := by
    unfold AS.w
    generalize (id - 1).toNat = i
    rw [List.getD_eq_getElem?_getD, List.getD_eq_getElem?_getD, List.getElem?_map]
    cases s.sl[i]? <;> rfl
  rw [e] at h1
  simp only [decide_eq_true_eq] at h1
  omega
theorem look_snd {s : AS} {nd lf inn fl bk : Int} {ls : List Chn} (h : s.look nd lf inn fl bk = .inr ls) : Snd s nd lf inn fl bk ls := by
  unfold AS.look at h
  split at h
  · rename_i hc
    split at h
    · cases h
    · rename_i hh
      obtain ⟨r, e, h1, h2⟩ := lvs_lv _ _ _ _ _ h (Met.nil s)
      rw [List.nil_append] at e
      subst e
      exact ⟨hc, held_even hh, h1, h2⟩
  · cases h
theorem nchk_more {p : NP} {nd lf inn fl bk : Int} (h : nchkE p nd lf inn fl bk = 0) : (p.hi.length = 0 ↔ p.ri = 0) ∧ 0 ≤ p.lv ∧ (p.lv ≠ 0 → p.cs.length = p.ks.length + 1) ∧ (p.lv = 0 → p.vs.length = p.ks.length) ∧ KyP p.hi p.ks := by
  unfold nchkE at h
  split at h
  · split at h
    · rename_i h2
      obtain ⟨⟨⟨h3, _⟩, h6, _⟩, h4, _, h5⟩ := h2
      refine ⟨h6, h3.1, fun hp => ?_, fun hp => ?_, h4⟩
      · rw [if_neg hp] at h5
        exact h5.1.2
      · rw [if_pos hp] at h5
        exact h5.1.2
    · omega
  · omega
/-- The key ahead of the child that a key belongs to is not above it. -/
theorem cntL_at {ks : List (List Int)} {key : List Int} (h : Rs ks) {j : Nat} (hj : cntL ks key = j + 1) : 0 ≤ cmpI key (ks.getD j []) := by
  refine Decidable.byContradiction fun hc => ?_
  have hlt : cmpI key (ks.getD j []) < 0 := by omega
  have hle := cntL_le ks key
  have hjl : j < ks.length := by omega
  have e : cntL ks key = cntL (ks.take j) key + cntL (ks.drop j) key := by
    unfold cntL
    rw [← List.countP_append, List.take_append_drop]
  have h0 : cntL (ks.drop j) key = 0 := by
    unfold cntL
    rw [List.countP_eq_zero]
    intro x hx
    simp only [decide_eq_true_eq]
    obtain ⟨i, hi, rfl⟩ := List.getElem_of_mem hx
    rw [List.getElem_drop]
    rw [List.length_drop] at hi
    have hg : ks.getD (j + i) [] = ks[j + i]'(by omega) := by simp [show j + i < ks.length by omega]
    rw [← hg]
    rcases Nat.eq_zero_or_pos i with rfl | hi0
    · rw [Nat.add_zero]; omega
    · have := h.far (i - 1) j (by omega)
      rw [show j + (i - 1) + 1 = j + i by omega] at this
      have := cmp_lt_trans hlt this
      omega
  have h1 := cntL_le (ks.take j) key
  rw [List.length_take] at h1
  omega

/-- Steps one behind the other. -/
def MS.run (m : MS) (s : AS) : Nat → MS
  | 0 => m
  | n + 1 => (m.run s n).step s
theorem MS.run_add (m : MS) (s : AS) (a : Nat) : ∀ b, m.run s (a + b) = (m.run s a).run s b
  | 0 => rfl
  | b + 1 => by
    show (m.run s (a + b)).step s = ((m.run s a).run s b).step s
    rw [MS.run_add m s a b]
theorem MS.run_fix {m : MS} {s : AS} (h : 5 ≤ m.nx) : ∀ k, m.run s k = m
  | 0 => rfl
  | k + 1 => by
    show (m.run s k).step s = m
    rw [MS.run_fix h k, MS.step, if_neg (by omega), if_pos h]
theorem MS.run_end {m : MS} {s : AS} {k n : Nat} (h : 5 ≤ (m.run s k).nx) (hk : k ≤ n) : m.run s n = m.run s k := by
  obtain ⟨d, rfl⟩ : ∃ d, n = k + d := ⟨n - k, by omega⟩
  rw [MS.run_add, MS.run_fix h]
theorem ms_four {s : AS} {key : List Int} {lev id : Int} {wd : Nat} {nd : NP} {an mo : Nat} (hin : s.inn id) (he : s.w id % 2 = 0) : (⟨key, lev, 1, id, wd, nd, an, mo⟩ : MS).run s 4 = (⟨key, lev, 4, id, s.w id, s.n id, an, mo⟩ : MS).choose := by
  have e1 : (⟨key, lev, 1, id, wd, nd, an, mo⟩ : MS).step s = ⟨key, lev, 2, id, s.w id, nd, an, mo⟩ := by
    simp only [MS.step, hin, he]; simp
  have e2 : (⟨key, lev, 2, id, s.w id, nd, an, mo⟩ : MS).step s = ⟨key, lev, 3, id, s.w id, nd.setH (s.n id).lv (s.n id).hi (s.n id).ri, an, mo⟩ := by
    simp only [MS.step, hin]; simp
  have e3 : (⟨key, lev, 3, id, s.w id, nd.setH (s.n id).lv (s.n id).hi (s.n id).ri, an, mo⟩ : MS).step s = ⟨key, lev, 4, id, s.w id, s.n id, an, mo⟩ := by
    simp only [MS.step, hin, NP.setH, NP.setB]; simp
  have e4 : (⟨key, lev, 4, id, s.w id, s.n id, an, mo⟩ : MS).step s = (⟨key, lev, 4, id, s.w id, s.n id, an, mo⟩ : MS).choose := by
    simp only [MS.step, hin, MS.valid]; simp
  show (((((⟨key, lev, 1, id, wd, nd, an, mo⟩ : MS).step s).step s).step s).step s) = _
  rw [e1, e2, e3, e4]
theorem ms_run4 (m : MS) (s : AS) (k : Nat) : m.run s (4 + k) = (m.run s 4).run s k := m.run_add s 4 k
/-- How many nodes there are in chains. -/
def cntC (ls : List Chn) : Nat := (idsOf ls).length
theorem cntC_cons (c : Chn) (r : List Chn) : cntC (c :: r) = c.length + cntC r := by simp [cntC, idsOf]

/-- From a node of a chain to where a key belongs. -/
theorem way {s : AS} {nd lf inn fl bk : Int} {key : List Int} {lev : Int} (hev : ∀ id, s.inn id → s.w id % 2 = 0) (hlev : 0 ≤ lev) :
    ∀ (n : Nat) (l id : Int) (low : List Int) (rest up : Chn) (below : List Chn) (wd : Nat) (nd0 : NP) (an mo : Nat), rest.length + cntC below ≤ n → Lk s id low rest → (∀ x ∈ rest, x ∈ up) → ChnOk s (fun p => nchkE p nd lf inn fl bk) l up → (∀ x ∈ up, s.inn x.1) → (∀ c ∈ below, ∀ x ∈ c, s.inn x.1) →
      ((l = 0 ∧ below = []) ∨ (l ≠ 0 ∧ Lv s (fun p => nchkE p nd lf inn fl bk) (l - 1) (s.first up) up below)) → 0 ≤ cmpI key low → lev ≤ l →
      ∃ k, k ≤ 4 * n ∧ ∃ x ∈ (up :: below).getD (l - lev).toNat [], ∃ mo', (⟨key, lev, 1, id, wd, nd0, an, mo⟩ : MS).run s k = ⟨key, lev, 5, x.1, s.w x.1, s.n x.1, an, mo'⟩ ∧ beyB (s.n x.1).hi key = false ∧ 0 ≤ cmpI key x.2
  | 0, l, id, low, rest, up, below, wd, nd0, an, mo, hn, hk, _, _, _, _, _, _, _ => by
    have := List.length_pos_iff.2 hk.ne; omega
  | n + 1, l, id, low, rest, up, below, wd, nd0, an, mo, hn, hk, hsub, hco, hin, hinb, hb, hlow, hl => by
    obtain ⟨r, rfl⟩ := hk.head
    have hmem : (id, low) ∈ up := hsub _ List.mem_cons_self
    have hi := hin _ hmem
    have hlv := hco.lv _ hmem
    obtain ⟨f1, f2, f3, f4, f5⟩ := nchk_more (hco.ck _ hmem)
    simp only at hi hlv f1 f2 f3 f4 f5
    have h4 := ms_four (key := key) (lev := lev) (wd := wd) (nd := nd0) (an := an) (mo := mo) hi (hev _ hi)
    rw [MS.choose, if_neg (by simp only; omega)] at h4
    simp only at h4
    rw [List.length_cons] at hn
    by_cases hbey : beyB (s.n id).hi key = true
    · rw [if_pos hbey] at h4
      unfold beyB at hbey
      simp only [Bool.and_eq_true, decide_eq_true_eq] at hbey
      have hri : (s.n id).ri ≠ 0 := fun e => by have := f1.2 e; omega
      have hk2 : Lk s (s.n id).ri (s.n id).hi r := by
        rcases hk.2 with h | h
        · exact absurd h.1 hri
        · exact h.2
      obtain ⟨k, hk3, x, hx, mo', e1, e2, e3⟩ := way hev hlev n l _ _ r up below 0 NP.zero an (mo + 1) (by omega) hk2 (fun x hx => hsub x (List.mem_cons_of_mem _ hx)) hco hin hinb hb hbey.2 hl
      exact ⟨4 + k, by omega, x, hx, mo', by rw [ms_run4, h4]; exact e1, e2, e3⟩
    · rw [if_neg hbey] at h4
      have hbey' : beyB (s.n id).hi key = false := by simpa using hbey
      by_cases hll : (s.n id).lv = lev
      · rw [if_pos hll] at h4
        refine ⟨4, by omega, (id, low), ?_, mo, h4, hbey', hlow⟩
        rw [show (l - lev).toNat = 0 by omega]
        exact hmem
      · rw [if_neg hll] at h4
        rcases hb with ⟨h0, _⟩ | ⟨h0, hL⟩
        · omega
        · cases below with
          | nil => exact hL.elim
          | cons c b2 =>
            obtain ⟨g1, g2, g3, g4⟩ := hL
            have hkid := g3 _ hmem
            have hcs := f3 (by omega)
            have hcl := cntL_le (s.n id).ks key
            have hj : min (cntL (s.n id).ks key) ((s.n id).cs.length - 1) = cntL (s.n id).ks key := by omega
            have hy := hkid (cntL (s.n id).ks key) (by simp only; omega)
            have hch : chiN (s.n id).ks (s.n id).cs key = (s.kidAt (id, low) (cntL (s.n id).ks key)).1 := by
              unfold chiN AS.kidAt
              rw [if_neg (by omega), hj]
            have hlo2 : 0 ≤ cmpI key (s.kidAt (id, low) (cntL (s.n id).ks key)).2 := by
              unfold AS.kidAt
              simp only
              by_cases hz : cntL (s.n id).ks key = 0
              · rw [if_pos hz]; exact hlow
              · rw [if_neg hz]
                exact cntL_at f5.rs (by omega)
            generalize s.kidAt (id, low) (cntL (s.n id).ks key) = y at *
            obtain ⟨a, r2, e2, hk4⟩ := Lk.suf c _ _ g1 y hy
            rw [cntC_cons, e2, List.length_append] at hn
            obtain ⟨k, hk3, x, hx, mo', e1, e3, e4⟩ := way hev hlev n (l - 1) _ _ r2 c b2 0 NP.zero an mo (by omega) hk4 (fun x hx => by rw [e2]; exact List.mem_append_right _ hx) g2 (hinb c List.mem_cons_self) (fun d hd => hinb d (List.mem_cons_of_mem _ hd)) g4 hlo2 (by omega)
            refine ⟨4 + k, by omega, x, ?_, mo', ?_, e3, e4⟩
            · rw [show (l - lev).toNat = (l - 1 - lev).toNat + 1 by omega]
              exact hx
            · rw [ms_run4, h4, hch]; exact e1
theorem Snd.in_ {s : AS} {nd lf inn fl bk : Int} {ls : List Chn} (h : Snd s nd lf inn fl bk ls) : ∀ c ∈ ls, ∀ x ∈ c, s.inn x.1 := fun c hc x hx =>
  h.met.inn _ (List.mem_flatMap.2 ⟨c, hc, List.mem_map.2 ⟨x, hx, rfl⟩⟩)
theorem Snd.cnt {s : AS} {nd lf inn fl bk : Int} {ls : List Chn} (h : Snd s nd lf inn fl bk ls) : cntC ls ≤ s.sl.length := h.met.len
/-- A descent in a sound tree that nobody turns: through in time, without beginning anew, where the key belongs. -/
theorem alone {s : AS} {nd lf inn fl bk : Int} {ls : List Chn} (h : Snd s nd lf inn fl bk ls) (key : List Int) (lev : Nat) (hl : lev ≤ ls.length) :
    ((MS.new key lev).run s (1 + 4 * s.sl.length)).an = 0 ∧ 5 ≤ ((MS.new key lev).run s (1 + 4 * s.sl.length)).nx ∧
    (lev = ls.length → ((MS.new key lev).run s (1 + 4 * s.sl.length)).id = 0 ∧ ((MS.new key lev).run s (1 + 4 * s.sl.length)).wd = 0 ∧ ((MS.new key lev).run s (1 + 4 * s.sl.length)).nd = NP.zero) ∧
    (lev < ls.length → ∃ x ∈ ls.getD (ls.length - 1 - lev) [], ((MS.new key lev).run s (1 + 4 * s.sl.length)).id = x.1 ∧ ((MS.new key lev).run s (1 + 4 * s.sl.length)).wd = s.w x.1 ∧ ((MS.new key lev).run s (1 + 4 * s.sl.length)).nd = s.n x.1 ∧ beyB (s.n x.1).hi key = false ∧ 0 ≤ cmpI key x.2) := by
  have hlen := h.lv.len
  have hlv := h.lv
  have hin := h.in_
  have hcnt := h.cnt
  generalize hL : (s.rd s.root).lv = L at *
  cases ls with
  | nil => exact hlv.elim
  | cons c r =>
    obtain ⟨g1, g2, _, g4⟩ := hlv
    obtain ⟨q, rfl⟩ := g1.head
    have hroot : s.inn s.root := hin _ List.mem_cons_self _ List.mem_cons_self
    have e0 : (MS.new key lev).run s 1 = ⟨key, lev, 1, s.root, 0, NP.zero, 0, 0⟩ := rfl
    rw [cntC_cons] at hcnt
    have hne : 1 ≤ s.sl.length := by rw [List.length_cons] at hcnt; omega
    rcases Nat.lt_or_ge lev ((((s.root, []) :: q : Chn) :: r).length) with hlt | hge
    · obtain ⟨k, hk, x, hx, mo', e1, e2, e3⟩ := way (nd := nd) (lf := lf) (inn := inn) (fl := fl) (bk := bk) (key := key) (lev := lev) h.ev (by omega) s.sl.length L s.root [] ((s.root, []) :: q) ((s.root, []) :: q) r 0 NP.zero 0 0 hcnt g1 (fun _ h => h) g2 (hin _ List.mem_cons_self) (fun d hd => hin d (List.mem_cons_of_mem _ hd)) g4 (cmp_nil_le key) (by omega)
      have e4 : (MS.new key lev).run s (1 + k) = ⟨key, lev, 5, x.1, s.w x.1, s.n x.1, 0, mo'⟩ := by rw [MS.run_add, e0, e1]
      have e5 : (MS.new key lev).run s (1 + 4 * s.sl.length) = ⟨key, lev, 5, x.1, s.w x.1, s.n x.1, 0, mo'⟩ := by
        rw [← e4]; exact MS.run_end (by rw [e4]; simp) (by omega)
      rw [e5]
      refine ⟨rfl, Nat.le_refl 5, fun e => by omega, fun _ => ⟨x, ?_, rfl, rfl, rfl, e2, e3⟩⟩
      rw [show (((s.root, []) :: q : Chn) :: r).length - 1 - lev = (L - lev).toNat by omega]
      exact hx
    · have he : lev = (((s.root, []) :: q : Chn) :: r).length := by omega
      have hrl := g2.lv _ List.mem_cons_self
      have h4 := ms_four (key := key) (lev := lev) (wd := 0) (nd := NP.zero) (an := 0) (mo := 0) hroot (h.ev _ hroot)
      rw [MS.choose, if_pos (by simp only; simp only at hrl; omega)] at h4
      have e4 : (MS.new key lev).run s (1 + 4) = ⟨key, lev, 6, 0, 0, NP.zero, 0, 0⟩ := by rw [MS.run_add, e0, h4]; rfl
      have e5 : (MS.new key lev).run s (1 + 4 * s.sl.length) = ⟨key, lev, 6, 0, 0, NP.zero, 0, 0⟩ := by
        rw [← e4]; exact MS.run_end (by rw [e4]; simp) (by omega)
      rw [e5]
      exact ⟨rfl, Nat.le_succ 5, fun _ => ⟨rfl, rfl, rfl⟩, fun e => by omega⟩
theorem MS.step_cnt (m : MS) (s : AS) : (m.step s).an ≤ m.an + 1 ∧ (m.step s).mo ≤ m.mo + 1 := by
  unfold MS.step MS.valid MS.choose MS.goTo MS.fail
  repeat' split
  all_goals first | omega | (simp only; omega)
theorem MS.run_cnt (m : MS) (s : AS) : ∀ k, (m.run s k).an ≤ m.an + k ∧ (m.run s k).mo ≤ m.mo + k
  | 0 => ⟨Nat.le_refl _, Nat.le_refl _⟩
  | k + 1 => by
    have h1 := MS.run_cnt m s k
    have h2 := MS.step_cnt (m.run s k) s
    exact ⟨by show ((m.run s k).step s).an ≤ _; omega, by show ((m.run s k).step s).mo ≤ _; omega⟩
end Go.Proofs.YtibifkindpgkgaaGreat
