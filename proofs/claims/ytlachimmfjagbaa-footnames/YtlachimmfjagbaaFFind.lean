/- foot: Find, of both sides. -/
import Derived.Test.YtlachimmfjagbaaFRCheck
namespace Go.Proofs.Ytlachimmfjagbaa
open Go.RowKit

/-- Is row i's key not below? -/
def fnd (l : List FRow) (key : List Int) (i : Nat) : Prop := 0 ≤ cmpI (l.getD i default).k key
instance (l : List FRow) (key : List Int) (i : Nat) : Decidable (fnd l key i) := by unfold fnd; exact inferInstance
theorem fnd_up {l : List FRow} {key : List Int} {n : Nat} (h : Gd l n) : ∀ d i, i + d < n → fnd l key i → fnd l key (i + d)
  | 0, i, _, hf => hf
  | d + 1, i, hi, hf => by
    have q := fnd_up h d i (by omega) hf
    have r := (h.row (i + d + 1) (by omega)).2.1
    rw [kAt_succ] at r
    unfold fnd at q ⊢
    show 0 ≤ cmpI (l.getD (i + d + 1) default).k key
    apply Decidable.byContradiction
    intro hc
    have t := cmpI_trans (l.getD (i + d) default).k (l.getD (i + d + 1) default).k key (by omega) (by omega)
    have := t.2 r
    omega

set_option maxRecDepth 100000 in
set_option maxHeartbeats 800000 in
theorem find1_any {W : World} {gl gk : Nat} {b o n c : Nat} {ka : Option Addr} {kl kc : Nat} {L : List Spn} {key : List Int} (hl : W.cell? ⟨gl, 0, none⟩ = some (.slice (some ⟨b, o, none⟩) n c)) (hk : W.cell? ⟨gk, 0, none⟩ = some (.slice ka kl kc)) (hS : Sps W b o L) (hn : L.length = n) (_hm : n ≤ 140737488351232) (hr : Row W .u8 ka key) (hkl : key.length = kl) (k8 : B8 key) (i : Nat) (hi : i < n) :
    Calls Try.prog 36 #[.int .i64 (i : Int), .pointer (some ⟨gl, 0, none⟩), .pointer (some ⟨gk, 0, none⟩)] W fun e w' => e = .returned (.bool (decide (fnd (rws L) key i))) ∧ Below W.heap.size W w' := by
  have hiL : i < L.length := by omega
  have s0 := (hS.c i hiL).c0
  have ok := hS.ok i hiL
  unfold Spn.kv at s0
  obtain ⟨cv, hcv⟩ : ∃ cv, cv = cmpI L[i].ks key := ⟨_, rfl⟩
  have hcr := cmpI_fits L[i].ks key
  rw [← hcv] at hcr
  have hd : decide (fnd (rws L) key i) = decide (0 ≤ cv) := by
    rw [decide_eq_decide]
    unfold fnd
    rw [rws_at L i hiL, hcv]
    exact Iff.rfl
  rw [hd]
  obtain ⟨nk, hnk⟩ : ∃ nk, L[i].ks.length = nk := ⟨_, rfl⟩
  rw [hnk] at s0
  have HCM : Hid (∀ q, Calls Try.prog 37 #[.slice L[i].ka nk L[i].kc, .slice ka kl kc] (W.drewN q) fun e w' => e = .returned (.int .i64 cv) ∧ ∃ m, w' = W.drewN m) := fun q => by
    rw [hcv]
    refine (compare_any L[i].ka ka nk L[i].kc kl kc L[i].ks key (W.drewN q) hnk hkl (show Row W .u8 _ _ from ok.k) (show Row W .u8 _ _ from hr) ok.k8 k8).mono ?_
    rintro e w' ⟨rfl, rfl⟩
    exact ⟨rfl, q, rfl⟩
  generalize L[i].ka = la at *
  generalize L[i].kc = lc at *
  have j1 : (i : Int) < (n : Int) := by omega
  have j2 : (0 : Int) ≤ (i : Int) := by omega
  clear hd hcv hS ok hr k8 hnk hkl
  go_enter Try.func36, Try.ntmps36
  go_wp2_with fail
  go_quiet ((go_at_call 37; with_reducible exact HCM.out _))
  go_wp2_with fail
  go_ret
  exact ⟨rfl, below_of_drewNF (Below.refl _ _) _⟩

/-- Where Search ends. -/
def IsSr (l : List FRow) (key : List Int) (n k : Nat) : Prop := k ≤ n ∧ (0 < k → ¬ fnd l key (k - 1)) ∧ (k < n → fnd l key k)

set_option maxRecDepth 100000 in
set_option maxHeartbeats 800000 in
theorem fsearch_any {W : World} {gl gk : Nat} {b o n c : Nat} {a ka : Option Addr} {kl kc : Nat} {L : List Spn} {key : List Int} (hl : W.cell? ⟨gl, 0, none⟩ = some (.slice a n c)) (ha : 0 < n → a = some ⟨b, o, none⟩) (hk : W.cell? ⟨gk, 0, none⟩ = some (.slice ka kl kc)) (hS : Sps W b o L) (hn : L.length = n) (hm : n ≤ 140737488351232) (hr : Row W .u8 ka key) (hkl : key.length = kl) (k8 : B8 key) :
    Calls Try.prog 35 #[.int .i64 (n : Int), .func (.func 36) #[] #[.pointer (some ⟨gl, 0, none⟩), .pointer (some ⟨gk, 0, none⟩)]] W fun e w' => ∃ k : Nat, e = .returned (.int .i64 (k : Int)) ∧ IsSr (rws L) key n k ∧ Below W.heap.size W w' := by
  have HS : Hid (∀ W', Below W.heap.size W W' → ∀ i, i < n → Calls Try.prog 36 #[.int .i64 (i : Int), .pointer (some ⟨gl, 0, none⟩), .pointer (some ⟨gk, 0, none⟩)] W' fun e w' => e = .returned (.bool (decide (fnd (rws L) key i))) ∧ Below W'.heap.size W' w') := fun W' hb i hi => by
    obtain rfl := ha (by omega)
    exact find1_any ((hb.cell (p := ⟨gl, 0, none⟩) (World.block_lt_of_cell? W ⟨gl, 0, none⟩ hl)).trans hl) ((hb.cell (p := ⟨gk, 0, none⟩) (World.block_lt_of_cell? W ⟨gk, 0, none⟩ hk)).trans hk) (hS.below hb) hn hm (hr.below2 hb) hkl k8 i hi
  clear hl ha hk hS hr k8
  go_enter Try.func35, Try.ntmps35
  go_wp2_with fail
  go_loopw [5, 6] (fun q5 q6 wr => ∃ i j : Nat, i ≤ j ∧ j ≤ n ∧ q5 = .int .i64 (i : Int) ∧ q6 = .int .i64 (j : Int) ∧ Hid (0 < i → ¬ fnd (rws L) key (i - 1)) ∧ Hid (j < n → fnd (rws L) key j) ∧ Hid (Below W.heap.size W wr)) (fun q5 q6 _ => (intOf q6).toNat - (intOf q5).toNat)
  case atStart => exact ⟨0, n, Nat.zero_le _, Nat.le_refl _, rfl, rfl, fun h => absurd h (Nat.lt_irrefl _), fun h => absurd h (Nat.lt_irrefl _), Below.refl _ _⟩
  case round =>
    obtain ⟨i, j, hij, hjr, rfl, rfl, HL, HH, HW⟩ := hrel
    rename World => wr
    by_cases hlt : i < j
    · have i1 : (i : Int) < (j : Int) := by omega
      obtain ⟨m, hm2⟩ : ∃ m, m = (i + j) / 2 := ⟨_, rfl⟩
      have HC := hide (HS.out wr HW.out m (by omega))
      have e2 : Hid (((i : Int) + (j : Int)) / 2 = (m : Int)) := by show _ = _; omega
      replace hm2 := hide hm2
      go_wp2_with fail
      rw [e2.out]
      refine HC.out.mono ?_
      have hm3 : i ≤ m ∧ m < j := by have := hm2.out; omega
      clear HC e2
      rintro e w2 ⟨rfl, hw⟩
      have HW2 := hide (HW.out.trans (hw.mono HW.out.size))
      clear hw
      by_cases hf : fnd (rws L) key m
      · have HH2 : Hid (m < n → fnd (rws L) key m) := fun _ => hf
        rw [decide_eq_true hf]
        clear hf
        go_wp2_with fail
        go_roundw
        case rel => exact ⟨i, m, hm3.1, by omega, rfl, rfl, HL, HH2, HW2⟩
        case measure => simp [intOf]; omega
      · have HL2 : Hid (0 < m + 1 → ¬ fnd (rws L) key (m + 1 - 1)) := fun _ h => hf h
        rw [decide_eq_false hf]
        clear hf
        go_wp2_with fail
        go_roundw
        case rel => exact ⟨m + 1, j, by omega, hjr, by go_num, rfl, HL2, HH, HW2⟩
        case measure => simp [intOf]; omega
    · have i1 : ¬ (i : Int) < (j : Int) := by omega
      obtain rfl : i = j := by omega
      have HF : Hid (IsSr (rws L) key n i) := ⟨hjr, HL.out, HH.out⟩
      go_wp2_with fail
      go_ret
      exact ⟨i, rfl, HF.out, HW.out⟩

set_option maxRecDepth 100000 in
set_option maxHeartbeats 800000 in
theorem ffind_any (a : Option Addr) (b o n c : Nat) (L : List Spn) (ka : Option Addr) (kl kc : Nat) (key : List Int) (w : World) (hn : L.length = n) (hm : n ≤ 140737488351232) (ha : 0 < n → a = some ⟨b, o, none⟩) (hS : Sps w b o L) (hr : Row w .u8 ka key) (hkl : key.length = kl) (k8 : B8 key) :
    Calls Try.prog 14 #[.slice a n c, .slice ka kl kc] w fun e w' => ∃ k : Nat, e = .returned (.int .i64 (k : Int)) ∧ IsSr (rws L) key n k ∧ Below w.heap.size w w' := by
  obtain ⟨w1, hw1⟩ : ∃ w1, w1 = w.alloc (.cells #[.slice a n c] 23) := ⟨_, rfl⟩
  obtain ⟨w2, hw2⟩ : ∃ w2, w2 = w1.alloc (.cells #[.slice ka kl kc] 25) := ⟨_, rfl⟩
  have b1 : Below w.heap.size w w1 := by rw [hw1]; exact (Below.refl _ _).alloc (Nat.le_refl _) _
  have b2 : Below w1.heap.size w1 w2 := by rw [hw2]; exact (Below.refl _ _).alloc (Nat.le_refl _) _
  have B2 : Hid (Below w.heap.size w w2) := b1.trans (b2.mono b1.size)
  have z1 : w1.heap.size = w.heap.size + 1 := by rw [hw1]; simp
  have c1 : w1.cell? ⟨w.heap.size, 0, none⟩ = some (.slice a n c) := by rw [hw1, cell_of_row _ _ _ _ _ _ (heap_alloc_new w _)]; rfl
  have c2 : w2.cell? ⟨w.heap.size, 0, none⟩ = some (.slice a n c) := (b2.cell (p := ⟨w.heap.size, 0, none⟩) (by show w.heap.size < _; omega)).trans c1
  have c3 : w2.cell? ⟨w.heap.size + 1, 0, none⟩ = some (.slice ka kl kc) := by rw [← z1, hw2, cell_of_row _ _ _ _ _ _ (heap_alloc_new w1 _)]; rfl
  have HS := hide (fsearch_any c2 ha c3 (hS.below B2.out) hn hm (hr.below2 B2.out) hkl k8)
  clear hS hr k8 ha b1 b2 c1 c3
  go_enter Try.func14, Try.ntmps14
  rw [hw1] at hw2
  rw [hw2] at c2
  go_wp2_with fail
  rw [← hw2]
  refine HS.out.mono ?_
  rintro e w3 ⟨k, rfl, hk, b3⟩
  have HK := hide hk
  have B3 := hide (B2.out.trans (b3.mono B2.out.size))
  clear hk b3 hw1 hw2 c2
  go_wp2_with fail
  go_ret
  exact ⟨k, rfl, HK.out, B3.out⟩

set_option maxRecDepth 100000 in
set_option maxHeartbeats 800000 in
theorem rffind_any (a : Option Addr) (b o n c : Nat) (L : List Spn) (ka : Option Addr) (kl kc : Nat) (key : List Int) (w : World) (hn : L.length = n) (hm : n ≤ 140737488351232) (ha : 0 < n → a = some ⟨b, o, none⟩) (hS : Sps w b o L) (hr : Row w .u8 ka key) (hkl : key.length = kl) (hkm : kl ≤ 140737488351232) :
    Calls Try.prog 26 #[.slice a n c, .slice ka kl kc] w fun e w' => ∃ k : Nat, e = .returned (.int .i64 (k : Int)) ∧ (k ≤ n ∧ (∀ j, j < k → ¬ fnd (rws L) key j) ∧ (k < n → fnd (rws L) key k)) ∧ Below w.heap.size w w' := by
  have HS := hide hS
  have HA := hide ha
  have HR := hide hr
  clear hS ha hr
  go_enter Try.func26, Try.ntmps26
  go_wp2_with fail
  go_loopw [5] (fun x wr => ∃ i : Nat, i ≤ n ∧ x = .int .i64 (i : Int) ∧ Hid (∀ j, j < i → ¬ fnd (rws L) key j) ∧ Hid (Below w.heap.size w wr)) (fun x _ => n - (intOf x).toNat)
  case atStart => exact ⟨0, Nat.zero_le _, rfl, fun j h => absurd h (Nat.not_lt_zero j), Below.refl _ _⟩
  case round =>
    obtain ⟨i, hi, rfl, HN, HB⟩ := hrel
    rename World => wr
    by_cases hlt : i < n
    · have j1 : (i : Int) < (n : Int) := by omega
      have j2 : (0 : Int) ≤ (i : Int) := by omega
      obtain rfl := HA.out (by omega)
      have hiL : i < L.length := by omega
      have s0 := ((HS.out.below HB.out).c i hiL).c0
      have ok := (HS.out.below HB.out).ok i hiL
      unfold Spn.kv at s0
      obtain ⟨nk, hnk⟩ : ∃ nk, L[i].ks.length = nk := ⟨_, rfl⟩
      rw [hnk] at s0
      obtain ⟨cv, hcv⟩ : ∃ cv, cv = cmpI L[i].ks key := ⟨_, rfl⟩
      have hcr := cmpI_fits L[i].ks key
      rw [← hcv] at hcr
      have hz := ok.zk
      rw [hnk] at hz
      have HCM := hide (rcompare_any L[i].ka ka nk L[i].kc kl kc L[i].ks key wr (by unfold maxLen; omega) (by unfold maxLen; omega) hnk hkl ok.k (HR.out.below2 HB.out))
      rw [← hcv] at HCM
      have HFN : Hid (fnd (rws L) key i ↔ 0 ≤ cv) := by show fnd _ _ _ ↔ _; unfold fnd; rw [rws_at L i hiL, hcv]; exact Iff.rfl
      generalize L[i].ka = la at *
      generalize L[i].kc = lc at *
      clear hcv ok hnk hz
      go_wp2_with fail
      refine HCM.out.mono ?_
      rintro e w2 ⟨rfl, m, hw2⟩
      have HB2 : Hid (Below w.heap.size w w2) := by show Below _ _ _; rw [hw2]; exact below_of_drewNF HB.out m
      clear hw2 HCM
      by_cases hc : 0 ≤ cv
      · have HF : Hid (i ≤ n ∧ (∀ j, j < i → ¬ fnd (rws L) key j) ∧ (i < n → fnd (rws L) key i)) := ⟨hi, HN.out, fun _ => HFN.out.2 hc⟩
        go_wp2_with fail
        go_ret
        exact ⟨i, rfl, HF.out, HB2.out⟩
      · have HN2 : Hid (∀ j, j < i + 1 → ¬ fnd (rws L) key j) := fun j hj hf => by
          by_cases q : j < i
          · exact HN.out j q hf
          · obtain rfl : j = i := by omega
            exact hc (HFN.out.1 hf)
        go_wp2_with fail
        go_roundw
        case rel => exact ⟨i + 1, by omega, by go_num, HN2, HB2⟩
        case measure => simp [intOf]; omega
    · have j1 : ¬ (i : Int) < (n : Int) := by omega
      obtain rfl : i = n := by omega
      have HF : Hid (i ≤ i ∧ (∀ j, j < i → ¬ fnd (rws L) key j) ∧ (i < i → fnd (rws L) key i)) := ⟨hi, HN.out, fun h => absurd h (Nat.lt_irrefl _)⟩
      go_wp2_with fail
      go_ret
      exact ⟨i, rfl, HF.out, HB.out⟩

theorem find_same {l : List FRow} {key : List Int} {n k m : Nat} (h : Gd l n) (h1 : IsSr l key n k) (h2 : m ≤ n ∧ (∀ j, j < m → ¬ fnd l key j) ∧ (m < n → fnd l key m)) : k = m := by
  obtain ⟨a1, a2, a3⟩ := h1
  obtain ⟨b1, b2, b3⟩ := h2
  by_cases q : k < m
  · exact absurd (a3 (by omega)) (b2 k q)
  · by_cases q' : m < k
    · have f := fnd_up h (k - 1 - m) m (by omega) (b3 (by omega))
      rw [show m + (k - 1 - m) = k - 1 by omega] at f
      exact absurd f (a2 (by omega))
    · omega

end Go.Proofs.Ytlachimmfjagbaa
