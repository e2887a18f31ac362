/- sort.Search of seek's closure. -/
import Derived.Test.YtgdpghfjbbieaaaBSeek
namespace Go.Proofs.Ytgdpghfjbbieaaa
open Go.RowKit

def SrPost (W0 : World) (B g : Nat) (a : Option Addr) (l c n : Nat) (zs key : List Int) (T r : Nat) (e : Ending) (w' : World) : Prop :=
  (∃ k, k ≤ r ∧ e = .returned (.int .i64 ((k : Nat) : Int)) ∧ (0 < k → ¬ skF zs key T (k - 1)) ∧ (k < r → skF zs key T k) ∧ ∃ p num ls va, SkW W0 w' B g a l c n p num ls va) ∨
  ((∃ er q, e = fallen er q) ∧ (∃ i, i < r ∧ eE [] [] zs (plc zs T i) ≠ 0) ∧ Upd (fun i => i = g) W0 w')

set_option maxRecDepth 100000 in
set_option maxHeartbeats 1600000 in
theorem search_any {W0 W : World} {B g gw gt gk : Nat} {a : Option Addr} {l c n p num T : Nat} {ls zs : List Int} {va : Value} {ka : Option Addr} {kl kc : Nat} {key : List Int} (E : SkE W0 g gw gt gk a zs T ka kl kc key) (h : SkW W0 W B g a l c n p num ls va) (r : Nat) (hr : r ≤ 100) (hl : zs.length = l) (hm : l ≤ 140737488351232) (hcl : l ≤ c) (na : a = none → l = 0 ∧ c = 0) (hT : T + r * 2 ≤ l) (z8 : B8 zs) (hk : key.length = kl) (k8 : B8 key) :
    Calls Try.prog 69 #[.int .i64 (r : Int), .func (.func 70) #[] #[.pointer (some ⟨gw, 0, none⟩), .pointer (some ⟨gt, 0, none⟩), .pointer (some ⟨gk, 0, none⟩)]] W (SrPost W0 B g a l c n zs key T r) := by
  have HS : Hid (∀ (W : World), (∃ p num ls va, SkW W0 W B g a l c n p num ls va) → ∀ i, i < r → Calls Try.prog 70 #[.int .i64 (i : Int), .pointer (some ⟨gw, 0, none⟩), .pointer (some ⟨gt, 0, none⟩), .pointer (some ⟨gk, 0, none⟩)] W (S1Post W0 B g a l c n zs key T i)) := (fun W hW i hi => by
    obtain ⟨p, num, ls, va, hs⟩ := hW
    exact seek1_any E hs i (by omega) hl hm hcl na (by omega) z8 hk k8)
  have HP : Hid (∀ e w', SrPost W0 B g a l c n zs key T r e w' ↔ ((∃ k, k ≤ r ∧ e = .returned (.int .i64 ((k : Nat) : Int)) ∧ (0 < k → ¬ skF zs key T (k - 1)) ∧ (k < r → skF zs key T k) ∧ ∃ p num ls va, SkW W0 w' B g a l c n p num ls va) ∨
    ((∃ er q, e = fallen er q) ∧ (∃ i, i < r ∧ eE [] [] zs (plc zs T i) ≠ 0) ∧ Upd (fun i => i = g) W0 w'))) := fun _ _ => Iff.rfl
  have H0 : Hid (∃ p num ls va, SkW W0 W B g a l c n p num ls va) := ⟨_, _, _, _, h⟩
  clear E h na hT hl z8 hk k8
  go_enter Try.func69, Try.ntmps69
  go_wp2_with fail
  go_loopw [5, 6] (fun q5 q6 wr => ∃ i j : Nat, i ≤ j ∧ j ≤ r ∧ q5 = .int .i64 (i : Int) ∧ q6 = .int .i64 (j : Int) ∧ Hid (0 < i → ¬ skF zs key T (i - 1)) ∧ Hid (j < r → skF zs key T j) ∧ Hid (∃ p num ls va, SkW W0 wr B g a l c n p num ls va)) (fun q5 q6 _ => (intOf q6).toNat - (intOf q5).toNat)
  case atStart => exact ⟨0, r, Nat.zero_le _, Nat.le_refl _, rfl, rfl, fun h => absurd h (Nat.lt_irrefl _), fun h => absurd h (Nat.lt_irrefl _), H0⟩
  case round =>
    clear H0
    obtain ⟨i, j, hij, hjr, rfl, rfl, HL, HH, HW⟩ := hrel
    rename World => wr
    by_cases hlt : i < j
    · have i1 : (i : Int) < (j : Int) := by omega
      obtain ⟨m, hm2⟩ : ∃ m, m = (i + j) / 2 := ⟨_, rfl⟩
      have HC := hide (HS.out wr HW.out m (by omega))
      have e2 : Hid (((i : Int) + (j : Int)) / 2 = (m : Int)) := by show _ = _; omega
      replace hm2 := hide hm2
      go_wp2_with fail
      rw [e2.out]
      refine HC.out.mono ?_
      have hm3 : i ≤ m ∧ m < j := by have := hm2.out; omega
      clear HC e2
      rintro e w2 (⟨h0, ⟨bb, rfl, hb⟩, hw⟩ | ⟨h0, ⟨er, q, rfl⟩, hu⟩)
      · have HW2 := hide hw
        clear hw
        cases bb with
        | true =>
          have HH2 : Hid (m < r → skF zs key T m) := fun _ => hb.1 rfl
          clear hb
          go_wp2_with fail
          go_roundw
          case rel => exact ⟨i, m, hm3.1, by omega, rfl, rfl, HL, HH2, HW2⟩
          case measure => simp [intOf]; omega
        | false =>
          have HL2 : Hid (0 < m + 1 → ¬ skF zs key T (m + 1 - 1)) := fun _ h => by have := hb.2 h; cases this
          clear hb
          go_wp2_with fail
          go_roundw
          case rel => exact ⟨m + 1, j, by omega, hjr, by go_num, rfl, HL2, HH, HW2⟩
          case measure => simp [intOf]; omega
      · exact ⟨rfl, (HP.out _ _).2 (.inr ⟨⟨er, q, rfl⟩, ⟨m, by omega, h0⟩, hu⟩)⟩
    · have i1 : ¬ (i : Int) < (j : Int) := by omega
      obtain rfl : i = j := by omega
      have HF := hide ((HP.out (.returned (.int .i64 (i : Int))) wr).2 (.inl ⟨i, hjr, rfl, HL.out, HH.out, HW.out⟩))
      go_wp2_with fail
      go_ret
      exact HF.out

end Go.Proofs.Ytgdpghfjbbieaaa
