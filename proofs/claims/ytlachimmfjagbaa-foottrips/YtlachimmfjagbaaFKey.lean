/- foot: readKey, readEnd. -/
import Derived.Test.YtlachimmfjagbaaFRdP
import Derived.Test.YtlachimmfjagbaaKTRead
import Derived.Test.YtlachimmfjagbaaKSlice
namespace Go.Proofs.Ytlachimmfjagbaa
open Go.RowKit

theorem fits8_b8F {zs : List Int} (h : B8 zs) : Fits8 zs := fun i => by
  by_cases hi : i < zs.length
  · have := h zs[i] (List.getElem_mem hi)
    simpa [List.getD, hi] using this
  · simp [List.getD, hi]
theorem vread_at (a : Option Addr) (l c p : Nat) (zs : List Int) (w : World) (hl : zs.length = l) (hm : l ≤ 140739000000000) (hr : Row w .u8 a zs) (z8 : B8 zs) (hp : p ≤ l) :
    Calls Try.prog 30 #[.slice a l c, .int .i64 (p : Int)] w fun e w' => e = .returned (.tuple #[.int .u64 (nm zs p : Int), .int .i64 (nx zs p : Int), .int .i64 (er zs p)]) ∧ Below w.heap.size w w' := by
  obtain ⟨h1, h2, h3, _⟩ := rd_at zs p z8 (by omega)
  have := read_any a l c (p : Int) zs w hl (by unfold maxLen; omega) hr (fits8_b8F z8)
  rw [h1, h2, h3] at this
  exact this
def KyPost (w : World) (pk zs : List Int) (p : Nat) (e : Ending) (w' : World) : Prop :=
  Below w.heap.size w w' ∧ (((kyR pk zs p).1 ≠ 0 ∧ e = .returned (.tuple #[.slice none 0 0, .int .i64 ((kyR pk zs p).2 : Nat), .int .i64 (kyR pk zs p).1])) ∨ ((kyR pk zs p).1 = 0 ∧ ∃ v, e = .returned (.tuple #[v, .int .i64 ((kyR pk zs p).2 : Nat), .int .i64 0]) ∧ OwnB w' w.heap.size 5 v (ky zs p)))

set_option maxRecDepth 100000 in
set_option maxHeartbeats 1600000 in
theorem readkey_any (aa : Option Addr) (la ca : Nat) (x y z : Int) (pk : List Int) (a : Option Addr) (l c p : Nat) (zs : List Int) (w : World) (hpk : pk.length = la) (hr0 : Row w .u8 aa pk) (p8 : B8 pk) (hl : zs.length = l) (hm : l ≤ 140739000000000) (hlc : l ≤ c) (hna : a = none → l = 0 ∧ c = 0) (hr : Row w .u8 a zs) (z8 : B8 zs) (hp : p ≤ l) :
    Calls Try.prog 52 #[.agg #[.slice aa la ca, .int .i64 x, .int .i64 y, .int .i64 z], .slice a l c, .int .i64 (p : Int)] w (KyPost w pk zs p) := by
  obtain ⟨w1, hw1⟩ : ∃ w1, w1 = w.alloc (.cells #[.slice aa la ca, .int .i64 x, .int .i64 y, .int .i64 z] 33) := ⟨_, rfl⟩
  have b1 : Below w.heap.size w w1 := by rw [hw1]; exact (Below.refl _ _).alloc (Nat.le_refl _) _
  have hbx : w1.heap[w.heap.size]? = some (.cells #[.slice aa la ca, .int .i64 x, .int .i64 y, .int .i64 z] 33 (0, 0)) := by rw [hw1]; exact heap_alloc_new w _
  have HP : Hid (∀ e w', KyPost w pk zs p e w' ↔ (Below w.heap.size w w' ∧ (((kyR pk zs p).1 ≠ 0 ∧ e = .returned (.tuple #[.slice none 0 0, .int .i64 ((kyR pk zs p).2 : Nat), .int .i64 (kyR pk zs p).1])) ∨ ((kyR pk zs p).1 = 0 ∧ ∃ v, e = .returned (.tuple #[v, .int .i64 ((kyR pk zs p).2 : Nat), .int .i64 0]) ∧ OwnB w' w.heap.size 5 v (ky zs p))))) := fun _ _ => Iff.rfl
  have HR := hide (vread_at a l c p zs w1 hl hm (hr.below2 b1) z8 hp)
  obtain ⟨_, _, _, hq1, hq2, hq3⟩ := rd_at zs p z8 (by omega)
  have HKY : Hid (kyR pk zs p = if er zs p ≠ 0 then (er zs p, nx zs p) else if nm zs p < 1 ∨ 64 < nm zs p then (72, p) else if zs.length < nx zs p + nm zs p then (77, zs.length) else if ¬ cmpI pk (ky zs p) < 0 then (72, p) else (0, nx zs p + nm zs p)) := rfl
  have HYL := hide (fun h => ky_len (zs := zs) (p := p) h)
  have HRO := hide hr
  have HR0 := hide hr0
  have B1 := hide b1
  have HBX := hide hbx
  have z1 : w1.heap.size = w.heap.size + 1 := by rw [hw1]; simp
  obtain ⟨N, hN⟩ : ∃ N, nm zs p = N := ⟨_, rfl⟩
  obtain ⟨Q, hQ⟩ : ∃ Q, nx zs p = Q := ⟨_, rfl⟩
  obtain ⟨E, hE⟩ : ∃ E, er zs p = E := ⟨_, rfl⟩
  rw [hN, hQ, hE] at HR HKY
  rw [hN] at hq3 HYL
  rw [hQ] at hq1 hq2 HYL
  have HYD : Hid (ky zs p = (zs.drop Q).take N) := by show ky zs p = _; unfold ky; rw [hN, hQ]
  rw [hl] at hq1 HYL HKY
  clear b1 hbx hr hr0 hN hQ hE
  generalize kyR pk zs p = R at *
  generalize ky zs p = K at *
  go_enter Try.func52, Try.ntmps52
  go_wp2_with fail
  rw [← hw1]
  clear hw1
  refine HR.out.mono ?_
  rintro e w2 ⟨rfl, b2⟩
  have B2 : Hid (Below w.heap.size w w2) := B1.out.trans (b2.mono B1.out.size)
  have HB2 := hide ((b2.block w.heap.size (by omega)).trans HBX.out)
  clear b2 HR
  by_cases he : E = 0
  · subst he
    replace HKY : Hid (R = if N < 1 ∨ 64 < N then (72, p) else if l < Q + N then (77, l) else if ¬ cmpI pk K < 0 then (72, p) else (0, Q + N)) := by show R = _; rw [HKY.out]; simp
    by_cases hs1 : N < 1
    · have e1 : (N : Int) < 1 := by omega
      obtain rfl : R = (72, p) := by rw [HKY.out, if_pos (.inl hs1)]
      have HF := hide ((HP.out _ w2).2 ⟨B2.out, .inl ⟨by simp, rfl⟩⟩)
      go_wp2_with fail
      go_ret3
      exact HF.out
    · have e1 : ¬ (N : Int) < 1 := by omega
      by_cases hs2 : 64 < N
      · have e2 : (64 : Int) < (N : Int) := by omega
        obtain rfl : R = (72, p) := by rw [HKY.out, if_pos (.inr hs2)]
        have HF := hide ((HP.out _ w2).2 ⟨B2.out, .inl ⟨by simp, rfl⟩⟩)
        go_wp2_with fail
        go_ret3
        exact HF.out
      · have e2 : ¬ (64 : Int) < (N : Int) := by omega
        replace HKY : Hid (R = if l < Q + N then (77, l) else if ¬ cmpI pk K < 0 then (72, p) else (0, Q + N)) := by show R = _; rw [HKY.out, if_neg (by omega)]
        have c1 : IntKind.i64.wrap (N : Int) = (N : Int) := by rw [IntKind.wrap_i64]; omega
        have c2 : IntKind.i64.wrap ((Q : Int) + (N : Int)) = ((Q + N : Nat) : Int) := by rw [IntKind.wrap_i64]; omega
        by_cases hs3 : l < Q + N
        · have e3 : (l : Int) < ((Q + N : Nat) : Int) := by omega
          have e3' : (l : Int) < (Q : Int) + (N : Int) := by omega
          obtain rfl : R = (77, l) := by rw [HKY.out, if_pos hs3]
          have HF := hide ((HP.out _ w2).2 ⟨B2.out, .inl ⟨by simp, rfl⟩⟩)
          go_wp2_with fail
          go_ret3
          exact HF.out
        · have e3 : ¬ (l : Int) < ((Q + N : Nat) : Int) := by omega
          have e3' : ¬ (l : Int) < (Q : Int) + (N : Int) := by omega
          replace HKY : Hid (R = if ¬ cmpI pk K < 0 then (72, p) else (0, Q + N)) := by show R = _; rw [HKY.out, if_neg hs3]
          have hKl := HYL.out (by omega)
          have RK : Hid (∀ W, Below w.heap.size w W → Row W .u8 (cutAt a Q c) K) := fun W h => by
            have := cut_part (n := Q) (m := N) (show zs.length ≤ c by omega) (HRO.out.below2 h)
            rw [← HYD.out] at this
            exact this
          have K8 : Hid (B8 K) := by show B8 K; rw [HYD.out]; exact fun u hu => z8 u (List.mem_of_mem_drop (List.mem_of_mem_take hu))
          have hpart := run_part a l c Q (Q + N) (by omega) (by omega) .i64 .i64
          rw [Nat.add_sub_cancel_left] at hpart
          have HCN : Hid (cutAt a Q c = none → N = 0 ∧ c - Q = 0) := fun h => by have := cut_none Q hna h; omega
          have HRI : Hid (∀ W, Below w.heap.size w W → Calls Try.prog 55 #[.agg #[.slice aa la ca, .int .i64 x, .int .i64 y, .int .i64 z], .slice (cutAt a Q c) N (c - Q)] W fun e w' => e = .returned (.bool (decide (cmpI pk K < 0))) ∧ Below W.heap.size W w') := fun W h => rises_any aa (cutAt a Q c) la ca N (c - Q) x y z pk K W hpk hKl (HR0.out.below2 h) (RK.out W h) p8 K8.out
          have HCL : Hid (∀ W, Below w.heap.size w W → Calls Try.prog 61 #[.slice (cutAt a Q c) N (c - Q)] W fun e w' => ∃ v, e = .returned v ∧ OwnB w' W.heap.size 5 v K ∧ Below W.heap.size W w') := fun W h => bclone_any (cutAt a Q c) N (c - Q) K W hKl (by omega) HCN.out (RK.out W h)
          have hcut : cutAt a Q c = a.map (fun x => x.add Q) := by unfold cutAt; rw [if_neg (by omega)]
          rw [hcut] at HRI HCL
          clear hcut hpart
          have x0 : w2.cell? ⟨w.heap.size, 0, none⟩ = some (.slice aa la ca) := by rw [cell_of_row _ _ _ _ _ _ HB2.out]; rfl
          have x1 : w2.cell? ⟨w.heap.size, 1, none⟩ = some (.int .i64 x) := by rw [cell_of_row _ _ _ _ _ _ HB2.out]; rfl
          have x2 : w2.cell? ⟨w.heap.size, 2, none⟩ = some (.int .i64 y) := by rw [cell_of_row _ _ _ _ _ _ HB2.out]; rfl
          have x3 : w2.cell? ⟨w.heap.size, 3, none⟩ = some (.int .i64 z) := by rw [cell_of_row _ _ _ _ _ _ HB2.out]; rfl
          go_wp2_with fail
          refine (HRI.out w2 B2.out).mono ?_
          rintro e w3 ⟨rfl, b3⟩
          have B3 : Hid (Below w.heap.size w w3) := B2.out.trans (b3.mono B2.out.size)
          clear b3 x0 x1 x2 x3
          by_cases hc : cmpI pk K < 0
          · rw [decide_eq_true hc]
            obtain rfl : R = (0, Q + N) := by rw [HKY.out, if_neg (by omega)]
            go_wp2_with fail
            refine (HCL.out w3 B3.out).mono ?_
            rintro e w4 ⟨v, rfl, hv, b4⟩
            have HF := hide ((HP.out (.returned (.tuple #[v, .int .i64 ((Q + N : Nat) : Int), .int .i64 0])) w4).2 ⟨B3.out.trans (b4.mono B3.out.size), .inr ⟨by simp, v, rfl, hv.mono B3.out.size⟩⟩)
            clear hv b4
            go_wp2_with fail
            go_ret3
            exact HF.out
          · rw [decide_eq_false hc]
            obtain rfl : R = (72, p) := by rw [HKY.out, if_pos (by omega)]
            have HF := hide ((HP.out _ w3).2 ⟨B3.out, .inl ⟨by simp, rfl⟩⟩)
            go_wp2_with fail
            go_ret3
            exact HF.out
  · have he' : (E != 0) = true := by simp [he]
    obtain rfl : R = (E, Q) := by rw [HKY.out, if_pos he]
    have HF := hide ((HP.out _ w2).2 ⟨B2.out, .inl ⟨he, rfl⟩⟩)
    go_wp2_with fail
    go_ret3
    exact HF.out

set_option maxRecDepth 100000 in
set_option maxHeartbeats 800000 in
theorem readend_any (a : Option Addr) (l c p tot : Nat) (zs : List Int) (w : World) (hl : zs.length = l) (hm : l ≤ 140739000000000) (hr : Row w .u8 a zs) (z8 : B8 zs) (hp : p ≤ l) (ht : tot ≤ 1000000000) :
    Calls Try.prog 33 #[.slice a l c, .int .i64 (p : Int), .int .i64 (tot : Int)] w fun e w' => e = .returned (.tuple #[.int .i64 (enR zs p tot).1, .int .i64 ((enR zs p tot).2 : Nat)]) ∧ Below w.heap.size w w' := by
  have HR := hide (vread_at a l c p zs w hl hm hr z8 hp)
  obtain ⟨_, _, _, hq1, hq2, hq3⟩ := rd_at zs p z8 (by omega)
  have HEN : Hid (enR zs p tot = if er zs p ≠ 0 then (er zs p, nx zs p) else if nm zs p ≠ tot then (76, p) else if nx zs p < zs.length then (78, nx zs p) else (0, 0)) := rfl
  obtain ⟨N, hN⟩ : ∃ N, nm zs p = N := ⟨_, rfl⟩
  obtain ⟨Q, hQ⟩ : ∃ Q, nx zs p = Q := ⟨_, rfl⟩
  obtain ⟨E, hE⟩ : ∃ E, er zs p = E := ⟨_, rfl⟩
  rw [hN, hQ, hE] at HR HEN
  rw [hN] at hq3
  rw [hQ] at hq1 hq2
  rw [hl] at hq1 HEN
  clear hr hN hQ hE
  generalize enR zs p tot = R at *
  go_enter Try.func33, Try.ntmps33
  go_wp2_with fail
  refine HR.out.mono ?_
  rintro e w2 ⟨rfl, b2⟩
  have B2 := hide b2
  clear b2 HR
  have c1 : IntKind.u64.wrap (tot : Int) = (tot : Int) := by rw [IntKind.wrap_u64]; omega
  by_cases he : E = 0
  · subst he
    replace HEN : Hid (R = if N ≠ tot then (76, p) else if Q < l then (78, Q) else (0, 0)) := by show R = _; rw [HEN.out]; simp
    by_cases hn : N = tot
    · subst hn
      replace HEN : Hid (R = if Q < l then (78, Q) else (0, 0)) := by show R = _; rw [HEN.out]; simp
      by_cases hq : Q < l
      · have e1 : (Q : Int) < (l : Int) := by omega
        obtain rfl : R = (78, Q) := by rw [HEN.out, if_pos hq]
        go_wp2_with fail
        go_ret2
        exact ⟨rfl, B2.out⟩
      · have e1 : ¬ (Q : Int) < (l : Int) := by omega
        obtain rfl : R = (0, 0) := by rw [HEN.out, if_neg hq]
        go_wp2_with fail
        go_ret2
        exact ⟨rfl, B2.out⟩
    · have e1 : ((N : Int) != (tot : Int)) = true := by simp; omega
      obtain rfl : R = (76, p) := by rw [HEN.out, if_pos hn]
      go_wp2_with fail
      go_ret2
      exact ⟨rfl, B2.out⟩
  · have he' : (E != 0) = true := by simp [he]
    obtain rfl : R = (E, Q) := by rw [HEN.out, if_pos he]
    go_wp2_with fail
    go_ret2
    exact ⟨rfl, B2.out⟩

end Go.Proofs.Ytlachimmfjagbaa
