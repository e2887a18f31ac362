/- The document's Bytes of a number, and of an entry. -/
import Derived.Test.YtjnldmbjeiejdaaKCut
import Derived.Test.YtjnldmbjeiejdaaKRef
namespace Go.Proofs.Ytjnldmbjeiejdaa
open Go.RowKit

theorem row_byte (w : World) (c : Int) (T : TypeId) : Row (w.alloc (.cells #[.int .u8 c] T)) .u8 (some ⟨w.heap.size, 0, none⟩) [c] := by
  intro i hi
  obtain rfl : i = 0 := by simp at hi; omega
  exact ⟨_, 0, rfl, by rw [cell_of_row _ _ _ _ _ _ (heap_alloc_new w _)]; rfl⟩

set_option maxHeartbeats 800000 in
theorem rnum_any (n : Nat) (w : World) (hn : n ≤ 18446744073709551615) :
    Calls Try.prog 43 #[.int .u64 (n : Int)] w fun e w' => ∃ v, e = .returned v ∧ OwnB w' w.heap.size 5 v (enc n) ∧ Below w.heap.size w w' := by
  obtain ⟨i0, hi, hz0, hz1, hz2⟩ := info_parts infoByte'
  go_enter Try.func43, Try.ntmps43
  go_wp2
  go_loopw [0, 3] (fun m s wr => ∃ (j M : Nat) (ys : List Int) (v : Value), j ≤ 9 ∧ ys.length = j ∧ M ≤ 18446744073709551615 ∧ s = v ∧ m = .int .u64 (M : Int) ∧ Hid (M = n / 128 ^ j ∧ ys ++ encF (9 - j) M = enc n) ∧
      OwnB wr w.heap.size 5 v ys ∧ Below w.heap.size w wr) (fun m _ _ => (intOf m).toNat)
  case atStart => exact ⟨0, n, [], _, by omega, rfl, hn, rfl, rfl, ⟨by simp, rfl⟩, OwnB.nil _ _ _, Below.refl _ _⟩
  case round =>
    obtain ⟨j, M, ys, v, hj, hys, hM64, rfl, rfl, HM, hownr, hbel⟩ := hrel
    have hsz := hbel.size
    by_cases hge : 128 ≤ M
    · have hst := enc_step n j M ys hn HM.out.1 hj hge HM.out.2
      have hj8 := hst.1
      have HST := hide hst
      clear hst
      have hgeI : (128 : Int) ≤ (M : Int) := by omega
      have hMI : (M : Int) ≤ 18446744073709551615 := by omega
      have HO := hide hownr
      clear hownr
      go_wp2_with (first
        | (at_builtin; refine append_b rfl (.tmp 6) (.tmp 11) 23 rfl w.heap.size 5 i0 Try.underlying23 hi hz0 hz1 hz2 _ ys rfl (HO.out.below ((Below.refl _ _).alloc (Nat.le_refl _) _)) (some ⟨wr.heap.size, 0, none⟩) 1 1 [(M : Int) % 128 + 128] rfl rfl (by intro h; cases h) (row_byte _ _ _) (by omega) (by simp; omega) ?_; intro v1 w1 hown1 hg1))
      go_roundw
      case rel =>
        refine ⟨j + 1, M / 128, ys ++ [((M % 128 + 128 : Nat) : Int)], _, by omega, by simp [hys], by omega, rfl, by go_num, ⟨HST.out.2.1, HST.out.2.2⟩, ?_, (hbel.alloc hsz _).grown hg1 (by simp; omega) (fun k h => (HO.out.owns.lt k h).1)⟩
        have e : ((M % 128 + 128 : Nat) : Int) = (M : Int) % 128 + 128 := by omega
        rw [e]
        exact hown1
      case measure => simp [intOf]; omega
    · have he : enc n = ys ++ [(M : Int)] := by rw [← HM.out.2, encF_lt _ _ (by omega)]
      have HE := hide he
      clear he
      have hgeI : ¬ (128 : Int) ≤ (M : Int) := by omega
      have HO := hide hownr
      clear hownr
      go_wp2_with (first
        | (at_builtin; refine append_b rfl (.tmp 15) (.tmp 18) 23 rfl w.heap.size 5 i0 Try.underlying23 hi hz0 hz1 hz2 _ ys rfl (HO.out.below ((Below.refl _ _).alloc (Nat.le_refl _) _)) (some ⟨wr.heap.size, 0, none⟩) 1 1 [(M : Int)] rfl rfl (by intro h; cases h) (row_byte _ _ _) (by omega) (by simp; omega) ?_; intro v1 w1 hown1 hg1))
      go_ret
      rw [HE.out]
      exact ⟨v1, rfl, hown1, (hbel.alloc hsz _).grown hg1 (by simp; omega) (fun k h => (HO.out.owns.lt k h).1)⟩

set_option maxRecDepth 100000 in
set_option maxHeartbeats 1600000 in
theorem rbytes_any (a k v : Option Addr) (la ca lk ck lv cv : Nat) (xs ks vs : List Int) (w : World) (h1 : xs.length = la) (h2 : ks.length = lk) (h3 : vs.length = lv) (m1 : la ≤ 1048600) (m2 : lk ≤ 1048600) (m3 : lv ≤ 1048600) (hck : lk ≤ ck) (nv : v = none → lv = 0 ∧ cv = 0) (nk : k = none → lk = 0 ∧ ck = 0)
    (r1 : Row w .u8 a xs) (r2 : Row w .u8 k ks) (r3 : Row w .u8 v vs) :
    Calls Try.prog 44 #[.slice a la ca, .agg #[.slice k lk ck, .slice v lv cv]] w fun e w' => ∃ u, e = .returned u ∧ OwnB w' w.heap.size 5 u (encE xs ks vs) ∧ Below w.heap.size w w' := by
  obtain ⟨i0, hi, hz0, hz1, hz2⟩ := info_parts infoByte'
  have R1 := hide r1
  have R2 := hide r2
  have R3 := hide r3
  have NV := hide nv
  have hle := comN_le xs ks
  have HE : Hid (encE xs ks vs = enc (comN xs ks) ++ enc (lk - comN xs ks) ++ enc lv ++ ks.drop (comN xs ks) ++ vs) := by show _ = _; unfold encE; rw [h2, h3]
  have HC : Hid (∀ W, Row W .u8 a xs → Row W .u8 k ks → Calls Try.prog 72 #[.slice a la ca, .slice k lk ck] W fun e w' => e = .returned (.int .i64 (comN xs ks : Nat)) ∧ ∃ m, w' = W.drewN m) := fun W g1 g2 => rcommon_any a k la ca lk ck xs ks W (by unfold maxLen; omega) (by unfold maxLen; omega) h1 h2 g1 g2
  have hkd := run_from k lk ck (comN xs ks) (by omega)
  have NK := hide (cut_none (comN xs ks) nk)
  have RK : Hid (Row w .u8 (cutAt k (comN xs ks) ck) (ks.drop (comN xs ks))) := cut_row (by omega) r2
  have hdl : (ks.drop (comN xs ks)).length = lk - comN xs ks := by rw [List.length_drop, h2]
  clear r1 r2 r3 nv nk
  generalize ks.drop (comN xs ks) = kds at *
  generalize cutAt k (comN xs ks) ck = kd at *
  generalize comN xs ks = n at *
  obtain ⟨r, hr⟩ : ∃ r, lk = n + r := ⟨lk - n, by omega⟩
  rw [show lk - n = r by omega] at HE hkd NK hdl
  subst hr
  have HD := hide hdl
  clear hdl
  have hpos : ((n + r : Nat) : Int) - (n : Int) = (r : Int) := by omega
  have l1 := (enc_len_le n (by omega)).2
  have l2 := (enc_len_le r (by omega)).2
  have l3 := (enc_len_le lv (by omega)).2
  have N1 := hide (fun W => rnum_any n W (by omega))
  have N2 := hide (fun W => rnum_any r W (by omega))
  have N3 := hide (fun W => rnum_any lv W (by omega))
  generalize enc n = e1 at *
  generalize enc r = e2 at *
  generalize enc lv = e3 at *
  go_enter Try.func44, Try.ntmps44
  go_wp2_with fail
  refine (HC.out _ (R1.out.alloc _) (R2.out.alloc _)).mono ?_
  rintro e w1 ⟨rfl, m, hw1⟩
  have q0 : w1.heap[w.heap.size]? = some (.cells #[.slice k (n + r) ck, .slice v lv cv] 25 (0, 0)) := by rw [hw1]; exact heap_alloc_new w _
  have t1 : Below w.heap.size w w1 := by rw [hw1]; exact drewB ((Below.refl _ _).alloc (Nat.le_refl _) _) m
  have s1 : w1.heap.size = w.heap.size + 1 := by rw [hw1]; simp [World.drewN]
  clear hw1
  have c0 : w1.cell? ⟨w.heap.size, 0, none⟩ = some (.slice k (n + r) ck) := by rw [cell_of_row _ _ _ _ _ _ q0]; rfl
  have c1 : w1.cell? ⟨w.heap.size, 1, none⟩ = some (.slice v lv cv) := by rw [cell_of_row _ _ _ _ _ _ q0]; rfl
  have S1 := hide s1
  clear q0 s1
  go_wp2_with fail
  refine (N1.out w1).mono ?_
  rintro e w2 ⟨v2, rfl, o2, b2⟩
  have hlt1 : w.heap.size < w1.heap.size := by have := S1.out; omega
  have d0 := (b2.cell (p := ⟨w.heap.size, 0, none⟩) hlt1).trans c0
  have d1 := (b2.cell (p := ⟨w.heap.size, 1, none⟩) hlt1).trans c1
  have t2 := t1.trans (b2.mono t1.size)
  have z2 := b2.size
  have O2 := hide o2
  clear o2 b2 t1 c0 c1
  go_wp2_with fail
  have e7 : ((n : Int) + (r : Int) - (n : Int)) = (r : Int) := by omega
  rw [e7]
  clear e7
  refine (N2.out w2).mono ?_
  rintro e w3 ⟨v3, rfl, o3, b3⟩
  obtain ⟨a3, k3, rfl, n3, _⟩ := o3.sliceN rfl
  have f0 := (b3.cell (p := ⟨w.heap.size, 0, none⟩) (Nat.lt_of_lt_of_le hlt1 z2)).trans d0
  have f1 := (b3.cell (p := ⟨w.heap.size, 1, none⟩) (Nat.lt_of_lt_of_le hlt1 z2)).trans d1
  have t3 := t2.trans (b3.mono t2.size)
  have z3 := b3.size
  have O2' := hide (O2.out.below b3)
  have RW3 : Hid (Row w3 .u8 a3 e2) := o3.row
  have N3' := hide n3
  clear o3 b3 t2 d0 d1 O2 n3
  have hne : ∀ (W : World) (u : Value) (zs : List Int), OwnB W w1.heap.size 5 u zs → some w.heap.size ≠ u.ownBlock := fun W u zs ho e => by
    have := (ho.owns.lt _ e.symm).1
    omega
  have HNE := hide hne
  clear hne
  go_wp2_with (first
    | (at_builtin; refine append_b rfl (.tmp 14) (.tmp 21) 23 rfl w1.heap.size 5 i0 Try.underlying23 hi hz0 hz1 hz2 v2 e1 rfl O2'.out a3 e2.length k3 e2 rfl rfl N3'.out RW3.out (by omega) (by omega) ?_; intro v4 w4 o4 g4; have d0 := g4.cell f0 (HNE.out _ _ _ O2'.out); have d1 := g4.cell f1 (HNE.out _ _ _ O2'.out); have O4 := hide o4; have G4 := hide g4; clear o4 g4)
    | fail)
  have z4 := G4.out.size
  have t4 : Below w.heap.size w w4 := t3.grown G4.out (by omega) (fun k h => by have := (O2'.out.owns.lt k h).1; omega)
  clear f0 f1 t3 O2' G4
  refine (N3.out w4).mono ?_
  rintro e w5 ⟨v5, rfl, o5, b5⟩
  obtain ⟨a5, k5, rfl, n5, _⟩ := o5.sliceN rfl
  have hlt4 : w.heap.size < w4.heap.size := by omega
  have f0 := (b5.cell (p := ⟨w.heap.size, 0, none⟩) hlt4).trans d0
  have f1 := (b5.cell (p := ⟨w.heap.size, 1, none⟩) hlt4).trans d1
  have t5 := t4.trans (b5.mono t4.size)
  have z5 := b5.size
  have O4' := hide (O4.out.below b5)
  have RW5 : Hid (Row w5 .u8 a5 e3) := o5.row
  have N5 := hide n5
  clear o5 b5 t4 d0 d1 O4 n5
  have RK5 := hide (RK.out.below2 t5)
  go_wp2_with (first
    | (at_builtin; refine append_b rfl (.tmp 23) (.tmp 28) 23 rfl w1.heap.size 5 i0 Try.underlying23 hi hz0 hz1 hz2 v4 (e1 ++ e2) rfl O4'.out a5 e3.length k5 e3 rfl rfl N5.out RW5.out (by rw [List.length_append]; omega) (by omega) ?_; intro v6 w6 o6 g6; have d0 := g6.cell f0 (HNE.out _ _ _ O4'.out); have d1 := g6.cell f1 (HNE.out _ _ _ O4'.out); have t6 : Below w.heap.size w w6 := t5.grown g6 (by omega) (fun k h => by have := (O4'.out.owns.lt k h).1; omega); have z6 := g6.size; have O6 := hide o6; have RK6 := hide (RK.out.below2 t6); clear o6 g6 f0 f1)
    | (at_builtin; refine append_b rfl (.tmp 30) (.tmp 34) 23 rfl w1.heap.size 5 i0 Try.underlying23 hi hz0 hz1 hz2 v6 (e1 ++ e2 ++ e3) rfl O6.out kd r (ck - n) kds rfl HD.out NK.out RK6.out (by rw [List.length_append, List.length_append]; omega) (by omega) ?_; intro v7 w7 o7 g7; have f1 := g7.cell d1 (HNE.out _ _ _ O6.out); have t7 : Below w.heap.size w w7 := t6.grown g7 (by omega) (fun k h => by have := (O6.out.owns.lt k h).1; omega); have z7 := g7.size; have O7 := hide o7; have R37 := hide (R3.out.below2 t7); clear o7 g7 d0 d1)
    | (at_builtin; refine append_b rfl (.tmp 36) (.tmp 38) 23 rfl w1.heap.size 5 i0 Try.underlying23 hi hz0 hz1 hz2 v7 (e1 ++ e2 ++ e3 ++ kds) rfl O7.out v lv cv vs rfl h3 NV.out R37.out (by have := HD.out; rw [List.length_append, List.length_append, List.length_append]; omega) (by omega) ?_; intro v8 w8 o8 g8; have t8 : Below w.heap.size w w8 := t7.grown g8 (by omega) (fun k h => by have := (O7.out.owns.lt k h).1; omega); have O8 := hide o8; clear o8 g8)
    | fail)
  go_ret
  rw [HE.out]
  exact ⟨v8, rfl, O8.out.mono (by omega), t8⟩

end Go.Proofs.Ytjnldmbjeiejdaa
