/- The document's After. -/
import Derived.Test.YtfcjbibnjibijaaKAfter
import Derived.Test.YtfcjbibnjibijaaKRef
namespace Go.Proofs.Ytfcjbibnjibijaa
open Go.RowKit

set_option maxHeartbeats 1600000 in
theorem rafter_short (a : Option Addr) (l c : Nat) (xs : List Int) (w : World) (hl : l < 64) (hn : a = none → l = 0 ∧ c = 0) (h1 : xs.length = l) (r1 : Row w .u8 a xs) :
    Calls Try.prog 30 #[.slice a l c] w fun e w' => ∃ v, e = .returned (.tuple #[v, .bool true]) ∧ OwnB w' w.heap.size 5 v (xs ++ [0]) ∧ Below w.heap.size w w' := by
  obtain ⟨i0, hi, hz0, hz1, hz2⟩ := info_parts infoByte'
  have R1 := hide r1
  have HN := hide hn
  clear r1 hn
  have i1 : (l : Int) < 64 := by omega
  have HFAC : Hid (∀ v5 w5 z, OwnB w5 w.heap.size 5 v5 z → ∃ a5 n5 c5, v5 = .slice a5 n5 c5) := fun v5 w5 z ho => by
    obtain ⟨a5, c5, h5, _⟩ := ho.sliceN rfl
    exact ⟨a5, _, c5, h5⟩
  go_enter Try.func30, Try.ntmps30
  go_wp2_with (first
    | (at_builtin; refine append_b rfl (.tmp 9) (.tmp 10) 23 rfl w.heap.size 5 i0 Try.underlying23 hi hz0 hz1 hz2 (.slice (some ⟨w.heap.size, 0, none⟩) 0 0) [] rfl (OwnB.made #[] 0 (Nat.le_refl _) (by unfold maxLen; omega) rfl (by intro u hu; cases hu)) a l c xs rfl h1 HN.out (R1.out.alloc _) (by simp; omega) (by simp) ?_; intro v4 w4 hown4 hg4; simp only [List.nil_append] at hown4; have HO4 := hide hown4; have HG4 := hide hg4; clear hown4 hg4)
    | (at_builtin; refine append_b rfl (.tmp 11) (.tmp 12) 23 rfl w.heap.size 5 i0 Try.underlying23 hi hz0 hz1 hz2 v4 xs rfl (HO4.out.below ((Below.refl _ _).alloc (Nat.le_refl _) _)) (some ⟨w4.heap.size, 0, none⟩) 1 1 [0] rfl rfl (by intro h; cases h) (row_one _ _ _) (by omega) (by have := HG4.out.size; simp at this ⊢; omega) ?_; intro v5 w5 hown5 hg5)
    | fail)
  go_ret2
  have hs4 := HG4.out.size
  simp at hs4
  have b4 : Below w.heap.size w w4 := ((Below.refl _ _).alloc (Nat.le_refl _) _).grown HG4.out (by simp) (fun k h => by cases h; exact Nat.le_refl _)
  exact ⟨v5, rfl, hown5, (b4.alloc (by omega) _).grown hg5 (by simp; omega) (fun k h => (HO4.out.owns.lt k h).1)⟩

set_option maxHeartbeats 1600000 in
theorem rafter_long (b o l c : Nat) (xs : List Int) (w : World) (hl : 64 ≤ l) (hm : l ≤ 140737488351232) (hc : l ≤ c) (h1 : xs.length = l) (r1 : Row w .u8 (some ⟨b, o, none⟩) xs) (b8 : B8 xs) :
    Calls Try.prog 30 #[.slice (some ⟨b, o, none⟩) l c] w fun e w' => ∃ v, e = .returned (.tuple #[v, .bool (afS xs)]) ∧ OwnB w' w.heap.size 5 v (afL xs) ∧ Below w.heap.size w w' := by
  obtain ⟨i0, hi, hz0, hz1, hz2⟩ := info_parts infoByte'
  have R1 := hide r1
  have H8 := hide b8
  clear r1 b8
  have i1 : ¬ (l : Int) < 64 := by omega
  go_enter Try.func30, Try.ntmps30
  go_wp2_with fail
  go_loopw [4] (fun q wr => ∃ k : Nat, k ≤ 64 ∧ q = .int .i64 (k : Int) ∧ wr = w ∧ Hid (∀ i, k ≤ i → i < 64 → ¬ xs.getD i 0 < 255)) (fun q _ => (intOf q).toNat)
  case atStart => exact ⟨64, by omega, rfl, rfl, fun i hi hj => by omega⟩
  case round =>
    obtain ⟨k, hk, rfl, hw, HE⟩ := hrel
    have hw' := hw.symm
    subst hw'
    clear hw
    by_cases hlt : 0 < k
    · obtain ⟨q, rfl⟩ : ∃ q, k = q + 1 := ⟨k - 1, by omega⟩
      have hbyte := H8.out (xs.getD q 0) (by rw [List.getD_eq_getElem?_getD, List.getElem?_eq_getElem (by omega)]; exact List.getElem_mem _)
      obtain ⟨b', o', hbe, hcell⟩ := R1.out q (by omega)
      cases hbe
      have e1 : ((q + 1 : Nat) : Int) - 1 = (q : Int) := by omega
      have e2 : ((q + 1 : Nat) : Int) > 0 := by omega
      have e3 : (q : Int) < (l : Int) := by omega
      have e4 : ((q + 1 : Nat) : Int) ≤ (c : Int) := by omega
      have e5 : ((q + 1 : Nat) : Int).toNat = q + 1 := by omega
      by_cases hc255 : xs.getD q 0 < 255
      · have HT : Hid (afS xs = true ∧ afL xs = xs.take q ++ [xs.getD q 0 + 1]) := af_at xs q (by omega) (by omega) hc255 (fun i h2 h3 => HE.out i (by omega) h3)
        have hlq : (xs.take (q + 1)).length = q + 1 := by rw [List.length_take]; omega
        have R6 : Hid (Row w .u8 (some ⟨b, o, none⟩) (xs.take (q + 1))) := R1.out.take (q + 1)
        have HLQ := hide hlq
        have e7 : (xs.take (q + 1)).getD q 0 = xs.getD q 0 := by
          simp only [List.getD_eq_getElem?_getD]
          rw [List.getElem?_take, if_pos (by omega)]
        have hset : (xs.take (q + 1)).set q (xs.getD q 0 + 1) = xs.take q ++ [xs.getD q 0 + 1] := by
          rw [List.take_succ_eq_append_getElem (by omega), List.set_append_right _ _ (by rw [List.length_take]; omega)]
          simp [show min q xs.length = q by omega]
        rw [← hset] at HT
        have HE7 := hide e7
        clear hlq hset e7
        generalize xs.getD q 0 = cb at *
        have HFAC : Hid (∀ v5 w5, OwnB w5 w.heap.size 5 v5 (xs.take (q + 1)) → ∃ g c5, v5 = .slice (some ⟨g, 0, none⟩) (q + 1) c5 ∧ w.heap.size ≤ g ∧ w5.cell? ⟨g, q, none⟩ = some (.int .u8 cb) ∧ w5.frozen? ⟨g, q, none⟩ = false) := fun v5 w5 ho => by
          obtain ⟨g, c5, h5, hg⟩ := slice_of_owns (n := q + 1) (by have := ho.owns; rwa [HLQ.out] at this) (by omega)
          subst h5
          have hat := ho.at q (by rw [HLQ.out]; omega)
          rw [HE7.out] at hat
          exact ⟨g, c5, rfl, hg, hat.1, hat.2⟩
        generalize xs.take (q + 1) = yk at *
        go_wp2_with (first
          | (at_builtin; refine append_b rfl (.tmp 24) (.tmp 27) 23 rfl w.heap.size 5 i0 Try.underlying23 hi hz0 hz1 hz2 (.slice (some ⟨w.heap.size, 0, none⟩) 0 0) [] rfl (OwnB.made #[] 0 (Nat.le_refl _) (by unfold maxLen; omega) rfl (by intro u hu; cases hu)) (some ⟨b, o, none⟩) (q + 1) _ yk rfl HLQ.out (by intro h; cases h) (R6.out.alloc _) (by simp; omega) (by simp) ?_; intro v4 w4 hown4 hg4; simp only [List.nil_append] at hown4; obtain ⟨g, c5, rfl, hgg, hkc, hkf⟩ := HFAC.out v4 w4 hown4; have HO4 := hide hown4; have HG4 := hide hg4; clear hown4 hg4)
          | fail)
        go_ret2
        have b4 : Below w.heap.size w w4 := ((Below.refl _ _).alloc (Nat.le_refl _) _).grown HG4.out (by simp) (fun k h => by cases h; exact Nat.le_refl _)
        exact ⟨_, by rw [HT.out.1]; rfl, by rw [HT.out.2]; exact HO4.out.put q (cb + 1), b4.setCell (p := ⟨g, q, none⟩) hgg _⟩
      · have HQ : Hid (∀ i, q ≤ i → i < 64 → ¬ xs.getD i 0 < 255) := fun i hi hj => by
          by_cases e : i = q
          · subst e; exact hc255
          · exact HE.out i (by omega) hj
        generalize xs.getD q 0 = cb at *
        go_wp2_with fail
        go_roundw
        case rel => exact ⟨q, by omega, rfl, by first | rfl | trivial, HQ⟩
        case measure => simp [intOf]
    · obtain rfl : k = 0 := by omega
      have HT : Hid (afS xs = false ∧ afL xs = []) := af_none xs (by omega) (fun i hi => HE.out i (by omega) hi)
      go_wp2_with fail
      go_ret2
      exact ⟨_, by rw [HT.out.1]; rfl, by rw [HT.out.2]; exact OwnB.nil _ _ _, Below.refl _ _⟩
theorem rafter_any (a : Option Addr) (l c : Nat) (xs : List Int) (w : World) (hm : l ≤ 140737488351232) (hc : l ≤ c) (hn : a = none → l = 0 ∧ c = 0) (h1 : xs.length = l) (r1 : Row w .u8 a xs) (b8 : B8 xs) :
    Calls Try.prog 30 #[.slice a l c] w fun e w' => ∃ v, e = .returned (.tuple #[v, .bool (afS xs)]) ∧ OwnB w' w.heap.size 5 v (afL xs) ∧ Below w.heap.size w w' := by
  by_cases hl : l < 64
  · have h := af_short xs (by omega)
    rw [h.1, h.2]
    exact rafter_short a l c xs w hl hn h1 r1
  · obtain ⟨b, o, rfl, _, _⟩ := r1.cons (by omega)
    exact rafter_long b o l c xs w (by omega) hm hc h1 r1 b8

end Go.Proofs.Ytfcjbibnjibijaa
