/- foot: the document's Same of rows that are the same; the law's keptRows. -/
import Derived.Test.YtepjblmjjegpgaaGreatW32
import Derived.Laws.BytesArg
import Derived.Deep.RegionLaw
import Derived.Deep.CutBlock
import Derived.Deep.DeepCutAuto
namespace Go.Proofs.YtepjblmjjegpgaaGreat
open Go.RowKit
set_option maxRecDepth 100000

theorem fconv_row {w : World} {a : Option Addr} {len : Nat} (cap : Nat) {zs : List Int} (hl : zs.length = len) (hr : Row w .u8 a zs) :
    (convert 23 9 (.slice a len cap)).run Tryz.prog w = .ok (.string (strOfNums zs)) w := by
  by_cases h0 : len = 0
  · subst h0
    obtain rfl : zs = [] := List.eq_nil_of_length_eq_zero hl
    rw [run_convert_bytes_string w 23 9 5 _ 0 cap Tryz.underlying23 Tryz.underlying5 Tryz.underlying9]
    cases a <;> simp [Conv.bytesToString, loadCells]
    all_goals rfl
  · obtain ⟨b, o, rfl, _, hc⟩ := hr.cons (by omega)
    exact run_convert_bytes_arg (P := Tryz.prog) w 23 5 Tryz.underlying23 Tryz.underlying5 b o len cap zs hl (by rw [← hl]; exact hc) 9 Tryz.underlying9


theorem rws_eq {A B : List Spn} (h : rws A = rws B) (i : Nat) (ha : i < A.length) (hb : i < B.length) : A[i].ks = B[i].ks ∧ A[i].pl = B[i].pl ∧ A[i].ln = B[i].ln ∧ A[i].n = B[i].n := by
  have e : (rws A).getD i default = (rws B).getD i default := by rw [h]
  rw [rws_at A i ha, rws_at B i hb] at e
  unfold Spn.row at e
  simp only [FRow.mk.injEq] at e
  exact e

set_option maxRecDepth 100000 in
set_option maxHeartbeats 1600000 in
theorem fsame_any (a1 a2 : Option Addr) (b1 o1 b2 o2 n c1 c2 : Nat) (A B : List Spn) (w : World) (hA : A.length = n) (hB : B.length = n) (hm : n ≤ 140737488351232) (h1 : 0 < n → a1 = some ⟨b1, o1, none⟩) (h2 : 0 < n → a2 = some ⟨b2, o2, none⟩) (SA : Sps w b1 o1 A) (SB : Sps w b2 o2 B) (he : rws A = rws B) :
    Calls Tryz.prog 27 #[.slice a1 n c1, .slice a2 n c2] w fun e w' => e = .returned (.bool true) ∧ Below w.heap.size w w' := by
  have HSA := hide SA
  have HSB := hide SB
  have HE := hide he
  have H1 := hide h1
  have H2 := hide h2
  clear SA SB he h1 h2
  go_enter Tryz.func27, Tryz.ntmps27
  go_wp2_with fail
  go_loopw [5] (fun x wr => ∃ i : Nat, i ≤ n ∧ x = .int .i64 (i : Int) ∧ Hid (Below w.heap.size w wr)) (fun x _ => n - (intOf x).toNat)
  case atStart => exact ⟨0, Nat.zero_le _, rfl, Below.refl _ _⟩
  case round =>
    obtain ⟨i, hi, rfl, HB⟩ := hrel
    rename World => wr
    by_cases hlt : i < n
    · have j1 : (i : Int) < (n : Int) := by omega
      have j2 : (0 : Int) ≤ (i : Int) := by omega
      obtain rfl := H1.out (by omega)
      obtain rfl := H2.out (by omega)
      have ra := (HSA.out.below HB.out).c i (by omega)
      have rb := (HSB.out.below HB.out).c i (by omega)
      have oa := (HSA.out.below HB.out).ok i (by omega)
      have ob := (HSB.out.below HB.out).ok i (by omega)
      obtain ⟨e1, e2, e3, e4⟩ := rws_eq HE.out i (by omega) (by omega)
      have x0 := ra.c0
      have x1 := ra.c1
      have x2 := ra.c2
      have x3 := ra.c3
      have y0 := rb.c0
      have y1 := rb.c1
      have y2 := rb.c2
      have y3 := rb.c3
      unfold Spn.kv at x0 y0
      rw [e1] at x0
      rw [e2] at x1
      rw [e3] at x2
      rw [e4] at x3
      obtain ⟨nk, hnk⟩ : ∃ nk, B[i].ks.length = nk := ⟨_, rfl⟩
      rw [hnk] at x0 y0
      have q1 : ∀ m, (convert 23 9 (.slice A[i].ka nk A[i].kc)).run Tryz.prog (wr.drewN m) = .ok (.string (strOfNums B[i].ks)) (wr.drewN m) := fun m => fconv_row A[i].kc hnk (show Row wr .u8 _ _ by rw [← e1]; exact oa.k)
      have q2 : ∀ m, (convert 23 9 (.slice B[i].ka nk B[i].kc)).run Tryz.prog (wr.drewN m) = .ok (.string (strOfNums B[i].ks)) (wr.drewN m) := fun m => fconv_row B[i].kc hnk (show Row wr .u8 _ _ from ob.k)
      generalize strOfNums B[i].ks = ss at *
      generalize A[i].ka = ka at *
      generalize A[i].kc = kc at *
      generalize B[i].ka = ka' at *
      generalize B[i].kc = kc' at *
      generalize B[i].pl = pl at *
      generalize B[i].ln = ln at *
      generalize B[i].n = nn at *
      clear ra rb oa ob e1 e2 e3 e4 hnk
      go_wp2_with fail
      go_quiet (fail)
      go_wp2_with fail
      go_roundw
      case rel => exact ⟨i + 1, by omega, by go_num, below_of_drewNF HB.out _⟩
      case measure => simp [intOf]; omega
    · have j1 : ¬ (i : Int) < (n : Int) := by omega
      go_wp2_with fail
      go_ret
      exact ⟨rfl, HB.out⟩

end Go.Proofs.YtepjblmjjegpgaaGreat
