/- foot: the document's Same of rows that are the same; the law's keptRows. -/
import Derived.Test.YtlachimmfjagbaaFRows
import Derived.Laws.BytesArg
import Derived.Deep.RegionLaw
import Derived.Deep.CutBlock
import Derived.Deep.DeepCutAuto
namespace Go.Proofs.Ytlachimmfjagbaa
open Go.RowKit

theorem conv_row {w : World} {a : Option Addr} {len : Nat} (cap : Nat) {zs : List Int} (hl : zs.length = len) (hr : Row w .u8 a zs) :
    (convert 25 9 (.slice a len cap)).run Try.prog w = .ok (.string (strOfNums zs)) w := by
  by_cases h0 : len = 0
  · subst h0
    obtain rfl : zs = [] := List.eq_nil_of_length_eq_zero hl
    rw [run_convert_bytes_string w 25 9 5 _ 0 cap Try.underlying25 Try.underlying5 Try.underlying9]
    cases a <;> simp [Conv.bytesToString, loadCells]
    all_goals rfl
  · obtain ⟨b, o, rfl, _, hc⟩ := hr.cons (by omega)
    exact run_convert_bytes_arg (P := Try.prog) w 25 5 Try.underlying25 Try.underlying5 b o len cap zs hl (by rw [← hl]; exact hc) 9 Try.underlying9


theorem rws_eq {A B : List Spn} (h : rws A = rws B) (i : Nat) (ha : i < A.length) (hb : i < B.length) : A[i].ks = B[i].ks ∧ A[i].pl = B[i].pl ∧ A[i].ln = B[i].ln ∧ A[i].n = B[i].n := by
  have e : (rws A).getD i default = (rws B).getD i default := by rw [h]
  rw [rws_at A i ha, rws_at B i hb] at e
  unfold Spn.row at e
  simp only [FRow.mk.injEq] at e
  exact e

set_option maxRecDepth 100000 in
set_option maxHeartbeats 1600000 in
theorem fsame_any (a1 a2 : Option Addr) (b1 o1 b2 o2 n c1 c2 : Nat) (A B : List Spn) (w : World) (hA : A.length = n) (hB : B.length = n) (hm : n ≤ 140737488351232) (h1 : 0 < n → a1 = some ⟨b1, o1, none⟩) (h2 : 0 < n → a2 = some ⟨b2, o2, none⟩) (SA : Sps w b1 o1 A) (SB : Sps w b2 o2 B) (he : rws A = rws B) :
    Calls Try.prog 23 #[.slice a1 n c1, .slice a2 n c2] w fun e w' => e = .returned (.bool true) ∧ Below w.heap.size w w' := by
  have HSA := hide SA
  have HSB := hide SB
  have HE := hide he
  have H1 := hide h1
  have H2 := hide h2
  clear SA SB he h1 h2
  go_enter Try.func23, Try.ntmps23
  go_wp2_with fail
  go_loopw [5] (fun x wr => ∃ i : Nat, i ≤ n ∧ x = .int .i64 (i : Int) ∧ Hid (Below w.heap.size w wr)) (fun x _ => n - (intOf x).toNat)
  case atStart => exact ⟨0, Nat.zero_le _, rfl, Below.refl _ _⟩
  case round =>
    obtain ⟨i, hi, rfl, HB⟩ := hrel
    rename World => wr
    by_cases hlt : i < n
    · have j1 : (i : Int) < (n : Int) := by omega
      have j2 : (0 : Int) ≤ (i : Int) := by omega
      obtain rfl := H1.out (by omega)
      obtain rfl := H2.out (by omega)
      have ra := (HSA.out.below HB.out).c i (by omega)
      have rb := (HSB.out.below HB.out).c i (by omega)
      have oa := (HSA.out.below HB.out).ok i (by omega)
      have ob := (HSB.out.below HB.out).ok i (by omega)
      obtain ⟨e1, e2, e3, e4⟩ := rws_eq HE.out i (by omega) (by omega)
      have x0 := ra.c0
      have x1 := ra.c1
      have x2 := ra.c2
      have x3 := ra.c3
      have y0 := rb.c0
      have y1 := rb.c1
      have y2 := rb.c2
      have y3 := rb.c3
      unfold Spn.kv at x0 y0
      rw [e1] at x0
      rw [e2] at x1
      rw [e3] at x2
      rw [e4] at x3
      obtain ⟨nk, hnk⟩ : ∃ nk, B[i].ks.length = nk := ⟨_, rfl⟩
      rw [hnk] at x0 y0
      have q1 : ∀ m, (convert 25 9 (.slice A[i].ka nk A[i].kc)).run Try.prog (wr.drewN m) = .ok (.string (strOfNums B[i].ks)) (wr.drewN m) := fun m => conv_row A[i].kc hnk (show Row wr .u8 _ _ by rw [← e1]; exact oa.k)
      have q2 : ∀ m, (convert 25 9 (.slice B[i].ka nk B[i].kc)).run Try.prog (wr.drewN m) = .ok (.string (strOfNums B[i].ks)) (wr.drewN m) := fun m => conv_row B[i].kc hnk (show Row wr .u8 _ _ from ob.k)
      generalize strOfNums B[i].ks = ss at *
      generalize A[i].ka = ka at *
      generalize A[i].kc = kc at *
      generalize B[i].ka = ka' at *
      generalize B[i].kc = kc' at *
      generalize B[i].pl = pl at *
      generalize B[i].ln = ln at *
      generalize B[i].n = nn at *
      clear ra rb oa ob e1 e2 e3 e4 hnk
      go_wp2_with fail
      go_quiet (fail)
      go_wp2_with fail
      go_roundw
      case rel => exact ⟨i + 1, by omega, by go_num, below_of_drewNF HB.out _⟩
      case measure => simp [intOf]; omega
    · have j1 : ¬ (i : Int) < (n : Int) := by omega
      go_wp2_with fail
      go_ret
      exact ⟨rfl, HB.out⟩

set_option maxRecDepth 100000 in
set_option maxHeartbeats 1600000 in
theorem keptrows_any (a : Option Addr) (N g cap b o l c : Nat) (C L : List Spn) (w : World) (hl : L.length = l) (hm : l ≤ 140737488351232) (hcap : l + 1 ≤ cap) (hC : Rwd w N g C L) (ha : 0 < l → a = some ⟨b, o, none⟩) (hE : Sps w b o L) :
    Calls Try.prog 20 #[.slice (some ⟨g, 0, none⟩) l cap, .slice a l c] w fun e w' => e = .returned (.bool true) ∧ Below w.heap.size w w' := by
  have hCl := hC.len
  have SA := hide (fsame_any (some ⟨g, 0, none⟩) a g 0 b o l cap c C L w (by omega) hl hm (fun _ => rfl) ha (hC.sps hE.ok) hE hC.rws)
  have HC := hide (fun (W : World) (h : Below w.heap.size w W) => hC.below h)
  have HE := hide (fun (W : World) (h : Below w.heap.size w W) => hE.below h)
  have HA := hide ha
  clear hE hC ha
  go_enter Try.func20, Try.ntmps20
  go_wp2_with fail
  refine SA.out.mono ?_
  rintro e w1 ⟨rfl, b1⟩
  have HB := hide b1
  clear b1
  go_wp2_with fail
  go_loopw [6] (fun q wr => ∃ k : Nat, k ≤ l ∧ q = .int .i64 (k : Int) ∧ Hid (Below w.heap.size w wr)) (fun q _ => l - (intOf q).toNat)
  case atStart => exact ⟨0, by omega, rfl, HB⟩
  case round =>
    clear HB
    obtain ⟨k, hk, rfl, HB⟩ := hrel
    rename World => wr
    by_cases hlt : k < l
    · have hkC : k < C.length := by omega
      have hkL : k < L.length := by omega
      obtain rfl := HA.out (by omega)
      have hcp := HC.out wr HB.out
      have hen := HE.out wr HB.out
      have e1 := hcp.each k hkC hkL
      have d0 := (hcp.c k hkC).c0
      have c0 := (hen.c k hkL).c0
      have ok := hen.ok k hkL
      unfold Spn.kv at d0 c0
      obtain ⟨gl, q1, q2, _⟩ := e1.k
      have hr := e1.row
      unfold Spn.row at hr
      simp only [FRow.mk.injEq] at hr
      rw [q1, e1.kc, hr.1] at d0
      obtain ⟨nk, hnk⟩ : ∃ nk, L[k].ks.length = nk := ⟨_, rfl⟩
      rw [hnk] at d0 c0
      have HK : Hid (Calls Try.prog 25 #[.slice (some ⟨gl, 0, none⟩) nk (nk + 2), .slice L[k].ka nk L[k].kc] wr.drew fun e w' => e = .returned (.bool true) ∧ Below wr.heap.size wr w') := by
        refine (kept_any gl L[k].ka nk L[k].kc L[k].ks wr.drew hnk (by have := ok.zk; omega) (show Lent wr _ _ from q2) (show Row wr .u8 _ _ from ok.k)).mono ?_
        rintro e w' ⟨rfl, h⟩
        have := h.below wr.heap.size
        exact ⟨rfl, this.os, this.tape, this.output, this.size, this.block⟩
      have hgl : g < wr.heap.size := World.block_lt_of_cell? wr ⟨g, _, none⟩ d0
      have hbl : b < wr.heap.size := World.block_lt_of_cell? wr ⟨b, _, none⟩ c0
      generalize L[k].ka = ka at *
      generalize L[k].kc = kc at *
      have i1 : (k : Int) < (l : Int) := by omega
      have i2 : (0 : Int) ≤ (k : Int) := by omega
      clear hcp hen e1 ok q1 q2 hr hnk
      go_wp2_with fail
      go_region_held3 (fun W => W.cell? ⟨g, k * 4, none⟩ = some (.slice (some ⟨gl, 0, none⟩) nk (nk + 2)) ∧ W.cell? ⟨b, o + k * 4, none⟩ = some (.slice ka nk kc)) (go_keep) (first
        | (go_at_call 25; refine HK.out.mono ?_; rintro e v1 ⟨rfl, hv1⟩; have f0 := (hv1.cell (p := ⟨g, k * 4, none⟩) hgl).trans d0; have f1 := (hv1.cell (p := ⟨b, o + k * 4, none⟩) hbl).trans c0; have BV := hide hv1; clear hv1)
        | fail)
      have HB2 := hide (HB.out.trans (BV.out.mono HB.out.size))
      clear f0 f1
      go_wp2_with fail
      go_roundw
      case rel => exact ⟨k + 1, by omega, by go_num, HB2⟩
      case measure => simp [intOf]; omega
    · have i1 : ¬ (k : Int) < (l : Int) := by omega
      have hmk := (HC.out wr HB.out).mark
      rw [show C.length = l by omega] at hmk
      have i3 : (l : Int) < (l : Int) + 1 := by omega
      go_wp2_with fail
      go_ret
      exact ⟨rfl, HB.out⟩

end Go.Proofs.Ytlachimmfjagbaa
