/- PairChecks: the walk. -/
import Derived.Test.YtfcjbibnjibijaaKKept
import Derived.Test.YtfcjbibnjibijaaKSort2
import Derived.Test.YtfcjbibnjibijaaKLives
namespace Go.Proofs.Ytfcjbibnjibijaa
open Go.RowKit

theorem fL_same {C L : List Ent} (hl : C.length = L.length) (h : ∀ i (h : i < C.length) (h' : i < L.length), C[i].ks = L[i].ks ∧ C[i].vs = L[i].vs) : fL C = fL L := by
  funext i
  unfold fL
  by_cases hi : i < L.length
  · have hi' : i < C.length := by omega
    rw [List.getElem?_eq_getElem hi, List.getElem?_eq_getElem hi', List.getElem?_eq_getElem (show i - 1 < L.length by omega), List.getElem?_eq_getElem (show i - 1 < C.length by omega)]
    simp only [(h i hi' hi).1, (h i hi' hi).2, (h (i - 1) (by omega) (by omega)).1]
  · rw [show C[i]? = none from List.getElem?_eq_none (by omega), show L[i]? = none from List.getElem?_eq_none (by omega)]
theorem Cpd.ens {W W0 : World} {N g : Nat} {C L : List Ent} (h : Cpd W N g C L) (ok : ∀ i (h : i < L.length), L[i].Ok W0) : Ens W g 0 C := by
  refine ⟨fun i hi => by rw [Nat.zero_add]; exact h.at0 i hi, fun i hi => by rw [Nat.zero_add]; exact h.at1 i hi, fun i hi => ?_⟩
  have hi' : i < L.length := by have := h.len; omega
  have e := h.each i hi hi'
  have o := ok i hi'
  obtain ⟨gk, a1, a2, _⟩ := e.k
  obtain ⟨gv, b1, b2, _⟩ := e.v
  exact ⟨by rw [a1, e.ks]; exact a2.row, by rw [b1, e.vs]; exact b2.row, (fun h => by rw [a1] at h; cases h), (fun h => by rw [b1] at h; cases h), by rw [e.ks, e.kc]; omega, by rw [e.vs, e.vc]; omega, by rw [e.ks]; exact o.k8, by rw [e.vs]; exact o.v8, by rw [e.ks]; exact o.zk, by rw [e.vs]; exact o.zv⟩
theorem Cpd.fL {W : World} {N g : Nat} {C L : List Ent} (h : Cpd W N g C L) : fL C = Go.Proofs.Ytfcjbibnjibijaa.fL L := fL_same h.len fun i hi hi' => ⟨(h.each i hi hi').ks, (h.each i hi hi').vs⟩

set_option maxRecDepth 100000 in
set_option maxHeartbeats 3200000 in
theorem pairChecks_any (k v a : Option Addr) (lk ck lv cv b o l c : Nat) (L : List Ent) (w : World) (hl : L.length = l) (hm : l * 48 ≤ 140737488351232) (ha : 0 < l → a = some ⟨b, o, none⟩) (hE : Ens w b o L) :
    Calls Try.prog 4 #[.slice k lk ck, .slice v lv cv, .slice a l c] w fun e w' => e = .returned (.bool true) ∧ Below w.heap.size w w' := by
  have HE := hide (fun (W : World) (h : Below w.heap.size w W) => hE.below h)
  have hbw : Hid (∀ W, Below w.heap.size w W → 0 < l → b < W.heap.size) := fun W h h0 => by have := hE.lt (by omega); have := h.size; omega
  have HOK := hide hE.ok
  clear hE
  go_enter Try.func4, Try.ntmps4
  go_wp2_with fail
  refine (lives_any _).mono ?_
  rintro e w1 ⟨rfl, t1⟩
  have T1 := hide t1
  have t2 : Below w1.heap.size w1 (w1.alloc (.cells #[.slice k lk ck, .slice v lv cv] 25)) := (Below.refl _ _).alloc (Nat.le_refl _) _
  have TW2 : Hid (Below w.heap.size w (w1.alloc (.cells #[.slice k lk ck, .slice v lv cv] 25))) := T1.out.trans (t2.mono T1.out.size)
  have X0 := hide (two_new w1 (.slice k lk ck) (.slice v lv cv) 25 0 _ rfl)
  have X1 := hide (two_new w1 (.slice k lk ck) (.slice v lv cv) 25 1 _ rfl)
  have Z2 := hide (show (w1.alloc (.cells #[.slice k lk ck, .slice v lv cv] 25)).heap.size = w1.heap.size + 1 by simp)
  clear t1 t2
  go_wp2_with fail
  generalize w1.alloc (.cells #[.slice k lk ck, .slice v lv cv] 25) = w2 at *
  refine keep (key_any _ _ _ w2) ?_
  go_wp2_with fail
  refine keep (value_any _ _ _ w2) ?_
  have x0 : w2.cell? ⟨w1.heap.size, 0, none⟩ = some (.slice k lk ck) := X0.out
  have x1 : w2.cell? ⟨w1.heap.size, 1, none⟩ = some (.slice v lv cv) := X1.out
  go_wp2_with fail
  refine (check_any _ _ _ _ _ _ w2).mono ?_
  rintro e w3 ⟨rfl, b3⟩
  have z2 := Z2.out
  have hx : w1.heap.size < w2.heap.size := by omega
  have y0 := (b3.cell (p := ⟨w1.heap.size, 0, none⟩) hx).trans x0
  have y1 := (b3.cell (p := ⟨w1.heap.size, 1, none⟩) hx).trans x1
  have z3 := b3.size
  have hx3 : w1.heap.size < w3.heap.size := by omega
  have T3 := hide (TW2.out.trans (b3.mono TW2.out.size))
  clear b3 x0 x1 X0 X1 Z2 z2 z3 TW2 T1 hx
  generalize w1.heap.size = gx at *
  have YY := hide (And.intro y0 y1)
  clear y0 y1
  go_wp2_with fail
  refine (copy_any a b o l c L w3 hl hm ha (HE.out w3 T3.out) (hbw.out w3 T3.out)).mono ?_
  rintro e w4 ⟨g, cap, C, rfl, C4, hcap, b4⟩
  have T4 := hide (T3.out.trans (b4.mono T3.out.size))
  have B4 := hide b4
  have HC := hide C4
  clear C4 b4
  go_wp2_with fail
  refine (sorted_any (some ⟨g, 0, none⟩) g 0 l cap C w4 (by have := HC.out.len; omega) (by omega) (fun _ => rfl) (HC.out.ens HOK.out)).mono ?_
  rintro e w5 ⟨n5, r5, rfl, S5, b5⟩
  rw [HC.out.fL] at S5
  have HS5 := hide S5
  have T5 := hide (T4.out.trans (b5.mono T4.out.size))
  have B5 := hide (B4.out.trans (b5.mono B4.out.size))
  have HC5 := hide (HC.out.below b5)
  clear S5 b5 T4 B4 HC
  go_wp2_with fail
  refine (rsorted_any a b o l c L w5 hl (by omega) ha (HE.out w5 T5.out)).mono ?_
  rintro e w6 ⟨n6, r6, rfl, S6, b6⟩
  obtain ⟨rfl, rfl⟩ := HS5.out.one S6
  have T6 := hide (T5.out.trans (b6.mono T5.out.size))
  have B6 := hide (B5.out.trans (b6.mono B5.out.size))
  have HC6 := hide (HC5.out.below b6)
  clear S6 b6 T5 B5 HC5 HS5
  go_wp2_with fail
  refine (rkept_yes a _ g cap b o l c C L w6 hl (by omega) hcap HC6.out ha (HE.out w6 T6.out) (hbw.out w6 T6.out)).mono ?_
  rintro e w7 ⟨rfl, b7⟩
  have T7 := hide (T6.out.trans (b7.mono T6.out.size))
  have B7 := hide (B6.out.trans (b7.mono B6.out.size))
  clear b7 T6 B6 HC6
  have y0 := (B7.out.cell (p := ⟨gx, 0, none⟩) hx3).trans YY.out.1
  have y1 := (B7.out.cell (p := ⟨gx, 1, none⟩) hx3).trans YY.out.2
  have RK := hide (rkey_any k lk ck w7)
  have RV := hide (rvalue_any v lv cv w7)
  have RC := hide (rcheck_any k v lk ck lv cv w7)
  generalize chkE lk lv = e3 at *
  generalize keyE lk = e1 at *
  generalize valE lv = e2 at *
  go_wp2_with fail
  refine keep RK.out ?_
  go_wp2_with fail
  refine keep RV.out ?_
  go_wp2_with fail
  refine RC.out.mono ?_
  rintro e w8 ⟨rfl, b8⟩
  have T8 := hide (T7.out.trans (b8.mono T7.out.size))
  clear b8 y0 y1
  go_wp2
  go_ret
  exact ⟨rfl, T8.out⟩

end Go.Proofs.Ytfcjbibnjibijaa
