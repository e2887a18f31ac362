/- A source behind an In; an In is made; the program is there; what is known behind each call. -/
import Derived.Test.YtjcanghffhpncaaQNum
import Derived.Test.YtjcanghffhpncaaQCalls
namespace Go.Proofs.Ytjcanghffhpncaa
open Go.RowKit

theorem IsIn.lt0 {σ : Type} {RD : Nat → σ → Int × Int × List Int × σ} {cnt m vol : σ → Nat} {B g : Nat} {Rd : World → σ → (Nat → Prop) → Prop} {W : World} {x : InS σ} {F : Nat → Prop} {f : FuncId} {recv r : Value} (X : RFam RD cnt m vol f recv B Rd) (h : IsIn Rd B g r W x F) : ∀ j, F j → B ≤ j ∧ j < W.heap.size := by
  obtain ⟨hv, M, hi, hr, ho, hMg, hBg, hd, hF⟩ := h
  intro j hj
  rcases (hF j).1 hj with h | h | h
  · exact (X.R 1 (by omega) (by omega)).lt hr j h
  · subst h; exact ⟨hBg, lt_of_block hi⟩
  · exact ho.owns.lt j h

theorem src_fam (zs gs : List Int) (fail : Int) (eager : Bool) (g B : Nat) (M0 : Nat → Prop) (hz8 : B8 zs) : RFam (fun k => srcRd zs gs fail eager k) Prod.fst (fun s => zs.length - s.2) (fun s => zs.length - s.2) 83 (.pointer (some ⟨g, 0, none⟩)) B (SrcRd zs gs fail eager g B M0) where
  R := fun k _ h => src_reader zs gs fail eager k g B M0 hz8 (by omega)
  vol := fun k s _ _ => by
    have := srcN_le zs gs fail (s.1 + 1) s.2 k
    simp only [srcRd, List.length_take, List.length_drop]
    omega

set_option maxHeartbeats 400000 in
theorem newIn_any (ty : TypeId) (pv : Value) (most : Int) (mo : Nat) (W : World) (hmo : (mo : Int) = max 0 most) :
    Calls Try.prog 10 #[.iface ty pv, .int .i64 most] W fun e W' => e = .returned (.pointer (some ⟨W.heap.size, 0, none⟩)) ∧ W' = W.alloc (.cells #[.int .i64 0, .int .i64 0, .int .i64 0, .iface ty pv, .int .i64 (mo : Int), .slice none 0 0] 47) := by
  have HM := hide hmo
  clear hmo
  by_cases h : most < 0
  · have hm0 : Hid (mo = 0) := hide (by have := HM.out; omega)
    go_enter Try.func10, Try.ntmps10
    go_wp2_with fail
    go_ret
    refine ⟨rfl, ?_⟩
    rw [hm0.out]
    first | rfl | (congr 1; simp; omega)
  · have hm0 : Hid ((mo : Int) = most) := hide (by have := HM.out; omega)
    go_enter Try.func10, Try.ntmps10
    go_wp2_with fail
    all_goals go_ret
    all_goals refine ⟨rfl, ?_⟩
    all_goals (first | (rw [hm0.out]; done) | rw [show (mo : Int) = 0 from by have := hm0.out; omega])

/-- A new In over a source. -/
theorem newIn_src {W : World} {zs gs : List Int} {fail : Int} {eager : Bool} {g B : Nat} {M0 : Nat → Prop} (hz8 : B8 zs) (hS : SrcAt W M0 zs gs fail eager g 0 0) (hMB : ∀ i, M0 i → B ≤ i) (hB : B ≤ W.heap.size) (mo : Nat) (v : Value) :
    IsIn (SrcRd zs gs fail eager g B M0) B W.heap.size v (W.alloc (.cells #[.int .i64 0, .int .i64 0, .int .i64 0, v, .int .i64 (mo : Int), .slice none 0 0] 47)) ⟨(0, 0), 0, 0, 0, mo, []⟩ (fun j => M0 j ∨ j = W.heap.size) := by
  have hu : Upd Noth W (W.alloc (.cells #[.int .i64 0, .int .i64 0, .int .i64 0, v, .int .i64 (mo : Int), .slice none 0 0] 47)) := (Upd.refl _ _).alloc _
  refine ⟨.slice none 0 0, M0, heap_alloc_new W _, ((src_fam zs gs fail eager g B M0 hz8).R 1 (by omega) (by omega)).upd (show SrcRd zs gs fail eager g B M0 W (0, 0) M0 from ⟨rfl, hS, hMB⟩) hu (fun _ e => e.elim), OwnB.nil _ _ _, fun e => by have := hS.lt.1 _ e; omega, hB, (fun j hj => by cases hj), fun j => ⟨fun h => h.elim .inl (fun h => .inr (.inl h)), fun h => h.elim .inl (fun h => h.elim .inr (fun h => by cases h))⟩⟩

theorem lives_num : (numP (fun k => srcRd [172, 2] [] 0 false k) ⟨(0, 0), 0, 0, 0, 9, []⟩).1 = 300 ∧ (numP (fun k => srcRd [172, 2] [] 0 false k) ⟨(0, 0), 0, 0, 0, 9, []⟩).2.1 = 0 := by decide +kernel
theorem two_row (W : World) (x y : Int) : Row (W.alloc (.cells #[.int .u8 x, .int .u8 y] 5)) .u8 (some ⟨W.heap.size, 0, none⟩) [x, y] := by
  intro i hi
  refine ⟨_, _, rfl, ?_⟩
  rw [cell_of_row _ _ _ _ _ _ (World.alloc_heap_new W _)]
  match i, hi with
  | 0, _ => rfl
  | 1, _ => rfl

theorem new_ok (zs : List Int) (mo C : Nat) (hC : 17 * zs.length + 16 ≤ C) (hz : zs.length ≤ 140737488355328) : InOk Prod.fst (fun s : Nat × Nat => zs.length - s.2) (fun s : Nat × Nat => zs.length - s.2) C mo ⟨(0, 0), 0, 0, 0, mo, []⟩ :=
  ⟨by simp, b8_nil, fun _ => by simp, fun _ => by simp only; omega, fun _ => by simp, fun _ => by simp only [List.length_nil]; omega, Nat.zero_le _⟩

set_option maxRecDepth 100000 in
set_option maxHeartbeats 800000 in
theorem lives_any (w : World) :
    Calls Try.prog 9 #[] w fun e w' => e = .returned (.bool true) ∧ Below w.heap.size w w' := by
  have HN := hide (newSource_any (some ⟨w.heap.size, 0, none⟩) none 2 2 0 0 [172, 2] [] 0 false (w.alloc (.cells #[.int .u8 172, .int .u8 2] 5)) rfl rfl (by omega) (by omega) (fun h => by cases h) (fun _ => ⟨rfl, rfl⟩) (two_row w 172 2) (row_nil _ _ _))
  have h8 : B8 [172, 2] := fun x hx => by simp at hx; omega
  go_enter Try.func9, Try.ntmps9
  go_wp2_with fail
  refine HN.out.mono ?_
  rintro e w1 ⟨g, M, rfl, hS, hM, hb1⟩
  have hb1' := hide (below_lit' hb1)
  have HNI := hide (newIn_src h8 hS (fun i hi => by have := hM i hi; simp at this; omega : ∀ i, M i → w.heap.size ≤ i) hb1'.out.size 9 (.iface 29 (.pointer (some ⟨g, 0, none⟩))))
  have HNA := hide (newIn_any 29 (.pointer (some ⟨g, 0, none⟩)) 9 9 w1 (by omega))
  have HMb : Hid (∀ i, M i → w.heap.size ≤ i) := hide (fun i hi => by have := hM i hi; simp at this; omega)
  clear hb1 HN hS hM
  go_wp2_with fail
  refine HNA.out.mono ?_
  rintro e w2 ⟨rfl, rfl⟩
  have hz1 := hb1'.out.size
  have HX := hide (src_fam [172, 2] [] 0 false g w.heap.size M h8)
  have HNM := hide (num_any (src_leads g) HX.out _ w1.heap.size _ _ 100 9 HNI.out (new_ok _ _ _ (by simp) (by simp)) (by omega) (by omega) (by simp; omega) (fun j hj => (HNI.out.lt0 HX.out j hj).2))
  have HL := hide lives_num
  rw [HL.out.1, HL.out.2] at HNM
  have hb2 : Below w.heap.size w (w1.alloc (.cells #[.int .i64 0, .int .i64 0, .int .i64 0, .iface 29 (.pointer (some ⟨g, 0, none⟩)), .int .i64 ((9 : Nat) : Int), .slice none 0 0] 47)) := hb1'.out.alloc hz1 _
  replace hb2 := hide hb2
  clear HNA HNI
  go_wp2_with fail
  refine HNM.out.mono ?_
  rintro e w3 ⟨F', rfl, _, hu3, _⟩
  have hb3 := hide (hb2.out.trans (hu3.below hb2.out.size (fun k hk e => e.elim (fun h => by have := HMb.out k h; omega) (fun h => by omega))))
  clear hu3 HNM hb2
  go_wp2_with fail
  go_ret
  exact ⟨rfl, hb3.out⟩

end Go.Proofs.Ytjcanghffhpncaa
