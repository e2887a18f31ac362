/- FootNames: the walk. -/
import Derived.Test.YtlachimmfjagbaaFNames
namespace Go.Proofs.Ytlachimmfjagbaa
open Go.RowKit

theorem exb8 (zs : List Int) (h : zs.all (fun c => decide (0 ≤ c ∧ c ≤ 255)) = true) : B8 zs := fun u hu => of_decide_eq_true (List.all_eq_true.1 h u hu)
theorem nine_madeN (w : World) : OwnB (w.alloc (.cells #[] 5)) w.heap.size 5 (.slice (some ⟨w.heap.size, 0, none⟩) 0 0) [] :=
  OwnB.made (w := w) (base := w.heap.size) (e := 5) #[] 0 (Nat.le_refl _) (by unfold maxLen; omega) rfl (fun u hu => by simp at hu)
theorem one_row (w : World) (x : Int) : Row (w.alloc (.cells #[.int .u8 x] 5)) .u8 (some ⟨w.heap.size, 0, none⟩) [x] := row_new w [x] 5 (0, 0)

set_option maxRecDepth 100000 in
set_option maxHeartbeats 3200000 in
theorem footNames_any (w : World) :
    Calls Try.prog 3 #[] w fun e w' => e = .returned (.bool true) ∧ Below w.heap.size w w' := by
  obtain ⟨i0, hi, hz0, hz1, hz2⟩ := info_parts infoByte'
  go_enter Try.func3, Try.ntmps3
  go_wp2_with fail
  refine (flives_any w).mono ?_
  rintro e w1 ⟨rfl, b1⟩
  have Bw1 := hide b1
  clear b1
  go_wp2_with fail
  refine (two_any w1).mono ?_
  rintro e w2 ⟨g, k0, k1, rfl, t2, hg2, b2⟩
  have T2 := hide t2
  have hgw : w.heap.size ≤ g := by have := Bw1.out.size; omega
  have Bw2 : Hid (Below w.heap.size w w2) := Bw1.out.trans (b2.mono Bw1.out.size)
  clear t2 b2 hg2
  go_wp2_with fail
  refine (fbytes_any (some ⟨g, 0, none⟩) g 0 2 2 [⟨some ⟨k0, 0, none⟩, 2, [97, 98], 8, 20, 2⟩, ⟨some ⟨k1, 0, none⟩, 1, [99], 28, 15, 1⟩] w2 rfl (by omega) (fun _ => rfl) (T2.out.sps (ks := [97, 98]) (.inl ⟨rfl, rfl, rfl⟩) ⟨by unfold I64; omega, by unfold I64; omega, by unfold I64; omega, by unfold I64; omega, by unfold I64; omega, by unfold I64; omega⟩)).mono ?_
  rintro e w3 h3
  obtain ⟨v3, rfl, ho3, b3⟩ := FByPost.tell h3 (show IsChk (rws [⟨some ⟨k0, 0, none⟩, 2, [97, 98], 8, 20, 2⟩, ⟨some ⟨k1, 0, none⟩, 1, [99], 28, 15, 1⟩]) 0 0 from ex_chk)
  rw [show fzs (rws [⟨some ⟨k0, 0, none⟩, 2, [97, 98], 8, 20, 2⟩, ⟨some ⟨k1, 0, none⟩, 1, [99], 28, 15, 1⟩]) 0 = exB from ex_bytes] at ho3
  obtain ⟨a3, c3, rfl, hn3, hc3, hu3⟩ := ho3.sliceN (show exB.length = 13 from rfl)
  have O3 := hide ho3
  have U3 := hide hu3
  have T3 := hide (T2.out.below b3)
  have Bw3 : Hid (Below w.heap.size w w3) := Bw2.out.trans (b3.mono Bw2.out.size)
  have BF3 := hide b3
  have z23 := b3.size
  clear h3 ho3 hu3 b3
  obtain ⟨w4, hw4⟩ : ∃ w4, w4 = w3.alloc (.cells #[.int .u8 2, .int .u8 2, .int .u8 97, .int .u8 98, .int .u8 8, .int .u8 20, .int .u8 2, .int .u8 1, .int .u8 99, .int .u8 28, .int .u8 15, .int .u8 1, .int .u8 3] 5) := ⟨_, rfl⟩
  have b4 : Below w3.heap.size w3 w4 := by rw [hw4]; exact (Below.refl _ _).alloc (Nat.le_refl _) _
  have r4 : Row w4 .u8 (some ⟨w3.heap.size, 0, none⟩) exB := by rw [hw4]; exact row_new w3 exB 5 (0, 0)
  have O4 := hide (O3.out.below b4)
  have T4 := hide (T3.out.below b4)
  have Bw4 : Hid (Below w.heap.size w w4) := Bw3.out.trans (b4.mono Bw3.out.size)
  have HS : Hid (Calls Try.prog 11 #[.slice a3 13 c3, .slice (some ⟨w3.heap.size, 0, none⟩) 13 13] w4 fun e w' => e = .returned (.bool true) ∧ Still w4 w') := (same_any a3 (some ⟨w3.heap.size, 0, none⟩) 13 c3 13 13 exB exB w4 (by unfold maxLen; omega) rfl rfl O4.out.row r4).mono fun e w' h => ⟨by rw [h.1, decide_eq_true rfl], h.2⟩
  clear b4 r4
  go_wp2_with fail
  rw [← hw4]
  clear hw4
  refine HS.out.mono ?_
  rintro e w5 ⟨rfl, s5⟩
  have b5 := s5.below w4.heap.size
  have O5 := hide (O4.out.below b5)
  have T5 := hide (T4.out.below b5)
  have Bw5 : Hid (Below w.heap.size w w5) := Bw4.out.trans (b5.mono Bw4.out.size)
  clear s5 b5 HS O4 T4
  have RT : Hid (∀ W, Below w5.heap.size w5 W → Row W .u8 a3 (exB.take 12)) := fun W h => ((O5.out.below h).row).take 12
  have BA : Hid (Below w5.heap.size w5 (w5.alloc (.cells #[] 5))) := (Below.refl _ _).alloc (Nat.le_refl _) _
  have e12 : (12 : Int) ≤ (c3 : Int) := by omega
  go_upto_region 8 with (first
    | (at_builtin; refine append_b rfl (.tmp 51) (.tmp 52) 25 rfl w5.heap.size 5 i0 Try.underlying25 hi hz0 hz1 hz2 v6 (exB.take 12) rfl (ho6.below ((Below.refl _ _).alloc (Nat.le_refl _) _)) (some ⟨w6.heap.size, 0, none⟩) 1 1 [4] rfl rfl (fun h => by cases h) (one_row w6 4) (by decide) (by have := b6.size; simp; omega) ?_; intro v7 w7 ho7 hg7)
    | (at_builtin; refine append_b rfl (.tmp 48) (.tmp 50) 25 rfl w5.heap.size 5 i0 Try.underlying25 hi hz0 hz1 hz2 (.slice (some ⟨w5.heap.size, 0, none⟩) 0 0) [] rfl (nine_madeN w5) a3 12 c3 (exB.take 12) rfl rfl (fun h => by have := hn3 h; omega) (RT.out _ BA.out) (by decide) (by simp) ?_; intro v6 w6 ho6 hg6; rw [List.nil_append] at ho6; have b6 : Below w5.heap.size w5 w6 := BA.out.grown hg6 (by simp) (fun k hk => by have : w5.heap.size = k := (by simpa [Value.ownBlock] using hk); omega))
    | fail)
  have b7 : Below w5.heap.size w5 w7 := (b6.alloc b6.size _).grown hg7 (by have := b6.size; simp; omega) (fun k hk => (ho6.owns.lt k hk).1)
  have O7' := hide (O5.out.below b7)
  have T7 := hide (T5.out.below b7)
  have Bw7 : Hid (Below w.heap.size w w7) := Bw5.out.trans (b7.mono Bw5.out.size)
  obtain ⟨a7, c7, rfl, hn7, hc7, _⟩ := ho7.sliceN (show (exB.take 12 ++ [4]).length = 13 from rfl)
  have O7 := hide ho7
  clear ho7 hg7 ho6 hg6 b6 b7 RT BA
  have HR7 := hide (fread_any a7 13 c7 (exB.take 12 ++ [4]) w7 rfl (by omega) hc7 hn7 O7.out.row (exb8 _ (by decide)))
  go_wp2_with fail
  refine HR7.out.mono ?_
  rintro e w8 ⟨v8, C8, rfl, _, _, b8⟩
  rw [ex_r1]
  have O8 := hide (O7'.out.below b8)
  have T8 := hide (T7.out.below b8)
  have Bw8 : Hid (Below w.heap.size w w8) := Bw7.out.trans (b8.mono Bw7.out.size)
  clear b8 HR7 O7'
  have U3b : Hid (∀ k, (Value.slice a3 13 c3).ownBlock = some k → w2.heap.size ≤ k) := fun k hk => (U3.out k hk).1
  have hw2s := Bw2.out.size
  have hgl2 : g < w2.heap.size := lt_of_block T2.out.b
  have hk0l : k0 < w2.heap.size := row_ltN T2.out.r0 (by simp)
  have hk1l : k1 < w2.heap.size := row_ltN T2.out.r1 (by simp)
  go_upto_region 10 with (first
    | (at_builtin; refine append_b rfl (.tmp 61) (.tmp 62) 25 rfl 0 5 i0 Try.underlying25 hi hz0 hz1 hz2 (.slice a3 13 c3) exB rfl ((O8.out.mono (Nat.zero_le _)).below ((Below.refl _ _).alloc (Nat.le_refl _) _)) (some ⟨w8.heap.size, 0, none⟩) 1 1 [0] rfl rfl (fun h => by cases h) (one_row w8 0) (by decide) (Nat.zero_le _) ?_; intro v9 w9 ho9 hg9; have u9 : Upd (fun i => (Value.slice a3 13 c3).ownBlock = some i) (w8.alloc (.cells #[.int .u8 0] 5)) w9 := Upd.of_grown hg9 (fun k hk _ => hk); have bA : Below w8.heap.size w8 (w8.alloc (.cells #[.int .u8 0] 5)) := (Below.refl _ _).alloc (Nat.le_refl _) _; have T9 := hide ((T8.out.below bA).upd u9 (fun e => by have := U3b.out g e; omega) (fun e => by have := U3b.out k0 e; omega) (fun e => by have := U3b.out k1 e; omega)); have Bw9 : Hid (Below w.heap.size w w9) := (Bw8.out.alloc Bw8.out.size _).trans (u9.below (by have := Bw8.out.size; simp; omega) (fun k hk e => by have := U3b.out k e; omega)); obtain ⟨a9, c9, rfl, hn9, hc9, _⟩ := ho9.sliceN (show (exB ++ [0]).length = 14 from rfl); have HR9 := hide (fread_any a9 14 c9 (exB ++ [0]) w9 rfl (by omega) hc9 hn9 ho9.row (exb8 _ (by decide))); clear ho9 hg9 u9 bA)
    | fail)
  refine HR9.out.mono ?_
  rintro e w10 ⟨v10, C10, rfl, _, _, b10⟩
  rw [ex_r2]
  have T10 := hide (T9.out.below b10)
  have Bw10 : Hid (Below w.heap.size w w10) := Bw9.out.trans (b10.mono Bw9.out.size)
  clear b10 HR9
  have cw11 : ∃ x, w10.cell? ⟨g, 5, none⟩ = some x := ⟨_, by rw [cell_of_row _ _ _ _ _ _ T10.out.b]; rfl⟩
  obtain ⟨xw11, hxw11⟩ := cw11
  have fw11 : w10.frozen? ⟨g, 5, none⟩ = false := by simp [World.frozen?, T10.out.b]
  obtain ⟨w11, hw11⟩ : ∃ W, W = w10.setCell ⟨g, 5, none⟩ (.int .i64 29) := ⟨_, rfl⟩
  have T11 := hide (T10.out.put 5 (.int .i64 29) (by rfl))
  rw [← hw11] at T11
  have Bw11 : Hid (Below w.heap.size w w11) := by
    show Below _ _ _
    rw [hw11]
    exact Bw10.out.trans (((Upd.refl (fun k => k = g) w10).setCell ⟨g, 5, none⟩ (.int .i64 29) (fun _ => rfl)).below Bw10.out.size (fun k hk e => by have := hgw; omega))
  have HCK1 := hide (fcheck_any (some ⟨g, 0, none⟩) g 0 2 2 [⟨some ⟨k0, 0, none⟩, 2, [97, 98], 8, 20, 2⟩, ⟨some ⟨k1, 0, none⟩, 1, [99], 29, 15, 1⟩] w11 rfl (by omega) (fun _ => rfl) (T11.out.sps (ks := [97, 98]) (.inl ⟨rfl, rfl, rfl⟩) ⟨by unfold I64; omega, by unfold I64; omega, by unfold I64; omega, by unfold I64; omega, by unfold I64; omega, by unfold I64; omega⟩))
  go_wp2_with fail
  rw [← hw11]
  clear hw11 hxw11 fw11
  refine HCK1.out.mono ?_
  rintro e w12 ⟨m1, e1, rfl, hk, bb⟩
  obtain ⟨rfl, rfl⟩ := hk.uniq (show IsChk (rws [⟨some ⟨k0, 0, none⟩, 2, [97, 98], 8, 20, 2⟩, ⟨some ⟨k1, 0, none⟩, 1, [99], 29, 15, 1⟩]) 1 73 from ex_c1)
  have T12 := hide (T11.out.below bb)
  have Bw12 : Hid (Below w.heap.size w w12) := Bw11.out.trans (bb.mono Bw11.out.size)
  clear hk bb HCK1
  have cw13 : ∃ x, w12.cell? ⟨g, 3, none⟩ = some x := ⟨_, by rw [cell_of_row _ _ _ _ _ _ T12.out.b]; rfl⟩
  obtain ⟨xw13, hxw13⟩ := cw13
  have fw13 : w12.frozen? ⟨g, 3, none⟩ = false := by simp [World.frozen?, T12.out.b]
  obtain ⟨w13, hw13⟩ : ∃ W, W = w12.setCell ⟨g, 3, none⟩ (.int .i64 65) := ⟨_, rfl⟩
  have T13 := hide (T12.out.put 3 (.int .i64 65) (by rfl))
  rw [← hw13] at T13
  have Bw13 : Hid (Below w.heap.size w w13) := by
    show Below _ _ _
    rw [hw13]
    exact Bw12.out.trans (((Upd.refl (fun k => k = g) w12).setCell ⟨g, 3, none⟩ (.int .i64 65) (fun _ => rfl)).below Bw12.out.size (fun k hk e => by have := hgw; omega))
  have HCK2 := hide (fcheck_any (some ⟨g, 0, none⟩) g 0 2 2 [⟨some ⟨k0, 0, none⟩, 2, [97, 98], 8, 20, 65⟩, ⟨some ⟨k1, 0, none⟩, 1, [99], 29, 15, 1⟩] w13 rfl (by omega) (fun _ => rfl) (T13.out.sps (ks := [97, 98]) (.inl ⟨rfl, rfl, rfl⟩) ⟨by unfold I64; omega, by unfold I64; omega, by unfold I64; omega, by unfold I64; omega, by unfold I64; omega, by unfold I64; omega⟩))
  go_wp2_with fail
  rw [← hw13]
  clear hw13 hxw13 fw13
  refine HCK2.out.mono ?_
  rintro e w14 ⟨m2, e2, rfl, hk, bb⟩
  obtain ⟨rfl, rfl⟩ := hk.uniq (show IsChk (rws [⟨some ⟨k0, 0, none⟩, 2, [97, 98], 8, 20, 65⟩, ⟨some ⟨k1, 0, none⟩, 1, [99], 29, 15, 1⟩]) 0 75 from ex_c2)
  have T14 := hide (T13.out.below bb)
  have Bw14 : Hid (Below w.heap.size w w14) := Bw13.out.trans (bb.mono Bw13.out.size)
  clear hk bb HCK2
  have cw15 : ∃ x, w14.cell? ⟨g, 2, none⟩ = some x := ⟨_, by rw [cell_of_row _ _ _ _ _ _ T14.out.b]; rfl⟩
  obtain ⟨xw15, hxw15⟩ := cw15
  have fw15 : w14.frozen? ⟨g, 2, none⟩ = false := by simp [World.frozen?, T14.out.b]
  obtain ⟨w15, hw15⟩ : ∃ W, W = w14.setCell ⟨g, 2, none⟩ (.int .i64 0) := ⟨_, rfl⟩
  have T15 := hide (T14.out.put 2 (.int .i64 0) (by rfl))
  rw [← hw15] at T15
  have Bw15 : Hid (Below w.heap.size w w15) := by
    show Below _ _ _
    rw [hw15]
    exact Bw14.out.trans (((Upd.refl (fun k => k = g) w14).setCell ⟨g, 2, none⟩ (.int .i64 0) (fun _ => rfl)).below Bw14.out.size (fun k hk e => by have := hgw; omega))
  have HCK3 := hide (fcheck_any (some ⟨g, 0, none⟩) g 0 2 2 [⟨some ⟨k0, 0, none⟩, 2, [97, 98], 8, 0, 65⟩, ⟨some ⟨k1, 0, none⟩, 1, [99], 29, 15, 1⟩] w15 rfl (by omega) (fun _ => rfl) (T15.out.sps (ks := [97, 98]) (.inl ⟨rfl, rfl, rfl⟩) ⟨by unfold I64; omega, by unfold I64; omega, by unfold I64; omega, by unfold I64; omega, by unfold I64; omega, by unfold I64; omega⟩))
  go_wp2_with fail
  rw [← hw15]
  clear hw15 hxw15 fw15
  refine HCK3.out.mono ?_
  rintro e w16 ⟨m3, e3, rfl, hk, bb⟩
  obtain ⟨rfl, rfl⟩ := hk.uniq (show IsChk (rws [⟨some ⟨k0, 0, none⟩, 2, [97, 98], 8, 0, 65⟩, ⟨some ⟨k1, 0, none⟩, 1, [99], 29, 15, 1⟩]) 0 74 from ex_c3)
  have T16 := hide (T15.out.below bb)
  have Bw16 : Hid (Below w.heap.size w w16) := Bw15.out.trans (bb.mono Bw15.out.size)
  clear hk bb HCK3
  have cw17 : ∃ x, w16.cell? ⟨g, 0, none⟩ = some x := ⟨_, by rw [cell_of_row _ _ _ _ _ _ T16.out.b]; rfl⟩
  obtain ⟨xw17, hxw17⟩ := cw17
  have fw17 : w16.frozen? ⟨g, 0, none⟩ = false := by simp [World.frozen?, T16.out.b]
  obtain ⟨w17, hw17⟩ : ∃ W, W = w16.setCell ⟨g, 0, none⟩ (.slice none 0 0) := ⟨_, rfl⟩
  have T17 := hide (T16.out.put 0 (.slice none 0 0) (by rfl))
  rw [← hw17] at T17
  have Bw17 : Hid (Below w.heap.size w w17) := by
    show Below _ _ _
    rw [hw17]
    exact Bw16.out.trans (((Upd.refl (fun k => k = g) w16).setCell ⟨g, 0, none⟩ (.slice none 0 0) (fun _ => rfl)).below Bw16.out.size (fun k hk e => by have := hgw; omega))
  have HCK4 := hide (fcheck_any (some ⟨g, 0, none⟩) g 0 2 2 [⟨none, 0, [], 8, 0, 65⟩, ⟨some ⟨k1, 0, none⟩, 1, [99], 29, 15, 1⟩] w17 rfl (by omega) (fun _ => rfl) (T17.out.sps (ks := []) (.inr ⟨rfl, rfl, rfl⟩) ⟨by unfold I64; omega, by unfold I64; omega, by unfold I64; omega, by unfold I64; omega, by unfold I64; omega, by unfold I64; omega⟩))
  go_wp2_with fail
  rw [← hw17]
  clear hw17 hxw17 fw17
  refine HCK4.out.mono ?_
  rintro e w18 ⟨m4, e4, rfl, hk, bb⟩
  obtain ⟨rfl, rfl⟩ := hk.uniq (show IsChk (rws [⟨none, 0, [], 8, 0, 65⟩, ⟨some ⟨k1, 0, none⟩, 1, [99], 29, 15, 1⟩]) 0 72 from ex_c4)
  have T18 := hide (T17.out.below bb)
  have Bw18 : Hid (Below w.heap.size w w18) := Bw17.out.trans (bb.mono Bw17.out.size)
  clear hk bb HCK4
  obtain ⟨w19, hw19⟩ : ∃ W, W = w18.alloc (.cells #[.int .u8 1, .int .u8 2, .int .u8 97] 5) := ⟨_, rfl⟩
  have b19 : Below w18.heap.size w18 w19 := by rw [hw19]; exact (Below.refl _ _).alloc (Nat.le_refl _) _
  have r19 : Row w19 .u8 (some ⟨w18.heap.size, 0, none⟩) [1, 2, 97] := by rw [hw19]; exact row_new w18 [1, 2, 97] 5 (0, 0)
  have Bw19 : Hid (Below w.heap.size w w19) := Bw18.out.trans (b19.mono Bw18.out.size)
  have HR19 := hide (fread_any (some ⟨w18.heap.size, 0, none⟩) 3 3 [1, 2, 97] w19 rfl (by omega) (by omega) (fun h => by cases h) r19 (exb8 _ (by decide)))
  clear b19 r19
  go_wp2_with fail
  rw [← hw19]
  clear hw19
  refine HR19.out.mono ?_
  rintro e w20 ⟨v20, C20, rfl, _, _, b20⟩
  rw [ex_r3]
  have Bw20 : Hid (Below w.heap.size w w20) := Bw19.out.trans (b20.mono Bw19.out.size)
  clear b20 HR19
  go_wp2_with fail
  refine (two_any w20).mono ?_
  rintro e w21 ⟨g', k0', k1', rfl, t21, _, b21⟩
  have T21 := hide t21
  have Bw21 : Hid (Below w.heap.size w w21) := Bw20.out.trans (b21.mono Bw20.out.size)
  clear t21 b21
  obtain ⟨w22, hw22⟩ : ∃ W, W = w21.alloc (.cells #[.int .u8 98] 5 (1, 2)) := ⟨_, rfl⟩
  have b22 : Below w21.heap.size w21 w22 := by rw [hw22]; exact (Below.refl _ _).alloc (Nat.le_refl _) _
  have r22 : Row w22 .u8 (some ⟨w21.heap.size, 0, none⟩) [98] := by rw [hw22]; exact row_new w21 [98] 5 (1, 2)
  have Bw22 : Hid (Below w.heap.size w w22) := Bw21.out.trans (b22.mono Bw21.out.size)
  have T22 := hide (T21.out.below b22)
  have HFI := hide (ffind_any (some ⟨g', 0, none⟩) g' 0 2 2 [⟨some ⟨k0', 0, none⟩, 2, [97, 98], 8, 20, 2⟩, ⟨some ⟨k1', 0, none⟩, 1, [99], 28, 15, 1⟩] (some ⟨w21.heap.size, 0, none⟩) 1 1 [98] w22 rfl (by omega) (fun _ => rfl) (T22.out.sps (ks := [97, 98]) (.inl ⟨rfl, rfl, rfl⟩) ⟨by unfold I64; omega, by unfold I64; omega, by unfold I64; omega, by unfold I64; omega, by unfold I64; omega, by unfold I64; omega⟩) r22 rfl (exb8 _ (by decide)))
  have kc := fun (C : Array Value) (n c : Nat) => Lib.run_convert_bytes_const (P := Try.prog) w21 25 5 C n c Try.underlying25 Try.underlying5
  clear b22 r22
  go_wp2_with fail
  have hw22' : w22 = w21.alloc (.cells #[.int .u8 98] 5 (1, 2)) := hw22
  rw [← hw22']
  clear hw22 hw22' kc
  refine HFI.out.mono ?_
  rintro e w23 ⟨k, rfl, hk, b23⟩
  obtain rfl : k = 1 := find_same ex_gd hk ex_find
  have Bw23 : Hid (Below w.heap.size w w23) := Bw22.out.trans (b23.mono Bw22.out.size)
  clear hk b23 HFI
  go_wp2_with fail
  refine (two_any w23).mono ?_
  rintro e w24 ⟨g'', k0'', k1'', rfl, t24, _, b24⟩
  have T24 := hide t24
  have Bw24 : Hid (Below w.heap.size w w24) := Bw23.out.trans (b24.mono Bw23.out.size)
  clear t24 b24
  have HTO := hide (total_any (some ⟨g'', 0, none⟩) g'' 0 2 2 [⟨some ⟨k0'', 0, none⟩, 2, [97, 98], 8, 20, 2⟩, ⟨some ⟨k1'', 0, none⟩, 1, [99], 28, 15, 1⟩] w24 rfl (by omega) (fun _ => rfl) (T24.out.sps (ks := [97, 98]) (.inl ⟨rfl, rfl, rfl⟩) ⟨by unfold I64; omega, by unfold I64; omega, by unfold I64; omega, by unfold I64; omega, by unfold I64; omega, by unfold I64; omega⟩))
  go_wp2_with fail
  refine HTO.out.mono ?_
  rintro e w25 ⟨rfl, b25⟩
  have Bw25 : Hid (Below w.heap.size w w25) := Bw24.out.trans (b25.mono Bw24.out.size)
  have ht : totW (rws [⟨some ⟨k0'', 0, none⟩, 2, [97, 98], 8, 20, 2⟩, ⟨some ⟨k1'', 0, none⟩, 1, [99], 28, 15, 1⟩]) 2 = 3 := ex_tot
  rw [ht]
  clear b25 ht HTO
  go_wp2_with fail
  go_ret
  exact ⟨rfl, Bw25.out⟩

end Go.Proofs.Ytlachimmfjagbaa
