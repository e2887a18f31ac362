/- VintLists, whole. -/
import Derived.Test.YtlphpcacngimhaaListsF
namespace Go.Proofs.Ytlphpcacngimhaa
open Go.RowKit Go.Shelf
attribute [local go_sem] Oper.semAt_some

theorem Wet.kx {al : Option Addr} {cl : Nat} {A B : World} (h : Wet al cl A) (k : Kx [] A B) : Wet al cl B := fun i hi => by
  obtain ⟨gl, u, ha, hc, hf⟩ := h i hi
  have hb := k.block gl (World.block_lt_of_cell? A ⟨gl, i, none⟩ hc) (by simp)
  exact ⟨gl, u, ha, (World.cell?_of_block (w := A) (w' := B) (a := ⟨gl, i, none⟩) hb).trans hc, by simpa only [World.frozen?, hb] using hf⟩

theorem entry_frame (x y : Value) : ∃ f : Nat → Value, (#[x, y] ++ Array.replicate 235 undef : Array Value) = #[x, y, f 2, f 3, f 4, f 5, f 6, f 7, f 8, f 9, f 10, f 11, f 12, f 13, f 14, f 15, f 16, f 17, f 18, f 19, f 20, f 21, f 22, f 23, f 24, f 25, f 26, f 27, f 28, f 29, f 30, f 31, f 32, f 33, f 34, f 35, f 36, f 37, f 38, f 39, f 40, f 41, f 42, f 43, f 44, f 45, f 46, f 47, f 48, f 49, f 50, f 51, f 52, f 53, f 54, f 55, f 56, f 57, f 58, f 59, f 60, f 61, f 62, f 63, f 64, f 65, f 66, f 67, f 68, f 69, f 70, f 71, f 72, f 73, f 74, f 75, f 76, f 77, f 78, f 79, f 80, f 81, f 82, f 83, f 84, f 85, f 86, f 87, f 88, f 89, f 90, f 91, f 92, f 93, f 94, f 95, f 96, f 97, f 98, f 99, f 100, f 101, f 102, f 103, f 104, f 105, f 106, f 107, f 108, f 109, f 110, f 111, f 112, f 113, f 114, f 115, f 116, f 117, f 118, f 119, f 120, f 121, f 122, f 123, f 124, f 125, f 126, f 127, f 128, f 129, f 130, f 131, f 132, f 133, f 134, f 135, f 136, f 137, f 138, f 139, f 140, f 141, f 142, f 143, f 144, f 145, f 146, f 147, f 148, f 149, f 150, f 151, f 152, f 153, f 154, f 155, f 156, f 157, f 158, f 159, f 160, f 161, f 162, f 163, f 164, f 165, f 166, f 167, f 168, f 169, f 170, f 171, f 172, f 173, f 174, f 175, f 176, f 177, f 178, f 179, f 180, f 181, f 182, f 183, f 184, f 185, f 186, f 187, f 188, f 189, f 190, f 191, f 192, f 193, f 194, f 195, f 196, f 197, f 198, f 199, f 200, f 201, f 202, f 203, f 204, f 205, f 206, f 207, f 208, f 209, f 210, f 211, f 212, f 213, f 214, f 215, f 216, f 217, f 218, f 219, f 220, f 221, f 222, f 223, f 224, f 225, f 226, f 227, f 228, f 229, f 230, f 231, f 232, f 233, f 234, f 235, f 236] := by
  have h0 : (#[x, y] ++ Array.replicate 235 undef : Array Value)[0]? = some x := by rw [Array.getElem?_append_left (by simp)]; rfl
  have h1 : (#[x, y] ++ Array.replicate 235 undef : Array Value)[1]? = some y := by rw [Array.getElem?_append_left (by simp)]; rfl
  have hs : (#[x, y] ++ Array.replicate 235 undef : Array Value).size = 237 := by simp
  generalize (#[x, y] ++ Array.replicate 235 undef : Array Value) = t at *
  refine ⟨fun i => t.getD i undef, (frame_of t hs).trans ((frame_list fun i => t.getD i undef).symm.trans ?_)⟩
  rw [getD_of h0, getD_of h1]

set_option maxRecDepth 100000 in
set_option maxHeartbeats 2000000 in
theorem lists_in (n : Nat) (hn : 10 ≤ n) (a : Option Addr) (len cap : Nat) (zs : List Int) (most : Int) (w : World)
    (hl : zs.length = len) (hm : len ≤ 1048576) (h8 : ∀ c ∈ zs, 0 ≤ c ∧ c ≤ 255) (hnone : a = none → len = 0 ∧ cap = 0) (hr : Row w .u8 a zs) :
    CallsIn Fence.wide n Try.prog 6 #[.slice a len cap, .int .i64 most] w fun e w' => e = .returned (.bool true) ∧ Below w.heap.size w w' := by
  have h1 : 1 ≤ n := by omega
  refine callsIn_of_wp_marks Try.func6 rfl trivial ?_ rfl
  simp only [Try.ntmps6, List.size_toArray, List.length_cons, List.length_nil, Nat.reduceAdd, Nat.reduceSub]
  obtain ⟨f, hf⟩ := entry_frame (.slice a len cap) (.int .i64 most)
  rw [hf]
  clear hf
  gi_wp2
  obtain ⟨w1, hw1⟩ : ∃ w1, ((w.alloc (.cells #[.slice a len cap] 23)).alloc (.cells #[.int .i64 most] 3)).alloc (.cells #[.bool false] 4) = w1 := ⟨_, rfl⟩
  have k1 : Kx [] w w1 := by rw [← hw1]; exact (((Kx.refl _ w).alloc _).alloc _).alloc _
  have s1 : w1.heap.size = w.heap.size + 1 + 1 + 1 := by rw [← hw1]; simp
  have d0 : Boxed w1 w.heap.size 23 (.slice a len cap) := by rw [← hw1]; exact ((Boxed.new w _ _).alloc _).alloc _
  have d1 : Boxed w1 (w.heap.size + 1) 3 (.int .i64 most) := by
    rw [← hw1]
    have := (Boxed.new (w.alloc (.cells #[.slice a len cap] 23)) 3 (.int .i64 most)).alloc (.cells #[.bool false] 4)
    rwa [World.size_alloc] at this
  have d2 : Boxed w1 (w.heap.size + 1 + 1) 4 (.bool false) := by
    rw [← hw1]
    have := Boxed.new ((w.alloc (.cells #[.slice a len cap] 23)).alloc (.cells #[.int .i64 most] 3)) 4 (.bool false)
    rwa [World.size_alloc, World.size_alloc] at this
  rw [hw1]
  clear hw1
  refine ⟨trivial, ((callsIn_wide (n := n - 1)).2 (lives_any w1)).mono ?_⟩
  rintro e w3 ⟨rfl, hb3⟩
  have k3 : Kx [] w1 w3 := Kx.of_below hb3
  have s3 := k3.size
  have q0 := k3.box d0 (by simp)
  have q1 := k3.box d1 (by simp)
  have q2 := k3.box d2 (by simp)
  have kw3 : Kx [] w w3 := k1.trans k3
  have hr3 := hr.kx kw3 (by simp)
  have c3 := q0.cell
  clear hb3 k3 d0 d1 d2 k1
  gi_wp2
  refine ⟨trivial, ((callsIn_wide (n := n - 1)).2 (lent_any a len cap zs w3 hl (by omega) hnone hr3)).mono ?_⟩
  rintro e w4 ⟨rfl, hL4, hb4⟩
  have k4 : Kx [] w3 w4 := Kx.of_below hb4
  have s4 := k4.size
  have lt4 := hL4.lt
  have LW4 : LW a len cap zs most w w3.heap.size w4 := ⟨(kw3.trans k4).below (by simp) (Nat.le_refl _), hL4, k4.box q0 (by simp), k4.box q1 (by simp), k4.box q2 (by simp)⟩
  have HLW4 := hide LW4
  have HR4 := hide hL4.row
  clear hb4 hL4 LW4 q0 q1 q2 c3 hr3 kw3 k4
  gi_wp2
  refine ⟨trivial, (vlist_in (n - 1) (by omega) (some ⟨w3.heap.size, 0, none⟩) len (len + 2) zs w4 hl hm h8 HR4.out).mono ?_⟩
  rintro e w5 ⟨v5, rfl, hown5, hb5⟩
  obtain ⟨al, cl, rfl, hal, hwet, hcl, hlc⟩ := owns_at hown5
  have hra := owns_row hown5
  have k5 : Kx [] w4 w5 := Kx.of_below hb5
  have s5 := k5.size
  have HLW5 := hide (HLW4.out.kx k5 (by simp))
  have HR5 := hide (HR4.out.kx k5 (by simp))
  have HAL := hide hal
  have HWET := hide hwet
  have HRA := hide hra
  have HCL := hide (And.intro hcl hlc)
  clear hown5 hal hwet hra hcl hlc hb5 k5 HLW4 HR4
  gi_wp2
  refine ⟨trivial, (vlist_in (n - 1) (by omega) (some ⟨w3.heap.size, 0, none⟩) len (len + 2) zs w5 hl hm h8 HR5.out).mono ?_⟩
  rintro e w6 ⟨v6, rfl, hown6, hb6⟩
  obtain ⟨a2, c2, rfl, ha2, _, _, _⟩ := owns_at hown6
  have k6 : Kx [] w5 w6 := Kx.of_below hb6
  have s6 := k6.size
  have HLW6 := hide (HLW5.out.kx k6 (by simp))
  have HA2 := hide ha2
  have HR2 := hide (owns_row hown6)
  have HRA6 := hide (HRA.out.kx k6 (by simp))
  have k56 : Hid (Kx [] w5 w6) := k6
  have c6 := HLW6.out.b0.cell
  have hr6 := hr.below2 HLW6.out.bel
  clear hown6 ha2 hb6 k6 HLW5 HR5 HRA
  gi_wp2
  refine ⟨trivial, ((callsIn_wide (n := n - 1)).2 (rlist_any a len cap zs w6 hl hm h8 hr6)).mono ?_⟩
  rintro e w7 ⟨v7, rfl, hown7, hb7⟩
  obtain ⟨a3, c3, rfl, ha3, _, _, _⟩ := owns_at hown7
  have k7 : Kx [] w6 w7 := Kx.of_below hb7
  have s7 := k7.size
  have HLW7 := hide (HLW6.out.kx k7 (by simp))
  have HA3 := hide ha3
  have HR3 := hide (owns_row hown7)
  have HRA7 := hide (HRA6.out.kx k7 (by simp))
  have HR27 := hide (HR2.out.kx k7 (by simp))
  have HK57 := hide (k56.out.trans k7)
  clear hown7 ha3 hb7 k7 HLW6 HRA6 HR2 k56 c6 hr6
  have HSM := hide ((callsIn_wide (n := n - 1)).2 (nsame_any al a3 (outNums zs).length cl c3 (outNums zs) w7 (Nat.le_trans HCL.out.2 HCL.out.1) rfl HRA7.out HR3.out))
  gi_wp2
  refine ⟨trivial, HSM.out.mono ?_⟩
  rintro e w8 ⟨rfl, hst⟩
  have k8 : Kx [] w7 w8 := Kx.of_below (hst.below _)
  have s8 := k8.size
  have HLW8 := hide (HLW7.out.kx k8 (by simp))
  have HR28 := hide (HR27.out.kx k8 (by simp))
  have HR38 := hide (HR3.out.kx k8 (by simp))
  have HK58 := hide (HK57.out.trans k8)
  clear hst k8 HSM HLW7 HR27 HR3 HRA7 HK57
  generalize outErr zs = oe at *
  generalize outEnd zs = od at *
  generalize outNums zs = xs at *
  gi_wp2
  rename_i K hK
  exact lists_spoil n hn a len cap zs most w w8 w3.heap.size _ al a2 a3 xs.length cl c2 c3 xs K rfl rfl rfl rfl rfl rfl rfl rfl rfl hl hm h8 hr HLW8.out (by omega) HCL.out.2 HCL.out.1 (HWET.out.kx HK58.out)
    (fun x hx => by have := HAL.out x hx; omega) (fun x y hx hy => by have := HAL.out x hx; have := HA2.out y hy; omega) (fun x y hx hy => by have := HAL.out x hx; have := HA3.out y hy; omega) rfl HR28.out HR38.out hK

end Go.Proofs.Ytlphpcacngimhaa
