/- VintLists: its range within a range. -/
import Derived.Test.YtlphpcacngimhaaListsB
import Derived.Laws.EntriesVeiled
namespace Go.Proofs.Ytlphpcacngimhaa
open Go.RowKit Go.Shelf
attribute [local go_sem] Oper.semAt_some

theorem Kx.from {S : List Nat} {A B : World} (h : Kx S A B) {b : Nat} (hS : ∀ s ∈ S, s < b) : KeepsFrom b A B :=
  ⟨h.size, fun k o hk h0 _ => (h.block k (Array.getElem?_eq_some_iff.1 h0).1 (fun e => by have := hS k e; omega)).trans h0⟩

/-- How many rounds the inner range has made. -/
def innerOf (N k : Nat) : Nat := if k = 0 then 0 else N
theorem innerOf_zero (N : Nat) : innerOf N 0 = 0 := rfl
theorem innerOf_succ (N k : Nat) : innerOf N (k + 1) = N := rfl

set_option maxRecDepth 100000 in
set_option maxHeartbeats 2000000 in
theorem lists_nested (n : Nat) (hn : 10 ≤ n) (a : Option Addr) (len cap : Nat) (zs : List Int) (most : Int) (w W : World) (g : Nat) (f : Nat → Value) (ds : List Deferred)
    (hl : zs.length = len) (hm : len ≤ 1048576) (h8 : ∀ c ∈ zs, 0 ≤ c ∧ c ≤ 255) (hr : Row w .u8 a zs) (hbel : Below w.heap.size w W) (hL : Lent W g zs) (hmk : Marks w.heap.size ds W)
    (b0 : Boxed W w.heap.size 23 (.slice a len cap)) (b1 : Boxed W (w.heap.size + 1) 3 (.int .i64 most)) (b2 : Boxed W (w.heap.size + 1 + 1) 4 (.bool false)) :
    (partOf 13 (Try.f6.body.getD .skip)).wpIn Fence.wide n Try.prog (ListsEnd n w) { tmps := #[f 0, f 1, .pointer (some ⟨w.heap.size, 0, none⟩), .pointer (some ⟨w.heap.size + 1, 0, none⟩), .pointer (some ⟨w.heap.size + 1 + 1, 0, none⟩), f 5, .slice (some ⟨g, 0, none⟩) len (len + 2), f 7, f 8, f 9, f 10, f 11, f 12, f 13, f 14, f 15, f 16, f 17, f 18, f 19, f 20, f 21, f 22, f 23, f 24, f 25, f 26, f 27, f 28, f 29, f 30, f 31, f 32, f 33, f 34, f 35, f 36, f 37, f 38, f 39, f 40, f 41, f 42, f 43, f 44, f 45, f 46, f 47, f 48, f 49, f 50, f 51, f 52, f 53, f 54, f 55, f 56, f 57, f 58, f 59, f 60, f 61, f 62, f 63, f 64, f 65, f 66, f 67, f 68, f 69, f 70, f 71, f 72, f 73, f 74, f 75, f 76, f 77, f 78, f 79, f 80, f 81, f 82, f 83, f 84, f 85, f 86, f 87, f 88, f 89, f 90, f 91, f 92, f 93, f 94, f 95, f 96, f 97, f 98, f 99, f 100, f 101, f 102, f 103, f 104, f 105, f 106, f 107, f 108, f 109, f 110, f 111, f 112, f 113, f 114, f 115, f 116, f 117, f 118, f 119, f 120, f 121, f 122, f 123, f 124, f 125, f 126, f 127, f 128, f 129, f 130, f 131, f 132, f 133, f 134, f 135, f 136, f 137, f 138, f 139, f 140, f 141, f 142, f 143, f 144, f 145, f 146, f 147, f 148, f 149, f 150, f 151, f 152, f 153, f 154, f 155, f 156, f 157, f 158, f 159, f 160, f 161, f 162, f 163, f 164, f 165, f 166, f 167, f 168, f 169, f 170, f 171, f 172, f 173, f 174, f 175, f 176, f 177, f 178, f 179, f 180, f 181, f 182, f 183, f 184, f 185, f 186, f 187, f 188, f 189, f 190, f 191, f 192, f 193, f 194, f 195, f 196, f 197, f 198, f 199, f 200, f 201, f 202, f 203, f 204, f 205, f 206, f 207, f 208, f 209, f 210, f 211, f 212, f 213, f 214, f 215, f 216, f 217, f 218, f 219, f 220, f 221, f 222, f 223, f 224, f 225, f 226, f 227, f 228, f 229, f 230, f 231, f 232, f 233, f 234, f 235, f 236], defers := ds } W := by
  have h1 : 1 ≤ n := by omega
  have hN := seq_len_le zs h8
  have HR := hide hr
  have nb := Boxed.new (W.alloc (.cells #[.slice (some ⟨g, 0, none⟩) len (len + 2)] 23)) 42 .nilFunc
  rw [World.size_alloc] at nb
  have cN := nb.cell
  have fN := nb.frozen
  have HA := hide ((callsIn_wide (n := n - 1)).2 (all_in (some ⟨g, 0, none⟩) len (len + 2) W))
  clear hr
  conv => arg 4; whnf
  gi_wp2
  refine ⟨trivial, HA.out.mono ?_⟩
  rintro e w' ⟨rfl, rfl⟩
  have nb2 := Boxed.new (W.alloc (.cells #[.slice (some ⟨g, 0, none⟩) len (len + 2)] 23)) 42 (.func (.func 32) #[] #[.pointer (some ⟨W.heap.size, 0, none⟩)])
  rw [World.size_alloc] at nb2
  have c26 := ((nb2.alloc (.cells #[.int .i64 0] 3)).alloc (.cells #[.int .i64 0] 3)).cell
  gi_wp2
  rename_i KK hKK
  obtain ⟨W0, hW0⟩ : ∃ W0, (((W.alloc (.cells #[.slice (some ⟨g, 0, none⟩) len (len + 2)] 23)).alloc (.cells #[.func (.func 32) #[] #[.pointer (some ⟨W.heap.size, 0, none⟩)]] 42)).alloc (.cells #[.int .i64 0] 3)).alloc (.cells #[.int .i64 0] 3) = W0 := ⟨_, rfl⟩
  have k0 : Kx [] W W0 := by rw [← hW0]; exact ((((Kx.refl _ W).alloc _).alloc _).alloc _).alloc _
  have s0 : W0.heap.size = W.heap.size + 1 + 1 + 1 + 1 := by rw [← hW0]; simp
  have dS : Boxed W0 W.heap.size 23 (.slice (some ⟨g, 0, none⟩) len (len + 2)) := by rw [← hW0]; exact (((Boxed.new W _ _).alloc _).alloc _).alloc _
  have d26 : Boxed W0 (W.heap.size + 1) 42 (.func (.func 32) #[] #[.pointer (some ⟨W.heap.size, 0, none⟩)]) := by rw [← hW0]; exact (nb2.alloc _).alloc _
  have d27 : Boxed W0 (W.heap.size + 1 + 1) 3 (.int .i64 0) := by
    rw [← hW0]
    have := (Boxed.new ((W.alloc (.cells #[.slice (some ⟨g, 0, none⟩) len (len + 2)] 23)).alloc (.cells #[.func (.func 32) #[] #[.pointer (some ⟨W.heap.size, 0, none⟩)]] 42)) 3 (.int .i64 0)).alloc (.cells #[.int .i64 0] 3)
    rwa [World.size_alloc, World.size_alloc] at this
  have d28 : Boxed W0 (W.heap.size + 1 + 1 + 1) 3 (.int .i64 0) := by
    rw [← hW0]
    have := Boxed.new (((W.alloc (.cells #[.slice (some ⟨g, 0, none⟩) len (len + 2)] 23)).alloc (.cells #[.func (.func 32) #[] #[.pointer (some ⟨W.heap.size, 0, none⟩)]] 42)).alloc (.cells #[.int .i64 0] 3)) 3 (.int .i64 0)
    rwa [World.size_alloc, World.size_alloc, World.size_alloc] at this
  rw [hW0]
  have e0 := k0.box b0 (by simp)
  have e1 := k0.box b1 (by simp)
  have e2 := k0.box b2 (by simp)
  have hB0 : Below w.heap.size w W0 := hbel.trans (k0.below (by simp) hbel.size)
  have hL0 := k0.lent hL (by simp)
  have hM0 := hmk.kx k0 (by simp)
  have l0 := b0.lt
  have l1 := b1.lt
  have l2 := b2.lt
  have lg := hL.lt
  clear hW0 c26 k0 b0 b1 b2 hbel hL hmk nb nb2 cN fN HA
  refine wpIn_rangeFunc_ownH rfl h1 (gf := 32) (lb := #[.pointer (some ⟨W.heap.size, 0, none⟩)]) rfl trivial (enters_of Try.func32 (by kernel_rfl) rfl)
    (all_stops (n - 1) (by omega) W.heap.size (g + 1) len (len + 2) (some ⟨g, 0, none⟩) zs hl (by omega) h8 W0 (by omega) (by omega) (seq zs).length (Nat.le_refl _) dS.cell hL0.row (fun x hx _ => by cases hx; exact Nat.lt_succ_self _))
    Kb.t (Kb.b (by omega) (by omega)) (Below.refl _ _) (fun _ => rfl)
    (fun (pre : List VX) W' => ((Boxed W' (W.heap.size + 1 + 1) 3 (.int .i64 (pre.length : Int)) ∧ Boxed W' (W.heap.size + 1 + 1 + 1) 3 (.int .i64 (innerOf (seq zs).length pre.length : Int))) ∧ (∀ j : Nat, j < pre.length → (j : Int) ≠ most)) ∧ Kx [W.heap.size + 1 + 1, W.heap.size + 1 + 1 + 1] W0 W')
    (fun c (pre : List VX) W' => ((Boxed W' (W.heap.size + 1 + 1) 3 (.int .i64 ((pre.length - 1 : Nat) : Int)) ∧ Boxed W' (W.heap.size + 1 + 1 + 1) 3 (.int .i64 (innerOf (seq zs).length (pre.length - 1) : Int))) ∧ (c = .exit 6 ∧ ((pre.length - 1 : Nat) : Int) = most ∧ pre ≠ [])) ∧ Kx [W.heap.size + 1 + 1, W.heap.size + 1 + 1 + 1] W0 W')
    (OwnFrom.and (OwnFrom.and (OwnFrom.and (Own.from (boxed_own _ _ _) _) (Own.from (boxed_own _ _ _) _)) (ownFrom_pure _ _)) (Kx.own _ _ _ (Nat.le_refl _)))
    (fun _ => OwnFrom.and (OwnFrom.and (OwnFrom.and (Own.from (boxed_own _ _ _) _) (Own.from (boxed_own _ _ _) _)) (ownFrom_pure _ _)) (Kx.own _ _ _ (Nat.le_refl _)))
    ⟨⟨⟨d27, d28⟩, fun j hj => absurd hj (Nat.not_lt_zero j)⟩, Kx.refl _ _⟩
    (fun x a' _ => a' = { tmps := #[f 0, f 1, .pointer (some ⟨w.heap.size, 0, none⟩), .pointer (some ⟨w.heap.size + 1, 0, none⟩), .pointer (some ⟨w.heap.size + 1 + 1, 0, none⟩), f 5, .slice (some ⟨g, 0, none⟩) len (len + 2), f 7, f 8, f 9, f 10, f 11, f 12, f 13, f 14, f 15, f 16, f 17, f 18, f 19, f 20, f 21, f 22, f 23, f 24, f 25, .pointer (some ⟨W.heap.size + 1, 0, none⟩), .pointer (some ⟨W.heap.size + 1 + 1, 0, none⟩), .pointer (some ⟨W.heap.size + 1 + 1 + 1, 0, none⟩), f 29, f 30, f 31, f 32, f 33, f 34, f 35, f 36, f 37, f 38, f 39, f 40, f 41, f 42, f 43, f 44, f 45, f 46, f 47, f 48, f 49, f 50, f 51, f 52, f 53, f 54, f 55, f 56, f 57, f 58, f 59, f 60, f 61, f 62, f 63, f 64, f 65, f 66, f 67, f 68, f 69, f 70, f 71, f 72, f 73, f 74, f 75, f 76, f 77, f 78, f 79, f 80, f 81, f 82, f 83, f 84, f 85, f 86, f 87, f 88, f 89, f 90, f 91, f 92, f 93, f 94, f 95, f 96, f 97, f 98, f 99, f 100, f 101, f 102, f 103, f 104, f 105, f 106, f 107, f 108, f 109, f 110, f 111, f 112, f 113, f 114, f 115, f 116, f 117, f 118, f 119, f 120, f 121, f 122, f 123, f 124, f 125, f 126, f 127, f 128, f 129, f 130, f 131, f 132, f 133, f 134, f 135, f 136, f 137, f 138, f 139, .slice (some ⟨g, 0, none⟩) len (len + 2), .func (.func 32) #[] #[.pointer (some ⟨W.heap.size, 0, none⟩)], .func (.func 32) #[] #[.pointer (some ⟨W.heap.size, 0, none⟩)], .int .i64 (x.1.1 : Int), .int .u64 (x.1.2 : Int), f 145, f 146, f 147, f 148, f 149, f 150, f 151, f 152, f 153, f 154, f 155, f 156, f 157, f 158, f 159, f 160, f 161, f 162, f 163, f 164, f 165, f 166, f 167, f 168, f 169, f 170, f 171, f 172, f 173, f 174, f 175, f 176, f 177, f 178, f 179, f 180, f 181, f 182, f 183, f 184, f 185, f 186, f 187, f 188, f 189, f 190, f 191, f 192, f 193, f 194, f 195, f 196, f 197, f 198, f 199, f 200, f 201, f 202, f 203, f 204, f 205, f 206, f 207, f 208, f 209, f 210, f 211, f 212, f 213, f 214, f 215, f 216, f 217, f 218, f 219, f 220, f 221, f 222, f 223, f 224, f 225, f 226, f 227, f 228, f 229, f 230, f 231, f 232, f 233, f 234, f 235, f 236], defers := [] })
    (fun _ _ _ _ _ _ hs _ _ => hs) ?assign ?body ?done ?stop
  case assign =>
    rintro l pre x W' K hi hK
    simp only [vxs]
    gi_wp2
    exact hK _ _ (KeepsFrom.refl _ _) ⟨Below.refl _ _, rfl⟩ hi rfl
  case body =>
    rintro l pre x a' W' hl0 ⟨r, hrr⟩ ⟨⟨⟨h27, h28⟩, hno⟩, hK⟩ rfl hlt
    have hx2 := x.2
    have bS := hK.box dS (by simp; omega)
    have c1 := (hK.box e1 (by simp; omega)).cell
    have c26 := (hK.box d26 (by simp)).cell
    have HK := hide hK
    have HNO := hide hno
    have hLx := hK.lent hL0 (by simp; omega)
    have sK := hK.size
    clear hno hK
    by_cases hq : (pre.length : Int) = most
    · have t1 : ((pre.length : Int) == most) = true := by simpa using hq
      have c27 := h27.cell
      gi_wp2
      refine ⟨KeepsFrom.refl _ _, ⟨⟨⟨?_, ?_⟩, rfl, ?_, by simp⟩, HK.out⟩⟩
      · rw [List.length_append, List.length_singleton, Nat.add_sub_cancel]; exact h27
      · rw [List.length_append, List.length_singleton, Nat.add_sub_cancel]; exact h28
      · rw [List.length_append, List.length_singleton, Nat.add_sub_cancel]; exact hq
    · have t1 : ((pre.length : Int) == most) = false := by simpa using hq
      have hno2 : ∀ j : Nat, j < (pre ++ [x]).length → (j : Int) ≠ most := fun j hj e => by
        rw [List.length_append, List.length_singleton] at hj
        by_cases hj2 : j < pre.length
        · exact HNO.out j hj2 e
        · exact hq (by rw [← e]; congr 1; omega)
      have HNO2 := hide hno2
      have HQ := hide hq
      clear hno2 hq
      by_cases hz : pre.length = 0
      · have hp : pre = [] := List.eq_nil_of_length_eq_zero hz
        have c27 : W'.cell? ⟨W.heap.size + 1 + 1, 0, none⟩ = some (.int .i64 0) := by have := h27.cell; rw [hz] at this; exact this
        have t0 : ((0 : Int) == most) = false := by rw [hz] at t1; exact t1
        have f27 := h27.frozen
        gi_wp2
        obtain ⟨W1, hW1⟩ : ∃ W1, W'.setCell ⟨W.heap.size + 1 + 1, 0, none⟩ (.int .i64 1) = W1 := ⟨_, rfl⟩
        have k1 : Kx [W.heap.size + 1 + 1] W' W1 := by rw [← hW1]; exact (Kx.refl _ W').setCell (by simp) _
        have q27 : Boxed W1 (W.heap.size + 1 + 1) 3 (.int .i64 1) := by rw [← hW1]; exact h27.set _
        have q28 : Boxed W1 (W.heap.size + 1 + 1 + 1) 3 (.int .i64 0) := by have := k1.box h28 (by simp); rw [hz] at this; exact this
        have qS := k1.box bS (by simp; omega)
        have qL := k1.lent hLx (by simp; omega)
        have s1 := k1.size
        have ko1 : KeepsFrom W0.heap.size W' W1 := k1.from (by simp; omega)
        have hrr' : W1.heap[l]? = some (.loop r) := ko1.same _ _ hl0 hrr rfl
        have h1' : 1 ≤ n - 1 - 1 := by omega
        rw [hW1]
        clear hW1
        refine wpIn_rangeFunc_ownN (l₀ := l) (r₀ := r) rfl hrr' h1' (gf := 32) (lb := #[.pointer (some ⟨W.heap.size, 0, none⟩)]) rfl trivial (enters_of Try.func32 (by kernel_rfl) rfl)
          ((all_stops (n - 1 - 1 - 1) (by omega) W.heap.size (g + 1) len (len + 2) (some ⟨g, 0, none⟩) zs hl (by omega) h8 W1 (by omega) (by omega) (seq zs).length (Nat.le_refl _) qS.cell qL.row (fun x hx _ => by cases hx; exact Nat.lt_succ_self _)).inRound l)
          Kb.t (Kb.b (by omega) (by omega)) (Below.refl _ _) (fun _ => rfl)
          (fun (pre' : List VX) W'' => (Boxed W'' (W.heap.size + 1 + 1 + 1) 3 (.int .i64 (pre'.length : Int)) ∧ Boxed W'' (W.heap.size + 1 + 1) 3 (.int .i64 1)) ∧ Kx [W.heap.size + 1 + 1 + 1] W1 W'')
          (fun _ _ _ => False)
          (OwnFrom.and (OwnFrom.and (Own.from (boxed_own _ _ _) _) (Own.from (boxed_own _ _ (fun _ => .int .i64 1)) _)) (Kx.own _ _ _ (Nat.le_refl _)))
          (fun _ => ownFrom_pure _ _)
          ⟨⟨q28, q27⟩, Kx.refl _ _⟩
          (fun y a'' _ => a'' = { tmps := #[f 0, f 1, .pointer (some ⟨w.heap.size, 0, none⟩), .pointer (some ⟨w.heap.size + 1, 0, none⟩), .pointer (some ⟨w.heap.size + 1 + 1, 0, none⟩), f 5, .slice (some ⟨g, 0, none⟩) len (len + 2), f 7, f 8, f 9, f 10, f 11, f 12, f 13, f 14, f 15, f 16, f 17, f 18, f 19, f 20, f 21, f 22, f 23, f 24, f 25, .pointer (some ⟨W.heap.size + 1, 0, none⟩), .pointer (some ⟨W.heap.size + 1 + 1, 0, none⟩), .pointer (some ⟨W.heap.size + 1 + 1 + 1, 0, none⟩), f 29, f 30, f 31, f 32, f 33, f 34, f 35, f 36, f 37, f 38, f 39, f 40, f 41, f 42, f 43, f 44, f 45, f 46, f 47, f 48, f 49, f 50, f 51, f 52, f 53, f 54, f 55, f 56, f 57, f 58, f 59, f 60, f 61, f 62, f 63, f 64, f 65, f 66, f 67, f 68, f 69, f 70, f 71, f 72, f 73, f 74, f 75, f 76, f 77, f 78, f 79, f 80, f 81, f 82, f 83, f 84, f 85, f 86, f 87, f 88, f 89, f 90, f 91, f 92, f 93, f 94, f 95, f 96, f 97, f 98, f 99, f 100, f 101, f 102, f 103, f 104, f 105, f 106, f 107, f 108, f 109, f 110, f 111, f 112, f 113, f 114, f 115, f 116, f 117, f 118, f 119, f 120, f 121, f 122, f 123, f 124, f 125, f 126, f 127, f 128, f 129, f 130, f 131, f 132, f 133, f 134, f 135, f 136, f 137, f 138, f 139, .slice (some ⟨g, 0, none⟩) len (len + 2), .func (.func 32) #[] #[.pointer (some ⟨W.heap.size, 0, none⟩)], .func (.func 32) #[] #[.pointer (some ⟨W.heap.size, 0, none⟩)], .int .i64 (x.1.1 : Int), .int .u64 (x.1.2 : Int), .int .i64 0, .int .i64 most, .bool false, .int .i64 0, .int .i64 1, .int .i64 1, .bool true, .func (.func 32) #[] #[.pointer (some ⟨W.heap.size, 0, none⟩)], .int .i64 (y.1.1 : Int), .int .u64 (y.1.2 : Int), f 155, f 156, f 157, f 158, f 159, f 160, f 161, f 162, f 163, f 164, f 165, f 166, f 167, f 168, f 169, f 170, f 171, f 172, f 173, f 174, f 175, f 176, f 177, f 178, f 179, f 180, f 181, f 182, f 183, f 184, f 185, f 186, f 187, f 188, f 189, f 190, f 191, f 192, f 193, f 194, f 195, f 196, f 197, f 198, f 199, f 200, f 201, f 202, f 203, f 204, f 205, f 206, f 207, f 208, f 209, f 210, f 211, f 212, f 213, f 214, f 215, f 216, f 217, f 218, f 219, f 220, f 221, f 222, f 223, f 224, f 225, f 226, f 227, f 228, f 229, f 230, f 231, f 232, f 233, f 234, f 235, f 236], defers := [] })
          (fun _ _ _ _ _ _ hs _ _ => hs) ?assign2 ?body2 ?done2 ?stop2
        case assign2 =>
          rintro l2 pre' y W'' K hi hK
          simp only [vxs]
          gi_wp2
          exact hK _ _ (KeepsFrom.refl _ _) ⟨Below.refl _ _, rfl⟩ hi rfl
        case body2 =>
          rintro l2 pre' y a'' W'' _ _ ⟨⟨g28, g27⟩, gK⟩ rfl hlt2
          have cc := g28.cell
          have ff := g28.frozen
          have gS := gK.box qS (by simp; omega)
          have GK := hide gK
          clear gK
          gi_wp2
          have gS' := gS.other (B' := W.heap.size + 1 + 1 + 1) (by omega) (.int .i64 ((pre'.length : Int) + 1))
          refine ⟨(KeepsOthers.setCell _ _ _).from _, ⟨(Below.refl _ W'').setCell (p := ⟨W.heap.size + 1 + 1 + 1, 0, none⟩) (by simp; omega) _, (show _ = _ from gS').trans (show _ = _ from gS).symm⟩, ⟨⟨?_, g27.other (by omega) _⟩, GK.out.setCell (by simp) _⟩⟩
          rw [List.length_append, List.length_singleton, Int.natCast_add]
          exact g28.set _
        case done2 =>
          rintro ys W'' hys ⟨⟨g28, g27⟩, gK⟩
          have hyl : ys.length = (seq zs).length := by have := congrArg List.length hys; simpa using this
          rw [hyl] at g28
          have gS := gK.box qS (by simp; omega)
          have gKK : Kx [W.heap.size + 1 + 1, W.heap.size + 1 + 1 + 1] W' W'' := (k1.mono (by simp)).trans (gK.mono (by simp))
          refine ⟨ko1.trans (gK.from (by simp; omega)), ⟨gKK.below (by simp; omega) (by omega), (show _ = _ from gS).trans (show _ = _ from bS).symm⟩, ⟨⟨⟨?_, ?_⟩, HNO2.out⟩, HK.out.trans gKK⟩⟩
          · rw [List.length_append, List.length_singleton, hz]
            exact g27
          · rw [List.length_append, List.length_singleton, innerOf_succ]
            exact g28
        case stop2 =>
          rintro c pre' W'' _ h
          exact h.elim
      · have t2 : ((pre.length : Int) + 1 == 1) = false := by rw [beq_eq_false_iff_ne]; omega
        have c27 := h27.cell
        have f27 := h27.frozen
        have hz' := hz
        gi_wp2
        have h27' := h27.set (.int .i64 ((pre.length : Int) + 1))
        have h28' := h28.other (B' := W.heap.size + 1 + 1) (by omega) (.int .i64 ((pre.length : Int) + 1))
        have bS' := bS.other (B' := W.heap.size + 1 + 1) (by omega) (.int .i64 ((pre.length : Int) + 1))
        refine ⟨(KeepsOthers.setCell _ _ _).from _, ⟨(Below.refl _ W').setCell (p := ⟨W.heap.size + 1 + 1, 0, none⟩) (by simp; omega) _, (show _ = _ from bS').trans (show _ = _ from bS).symm⟩, ⟨⟨⟨?_, ?_⟩, HNO2.out⟩, HK.out.setCell (by simp) _⟩⟩
        · rw [List.length_append, List.length_singleton, Int.natCast_add]
          exact h27'
        · rw [List.length_append, List.length_singleton, innerOf_succ]
          rw [show innerOf (seq zs).length pre.length = (seq zs).length from if_neg hz'] at h28'
          exact h28'
  case done =>
    rintro D ys W' hD hys ⟨⟨⟨h27, h28⟩, hno⟩, hK⟩ hDD
    have hyl : ys.length = (seq zs).length := by have := congrArg List.length hys; simpa using this
    rw [hyl] at h27 h28 hno
    have hM1 := hM0.kx hK (fun s hs => by
      simp at hs
      rcases hs with rfl | rfl
      · exact ⟨_, _, d27⟩
      · exact ⟨_, _, d28⟩)
    refine hKK _ _ ?_
    exact lists_range n (by omega) a len cap zs most w W' g (fun i => if i = 140 then .slice (some ⟨g, 0, none⟩) len (len + 2) else if i = 141 then .func (.func 32) #[] #[.pointer (some ⟨W.heap.size, 0, none⟩)] else if i = 142 then .func (.func 32) #[] #[.pointer (some ⟨W.heap.size, 0, none⟩)] else f i)
      _ W.heap.size (W.heap.size + 1) (W.heap.size + 1 + 1) (W.heap.size + 1 + 1 + 1) (seq zs).length (innerOf (seq zs).length (seq zs).length) hl hm h8 HR.out (hB0.trans (hK.below (by simp; omega) hB0.size)) (hK.lent hL0 (by simp; omega))
      (hM0.push hM1 hD hB0.size hDD) (hK.box e0 (by simp; omega)) (hK.box e1 (by simp; omega)) (hK.box e2 (by simp; omega)) (hK.box dS (by simp; omega)) (hK.box d26 (by simp)) h27 h28
      (.inr ⟨fun h => hno most.toNat (by omega) (by omega), rfl⟩) (by unfold innerOf; split <;> simp_all)
  case stop =>
    rintro D c pre W' hD hsp ⟨⟨⟨h27, h28⟩, rfl, hmost, hne⟩, hK⟩ hDD
    have hpl : pre.length ≤ (seq zs).length := by have := hsp.length_le; simpa using this
    have hp0 : 0 < pre.length := List.length_pos_iff.2 hne
    have hM1 := hM0.kx hK (fun s hs => by
      simp at hs
      rcases hs with rfl | rfl
      · exact ⟨_, _, d27⟩
      · exact ⟨_, _, d28⟩)
    refine wpIn_exit (hKK _ _ ?_)
    exact lists_range n (by omega) a len cap zs most w W' g (fun i => if i = 140 then .slice (some ⟨g, 0, none⟩) len (len + 2) else if i = 141 then .func (.func 32) #[] #[.pointer (some ⟨W.heap.size, 0, none⟩)] else if i = 142 then .func (.func 32) #[] #[.pointer (some ⟨W.heap.size, 0, none⟩)] else f i)
      _ W.heap.size (W.heap.size + 1) (W.heap.size + 1 + 1) (W.heap.size + 1 + 1 + 1) (pre.length - 1) (innerOf (seq zs).length (pre.length - 1)) hl hm h8 HR.out (hB0.trans (hK.below (by simp; omega) hB0.size)) (hK.lent hL0 (by simp; omega))
      (hM0.push hM1 hD hB0.size hDD) (hK.box e0 (by simp; omega)) (hK.box e1 (by simp; omega)) (hK.box e2 (by simp; omega)) (hK.box dS (by simp; omega)) (hK.box d26 (by simp)) h27 h28
      (.inl ⟨by omega, by omega, hmost⟩) (by unfold innerOf; split <;> simp_all)

end Go.Proofs.Ytlphpcacngimhaa
