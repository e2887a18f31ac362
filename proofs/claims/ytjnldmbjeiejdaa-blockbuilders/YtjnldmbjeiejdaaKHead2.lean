/- pair: join, readHead. -/
import Derived.Test.YtjnldmbjeiejdaaKHead
import Derived.Test.YtjnldmbjeiejdaaKSlice
namespace Go.Proofs.Ytjnldmbjeiejdaa
open Go.RowKit

def zeros (n : Nat) : List Value := List.replicate n (.int .u8 0)
theorem zeros_len (n : Nat) : (zeros n).length = n := by simp [zeros]
theorem zeros_bytes (n : Nat) : ∀ u ∈ zeros n, IsByte u := fun _ hu => ⟨0, List.eq_of_mem_replicate hu⟩
theorem made_zeros (n : Nat) : madeCells (Value.int .u8 0).cells (n * 1) = (zeros n).toArray := by
  apply Array.ext
  · simp [madeCells, zeros]
  · intro i h1 h2
    simp [madeCells, zeros, Value.cells, Nat.mod_one]
theorem run_zeros (n : Nat) (hn : n ≤ 140737488355328) (w : World) : (Instr.makeSlice 23 (.int .i64 (n : Int)) (.int .i64 (n : Int))).run Try.prog w = .ok (.slice (some ⟨w.heap.size, 0, none⟩) n n) (w.alloc (.cells (zeros n).toArray 5)) := by
  obtain ⟨i0, hi, hz0, hz1, hz2⟩ := info_parts infoByte'
  have h := run_make (P := Try.prog) w 23 5 i0 (.int .u8 0) Try.underlying23 hi hz0 .i64 .i64 (n : Int) (n : Int) (by omega) (by omega) (by rw [hz2]; omega) (by omega)
  rw [hz1, Int.toNat_natCast] at h
  rw [made_zeros] at h
  exact h
theorem szU8 : (Try.prog.info? 5).map (·.size) = some 1 := by kernel_rfl

theorem splice2 (X Y : List Int) (n m : Nat) (hX : X.length = n) (hY : Y.length = m) : splice (splice (zeros (n + m)) 0 (X.map (Value.int .u8))) n (Y.map (Value.int .u8)) = (X ++ Y).map (Value.int .u8) := by
  have e1 : splice (zeros (n + m)) 0 (X.map (Value.int .u8)) = X.map (Value.int .u8) ++ zeros m := by
    simp only [splice, List.take_zero, List.nil_append, Nat.zero_add, List.length_map, hX]
    simp [zeros]
  rw [e1]
  simp only [splice, List.length_map, hY]
  rw [List.take_append_of_le_length (by simp [hX]), List.take_of_length_le (by simp [hX]), List.drop_eq_nil_of_le (by simp [zeros, hX]), List.append_nil, List.map_append]

set_option maxRecDepth 100000 in
set_option maxHeartbeats 1600000 in
theorem join_pair (a b : Option Addr) (la ca lb cb : Nat) (xs ys : List Int) (w : World) (h1 : xs.length = la) (h2 : ys.length = lb) (m1 : la ≤ 1048576) (m2 : lb ≤ 1048576) (r1 : Row w .u8 a xs) (r2 : Row w .u8 b ys) :
    Calls Try.prog 87 #[.slice a la ca, .slice b lb cb] w fun e w' => ∃ v, e = .returned v ∧ OwnB w' w.heap.size 5 v (xs ++ ys) ∧ Below w.heap.size w w' := by
  have hmk := run_zeros (la + lb) (by omega)
  rw [show ((la + lb : Nat) : Int) = (la : Int) + (lb : Int) by omega] at hmk
  have R1 := hide r1
  have R2 := hide r2
  clear r1 r2
  have HX : Hid (∀ W, Row W .u8 a xs → 0 < la → ∃ ad, a = some ad ∧ ∀ j v, (xs.map (Value.int .u8))[j]? = some v → W.cell? (ad.add j) = some v) := fun W h hp => by
    obtain ⟨p, o, rfl, _, _⟩ := h.cons (by omega)
    exact ⟨_, rfl, h.cells _ rfl⟩
  have HY : Hid (∀ W, Row W .u8 b ys → 0 < lb → ∃ ad, b = some ad ∧ ∀ j v, (ys.map (Value.int .u8))[j]? = some v → W.cell? (ad.add j) = some v) := fun W h hp => by
    obtain ⟨p, o, rfl, _, _⟩ := h.cons (by omega)
    exact ⟨_, rfl, h.cells _ rfl⟩
  have HL1 : Hid ((xs.map (Value.int .u8)).length = la) := by show _ = _; simpa using h1
  have HL2 : Hid ((ys.map (Value.int .u8)).length = lb) := by show _ = _; simpa using h2
  have HO1 := hide (ints_oneCell .u8 xs)
  have HO2 := hide (ints_oneCell .u8 ys)
  have HS := hide (splice2 xs ys la lb h1 h2)
  obtain ⟨X, hX⟩ : ∃ X, X = xs.map (Value.int .u8) := ⟨_, rfl⟩
  obtain ⟨Y, hY⟩ : ∃ Y, Y = ys.map (Value.int .u8) := ⟨_, rfl⟩
  rw [← hX] at HX HL1 HO1 HS
  rw [← hY] at HY HL2 HO2 HS
  have HXE := hide hX
  have HYE := hide hY
  clear hX hY
  have hcut := run_from (some ⟨w.heap.size, 0, none⟩) (la + lb) (la + lb) la (by omega)
  have HCA : Hid (0 < lb → cutAt (some ⟨w.heap.size, 0, none⟩) la (la + lb) = some ⟨w.heap.size, la, none⟩) := fun h => by
    unfold cutAt
    rw [if_neg (by omega)]
    simp [Addr.add_lit]
  have HR2' : Hid (∀ W, Below w.heap.size w W → 0 < lb → ∃ ad, b = some ad ∧ ∀ j v, Y[j]? = some v → W.cell? (ad.add j) = some v) := fun W h hp => HY.out W (R2.out.below2 h) hp
  generalize cutAt (some ⟨w.heap.size, 0, none⟩) la (la + lb) = ct at *
  rw [show la + lb - la = lb by omega] at hcut
  go_enter Try.func87, Try.ntmps87
  go_wp2_with (first
    | (refine wpList_copy_splice rfl (.tmp 12) (.tmp 13) 23 23 rfl 5 Try.underlying23 szU8 (some ⟨w.heap.size, 0, none⟩) a (la + lb) (la + lb) la ca rfl rfl w.heap.size 0 (zeros (la + lb)) 5 (heap_alloc_new w _) X (by rw [HL1.out]; exact (Nat.min_eq_left (by omega)).symm) (fun h => ⟨rfl, HX.out _ (R1.out.alloc _) (by rw [HL1.out] at h; exact h)⟩) (by rw [HL1.out, zeros_len]; omega) HO1.out w.heap.size w ((Below.refl _ _).alloc (Nat.le_refl _) _) (Nat.le_refl _) ?_; intro w2 HG2 hB2)
    | (refine wpList_copy_splice rfl (.tmp 18) (.tmp 19) 23 23 rfl 5 Try.underlying23 szU8 ct b lb lb lb cb rfl rfl w.heap.size la (splice (zeros (la + lb)) 0 X) 5 HG2.out Y (by rw [HL2.out]; exact (Nat.min_eq_left (by omega)).symm) (fun h => ⟨HCA.out (by rw [HL2.out] at h; exact h), HR2'.out _ hB2 (by rw [HL2.out] at h; exact h)⟩) (by rw [HL2.out, length_splice _ _ _ (by rw [HL1.out, zeros_len]; omega), zeros_len]; omega) HO2.out w.heap.size w hB2 (Nat.le_refl _) ?_; intro w3 HG3 hB3)
    | fail)
  go_ret
  have hg3 := HG3.out
  rw [HS.out] at hg3
  have hlen : (xs ++ ys).length = la + lb := by rw [List.length_append, h1, h2]
  have HOWN : OwnB w3 w.heap.size 5 (.slice (some ⟨w.heap.size, 0, none⟩) (la + lb) (la + lb)) (xs ++ ys) :=
    .inr ⟨w.heap.size, la + lb, ((xs ++ ys).map (Value.int .u8)).toArray, by rw [hlen], Nat.le_refl _, hg3, by rw [hlen]; exact Nat.le_refl _, by unfold maxLen; omega, by rw [List.size_toArray, List.length_map, hlen], by rw [List.take_of_length_le (by rw [List.length_map]; exact Nat.le_refl _)], fun u hu => bytes_map (xs ++ ys) u hu⟩
  exact ⟨_, rfl, HOWN, hB3⟩

end Go.Proofs.Ytjnldmbjeiejdaa
