/- pair: readHead, fault, keyFault, join. -/
import Derived.Test.YtepjblmjjegpgaaGreatW17
import Derived.Test.YtepjblmjjegpgaaGreatW6
import Derived.Test.YtepjblmjjegpgaaGreatW24
import Derived.Test.YtepjblmjjegpgaaGreatW14
import Derived.Laws.CopyOwn
namespace Go.Proofs.YtepjblmjjegpgaaGreat
open Go.RowKit
set_option maxRecDepth 100000

theorem fits8_b8 {zs : List Int} (h : B8 zs) : Fits8 zs := fun i => by
  by_cases hi : i < zs.length
  · have := h zs[i] (List.getElem_mem hi)
    simpa [List.getD, hi] using this
  · simp [List.getD, hi]

set_option maxHeartbeats 800000 in
theorem fault_pair (x y z n : Nat) (w : World) (hx : x ≤ 18446744073709551615) (hy : y ≤ 18446744073709551615) (hz : z ≤ 18446744073709551615) (hn : n ≤ 140737488355328) :
    Calls Tryz.prog 187 #[.agg #[.int .u64 (x : Int), .int .u64 (y : Int), .int .u64 (z : Int)], .int .i64 (n : Int)] w fun e w' => e = .returned (.int .i64 (fltE x y z n)) ∧ Below w.heap.size w w' := by
  by_cases h1 : n < x
  · have e : fltE x y z n = 52 := by unfold fltE; rw [if_pos h1]
    rw [e]
    go_enter Tryz.func187, Tryz.ntmps187
    go_wp2
    go_ret
    exact ⟨rfl, (Below.refl _ _).alloc (Nat.le_refl _) _⟩
  · by_cases h2 : 64 < y
    · have e : fltE x y z n = 3 := by unfold fltE; rw [if_neg h1, if_pos (.inl h2)]
      rw [e]
      go_enter Tryz.func187, Tryz.ntmps187
      go_wp2
      go_ret
      exact ⟨rfl, (Below.refl _ _).alloc (Nat.le_refl _) _⟩
    · by_cases h3 : 256 < z
      · have e : fltE x y z n = 3 := by unfold fltE; rw [if_neg h1, if_pos (.inr h3)]
        rw [e]
        go_enter Tryz.func187, Tryz.ntmps187
        go_wp2
        go_ret
        exact ⟨rfl, (Below.refl _ _).alloc (Nat.le_refl _) _⟩
      · by_cases h4 : x + y < 1
        · have e : fltE x y z n = 3 := by unfold fltE; rw [if_neg h1, if_neg (by omega), if_pos (.inl h4)]
          rw [e]
          have q : (x : Int) + (y : Int) < 1 := by omega
          go_enter Tryz.func187, Tryz.ntmps187
          go_wp2
          go_ret
          exact ⟨rfl, (Below.refl _ _).alloc (Nat.le_refl _) _⟩
        · by_cases h5 : 64 < x + y
          · have e : fltE x y z n = 3 := by unfold fltE; rw [if_neg h1, if_neg (by omega), if_pos (.inr h5)]
            rw [e]
            have q : ¬ (x : Int) + (y : Int) < 1 := by omega
            have q2 : 64 < (x : Int) + (y : Int) := by omega
            go_enter Tryz.func187, Tryz.ntmps187
            go_wp2
            go_ret
            exact ⟨rfl, (Below.refl _ _).alloc (Nat.le_refl _) _⟩
          · have e : fltE x y z n = 0 := by unfold fltE; rw [if_neg h1, if_neg (by omega), if_neg (by omega)]
            rw [e]
            have q : ¬ (x : Int) + (y : Int) < 1 := by omega
            have q2 : ¬ 64 < (x : Int) + (y : Int) := by omega
            go_enter Tryz.func187, Tryz.ntmps187
            go_wp2
            go_ret
            exact ⟨rfl, (Below.refl _ _).alloc (Nat.le_refl _) _⟩

set_option maxHeartbeats 800000 in
theorem keyFault_any (a b : Option Addr) (l1 c1 l2 c2 x : Nat) (xs ys : List Int) (w : World) (hl1 : l1 ≤ 140737488355328) (hl2 : l2 ≤ 140737488355328) (h1 : xs.length = l1) (h2 : ys.length = l2) (r1 : Row w .u8 a xs) (r2 : Row w .u8 b ys) (b1 : B8 xs) (b2 : B8 ys) :
    Calls Tryz.prog 189 #[.slice a l1 c1, .slice b l2 c2, .int .i64 (x : Int)] w fun e w' => e = .returned (.int .i64 (kfE xs ys x)) ∧ ∃ m, w' = w.drewN m := by
  have HC := hide (common_any a b l1 c1 l2 c2 xs ys w (by unfold maxLen; omega) (by unfold maxLen; omega) h1 h2 r1 r2)
  have HB : Hid (∀ m, Calls Tryz.prog 190 #[.slice a l1 c1, .slice b l2 c2] (w.drewN m) fun e w' => e = .returned (.bool (decide (cmpI xs ys < 0))) ∧ w' = w.drewN m) := fun m => below_any a b l1 c1 l2 c2 xs ys (w.drewN m) h1 h2 (r1.drewR m) (r2.drewR m) b1 b2
  have hle := comN_le xs ys
  clear r1 r2
  by_cases q1 : x < comN xs ys
  · have e : kfE xs ys x = 52 := by unfold kfE; rw [if_pos q1]
    rw [e]
    generalize comN xs ys = n at *
    go_enter Tryz.func189, Tryz.ntmps189
    go_wp2_with fail
    refine HC.out.mono ?_
    rintro e w1 ⟨rfl, m, rfl⟩
    go_wp2_with fail
    go_ret
    exact ⟨rfl, _, rfl⟩
  · by_cases q2 : l1 = 0
    · have e : kfE xs ys x = 0 := by unfold kfE; rw [if_neg q1, if_neg (by omega)]
      rw [e]
      generalize comN xs ys = n at *
      subst q2
      go_enter Tryz.func189, Tryz.ntmps189
      go_wp2_with fail
      refine HC.out.mono ?_
      rintro e w1 ⟨rfl, m, rfl⟩
      go_wp2_with fail
      go_ret
      exact ⟨rfl, _, rfl⟩
    · have i1 : (0 : Int) < (l1 : Int) := by omega
      by_cases q3 : cmpI xs ys < 0
      · have e : kfE xs ys x = 0 := by unfold kfE; rw [if_neg q1, if_neg (by omega)]
        rw [e]
        rw [decide_eq_true q3] at HB
        generalize comN xs ys = n at *
        go_enter Tryz.func189, Tryz.ntmps189
        go_wp2_with fail
        refine HC.out.mono ?_
        rintro e w1 ⟨rfl, m, rfl⟩
        go_wp2_with fail
        refine keep (HB.out m) ?_
        go_wp2_with fail
        go_ret
        exact ⟨rfl, _, rfl⟩
      · have e : kfE xs ys x = 51 := by unfold kfE; rw [if_neg q1, if_pos ⟨by omega, q3⟩]
        rw [e]
        rw [decide_eq_false q3] at HB
        generalize comN xs ys = n at *
        go_enter Tryz.func189, Tryz.ntmps189
        go_wp2_with fail
        refine HC.out.mono ?_
        rintro e w1 ⟨rfl, m, rfl⟩
        go_wp2_with fail
        refine keep (HB.out m) ?_
        go_wp2_with fail
        go_ret
        exact ⟨rfl, _, rfl⟩

end Go.Proofs.YtepjblmjjegpgaaGreat

namespace Go.Proofs.YtepjblmjjegpgaaGreat
open Go.RowKit
set_option maxRecDepth 100000

def zeros (n : Nat) : List Value := List.replicate n (.int .u8 0)
theorem zeros_len (n : Nat) : (zeros n).length = n := by simp [zeros]
theorem zeros_bytes (n : Nat) : ∀ u ∈ zeros n, IsByte u := fun _ hu => ⟨0, List.eq_of_mem_replicate hu⟩
theorem made_zeros (n : Nat) : madeCells (Value.int .u8 0).cells (n * 1) = (zeros n).toArray := by
  apply Array.ext
  · simp [madeCells, zeros]
  · intro i h1 h2
    simp [madeCells, zeros, Value.cells, Nat.mod_one]
theorem run_zeros (n : Nat) (hn : n ≤ 140737488355328) (w : World) : (Instr.makeSlice 23 (.int .i64 (n : Int)) (.int .i64 (n : Int))).run Tryz.prog w = .ok (.slice (some ⟨w.heap.size, 0, none⟩) n n) (w.alloc (.cells (zeros n).toArray 5)) := by
  obtain ⟨i0, hi, hz0, hz1, hz2⟩ := info_parts infoByte'
  have h := run_make (P := Tryz.prog) w 23 5 i0 (.int .u8 0) Tryz.underlying23 hi hz0 .i64 .i64 (n : Int) (n : Int) (by omega) (by omega) (by rw [hz2]; omega) (by omega)
  rw [hz1, Int.toNat_natCast] at h
  rw [made_zeros] at h
  exact h
theorem szU8 : (Tryz.prog.info? 5).map (·.size) = some 1 := by kernel_rfl

theorem splice2 (X Y : List Int) (n m : Nat) (hX : X.length = n) (hY : Y.length = m) : splice (splice (zeros (n + m)) 0 (X.map (Value.int .u8))) n (Y.map (Value.int .u8)) = (X ++ Y).map (Value.int .u8) := by
  have e1 : splice (zeros (n + m)) 0 (X.map (Value.int .u8)) = X.map (Value.int .u8) ++ zeros m := by
    simp only [splice, List.take_zero, List.nil_append, Nat.zero_add, List.length_map, hX]
    simp [zeros]
  rw [e1]
  simp only [splice, List.length_map, hY]
  rw [List.take_append_of_le_length (by simp [hX]), List.take_of_length_le (by simp [hX]), List.drop_eq_nil_of_le (by simp [zeros, hX]), List.append_nil, List.map_append]

set_option maxRecDepth 100000 in
set_option maxHeartbeats 1600000 in
theorem join_pair (a b : Option Addr) (la ca lb cb : Nat) (xs ys : List Int) (w : World) (h1 : xs.length = la) (h2 : ys.length = lb) (m1 : la ≤ 1048576) (m2 : lb ≤ 1048576) (r1 : Row w .u8 a xs) (r2 : Row w .u8 b ys) :
    Calls Tryz.prog 188 #[.slice a la ca, .slice b lb cb] w fun e w' => ∃ v, e = .returned v ∧ OwnB w' w.heap.size 5 v (xs ++ ys) ∧ Below w.heap.size w w' := by
  have hmk := run_zeros (la + lb) (by omega)
  rw [show ((la + lb : Nat) : Int) = (la : Int) + (lb : Int) by omega] at hmk
  have R1 := hide r1
  have R2 := hide r2
  clear r1 r2
  have HX : Hid (∀ W, Row W .u8 a xs → 0 < la → ∃ ad, a = some ad ∧ ∀ j v, (xs.map (Value.int .u8))[j]? = some v → W.cell? (ad.add j) = some v) := fun W h hp => by
    obtain ⟨p, o, rfl, _, _⟩ := h.cons (by omega)
    exact ⟨_, rfl, h.cells _ rfl⟩
  have HY : Hid (∀ W, Row W .u8 b ys → 0 < lb → ∃ ad, b = some ad ∧ ∀ j v, (ys.map (Value.int .u8))[j]? = some v → W.cell? (ad.add j) = some v) := fun W h hp => by
    obtain ⟨p, o, rfl, _, _⟩ := h.cons (by omega)
    exact ⟨_, rfl, h.cells _ rfl⟩
  have HL1 : Hid ((xs.map (Value.int .u8)).length = la) := by show _ = _; simpa using h1
  have HL2 : Hid ((ys.map (Value.int .u8)).length = lb) := by show _ = _; simpa using h2
  have HO1 := hide (ints_oneCell .u8 xs)
  have HO2 := hide (ints_oneCell .u8 ys)
  have HS := hide (splice2 xs ys la lb h1 h2)
  obtain ⟨X, hX⟩ : ∃ X, X = xs.map (Value.int .u8) := ⟨_, rfl⟩
  obtain ⟨Y, hY⟩ : ∃ Y, Y = ys.map (Value.int .u8) := ⟨_, rfl⟩
  rw [← hX] at HX HL1 HO1 HS
  rw [← hY] at HY HL2 HO2 HS
  have HXE := hide hX
  have HYE := hide hY
  clear hX hY
  have hcut := run_from (some ⟨w.heap.size, 0, none⟩) (la + lb) (la + lb) la (by omega)
  have HCA : Hid (0 < lb → cutAt (some ⟨w.heap.size, 0, none⟩) la (la + lb) = some ⟨w.heap.size, la, none⟩) := fun h => by
    unfold cutAt
    rw [if_neg (by omega)]
    simp [Addr.add_lit]
  have HR2' : Hid (∀ W, Below w.heap.size w W → 0 < lb → ∃ ad, b = some ad ∧ ∀ j v, Y[j]? = some v → W.cell? (ad.add j) = some v) := fun W h hp => HY.out W (R2.out.below2 h) hp
  generalize cutAt (some ⟨w.heap.size, 0, none⟩) la (la + lb) = ct at *
  rw [show la + lb - la = lb by omega] at hcut
  go_enter Tryz.func188, Tryz.ntmps188
  go_wp2_with (first
    | (refine wpList_copy_splice rfl (.tmp 12) (.tmp 13) 23 23 rfl 5 Tryz.underlying23 szU8 (some ⟨w.heap.size, 0, none⟩) a (la + lb) (la + lb) la ca rfl rfl w.heap.size 0 (zeros (la + lb)) 5 (heap_alloc_new w _) X (by rw [HL1.out]; exact (Nat.min_eq_left (by omega)).symm) (fun h => ⟨rfl, HX.out _ (R1.out.alloc _) (by rw [HL1.out] at h; exact h)⟩) (by rw [HL1.out, zeros_len]; omega) HO1.out w.heap.size w ((Below.refl _ _).alloc (Nat.le_refl _) _) (Nat.le_refl _) ?_; intro w2 HG2 hB2)
    | (refine wpList_copy_splice rfl (.tmp 18) (.tmp 19) 23 23 rfl 5 Tryz.underlying23 szU8 ct b lb lb lb cb rfl rfl w.heap.size la (splice (zeros (la + lb)) 0 X) 5 HG2.out Y (by rw [HL2.out]; exact (Nat.min_eq_left (by omega)).symm) (fun h => ⟨HCA.out (by rw [HL2.out] at h; exact h), HR2'.out _ hB2 (by rw [HL2.out] at h; exact h)⟩) (by rw [HL2.out, length_splice _ _ _ (by rw [HL1.out, zeros_len]; omega), zeros_len]; omega) HO2.out w.heap.size w hB2 (Nat.le_refl _) ?_; intro w3 HG3 hB3)
    | fail)
  go_ret
  have hg3 := HG3.out
  rw [HS.out] at hg3
  have hlen : (xs ++ ys).length = la + lb := by rw [List.length_append, h1, h2]
  have HOWN : OwnB w3 w.heap.size 5 (.slice (some ⟨w.heap.size, 0, none⟩) (la + lb) (la + lb)) (xs ++ ys) :=
    .inr ⟨w.heap.size, la + lb, ((xs ++ ys).map (Value.int .u8)).toArray, by rw [hlen], Nat.le_refl _, hg3, by rw [hlen]; exact Nat.le_refl _, by unfold maxLen; omega, by rw [List.size_toArray, List.length_map, hlen], by rw [List.take_of_length_le (by rw [List.length_map]; exact Nat.le_refl _)], fun u hu => bytes_map (xs ++ ys) u hu⟩
  exact ⟨_, rfl, HOWN, hB3⟩

end Go.Proofs.YtepjblmjjegpgaaGreat

namespace Go.Proofs.YtepjblmjjegpgaaGreat
open Go.RowKit
set_option maxRecDepth 100000

/-- Three numbers in a block of their own. -/
def H3 (W : World) (g : Nat) (x y z : Int) : Prop := W.heap[g]? = some (.cells #[.int .u64 x, .int .u64 y, .int .u64 z] 175 (0, 0))
theorem H3.cells {W : World} {g : Nat} {x y z : Int} (h : H3 W g x y z) : W.cell? ⟨g, 0, none⟩ = some (.int .u64 x) ∧ W.cell? ⟨g, 1, none⟩ = some (.int .u64 y) ∧ W.cell? ⟨g, 2, none⟩ = some (.int .u64 z) := by
  unfold H3 at h
  refine ⟨?_, ?_, ?_⟩ <;> (rw [cell_of_row _ _ _ _ _ _ h]; rfl)
theorem H3.fr {W : World} {g : Nat} {x y z : Int} (h : H3 W g x y z) (j : Nat) : W.frozen? ⟨g, j, none⟩ = false := by unfold H3 at h; simp [World.frozen?, h]
theorem H3.below {W W' : World} {g : Nat} {x y z : Int} (h : H3 W g x y z) (hb : Below W.heap.size W W') : H3 W' g x y z := (hb.block g (lt_of_block h)).trans h
theorem H3.other {W : World} {g g' : Nat} {x y z : Int} (h : H3 W g x y z) (hne : g ≠ g') (k : Nat) (v : Value) : H3 (W.setCell ⟨g', k, none⟩ v) g x y z := (Below.heap_setCell _ _ _ _ hne).trans h
theorem H3.set0 {W : World} {g : Nat} {x y z : Int} (h : H3 W g x y z) (u : Int) : H3 (W.setCell ⟨g, 0, none⟩ (.int .u64 u)) g u y z := block_setCell h 0 _
theorem H3.set1 {W : World} {g : Nat} {x y z : Int} (h : H3 W g x y z) (u : Int) : H3 (W.setCell ⟨g, 1, none⟩ (.int .u64 u)) g x u z := block_setCell h 1 _
theorem H3.set2 {W : World} {g : Nat} {x y z : Int} (h : H3 W g x y z) (u : Int) : H3 (W.setCell ⟨g, 2, none⟩ (.int .u64 u)) g x y u := block_setCell h 2 _

set_option maxRecDepth 100000 in
set_option maxHeartbeats 3200000 in
theorem readHead_any (a : Option Addr) (len cap p : Nat) (zs : List Int) (w : World) (hl : zs.length = len) (hm : len ≤ 140737488400000) (hp : p ≤ len) (hr : Row w .u8 a zs) (h8 : B8 zs) :
    Calls Tryz.prog 186 #[.slice a len cap, .int .i64 (p : Int)] w fun e w' => ∃ x y z : Int, e = .returned (.tuple #[.agg #[.int .u64 x, .int .u64 y, .int .u64 z], .int .i64 (hP zs p : Nat), .int .i64 (hE zs p)]) ∧ (hE zs p = 0 → x = nm zs p ∧ y = nm zs (nx zs p) ∧ z = nm zs (nx zs (nx zs p))) ∧ Below w.heap.size w w' := by
  have HV : Hid (∀ (W : World) (q : Nat), Below w.heap.size w W → q ≤ len → Calls Tryz.prog 183 #[.slice a len cap, .int .i64 (q : Int)] W fun e w' => e = .returned (.tuple #[.int .u64 (nm zs q : Nat), .int .i64 (nx zs q : Nat), .int .i64 (er zs q)]) ∧ Below W.heap.size W w') := fun W q hb hq => by
    have h := read_any a len cap (q : Int) zs W hl (by unfold maxLen; omega) (hr.below2 hb) (fits8_b8 h8)
    have hrd := rd_at zs q h8 (by omega)
    rw [hrd.1, hrd.2.1, hrd.2.2.1] at h
    exact h
  have g1 := rd_at zs p h8 (by omega)
  have g2 := rd_at zs (nx zs p) h8 g1.2.2.2.1
  have g3 := rd_at zs (nx zs (nx zs p)) h8 g2.2.2.2.1
  rw [hl] at g1 g2 g3
  have b1 := g1.2.2.2
  have b2 := g2.2.2.2
  have b3 := g3.2.2.2
  have HEE : Hid (hE zs p = if er zs p ≠ 0 then er zs p else if er zs (nx zs p) ≠ 0 then er zs (nx zs p) else er zs (nx zs (nx zs p))) := rfl
  have HPP : Hid (hP zs p = if er zs p ≠ 0 then nx zs p else if er zs (nx zs p) ≠ 0 then nx zs (nx zs p) else nx zs (nx zs (nx zs p))) := rfl
  clear g1 g2 g3 hr
  have V1 := hide (fun W hb => HV.out W p hb hp)
  have V2 := hide (fun W hb => HV.out W (nx zs p) hb b1.1)
  have V3 := hide (fun W hb => HV.out W (nx zs (nx zs p)) hb b2.1)
  clear HV
  generalize hE zs p = E at *
  generalize hP zs p = P at *
  generalize er zs (nx zs (nx zs p)) = e3 at *
  generalize nm zs (nx zs (nx zs p)) = n3 at *
  generalize nx zs (nx zs (nx zs p)) = p3 at *
  generalize er zs (nx zs p) = e2 at *
  generalize nm zs (nx zs p) = n2 at *
  generalize nx zs (nx zs p) = p2 at *
  generalize er zs p = e1 at *
  generalize nm zs p = n1 at *
  generalize nx zs p = p1 at *
  obtain ⟨b11, b12, b13⟩ := b1
  obtain ⟨b21, b22, b23⟩ := b2
  obtain ⟨b31, b32, b33⟩ := b3
  have HEND : Hid (∀ (W : World) (act : Act) (x y z : Int), H3 W w.heap.size x y z → (E = 0 → x = n1 ∧ y = n2 ∧ z = n3) → Below w.heap.size w W → act.tmps[4]?.getD undef = .pointer (some ⟨w.heap.size, 0, none⟩) → act.tmps[5]?.getD undef = .int .i64 (P : Nat) → act.tmps[6]?.getD undef = .int .i64 E → act.defers = [] →
      bodyPost Tryz.prog Tryz.f186 (fun e w' => ∃ x y z : Int, e = .returned (.tuple #[.agg #[.int .u64 x, .int .u64 y, .int .u64 z], .int .i64 (P : Nat), .int .i64 E]) ∧ (E = 0 → x = n1 ∧ y = n2 ∧ z = n3) ∧ Below w.heap.size w w') Exit.ret act W) := fun W act x y z hh hx hb ht4 ht5 ht6 hd => by
    obtain ⟨q0, q1, q2⟩ := hh.cells
    obtain ⟨tm, df⟩ := act
    simp only at ht4 ht5 ht6 hd
    subst hd
    exact bodyPost_ret (v := .tuple #[.agg #[.int .u64 x, .int .u64 y, .int .u64 z], .int .i64 (P : Nat), .int .i64 E]) (by simp [results, Tryz.results186, go_sem, ht4, ht5, ht6, q0, q1, q2]) rfl ⟨x, y, z, rfl, hx, hb⟩
  have HBAD : Hid (∀ (W : World) (act : Act), H3 W w.heap.size 0 0 0 → E ≠ 0 → Below w.heap.size w W → act.tmps[4]?.getD undef = .pointer (some ⟨w.heap.size, 0, none⟩) → act.tmps[5]?.getD undef = .int .i64 (P : Nat) → act.tmps[6]?.getD undef = .int .i64 E → act.defers = [] →
      bodyPost Tryz.prog Tryz.f186 (fun e w' => ∃ x y z : Int, e = .returned (.tuple #[.agg #[.int .u64 x, .int .u64 y, .int .u64 z], .int .i64 (P : Nat), .int .i64 E]) ∧ (E = 0 → x = n1 ∧ y = n2 ∧ z = n3) ∧ Below w.heap.size w w') Exit.ret act (((W.setCell ⟨w.heap.size, 0, none⟩ (.int .u64 0)).setCell ⟨w.heap.size, 1, none⟩ (.int .u64 0)).setCell ⟨w.heap.size, 2, none⟩ (.int .u64 0))) := fun W act hh hne hb h4 h5 h6 hd =>
    HEND.out _ act 0 0 0 (((hh.set0 0).set1 0).set2 0) (fun h => absurd h hne) (((hb.setCell (p := ⟨w.heap.size, 0, none⟩) (Nat.le_refl _) _).setCell (p := ⟨w.heap.size, 1, none⟩) (Nat.le_refl _) _).setCell (p := ⟨w.heap.size, 2, none⟩) (Nat.le_refl _) _) h4 h5 h6 hd
  go_enter Tryz.func186, Tryz.ntmps186
  go_wp2_with fail
  refine wp_loop_rounds 4 ?_
  have h0 : H3 ((w.alloc (.cells #[.int .u64 0, .int .u64 0, .int .u64 0] 175)).alloc (.cells #[.int .u64 0, .int .u64 0, .int .u64 0] 175)) w.heap.size 0 0 0 := (Below.heap_alloc _ _ _ (by simp)).trans (heap_alloc_new w _)
  have k0 : H3 ((w.alloc (.cells #[.int .u64 0, .int .u64 0, .int .u64 0] 175)).alloc (.cells #[.int .u64 0, .int .u64 0, .int .u64 0] 175)) (w.heap.size + 1) 0 0 0 := by
    have := heap_alloc_new (w.alloc (.cells #[.int .u64 0, .int .u64 0, .int .u64 0] 175)) (.cells #[.int .u64 0, .int .u64 0, .int .u64 0] 175)
    rwa [World.size_alloc] at this
  have t0 : Below w.heap.size w ((w.alloc (.cells #[.int .u64 0, .int .u64 0, .int .u64 0] 175)).alloc (.cells #[.int .u64 0, .int .u64 0, .int .u64 0] 175)) := ((Below.refl _ _).alloc (Nat.le_refl _) _).alloc (by simp) _
  generalize (w.alloc (.cells #[.int .u64 0, .int .u64 0, .int .u64 0] 175)).alloc (.cells #[.int .u64 0, .int .u64 0, .int .u64 0] 175) = w0 at h0 k0 t0 ⊢
  rw [rounds_succ]
  go_wp2_with fail
  refine (V1.out _ t0).mono ?_
  rintro e w1 ⟨rfl, q1⟩
  have t1 := t0.trans (q1.mono t0.size)
  have h1 := h0.below q1
  have k1 := k0.below q1
  clear q1 t0 h0 k0
  obtain ⟨c10, c11, c12⟩ := k1.cells
  have f1 := k1.fr
  obtain ⟨d10, d11, d12⟩ := h1.cells
  have gf1 := h1.fr
  have hN : ¬ w.heap.size = w.heap.size + 1 := by omega
  have hN' : ¬ w.heap.size + 1 = w.heap.size := by omega
  by_cases q1 : e1 = 0
  · subst q1
    simp only [ne_eq, not_true_eq_false, if_false] at HEE HPP
    clear V1
    go_wp2_with fail
    have H1 := hide (h1.other (g' := w.heap.size + 1) hN 0 (.int .u64 (n1 : Int)))
    have K1 := hide (k1.set0 (n1 : Int))
    have t1' := t1.setCell (p := ⟨w.heap.size + 1, 0, none⟩) (by simp) (.int .u64 (n1 : Int))
    clear h1 k1 t1 c10 c11 c12 f1 d10 d11 d12 gf1
    generalize w1.setCell ⟨w.heap.size + 1, 0, none⟩ (.int .u64 (n1 : Int)) = w1' at *
    rw [rounds_succ]
    go_wp2_with fail
    refine (V2.out _ t1').mono ?_
    rintro e w2 ⟨rfl, q2⟩
    have t2 := t1'.trans (q2.mono t1'.size)
    have h2 := H1.out.below q2
    have k2 := K1.out.below q2
    clear q2 t1' H1 K1
    obtain ⟨c20, c21, c22⟩ := k2.cells
    have f2 := k2.fr
    obtain ⟨d20, d21, d22⟩ := h2.cells
    have gf2 := h2.fr
    by_cases q2 : e2 = 0
    · subst q2
      simp only [not_true_eq_false, if_false] at HEE HPP
      clear V2
      go_wp2_with fail
      have H2 := hide (h2.other (g' := w.heap.size + 1) hN 1 (.int .u64 (n2 : Int)))
      have K2 := hide (k2.set1 (n2 : Int))
      have t2' := t2.setCell (p := ⟨w.heap.size + 1, 1, none⟩) (by simp) (.int .u64 (n2 : Int))
      clear h2 k2 t2 c20 c21 c22 f2 d20 d21 d22 gf2
      generalize w2.setCell ⟨w.heap.size + 1, 1, none⟩ (.int .u64 (n2 : Int)) = w2' at *
      rw [rounds_succ]
      go_wp2_with fail
      refine (V3.out _ t2').mono ?_
      rintro e w3 ⟨rfl, q3⟩
      have t3 := t2'.trans (q3.mono t2'.size)
      have h3 := H2.out.below q3
      have k3 := K2.out.below q3
      clear q3 t2' H2 K2
      obtain ⟨c30, c31, c32⟩ := k3.cells
      have f3 := k3.fr
      obtain ⟨d30, d31, d32⟩ := h3.cells
      have gf3 := h3.fr
      by_cases q3 : e3 = 0
      · subst q3
        go_wp2_with fail
        have H3' := hide (h3.other (g' := w.heap.size + 1) hN 2 (.int .u64 (n3 : Int)))
        have K3 := hide (k3.set2 (n3 : Int))
        have t3' := t3.setCell (p := ⟨w.heap.size + 1, 2, none⟩) (by simp) (.int .u64 (n3 : Int))
        clear h3 k3 t3 c30 c31 c32 f3 d30 d31 d32 gf3
        generalize w3.setCell ⟨w.heap.size + 1, 2, none⟩ (.int .u64 (n3 : Int)) = w3' at *
        obtain ⟨c40, c41, c42⟩ := K3.out.cells
        obtain ⟨d40, d41, d42⟩ := H3'.out.cells
        have gf4 := H3'.out.fr
        rw [rounds_succ]
        go_wp2_with fail
        have hE0 := HEE.out
        have hP0 := HPP.out
        exact HEND.out _ _ n1 n2 n3 (((H3'.out.set0 n1).set1 n2).set2 n3) (fun _ => ⟨rfl, rfl, rfl⟩) (((t3'.setCell (p := ⟨w.heap.size, 0, none⟩) (Nat.le_refl _) _).setCell (p := ⟨w.heap.size, 1, none⟩) (Nat.le_refl _) _).setCell (p := ⟨w.heap.size, 2, none⟩) (Nat.le_refl _) _) rfl (by rw [hP0]; rfl) (by rw [hE0]; rfl) rfl
      · have qb : (e3 != 0) = true := by rw [bne_iff_ne]; exact q3
        have hE0 := HEE.out
        have hP0 := HPP.out
        have H3' := hide h3
        clear h3 k3
        replace hE0 := hide hE0
        replace hP0 := hide hP0
        go_wp2_with fail
        exact HBAD.out _ _ H3'.out (by rw [hE0.out]; exact q3) t3 rfl (by rw [hP0.out]; rfl) (by rw [hE0.out]; rfl) rfl
    · have qb : (e2 != 0) = true := by rw [bne_iff_ne]; exact q2
      rw [if_pos q2] at HEE HPP
      have H2 := hide h2
      clear h2 k2
      go_wp2_with fail
      exact HBAD.out _ _ H2.out (by rw [HEE.out]; exact q2) t2 rfl (by rw [HPP.out]; rfl) (by rw [HEE.out]; rfl) rfl
  · have qb : (e1 != 0) = true := by rw [bne_iff_ne]; exact q1
    rw [if_pos q1] at HEE HPP
    have H1 := hide h1
    clear h1 k1
    go_wp2_with fail
    exact HBAD.out _ _ H1.out (by rw [HEE.out]; exact q1) t1 rfl (by rw [HPP.out]; rfl) (by rw [HEE.out]; rfl) rfl

end Go.Proofs.YtepjblmjjegpgaaGreat
