/- What 'same' answers: whether two rows of bytes are the same; it only reads. -/
import Derived.Test.YtepjblmjjegpgaaGreatRows
import Derived.Test.YtepjblmjjegpgaaGreatW1
import Derived.WalkKit
import Derived.WalkSpells
import Derived.WalkLawsBesides
import Derived.Deep.QuietTactic
import Derived.BigQuiet
import Derived.Test.YtepjblmjjegpgaaGreatW0
namespace Go.Proofs.YtepjblmjjegpgaaGreat
open Go.RowKit
set_option maxRecDepth 100000

/-- Nothing in memory has turned. -/
structure Still (w w' : World) : Prop where
  heap : w'.heap = w.heap
  os : w'.os = w.os
  tape : w'.tape = w.tape
  output : w'.output = w.output

theorem Still.refl (w : World) : Still w w := ⟨rfl, rfl, rfl, rfl⟩
theorem Still.trans {a b c : World} (h : Still a b) (k : Still b c) : Still a c := ⟨k.heap.trans h.heap, k.os.trans h.os, k.tape.trans h.tape, k.output.trans h.output⟩
theorem Still.drewN {a w : World} (h : Still a w) (n : Nat) : Still a (w.drewN n) := ⟨h.heap, h.os, h.tape, h.output⟩
theorem Still.drew {a w : World} (h : Still a w) : Still a w.drew := ⟨h.heap, h.os, h.tape, h.output⟩
theorem Still.below {w w' : World} (h : Still w w') (B : Nat) : Below B w w' := ⟨h.os, h.tape, h.output, by rw [h.heap]; exact Nat.le_refl _, fun k _ => by rw [h.heap]⟩
theorem Still.cell {w w' : World} (h : Still w w') (a : Addr) : w'.cell? a = w.cell? a := by simp only [World.cell?, h.heap]
theorem Still.row {w w' : World} {k : IntKind} {a : Option Addr} {zs : List Int} (h : Still w w') (hr : Row w k a zs) : Row w' k a zs := by
  intro i hi
  obtain ⟨b, off, ha, hc⟩ := hr i hi
  exact ⟨b, off, ha, (h.cell _).trans hc⟩

theorem eq_of_getD {xs ys : List Int} (h : xs.length = ys.length) (hx : ∀ i, i < xs.length → xs.getD i 0 = ys.getD i 0) : xs = ys := by
  refine List.ext_getElem h fun i h1 h2 => ?_
  have := hx i h1
  simpa [List.getD, h1, h2] using this

set_option maxHeartbeats 400000 in
theorem same_unlike (a b : Option Addr) (l1 c1 l2 c2 : Nat) (w : World) (hne : l1 ≠ l2) :
    Calls Tryz.prog 11 #[.slice a l1 c1, .slice b l2 c2] w fun e w' => e = .returned (.bool false) ∧ w' = w := by
  have hb : ((l1 : Int) != (l2 : Int)) = true := by rw [bne_iff_ne]; omega
  go_enter Tryz.func11, Tryz.ntmps11
  go_wp2
  go_ret
  exact ⟨rfl, rfl⟩

set_option maxHeartbeats 400000 in
theorem same_some (b1 o1 c1 b2 o2 c2 l : Nat) (xs ys : List Int) (w : World) (hl : l ≤ maxLen) (h1 : xs.length = l) (h2 : ys.length = l)
    (k1 : ∀ i, i < l → w.cell? ⟨b1, o1 + i, none⟩ = some (.int .u8 (xs.getD i 0))) (k2 : ∀ i, i < l → w.cell? ⟨b2, o2 + i, none⟩ = some (.int .u8 (ys.getD i 0))) :
    Calls Tryz.prog 11 #[.slice (some ⟨b1, o1, none⟩) l c1, .slice (some ⟨b2, o2, none⟩) l c2] w fun e w' => e = .returned (.bool (decide (xs = ys))) ∧ Still w w' := by
  unfold maxLen at hl
  go_enter Tryz.func11, Tryz.ntmps11
  go_wp2
  go_loopw [5] (fun q wr => ∃ k : Nat, k ≤ l ∧ q = .int .i64 (k : Int) ∧ Still w wr ∧ Hid (∀ i, i < k → xs.getD i 0 = ys.getD i 0)) (fun q _ => l - (intOf q).toNat)
  case atStart => exact ⟨0, by omega, rfl, Still.refl _, fun i hi => absurd hi (Nat.not_lt_zero i)⟩
  case round =>
    obtain ⟨k, hk, rfl, hst, HE⟩ := hrel
    by_cases hlt : k < l
    · have g1 : wr.cell? ⟨b1, o1 + k, none⟩ = some (.int .u8 (xs.getD k 0)) := (hst.cell _).trans (k1 k hlt)
      have g2 : wr.cell? ⟨b2, o2 + k, none⟩ = some (.int .u8 (ys.getD k 0)) := (hst.cell _).trans (k2 k hlt)
      have hi : (k : Int) < (l : Int) := by omega
      by_cases heq : xs.getD k 0 = ys.getD k 0
      · have HQ : Hid (∀ i, i < k + 1 → xs.getD i 0 = ys.getD i 0) := fun i hi => by
          by_cases e : i = k
          · subst e; exact heq
          · exact HE.out i (by omega)
        rw [heq] at g1
        generalize ys.getD k 0 = c at *
        generalize xs.getD k 0 = c' at *
        clear heq
        go_wp2
        go_quiet (fail)
        go_wp2
        go_roundw
        case rel => exact ⟨k + 1, by omega, by go_num, hst.drewN _, HQ⟩
        case measure => simp [intOf]; omega
      · have hne : (xs.getD k 0 != ys.getD k 0) = true := by rw [bne_iff_ne]; exact heq
        have HN : Hid (decide (xs = ys) = false) := by
          show decide (xs = ys) = false
          simp only [decide_eq_false_iff_not]
          intro e; subst e; exact heq rfl
        generalize ys.getD k 0 = c at *
        generalize xs.getD k 0 = c' at *
        clear heq
        go_wp2
        go_quiet (fail)
        go_wp2
        go_ret
        exact ⟨by rw [HN.out]; rfl, hst.drewN _⟩
    · have HN : Hid (decide (xs = ys) = true) := by
        show decide (xs = ys) = true
        simp only [decide_eq_true_eq]
        exact eq_of_getD (by omega) fun i hi => HE.out i (by omega)
      have hge : ¬ (k : Int) < (l : Int) := by omega
      go_wp2
      go_ret
      exact ⟨by rw [HN.out]; rfl, hst⟩

set_option maxHeartbeats 400000 in
theorem same_nothing (a b : Option Addr) (c1 c2 : Nat) (w : World) :
    Calls Tryz.prog 11 #[.slice a 0 c1, .slice b 0 c2] w fun e w' => e = .returned (.bool true) ∧ w' = w := by
  go_enter Tryz.func11, Tryz.ntmps11
  go_wp2
  refine wp_loop_rounds 1 ?_
  rw [rounds_succ]
  go_wp2
  go_ret
  exact ⟨rfl, rfl⟩

/-- 'same' of any two rows of bytes. -/
theorem same_any (a b : Option Addr) (l1 c1 l2 c2 : Nat) (xs ys : List Int) (w : World) (hl1 : l1 ≤ maxLen) (h1 : xs.length = l1) (h2 : ys.length = l2) (r1 : Row w .u8 a xs) (r2 : Row w .u8 b ys) :
    Calls Tryz.prog 11 #[.slice a l1 c1, .slice b l2 c2] w fun e w' => e = .returned (.bool (decide (xs = ys))) ∧ Still w w' := by
  by_cases hne : l1 = l2
  · subst hne
    by_cases h0 : l1 = 0
    · subst h0
      have e1 : xs = [] := List.eq_nil_of_length_eq_zero h1
      have e2 : ys = [] := List.eq_nil_of_length_eq_zero h2
      subst e1 e2
      refine (same_nothing a b c1 c2 w).mono ?_
      rintro e w' ⟨rfl, rfl⟩
      exact ⟨rfl, Still.refl _⟩
    · obtain ⟨b1, o1, rfl, _, k1⟩ := r1.cons (by omega)
      obtain ⟨b2, o2, rfl, _, k2⟩ := r2.cons (by omega)
      exact same_some b1 o1 c1 b2 o2 c2 l1 xs ys w hl1 h1 h2 (by rw [← h1]; exact k1) (by rw [← h2]; exact k2)
  · refine (same_unlike a b l1 c1 l2 c2 w hne).mono ?_
    rintro e w' ⟨rfl, rfl⟩
    refine ⟨?_, Still.refl _⟩
    have : decide (xs = ys) = false := by
      simp only [decide_eq_false_iff_not]
      intro e; subst e; omega
    rw [this]

end Go.Proofs.YtepjblmjjegpgaaGreat

namespace Go.Proofs.YtepjblmjjegpgaaGreat
open Go.RowKit
set_option maxRecDepth 100000

theorem and_one (s : Nat) (h : s < 4294967296) : bits .and .u32 (s : Int) 1 = ((s % 2 : Nat) : Int) := by
  rw [show (1 : Int) = ((1 : Nat) : Int) from rfl, u32_and_nat s 1 h (by decide), Nat.and_one_is_mod]
theorem and_bit {s : Nat} (h : s < 4294967296) (hb : s % 2 = 1) : (bits .and .u32 (s : Int) 1 == 1) = true := by
  rw [and_one s h, hb]; rfl
theorem and_nobit {s : Nat} (h : s < 4294967296) (hb : ¬ s % 2 = 1) : (bits .and .u32 (s : Int) 1 == 1) = false := by
  rw [and_one s h, show s % 2 = 0 by omega]; rfl
theorem half_poly {s : Nat} (h : s < 4294967296) : bits .xor .u32 ((s : Int) / 2) 3988292384 = ((s / 2 ^^^ poly : Nat) : Int) := by
  rw [show (s : Int) / 2 = ((s / 2 : Nat) : Int) by omega, show (3988292384 : Int) = ((poly : Nat) : Int) from rfl, u32_xor_nat _ _ (by omega) (by decide)]
theorem mod2_one {s : Nat} (hb : s % 2 = 1) : ((s : Int) % 2 == 1) = true := by
  rw [show (s : Int) % 2 = 1 by omega]; rfl
theorem mod2_not {s : Nat} (hb : ¬ s % 2 = 1) : ((s : Int) % 2 == 1) = false := by
  rw [show (s : Int) % 2 = 0 by omega]; rfl
theorem st_odd {s : Nat} (hb : s % 2 = 1) : st s = s / 2 ^^^ poly := by unfold st; rw [if_pos hb]
theorem st_even {s : Nat} (hb : ¬ s % 2 = 1) : st s = s / 2 := by unfold st; rw [if_neg hb]

set_option maxHeartbeats 400000 in
theorem steps_any (r k : Nat) (w : World) (hr : r < 4294967296) (hk : k ≤ 100) :
    Calls Tryz.prog 155 #[.int .u32 r, .int .i64 k] w fun e w' => e = .returned (.int .u32 (stn k r : Nat)) ∧ w' = w := by
  go_enter Tryz.func155, Tryz.ntmps155
  go_wp2
  go_loop [0, 7] (fun q i => ∃ j s : Nat, j ≤ k ∧ s < 4294967296 ∧ i = .int .i64 j ∧ q = .int .u32 s ∧ Hid (stn k r = stn (k - j) s)) (fun _ i => k - (intOf i).toNat)
  case atStart => exact ⟨0, r, by omega, hr, rfl, rfl, rfl⟩
  case round =>
    obtain ⟨j, s, hj, hs, rfl, rfl, HS⟩ := hrel
    by_cases hlt : j < k
    · have HN : Hid (stn k r = stn (k - (j + 1)) (st s)) := by
        show _ = _
        rw [HS.out, show k - j = (k - (j + 1)) + 1 by omega]; rfl
      by_cases hb : s % 2 = 1
      · have h1 := and_bit hs hb
        have h2 := half_poly hs
        have HE := hide (st_odd hb)
        clear hb
        go_wp2
        go_round
        case rel => exact ⟨j + 1, st s, by omega, st_lt hs, by go_num, by rw [HE.out], HN⟩
        case measure => simp [intOf]; omega
      · have h1 := and_nobit hs hb
        have HE := hide (st_even hb)
        clear hb
        go_wp2
        go_round
        case rel => exact ⟨j + 1, st s, by omega, st_lt hs, by go_num, by rw [HE.out]; rfl, HN⟩
        case measure => simp [intOf]; omega
    · go_wp2
      go_ret
      exact ⟨ret_int (by rw [HS.out, show k - j = 0 by omega]; rfl), rfl⟩

theorem xor_byte {r : Nat} {c : Int} (hr : r < 4294967296) (h0 : 0 ≤ c) (h1 : c ≤ 255) : bits .xor .u32 (r : Int) c = ((r ^^^ c.toNat : Nat) : Int) := by
  obtain ⟨n, rfl⟩ := Int.eq_ofNat_of_zero_le h0
  rw [u32_xor_nat _ _ hr (by omega)]; rfl

set_option maxHeartbeats 400000 in
theorem goIn_some (r b off len cap : Nat) (zs : List Int) (w : World) (hr : r < 4294967296) (hl : zs.length = len) (hm : len ≤ maxLen)
    (hc : ∀ i, i < len → w.cell? ⟨b, off + i, none⟩ = some (.int .u8 (zs.getD i 0))) (h8 : B8 zs) :
    Calls Tryz.prog 137 #[.int .u32 r, .slice (some ⟨b, off, none⟩) len cap] w fun e w' => e = .returned (.int .u32 (goR r zs : Nat)) ∧ w' = w := by
  unfold maxLen at hm
  have HC := hide hc
  clear hc
  go_enter Tryz.func137, Tryz.ntmps137
  go_wp2
  go_loop [0, 9] (fun q i => ∃ j s : Nat, j ≤ len ∧ s < 4294967296 ∧ i = .int .i64 j ∧ q = .int .u32 s ∧ Hid (goR r zs = goR s (zs.drop j))) (fun _ i => len - (intOf i).toNat)
  case atStart => exact ⟨0, r, by omega, hr, rfl, rfl, rfl⟩
  case round =>
    obtain ⟨j, s, hj, hs, rfl, rfl, HS⟩ := hrel
    by_cases hlt : j < len
    · have hcell := HC.out j hlt
      have hdr := getD_drop zs j (by omega)
      have hb := h8 (zs.getD j 0) (by rw [List.getD_eq_getElem?_getD, List.getElem?_eq_getElem (by omega)]; exact List.getElem_mem _)
      generalize zs.getD j 0 = c at *
      have HN : Hid (goR r zs = goR (stn 8 (s ^^^ c.toNat)) (zs.drop (j + 1))) := by
        show _ = _
        rw [HS.out, hdr, goR_cons]
      clear hdr
      have hx := xor_byte hs hb.1 hb.2
      have hlx : s ^^^ c.toNat < 4294967296 := xor_lt hs (by omega)
      have HST := hide (steps_any (s ^^^ c.toNat) 8 w hlx (by omega))
      have hln := stn_lt 8 hlx
      generalize s ^^^ c.toNat = x at *
      go_wp2_with (go_at_call 155; refine (unhide HST).mono ?_; rintro e w' ⟨rfl, rfl⟩)
      go_round
      case rel => exact ⟨j + 1, stn 8 x, by omega, hln, by go_num, rfl, HN⟩
      case measure => simp [intOf]; omega
    · go_wp2
      go_ret
      exact ⟨ret_int (by rw [HS.out, List.drop_of_length_le (by omega), goR_nil]), rfl⟩

set_option maxHeartbeats 400000 in
theorem goIn_none (r : Nat) (a : Option Addr) (cap : Nat) (w : World) :
    Calls Tryz.prog 137 #[.int .u32 r, .slice a 0 cap] w fun e w' => e = .returned (.int .u32 r) ∧ w' = w := by
  go_enter Tryz.func137, Tryz.ntmps137
  go_wp2
  refine wp_loop_rounds 1 ?_
  rw [rounds_succ]
  go_wp2
  go_ret
  exact ⟨rfl, rfl⟩

theorem goIn_any (r : Nat) (a : Option Addr) (len cap : Nat) (zs : List Int) (w : World) (hr : r < 4294967296) (hl : zs.length = len) (hm : len ≤ maxLen) (hrow : Row w .u8 a zs) (h8 : B8 zs) :
    Calls Tryz.prog 137 #[.int .u32 r, .slice a len cap] w fun e w' => e = .returned (.int .u32 (goR r zs : Nat)) ∧ w' = w := by
  by_cases h0 : len = 0
  · subst h0
    obtain rfl : zs = [] := List.eq_nil_of_length_eq_zero hl
    exact goIn_none r a cap w
  · obtain ⟨b, off, rfl, _, hc⟩ := hrow.cons (by omega)
    exact goIn_some r b off len cap zs w hr hl hm (by rw [← hl]; exact hc) h8

theorem not32 {r : Nat} (h : r < 4294967296) : bits .xor .u32 IntKind.u32.max (r : Int) = ((4294967295 - r : Nat) : Int) := by
  rw [show IntKind.u32.max = ((4294967295 : Nat) : Int) from rfl, u32_xor_nat _ _ (by decide) h, flip_xor h, Nat.xor_comm]

set_option maxHeartbeats 400000 in
theorem sum_any (a : Option Addr) (len cap : Nat) (zs : List Int) (w : World) (hl : zs.length = len) (hm : len ≤ maxLen) (hrow : Row w .u8 a zs) (h8 : B8 zs) :
    Calls Tryz.prog 115 #[.slice a len cap] w fun e w' => e = .returned (.int .u32 (sumOf zs : Nat)) ∧ w' = w := by
  have HG := hide (goIn_any 4294967295 a len cap zs w (by decide) hl hm hrow h8)
  have hlt := goR_lt zs (show 4294967295 < 4294967296 by decide) h8
  have e : sumOf zs = 4294967295 - goR 4294967295 zs := rfl
  rw [e]
  clear e
  generalize goR 4294967295 zs = g at *
  have hn := not32 hlt
  go_enter Tryz.func115, Tryz.ntmps115
  go_wp2_with (go_at_call 137; refine (unhide HG).mono ?_; rintro e w' ⟨rfl, rfl⟩)
  go_ret
  exact ⟨rfl, rfl⟩

end Go.Proofs.YtepjblmjjegpgaaGreat

namespace Go.Proofs.YtepjblmjjegpgaaGreat
open Go.RowKit
set_option maxRecDepth 100000

theorem row_lit (w : World) (zs : List Int) (cs : Array Value) (T : TypeId) (h : cs = (zs.map (Value.int .u8)).toArray) : Row (w.alloc (.cells cs T)) .u8 (some ⟨w.heap.size, 0, none⟩) zs := by
  intro i hi
  refine ⟨w.heap.size, 0, rfl, ?_⟩
  rw [cell_of_row _ _ _ _ _ _ (heap_alloc_new w _), h]
  simp [List.getD, hi]

end Go.Proofs.YtepjblmjjegpgaaGreat

namespace Go.Proofs.YtepjblmjjegpgaaGreat
open Go.RowKit
set_option maxRecDepth 100000


set_option maxHeartbeats 400000 in
theorem rstep_any (s : Nat) (w : World) (hs : s < 4294967296) :
    Calls Tryz.prog 153 #[.int .u32 s] w fun e w' => e = .returned (.int .u32 (st s : Nat)) ∧ w' = w := by
  by_cases hb : s % 2 = 1
  · have h1 := mod2_one hb
    have h2 := half_poly hs
    rw [st_odd hb]
    clear hb
    go_enter Tryz.func153, Tryz.ntmps153
    go_wp2
    go_ret
    exact ⟨rfl, rfl⟩
  · have h1 := mod2_not hb
    rw [st_even hb]
    clear hb
    go_enter Tryz.func153, Tryz.ntmps153
    go_wp2
    go_ret
    exact ⟨rfl, rfl⟩

set_option maxHeartbeats 800000 in
theorem rmore_some (s b off len cap : Nat) (zs : List Int) (w : World) (hs : s < 4294967296) (hl : zs.length = len) (hm : len ≤ maxLen)
    (hc : ∀ i, i < len → w.cell? ⟨b, off + i, none⟩ = some (.int .u8 (zs.getD i 0))) (h8 : B8 zs) :
    Calls Tryz.prog 133 #[.int .u32 s, .slice (some ⟨b, off, none⟩) len cap] w fun e w' => e = .returned (.int .u32 (moreOf s zs : Nat)) ∧ w' = w := by
  unfold maxLen at hm
  have HC := hide hc
  have HM : Hid (moreOf s zs = 4294967295 - goR (4294967295 - s) zs) := rfl
  clear hc
  go_enter Tryz.func133, Tryz.ntmps133
  go_wp2
  go_loop [0, 5, 6] (fun q i x => ∃ j t : Nat, j ≤ len ∧ t < 4294967296 ∧ i = .int .i64 j ∧ q = .int .u32 t ∧ Hid (goR (4294967295 - s) zs = goR t (zs.drop j))) (fun _ i _ => len - (intOf i).toNat)
  case atStart => exact ⟨0, 4294967295 - s, by omega, by omega, rfl, by go_num, rfl⟩
  case round =>
    obtain ⟨j, t, hj, ht, rfl, rfl, HS⟩ := hrel
    by_cases hlt : j < len
    · have hcell := HC.out j hlt
      have hdr := getD_drop zs j (by omega)
      have hb := h8 (zs.getD j 0) (by rw [List.getD_eq_getElem?_getD, List.getElem?_eq_getElem (by omega)]; exact List.getElem_mem _)
      generalize zs.getD j 0 = c at *
      have HN : Hid (goR (4294967295 - s) zs = goR (stn 8 (t ^^^ c.toNat)) (zs.drop (j + 1))) := by
        show _ = _
        rw [HS.out, hdr, goR_cons]
      clear hdr
      have hx := xor_byte ht hb.1 hb.2
      have hlx : t ^^^ c.toNat < 4294967296 := xor_lt ht (by omega)
      generalize t ^^^ c.toNat = x at *
      go_wp2
      go_loop [0, 6] (fun q i => ∃ k u : Nat, k ≤ 8 ∧ u < 4294967296 ∧ i = .int .i64 k ∧ q = .int .u32 u ∧ Hid (stn 8 x = stn (8 - k) u)) (fun _ i => 8 - (intOf i).toNat)
      case atStart => exact ⟨0, x, by omega, hlx, rfl, rfl, rfl⟩
      case round =>
        obtain ⟨k, u, hk, hu, rfl, rfl, HU⟩ := hrel
        by_cases hk8 : k < 8
        · have HV : Hid (stn 8 x = stn (8 - (k + 1)) (st u)) := by
            show _ = _
            rw [HU.out, show 8 - k = (8 - (k + 1)) + 1 by omega, stn]
          go_wp2_with (go_at_call 153; refine (rstep_any _ _ hu).mono ?_; rintro e w' ⟨rfl, rfl⟩)
          go_round
          case rel => exact ⟨k + 1, st u, by omega, st_lt hu, by go_num, rfl, HV⟩
          case measure => simp [intOf]; omega
        · have HV : Hid (u = stn 8 x) := by
            show _ = _
            rw [HU.out, show 8 - k = 0 by omega, stn]
          go_wp2
          go_round
          case rel => exact ⟨j + 1, u, by omega, hu, by go_num, rfl, by rw [HV.out]; exact HN⟩
          case measure => simp [intOf]; omega
    · have HE : Hid (4294967295 - t = moreOf s zs) := by
        show _ = _
        rw [HM.out, HS.out, List.drop_of_length_le (by omega), goR_nil]
      go_wp2
      go_ret
      exact ⟨ret_int (by rw [← HE.out]; omega), rfl⟩

set_option maxHeartbeats 400000 in
theorem rmore_none (s : Nat) (a : Option Addr) (cap : Nat) (w : World) (hs : s < 4294967296) :
    Calls Tryz.prog 133 #[.int .u32 s, .slice a 0 cap] w fun e w' => e = .returned (.int .u32 s) ∧ w' = w := by
  go_enter Tryz.func133, Tryz.ntmps133
  go_wp2
  refine wp_loop_rounds 1 ?_
  rw [rounds_succ]
  go_wp2
  go_ret
  exact ⟨ret_int (by omega), rfl⟩

theorem rmore_any (s : Nat) (a : Option Addr) (len cap : Nat) (zs : List Int) (w : World) (hs : s < 4294967296) (hl : zs.length = len) (hm : len ≤ maxLen) (hrow : Row w .u8 a zs) (h8 : B8 zs) :
    Calls Tryz.prog 133 #[.int .u32 s, .slice a len cap] w fun e w' => e = .returned (.int .u32 (moreOf s zs : Nat)) ∧ w' = w := by
  by_cases h0 : len = 0
  · subst h0
    obtain rfl : zs = [] := List.eq_nil_of_length_eq_zero hl
    have e : moreOf s [] = s := by unfold moreOf; rw [goR_nil]; omega
    rw [e]
    exact rmore_none s a cap w hs
  · obtain ⟨b, off, rfl, _, hc⟩ := hrow.cons (by omega)
    exact rmore_some s b off len cap zs w hs hl hm (by rw [← hl]; exact hc) h8

set_option maxHeartbeats 400000 in
theorem rsum_any (a : Option Addr) (len cap : Nat) (zs : List Int) (w : World) (hl : zs.length = len) (hm : len ≤ maxLen) (hrow : Row w .u8 a zs) (h8 : B8 zs) :
    Calls Tryz.prog 110 #[.slice a len cap] w fun e w' => e = .returned (.int .u32 (sumOf zs : Nat)) ∧ w' = w := by
  have HG := hide (rmore_any 0 a len cap zs w (by decide) hl hm hrow h8)
  rw [moreOf_zero] at HG
  go_enter Tryz.func110, Tryz.ntmps110
  go_wp2_with (go_at_call 133; refine (unhide HG).mono ?_; rintro e w' ⟨rfl, rfl⟩)
  go_ret
  exact ⟨rfl, rfl⟩

end Go.Proofs.YtepjblmjjegpgaaGreat

namespace Go.Proofs.YtepjblmjjegpgaaGreat
open Go.RowKit
set_option maxRecDepth 100000

set_option maxHeartbeats 400000 in
theorem sameq_some (b1 o1 c1 b2 o2 c2 l : Nat) (xs : List Int) (w : World) (hl : l ≤ maxLen)
    (k1 : ∀ i, i < l → w.cell? ⟨b1, o1 + i, none⟩ = some (.int .u8 (xs.getD i 0))) (k2 : ∀ i, i < l → w.cell? ⟨b2, o2 + i, none⟩ = some (.int .u8 (xs.getD i 0))) :
    Calls Tryz.prog 11 #[.slice (some ⟨b1, o1, none⟩) l c1, .slice (some ⟨b2, o2, none⟩) l c2] w fun e w' => e = .returned (.bool true) ∧ ∃ m, w' = w.drewN m := by
  unfold maxLen at hl
  go_enter Tryz.func11, Tryz.ntmps11
  go_wp2
  go_loopw [5] (fun q wr => ∃ k m : Nat, k ≤ l ∧ q = .int .i64 (k : Int) ∧ wr = w.drewN m) (fun q _ => l - (intOf q).toNat)
  case atStart => exact ⟨0, 0, by omega, rfl, rfl⟩
  case round =>
    obtain ⟨k, m, hk, rfl, rfl⟩ := hrel
    by_cases hlt : k < l
    · have g1 : (w.drewN m).cell? ⟨b1, o1 + k, none⟩ = some (.int .u8 (xs.getD k 0)) := k1 k hlt
      have g2 : (w.drewN m).cell? ⟨b2, o2 + k, none⟩ = some (.int .u8 (xs.getD k 0)) := k2 k hlt
      have hi : (k : Int) < (l : Int) := by omega
      generalize xs.getD k 0 = c at *
      go_wp2
      go_quiet (fail)
      go_wp2
      go_roundw
      case rel => exact ⟨k + 1, _, by omega, by go_num, rfl⟩
      case measure => simp [intOf]; omega
    · have hge : ¬ (k : Int) < (l : Int) := by omega
      go_wp2
      go_ret
      exact ⟨rfl, _, rfl⟩
theorem sameq (a b : Option Addr) (l c1 c2 : Nat) (xs : List Int) (w : World) (hl1 : l ≤ maxLen) (h1 : xs.length = l) (r1 : Row w .u8 a xs) (r2 : Row w .u8 b xs) :
    Calls Tryz.prog 11 #[.slice a l c1, .slice b l c2] w fun e w' => e = .returned (.bool true) ∧ ∃ m, w' = w.drewN m := by
  by_cases h0 : l = 0
  · subst h0
    exact (same_nothing a b c1 c2 w).mono fun e w' ⟨h1, h2⟩ => ⟨h1, 0, h2⟩
  · obtain ⟨b1, o1, rfl, _, k1⟩ := r1.cons (by omega)
    obtain ⟨b2, o2, rfl, _, k2⟩ := r2.cons (by omega)
    exact sameq_some b1 o1 c1 b2 o2 c2 l xs w hl1 (by rw [← h1]; exact k1) (by rw [← h1]; exact k2)

end Go.Proofs.YtepjblmjjegpgaaGreat
