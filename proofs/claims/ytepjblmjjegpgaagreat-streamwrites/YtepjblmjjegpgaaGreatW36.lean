/- stream: frames and tails, of both sides. -/
import Derived.Test.YtepjblmjjegpgaaGreatW30
import Derived.Test.YtepjblmjjegpgaaGreatW16
import Derived.Test.YtepjblmjjegpgaaGreatW23
import Derived.Test.YtepjblmjjegpgaaGreatW25
import Derived.Lib.AppendStr
namespace Go.Proofs.YtepjblmjjegpgaaGreat
open Go.RowKit
set_option maxRecDepth 100000

theorem wparts3 {w : World} {b : Nat} {a1 a2 a3 : Option Addr} {l1 c1 l2 c2 l3 c3 : Nat} {x y z : List Int} (h1 : x.length = l1) (h2 : y.length = l2) (h3 : z.length = l3) (n1 : a1 = none → l1 = 0 ∧ c1 = 0) (n2 : a2 = none → l2 = 0 ∧ c2 = 0) (n3 : a3 = none → l3 = 0 ∧ c3 = 0)
    (k1 : w.cell? ⟨b, 0, none⟩ = some (.slice a1 l1 c1)) (k2 : w.cell? ⟨b, 1, none⟩ = some (.slice a2 l2 c2)) (k3 : w.cell? ⟨b, 2, none⟩ = some (.slice a3 l3 c3)) (r1 : Row w .u8 a1 x) (r2 : Row w .u8 a2 y) (r3 : Row w .u8 a3 z) : Parts w b 0 [.slice a1 l1 c1, .slice a2 l2 c2, .slice a3 l3 c3] [x, y, z] :=
  ⟨rfl, fun i hi => by
    match i, hi with
    | 0, _ => exact k1
    | 1, _ => exact k2
    | 2, _ => exact k3, fun i hi => by
    match i, hi with
    | 0, _ => exact ⟨a1, l1, c1, rfl, h1, n1, r1⟩
    | 1, _ => exact ⟨a2, l2, c2, rfl, h2, n2, r2⟩
    | 2, _ => exact ⟨a3, l3, c3, rfl, h3, n3, r3⟩⟩
theorem wcells3 (w : World) (x y z : Value) (T : TypeId) : (w.alloc (.cells #[x, y, z] T)).cell? ⟨w.heap.size, 0, none⟩ = some x ∧ (w.alloc (.cells #[x, y, z] T)).cell? ⟨w.heap.size, 1, none⟩ = some y ∧ (w.alloc (.cells #[x, y, z] T)).cell? ⟨w.heap.size, 2, none⟩ = some z := by
  refine ⟨?_, ?_, ?_⟩ <;> (rw [cell_of_row _ _ _ _ _ _ (heap_alloc_new w _)]; rfl)
theorem full_own (w : World) (zs : List Int) (n : Nat) (hn : zs.length = n) (hm : n ≤ maxLen) (cs : Array Value) (hc : cs = (zs.map (Value.int .u8)).toArray) : OwnB (w.alloc (.cells cs 5)) w.heap.size 5 (.slice (some ⟨w.heap.size, 0, none⟩) n n) zs := by
  subst hn hc
  exact .inr ⟨w.heap.size, zs.length, _, rfl, Nat.le_refl _, heap_alloc_new w _, Nat.le_refl _, hm, by simp, by simp [List.take_of_length_le], fun u hu => bytes_map zs u (by simpa using hu)⟩
theorem seal_len (zs : List Int) {n : Nat} (h : zs.length = n) : (zs ++ spell (sumOf zs)).length = n + 4 := by rw [List.length_append, spell_len, h]

set_option maxHeartbeats 1600000 in
theorem frame_any (k : Int) (a : Option Addr) (len cap : Nat) (zs : List Int) (w : World) (hl : zs.length = len) (hm : len ≤ 1000000000) (hnone : a = none → len = 0 ∧ cap = 0) (hr : Row w .u8 a zs) (h8 : B8 zs) :
    Calls Tryz.prog 46 #[.int .u8 k, .slice a len cap] w fun e w' => ∃ v, e = .returned v ∧ OwnB w' w.heap.size 5 v (frm k zs) ∧ Below w.heap.size w w' := by
  have HR := hide (fun W (h : Below w.heap.size w W) => hr.below2 h)
  have HN := hide hnone
  have h10 := (enc_len_le len (by omega)).2
  clear hr hnone
  have HF : Hid ([[k], enc len, zs ++ spell (sumOf zs)].flatten = frm k zs) := by show _ = _; unfold frm; rw [hl]; simp
  have b0 : Below w.heap.size w (w.alloc (.cells #[.int .u8 k] 5)) := (Below.refl _ _).alloc (Nat.le_refl _) _
  have R0 := hide (frow_byte w k 5)
  have z0 : (w.alloc (.cells #[.int .u8 k] 5)).heap.size = w.heap.size + 1 := by simp
  generalize hw0 : w.alloc (.cells #[.int .u8 k] 5) = w0 at *
  replace hw0 := hide hw0
  go_enter Tryz.func46, Tryz.ntmps46
  go_wp2_with fail
  rw [hw0.out]
  refine (fvbytes_any len w0 (by omega)).mono ?_
  rintro e w1 ⟨rfl, ho1, b1⟩
  have O1 := hide ho1
  have BB1 : Hid (Below w.heap.size w w1) := b0.trans (b1.mono b0.size)
  have R1 := hide (R0.out.below2 b1)
  clear ho1
  go_wp2_with fail
  refine (seal_any a len cap zs w1 hl (by omega) HN.out (HR.out w1 BB1.out) h8).mono ?_
  rintro e w2 ⟨v2, rfl, ho2, b2⟩
  obtain ⟨a2, c2, rfl, hn2, hc2, hu2⟩ := ho2.sliceN (seal_len zs hl)
  have BB2 : Hid (Below w.heap.size w w2) := BB1.out.trans (b2.mono BB1.out.size)
  have R2 := hide (R1.out.below2 b2)
  have O1' := hide (O1.out.below b2)
  obtain ⟨q0, q1, q2⟩ := wcells3 w2 (.slice (some ⟨w.heap.size, 0, none⟩) 1 1) (.slice (some ⟨w0.heap.size + 1, 0, none⟩) (enc len).length (enc len).length) (.slice a2 (len + 4) c2) 23
  have HC := hide (concat_any w2.heap.size 0 3 3 _ [[k], enc len, zs ++ spell (sumOf zs)] (w2.alloc (.cells #[.slice (some ⟨w.heap.size, 0, none⟩) 1 1, .slice (some ⟨w0.heap.size + 1, 0, none⟩) (enc len).length (enc len).length, .slice a2 (len + 4) c2] 23)) rfl (by omega)
    (wparts3 rfl rfl (seal_len zs hl) (fun h => by cases h) (fun h => by cases h) hn2 q0 q1 q2 (R2.out.alloc _) (O1'.out.row.alloc _) (ho2.row.alloc _))
    (by simp only [List.flatten_cons, List.flatten_nil, List.length_append, List.length_cons, List.length_nil, spell_len, hl]; omega))
  rw [HF.out, z0] at HC
  clear q0 q1 q2 ho2 hu2 R1 O1 O1' b1 b2
  go_wp2_with fail
  refine HC.out.mono ?_
  rintro e w3 ⟨v, rfl, hown, b3⟩
  go_wp2_with fail
  go_ret
  have h1 := BB2.out.size
  exact ⟨v, rfl, hown.mono (by simp; omega), (BB2.out.alloc h1 _).trans (b3.mono (by simp; omega))⟩

set_option maxHeartbeats 1600000 in
theorem rframe_any (k : Int) (a : Option Addr) (len cap : Nat) (zs : List Int) (w : World) (hl : zs.length = len) (hm : len ≤ 1000000000) (hnone : a = none → len = 0 ∧ cap = 0) (hr : Row w .u8 a zs) (h8 : B8 zs) :
    Calls Tryz.prog 97 #[.int .u8 k, .slice a len cap] w fun e w' => ∃ v, e = .returned v ∧ OwnB w' w.heap.size 5 v (frm k zs) ∧ Below w.heap.size w w' := by
  obtain ⟨i0, hi, hz0, hz1, hz2⟩ := info_parts infoByte'
  have HR := hide (fun W (h : Below w.heap.size w W) => hr.below2 h)
  have HN := hide hnone
  have h10 := (enc_len_le len (by omega)).2
  clear hr hnone
  have HF : Hid ([k] ++ enc len ++ (zs ++ spell (sumOf zs)) = frm k zs) := by show _ = _; unfold frm; rw [hl]; simp
  have b0 : Below w.heap.size w (w.alloc (.cells #[.int .u8 k] 5)) := (Below.refl _ _).alloc (Nat.le_refl _) _
  have O0 := hide (full_own w [k] 1 rfl (by decide) #[.int .u8 k] rfl)
  generalize hw0 : w.alloc (.cells #[.int .u8 k] 5) = w0 at *
  replace hw0 := hide hw0
  go_enter Tryz.func97, Tryz.ntmps97
  go_wp2_with fail
  rw [hw0.out]
  refine (frnum_any len w0 (by omega)).mono ?_
  rintro e w1 ⟨v1, rfl, ho1, b1⟩
  obtain ⟨ne, hne⟩ : ∃ ne, (enc len).length = ne := ⟨_, rfl⟩
  obtain ⟨a1, c1, rfl, hn1, hc1, hu1⟩ := ho1.sliceN hne
  have O1 := hide ho1.row
  have BB1 : Hid (Below w.heap.size w w1) := b0.trans (b1.mono b0.size)
  have O01 := hide (O0.out.below b1)
  have HN1 := hide hn1
  replace hne := hide hne
  have hne' : ne ≤ 10 := by have := hne.out; omega
  clear ho1 b1 b0 hu1 hn1
  go_wp2_with (first
    | (at_builtin; refine append_b rfl (.tmp 7) (.tmp 11) 23 rfl w.heap.size 5 i0 Tryz.underlying23 hi hz0 hz1 hz2 (.slice (some ⟨w.heap.size, 0, none⟩) 1 1) [k] rfl O01.out a1 ne c1 (enc len) rfl hne.out HN1.out O1.out (by simp; omega) BB1.out.size ?_; intro v2 w2 ho2 hg2; have BB2 : Hid (Below w.heap.size w w2) := BB1.out.grown hg2 BB1.out.size (fun k h => by cases h; exact Nat.le_refl _); have O2 := hide ho2; clear ho2 hg2)
    | fail)
  have hl2 : ([k] ++ enc len).length = ne + 1 := by rw [List.length_append, hne.out]; simp; omega
  obtain ⟨a2, c2, rfl, hn2, hc2, hu2⟩ := O2.out.sliceN hl2
  refine (rseal_any a len cap zs w2 hl (by omega) HN.out (HR.out w2 BB2.out) h8).mono ?_
  rintro e w3 ⟨v3, rfl, ho3, b3⟩
  obtain ⟨a3, c3, rfl, hn3, hc3, hu3⟩ := ho3.sliceN (seal_len zs hl)
  have O3 := hide ho3.row
  have HN3 := hide hn3
  have HL3 := hide (seal_len zs hl)
  have O23 := hide (O2.out.below b3)
  have BB3 : Hid (Below w.heap.size w w3) := BB2.out.trans (b3.mono BB2.out.size)
  clear ho3 b3 hu3 hn3 hu2
  go_wp2_with (first
    | (at_builtin; refine append_b rfl (.tmp 13) (.tmp 15) 23 rfl w.heap.size 5 i0 Tryz.underlying23 hi hz0 hz1 hz2 (.slice a2 (ne + 1) c2) ([k] ++ enc len) rfl O23.out a3 (len + 4) c3 (zs ++ spell (sumOf zs)) rfl HL3.out HN3.out O3.out (by omega) BB3.out.size ?_; intro v4 w4 ho4 hg4; have BB4 : Hid (Below w.heap.size w w4) := BB3.out.grown hg4 BB3.out.size (fun k h => (O23.out.owns.lt k h).1); have O4 := hide ho4; clear ho4 hg4)
    | fail)
  go_ret
  exact ⟨v4, rfl, by have := O4.out; rw [HF.out] at this; exact this, BB4.out⟩

theorem plc_take (n i : Nat) (h : i < 8) : (plc n).take (i + 1) = (plc n).take i ++ [((n / 256 ^ i % 256 : Nat) : Int)] := by
  unfold plc
  have : i = 0 ∨ i = 1 ∨ i = 2 ∨ i = 3 ∨ i = 4 ∨ i = 5 ∨ i = 6 ∨ i = 7 := by omega
  rcases this with rfl | rfl | rfl | rfl | rfl | rfl | rfl | rfl <;> simp

theorem plc_own {W : World} {B n i : Nat} {x : Int} {v : Value} (h : OwnB W B 5 v ((plc n).take i ++ [x])) (hi : i < 8) (hx : x = ((n / 256 ^ i % 256 : Nat) : Int)) : OwnB W B 5 v ((plc n).take (i + 1)) := by
  rw [plc_take n i hi, ← hx]
  exact h
set_option maxHeartbeats 3200000 in
set_option maxRecDepth 100000 in
theorem tail_any (n : Nat) (w : World) (hn : n ≤ 4611686018427387904) :
    Calls Tryz.prog 48 #[.int .i64 (n : Int)] w fun e w' => ∃ a c, e = .returned (.slice a 12 c) ∧ a ≠ none ∧ Row w' .u8 a (plc n ++ [101, 110, 100, 46]) ∧ Below w.heap.size w w' := by
  obtain ⟨i0, hi, hz0, hz1, hz2⟩ := info_parts infoByte'
  go_enter Tryz.func48, Tryz.ntmps48
  go_wp2_with fail
  go_loopw [3, 5] (fun s q wr => ∃ (i : Nat), i ≤ 8 ∧ q = .int .i64 (i : Int) ∧ Hid (OwnB wr w.heap.size 5 s ((plc n).take i)) ∧ Hid (Below w.heap.size w wr)) (fun _ q _ => 8 - (intOf q).toNat)
  case atStart => exact ⟨0, by omega, rfl, OwnB.nil _ _ _, Below.refl _ _⟩
  case round =>
    obtain ⟨i, hi8, rfl, HO, HB⟩ := hrel
    have hsz := HB.out.size
    by_cases hlt : i < 8
    · have hi' : i = 0 ∨ i = 1 ∨ i = 2 ∨ i = 3 ∨ i = 4 ∨ i = 5 ∨ i = 6 ∨ i = 7 := by omega
      rcases hi' with rfl | rfl | rfl | rfl | rfl | rfl | rfl | rfl
      all_goals
        go_wp2_with (first
          | (at_builtin; refine append_b rfl (.tmp 8) (.tmp 15) 23 rfl w.heap.size 5 i0 Tryz.underlying23 hi hz0 hz1 hz2 _ _ rfl (HO.out.below ((Below.refl _ _).alloc (Nat.le_refl _) _)) (some ⟨wr.heap.size, 0, none⟩) 1 1 [_] rfl rfl (by intro h; cases h) (frow_byte _ _ _) (by simp [plc]) (by simp; omega) ?_; intro v1 w1 ho1 hg1; have BB1 : Hid (Below w.heap.size w w1) := (HB.out.alloc hsz _).grown hg1 (by simp; omega) (fun k h => (HO.out.owns.lt k h).1); have O1 := hide ho1; clear ho1 hg1)
          | fail)
        go_roundw
        case rel => exact ⟨_, by omega, by go_num, hide (plc_own O1.out (by omega) (by simp only [Nat.reducePow]; omega)), BB1⟩
        case measure => simp [intOf]
    · obtain rfl : i = 8 := by omega
      obtain ⟨a8, c8, rfl, hn8, hc8, _⟩ := HO.out.sliceN (n := 8) rfl
      have O8 : Hid (OwnB wr w.heap.size 5 (.slice a8 8 c8) (plc n)) := HO
      have HB8 := hide (show wr.ownsRow w.heap.size 5 1 (.slice a8 8 c8) 8 ((plc n).map (Value.int .u8)) from O8.out.owns)
      have HM8 : Hid (8 + (⟨#[101, 110, 100, 46]⟩ : ByteArray).size ≤ maxLen ∧ 8 + (⟨#[101, 110, 100, 46]⟩ : ByteArray).size ≤ 140737488355328) := ⟨by show 8 + 4 ≤ maxLen; unfold maxLen; omega, by show 8 + 4 ≤ 140737488355328; omega⟩
      go_wp2_with (at_builtin; refine Go.Lib.wpList_append_own_string _ rfl (.tmp 18) _ 23 9 rfl w.heap.size 5 i0 Tryz.underlying23 Tryz.underlying9 hi hz0 hz1 hz2 (.slice a8 8 c8) 8 _ rfl HB8.out ⟨#[101, 110, 100, 46]⟩ rfl HM8.out.1 HM8.out.2 hsz ?_; intro v9 w9 ho9 hg9 hs9)
      have ho : w9.ownsRow w.heap.size 5 1 v9 (plc n ++ [101, 110, 100, 46]).length ((plc n ++ [101, 110, 100, 46]).map (Value.int .u8)) := ho9
      go_ret
      rcases ho.2 with ⟨_, h0⟩ | ⟨g, cap, cur, hv, _⟩
      · exact absurd h0 (by simp)
      · subst hv
        exact ⟨_, _, rfl, (fun h => by cases h), row_of_owns2 ho, HB.out.grown hg9 hsz (fun k h => (O8.out.owns.lt k h).1)⟩

set_option maxHeartbeats 3200000 in
set_option maxRecDepth 100000 in
theorem rtail_any (n : Nat) (w : World) (hn : n ≤ 4611686018427387904) :
    Calls Tryz.prog 98 #[.int .i64 (n : Int)] w fun e w' => ∃ a c, e = .returned (.slice a 12 c) ∧ a ≠ none ∧ Row w' .u8 a (plc n ++ [101, 110, 100, 46]) ∧ Below w.heap.size w w' := by
  obtain ⟨i0, hi, hz0, hz1, hz2⟩ := info_parts infoByte'
  go_enter Tryz.func98, Tryz.ntmps98
  go_wp2_with fail
  go_loopw [3, 4] (fun s q wr => ∃ (i : Nat), i ≤ 8 ∧ q = .int .i64 (i : Int) ∧ Hid (OwnB wr w.heap.size 5 s ((plc n).take i)) ∧ Hid (Below w.heap.size w wr)) (fun _ q _ => 8 - (intOf q).toNat)
  case atStart => exact ⟨0, by omega, rfl, OwnB.nil _ _ _, Below.refl _ _⟩
  case round =>
    obtain ⟨i, hi8, rfl, HO, HB⟩ := hrel
    have hsz := HB.out.size
    by_cases hlt : i < 8
    · have hi' : i = 0 ∨ i = 1 ∨ i = 2 ∨ i = 3 ∨ i = 4 ∨ i = 5 ∨ i = 6 ∨ i = 7 := by omega
      rcases hi' with rfl | rfl | rfl | rfl | rfl | rfl | rfl | rfl
      all_goals
        go_wp2_with (first
          | (at_builtin; refine append_b rfl (.tmp 9) (.tmp 16) 23 rfl w.heap.size 5 i0 Tryz.underlying23 hi hz0 hz1 hz2 _ _ rfl (HO.out.below ((Below.refl _ _).alloc (Nat.le_refl _) _)) (some ⟨wr.heap.size, 0, none⟩) 1 1 [_] rfl rfl (by intro h; cases h) (frow_byte _ _ _) (by simp [plc]) (by simp; omega) ?_; intro v1 w1 ho1 hg1; have BB1 : Hid (Below w.heap.size w w1) := (HB.out.alloc hsz _).grown hg1 (by simp; omega) (fun k h => (HO.out.owns.lt k h).1); have O1 := hide ho1; clear ho1 hg1)
          | fail)
        go_roundw
        case rel => exact ⟨_, by omega, by go_num, hide (plc_own O1.out (by omega) (by simp only [Nat.reducePow]; omega)), BB1⟩
        case measure => simp [intOf]
    · obtain rfl : i = 8 := by omega
      obtain ⟨a8, c8, rfl, hn8, hc8, _⟩ := HO.out.sliceN (n := 8) rfl
      have O8 : Hid (OwnB wr w.heap.size 5 (.slice a8 8 c8) (plc n)) := HO
      have HS := hide ((full_own wr [101, 110, 100, 46] 4 rfl (by decide) #[.int .u8 101, .int .u8 110, .int .u8 100, .int .u8 46] rfl).row)
      have O8' := hide (O8.out.below ((Below.refl wr.heap.size wr).alloc (Nat.le_refl _) (.cells #[.int .u8 101, .int .u8 110, .int .u8 100, .int .u8 46] 5)))
      have BB8 : Hid (Below w.heap.size w (wr.alloc (.cells #[.int .u8 101, .int .u8 110, .int .u8 100, .int .u8 46] 5))) := HB.out.alloc hsz _
      go_wp2_with (first
        | (at_builtin; refine append_b rfl (.tmp 18) (.tmp 19) 23 rfl w.heap.size 5 i0 Tryz.underlying23 hi hz0 hz1 hz2 (.slice a8 8 c8) (plc n) rfl O8'.out (some ⟨wr.heap.size, 0, none⟩) 4 4 [101, 110, 100, 46] rfl rfl (by intro h; cases h) HS.out (by simp [plc]) BB8.out.size ?_; intro v9 w9 ho9 hg9; have BB9 : Hid (Below w.heap.size w w9) := BB8.out.grown hg9 BB8.out.size (fun k h => (O8.out.owns.lt k h).1); have O9 := hide ho9; clear ho9 hg9)
        | fail)
      obtain ⟨a9, c9, rfl, hn9, hc9, _⟩ := O9.out.sliceN (n := 12) rfl
      go_ret
      exact ⟨_, _, rfl, (fun h => by have := (hn9 h).1; omega), O9.out.row, BB9.out⟩

end Go.Proofs.YtepjblmjjegpgaaGreat
