/- foot: numbers' bytes, of both sides. -/
import Derived.Test.YtepjblmjjegpgaaGreatW11
import Derived.Test.YtepjblmjjegpgaaGreatW20
import Derived.Test.YtepjblmjjegpgaaGreatW19
import Derived.Test.YtepjblmjjegpgaaGreatW14
import Derived.Test.YtepjblmjjegpgaaGreatW18
namespace Go.Proofs.YtepjblmjjegpgaaGreat
open Go.RowKit
set_option maxRecDepth 100000

set_option maxHeartbeats 400000 in
theorem fvbytes_any (n : Nat) (w : World) (hn : n ≤ 18446744073709551615) :
    Calls Tryz.prog 84 #[.int .u64 (n : Int)] w fun e w' => e = .returned (.slice (some ⟨w.heap.size + 1, 0, none⟩) (enc n).length (enc n).length) ∧ OwnB w' w.heap.size 5 (.slice (some ⟨w.heap.size + 1, 0, none⟩) (enc n).length (enc n).length) (enc n) ∧ Below w.heap.size w w' := by
  have hrow : Row (w.alloc (.cells #[.int .u64 (n : Int)] 124)) .u64 (some ⟨w.heap.size, 0, none⟩) [(n : Int)] := by
    intro i hi
    refine ⟨w.heap.size, 0, rfl, ?_⟩
    rw [Nat.zero_add, cell_of_row _ _ _ _ _ _ (heap_alloc_new w _)]
    match i, hi with
    | 0, _ => rfl
  have h64 : Fits64 [(n : Int)] := by
    intro i
    match i with
    | 0 => simp; omega
    | i + 1 => simp
  have HJ := hide (join_any (some ⟨w.heap.size, 0, none⟩) 1 1 [(n : Int)] (w.alloc (.cells #[.int .u64 (n : Int)] 124)) rfl (by omega) hrow h64)
  rw [encs_one, Int.toNat_natCast, World.size_alloc] at HJ
  clear hrow h64
  go_enter Tryz.func84, Tryz.ntmps84
  go_wp2_with fail
  refine HJ.out.mono ?_
  rintro e w1 ⟨rfl, ho, hb⟩
  replace ho := hide ((ownB_full ho rfl).mono (Nat.le_succ _))
  replace hb := hide hb
  go_wp2_with fail
  go_ret
  exact ⟨rfl, ho.out, ((Below.refl _ _).alloc (Nat.le_refl _) _).trans (hb.out.mono (by omega))⟩

theorem frow_byte (w : World) (c : Int) (T : TypeId) : Row (w.alloc (.cells #[.int .u8 c] T)) .u8 (some ⟨w.heap.size, 0, none⟩) [c] := by
  intro i hi
  obtain rfl : i = 0 := by simp at hi; omega
  exact ⟨_, 0, rfl, by rw [cell_of_row _ _ _ _ _ _ (heap_alloc_new w _)]; rfl⟩

set_option maxHeartbeats 800000 in
theorem frnum_any (n : Nat) (w : World) (hn : n ≤ 18446744073709551615) :
    Calls Tryz.prog 107 #[.int .u64 (n : Int)] w fun e w' => ∃ v, e = .returned v ∧ OwnB w' w.heap.size 5 v (enc n) ∧ Below w.heap.size w w' := by
  obtain ⟨i0, hi, hz0, hz1, hz2⟩ := info_parts infoByte'
  go_enter Tryz.func107, Tryz.ntmps107
  go_wp2
  go_loopw [0, 3] (fun m s wr => ∃ (j M : Nat) (ys : List Int) (v : Value), j ≤ 9 ∧ ys.length = j ∧ M ≤ 18446744073709551615 ∧ s = v ∧ m = .int .u64 (M : Int) ∧ Hid (M = n / 128 ^ j ∧ ys ++ encF (9 - j) M = enc n) ∧
      OwnB wr w.heap.size 5 v ys ∧ Below w.heap.size w wr) (fun m _ _ => (intOf m).toNat)
  case atStart => exact ⟨0, n, [], _, by omega, rfl, hn, rfl, rfl, ⟨by simp, rfl⟩, OwnB.nil _ _ _, Below.refl _ _⟩
  case round =>
    obtain ⟨j, M, ys, v, hj, hys, hM64, rfl, rfl, HM, hownr, hbel⟩ := hrel
    have hsz := hbel.size
    by_cases hge : 128 ≤ M
    · have hst := enc_step n j M ys hn HM.out.1 hj hge HM.out.2
      have hj8 := hst.1
      have HST := hide hst
      clear hst
      have hgeI : (128 : Int) ≤ (M : Int) := by omega
      have hMI : (M : Int) ≤ 18446744073709551615 := by omega
      have HO := hide hownr
      clear hownr
      go_wp2_with (first
        | (at_builtin; refine append_b rfl (.tmp 6) (.tmp 11) 23 rfl w.heap.size 5 i0 Tryz.underlying23 hi hz0 hz1 hz2 _ ys rfl (HO.out.below ((Below.refl _ _).alloc (Nat.le_refl _) _)) (some ⟨wr.heap.size, 0, none⟩) 1 1 [(M : Int) % 128 + 128] rfl rfl (by intro h; cases h) (frow_byte _ _ _) (by omega) (by simp; omega) ?_; intro v1 w1 hown1 hg1))
      go_roundw
      case rel =>
        refine ⟨j + 1, M / 128, ys ++ [((M % 128 + 128 : Nat) : Int)], _, by omega, by simp [hys], by omega, rfl, by go_num, ⟨HST.out.2.1, HST.out.2.2⟩, ?_, (hbel.alloc hsz _).grown hg1 (by simp; omega) (fun k h => (HO.out.owns.lt k h).1)⟩
        have e : ((M % 128 + 128 : Nat) : Int) = (M : Int) % 128 + 128 := by omega
        rw [e]
        exact hown1
      case measure => simp [intOf]; omega
    · have he : enc n = ys ++ [(M : Int)] := by rw [← HM.out.2, encF_lt _ _ (by omega)]
      have HE := hide he
      clear he
      have hgeI : ¬ (128 : Int) ≤ (M : Int) := by omega
      have HO := hide hownr
      clear hownr
      go_wp2_with (first
        | (at_builtin; refine append_b rfl (.tmp 15) (.tmp 18) 23 rfl w.heap.size 5 i0 Tryz.underlying23 hi hz0 hz1 hz2 _ ys rfl (HO.out.below ((Below.refl _ _).alloc (Nat.le_refl _) _)) (some ⟨wr.heap.size, 0, none⟩) 1 1 [(M : Int)] rfl rfl (by intro h; cases h) (frow_byte _ _ _) (by omega) (by simp; omega) ?_; intro v1 w1 hown1 hg1))
      go_ret
      rw [HE.out]
      exact ⟨v1, rfl, hown1, (hbel.alloc hsz _).grown hg1 (by simp; omega) (fun k h => (HO.out.owns.lt k h).1)⟩

end Go.Proofs.YtepjblmjjegpgaaGreat

namespace Go.Proofs.YtepjblmjjegpgaaGreat
open Go.RowKit
set_option maxRecDepth 100000

/-- The table: at gt; the greatest lengths at g2, g3. -/
structure Tab (W : World) (gt g2 g3 : Nat) : Prop where
  t : W.heap[gt]? = some (.cells #[.func (.func 142) #[] #[], .func (.func 143) #[] #[], .int .i64 73, .func (.func 144) #[] #[], .func (.func 141) #[] #[.pointer (some ⟨g2, 0, none⟩)], .int .i64 74, .func (.func 145) #[] #[], .func (.func 141) #[] #[.pointer (some ⟨g3, 0, none⟩)], .int .i64 75] 170 (0, 0))
  b2 : W.cell? ⟨g2, 0, none⟩ = some (.int .u64 131072)
  b3 : W.cell? ⟨g3, 0, none⟩ = some (.int .u64 64)
theorem Tab.below {W W' : World} {gt g2 g3 : Nat} (h : Tab W gt g2 g3) (hb : Below W.heap.size W W') : Tab W' gt g2 g3 :=
  ⟨(hb.block gt (lt_of_block h.t)).trans h.t, (hb.cell (p := ⟨g2, 0, none⟩) (World.block_lt_of_cell? W ⟨g2, 0, none⟩ h.b2)).trans h.b2, (hb.cell (p := ⟨g3, 0, none⟩) (World.block_lt_of_cell? W ⟨g3, 0, none⟩ h.b3)).trans h.b3⟩
theorem Tab.upd {S : Nat → Prop} {W W' : World} {gt g2 g3 : Nat} (h : Tab W gt g2 g3) (hu : Upd S W W') (h1 : ¬ S gt) (h2 : ¬ S g2) (h3 : ¬ S g3) : Tab W' gt g2 g3 :=
  ⟨hu.heap h.t h1, hu.cell h.b2 h2, hu.cell h.b3 h3⟩

set_option maxHeartbeats 800000 in
theorem upto_mk (m : Int) (w : World) :
    Calls Tryz.prog 140 #[.int .u64 m] w fun e w' => e = .returned (.func (.func 141) #[] #[.pointer (some ⟨w.heap.size, 0, none⟩)]) ∧ w' = w.alloc (.cells #[.int .u64 m] 124) := by
  go_enter Tryz.func140, Tryz.ntmps140
  go_wp2_with fail
  go_ret
  exact ⟨rfl, rfl⟩

set_option maxHeartbeats 800000 in
theorem rules_any (w : World) :
    Calls Tryz.prog 117 #[] w fun e w' => e = .returned (.slice (some ⟨w.heap.size + 2, 0, none⟩) 3 3) ∧ Tab w' (w.heap.size + 2) w.heap.size (w.heap.size + 1) ∧ Below w.heap.size w w' := by
  go_enter Tryz.func117, Tryz.ntmps117
  go_wp2_with fail
  refine (upto_mk 131072 w).mono ?_
  rintro e w1 ⟨rfl, hw1⟩
  have z1 : w1.heap.size = w.heap.size + 1 := by rw [hw1]; simp
  have c1 : w1.cell? ⟨w.heap.size, 0, none⟩ = some (.int .u64 131072) := by rw [hw1, cell_of_row _ _ _ _ _ _ (heap_alloc_new w _)]; rfl
  have b1 : Below w.heap.size w w1 := by rw [hw1]; exact (Below.refl _ _).alloc (Nat.le_refl _) _
  replace c1 := hide c1
  replace b1 := hide b1
  clear hw1
  go_wp2_with fail
  refine (upto_mk 64 w1).mono ?_
  rintro e w2 ⟨rfl, hw2⟩
  have z2 : w2.heap.size = w.heap.size + 2 := by rw [hw2]; simp; omega
  have c2 : w2.cell? ⟨w.heap.size + 1, 0, none⟩ = some (.int .u64 64) := by rw [← z1, hw2, cell_of_row _ _ _ _ _ _ (heap_alloc_new w1 _)]; rfl
  have b2 : Below w1.heap.size w1 w2 := by rw [hw2]; exact (Below.refl _ _).alloc (Nat.le_refl _) _
  replace c2 := hide c2
  replace b2 := hide b2
  clear hw2
  rw [z1]
  go_wp2_with fail
  go_ret
  have b3 : ∀ o, Below w2.heap.size w2 (w2.alloc o) := fun o => (Below.refl _ _).alloc (Nat.le_refl _) o
  refine ⟨rfl, ⟨?_, ?_, ?_⟩, (b1.out.trans (b2.out.mono (by omega))).trans ((b3 _).mono (by omega))⟩
  · rw [← z2]; exact heap_alloc_new w2 _
  · exact (((b2.out.trans ((b3 _).mono (by omega))).cell (p := ⟨w.heap.size, 0, none⟩) (show w.heap.size < _ by omega)).trans c1.out)
  · exact ((b3 _).cell (p := ⟨w.heap.size + 1, 0, none⟩) (show w.heap.size + 1 < _ by omega)).trans c2.out

set_option maxHeartbeats 800000 in
theorem upto_any (n m g : Nat) (b : Int) (w : World) (hn : n ≤ 18446744073709551615) (h : w.cell? ⟨g, 0, none⟩ = some (.int .u64 (m : Int))) :
    Calls Tryz.prog 141 #[.int .u64 (n : Int), .int .u64 b, .pointer (some ⟨g, 0, none⟩)] w fun e w' => e = .returned (.bool (decide (1 ≤ n ∧ n ≤ m))) ∧ w' = w := by
  go_enter Tryz.func141, Tryz.ntmps141
  by_cases h1 : 1 ≤ n
  · have i1 : (1 : Int) ≤ (n : Int) := by omega
    by_cases h2 : n ≤ m
    · have i2 : (n : Int) ≤ (m : Int) := by omega
      rw [decide_eq_true ⟨h1, h2⟩]
      go_wp2_with fail
      go_ret
      exact ⟨rfl, rfl⟩
    · have i2 : ¬ (n : Int) ≤ (m : Int) := by omega
      rw [decide_eq_false (fun q => h2 q.2)]
      go_wp2_with fail
      go_ret
      exact ⟨rfl, rfl⟩
  · have i1 : ¬ (1 : Int) ≤ (n : Int) := by omega
    rw [decide_eq_false (fun q => h1 q.1)]
    go_wp2_with fail
    go_ret
    exact ⟨rfl, rfl⟩

set_option maxHeartbeats 800000 in
theorem place_any (n b : Nat) (w : World) :
    Calls Tryz.prog 143 #[.int .u64 (n : Int), .int .u64 (b : Int)] w fun e w' => e = .returned (.bool (decide (n = b))) ∧ w' = w := by
  go_enter Tryz.func143, Tryz.ntmps143
  have h : ((n : Int) == (b : Int)) = decide (n = b) := by
    by_cases h : n = b
    · subst h; simp
    · rw [decide_eq_false h]; simp; omega
  go_wp2_with fail
  go_ret
  first
    | (rw [h]; exact ⟨rfl, rfl⟩)
    | exact ⟨rfl, rfl⟩

set_option maxHeartbeats 800000 in
theorem in1_any (b o : Nat) (w : World) :
    Calls Tryz.prog 142 #[.pointer (some ⟨b, o, none⟩)] w fun e w' => e = .returned (.pointer (some ⟨b, o + 1, none⟩)) ∧ w' = w := by
  go_enter Tryz.func142, Tryz.ntmps142
  go_wp2_with fail
  go_ret
  exact ⟨rfl, rfl⟩
set_option maxHeartbeats 800000 in
theorem in2_any (b o : Nat) (w : World) :
    Calls Tryz.prog 144 #[.pointer (some ⟨b, o, none⟩)] w fun e w' => e = .returned (.pointer (some ⟨b, o + 2, none⟩)) ∧ w' = w := by
  go_enter Tryz.func144, Tryz.ntmps144
  go_wp2_with fail
  go_ret
  exact ⟨rfl, rfl⟩
set_option maxHeartbeats 800000 in
theorem in3_any (b o : Nat) (w : World) :
    Calls Tryz.prog 145 #[.pointer (some ⟨b, o, none⟩)] w fun e w' => e = .returned (.pointer (some ⟨b, o + 3, none⟩)) ∧ w' = w := by
  go_enter Tryz.func145, Tryz.ntmps145
  go_wp2_with fail
  go_ret
  exact ⟨rfl, rfl⟩

set_option maxHeartbeats 800000 in
theorem head_any (w : World) :
    Calls Tryz.prog 138 #[] w fun e w' => e = .returned (.agg #[.slice none 0 0, .int .i64 0, .int .i64 8, .int .i64 0]) ∧ Below w.heap.size w w' := by
  go_enter Tryz.func138, Tryz.ntmps138
  go_wp2_with fail
  exact bodyPost_ret (v := .agg #[.slice none 0 0, .int .i64 0, .int .i64 8, .int .i64 0]) (by simp [results, Tryz.results138, go_sem]) rfl ⟨rfl, (Below.refl _ _).alloc (Nat.le_refl _) _⟩

set_option maxHeartbeats 800000 in
theorem behind_any (v : Value) (p q : Nat) (n : Int) (w : World) (hp : p ≤ 2305843009213693952) (hq : q ≤ 2305843009213693952) :
    Calls Tryz.prog 157 #[.agg #[v, .int .i64 (p : Int), .int .i64 (q : Int), .int .i64 n]] w fun e w' => e = .returned (.int .u64 ((p + q : Nat) : Int)) ∧ Below w.heap.size w w' := by
  go_enter Tryz.func157, Tryz.ntmps157
  go_wp2_with fail
  go_ret
  refine ⟨?_, ?_⟩
  · first | rfl | go_num | (simp; omega)
  · exact ((Below.refl _ _).alloc (Nat.le_refl _) _)

set_option maxHeartbeats 800000 in
theorem rises_any (a b : Option Addr) (l1 c1 l2 c2 : Nat) (x y z : Int) (xs ys : List Int) (w : World) (h1 : xs.length = l1) (h2 : ys.length = l2) (r1 : Row w .u8 a xs) (r2 : Row w .u8 b ys) (b1 : B8 xs) (b2 : B8 ys) :
    Calls Tryz.prog 156 #[.agg #[.slice a l1 c1, .int .i64 x, .int .i64 y, .int .i64 z], .slice b l2 c2] w fun e w' => e = .returned (.bool (decide (cmpI xs ys < 0))) ∧ Below w.heap.size w w' := by
  obtain ⟨w1, hw1⟩ : ∃ w1, w1 = w.alloc (.cells #[.slice a l1 c1, .int .i64 x, .int .i64 y, .int .i64 z] 97) := ⟨_, rfl⟩
  have bb : Below w.heap.size w w1 := by rw [hw1]; exact (Below.refl _ _).alloc (Nat.le_refl _) _
  have HC := hide (compare_any a b l1 c1 l2 c2 xs ys w1 h1 h2 (r1.below2 bb) (r2.below2 bb) b1 b2)
  replace bb := hide bb
  obtain ⟨q1, q2⟩ := cmpI_fits xs ys
  generalize cmpI xs ys = cc at *
  clear r1 r2 b1 b2
  go_enter Tryz.func156, Tryz.ntmps156
  go_wp2_with fail
  rw [← hw1]
  refine keep HC.out ?_
  go_wp2_with fail
  go_ret
  exact ⟨rfl, by rw [← hw1]; exact bb.out⟩

end Go.Proofs.YtepjblmjjegpgaaGreat

namespace Go.Proofs.YtepjblmjjegpgaaGreat
open Go.RowKit
set_option maxRecDepth 100000

structure Spn where
  ka : Option Addr
  kc : Nat
  ks : List Int
  pl : Int
  ln : Int
  n : Int
instance : Inhabited Spn := ⟨⟨none, 0, [], 0, 0, 0⟩⟩
def Spn.kv (e : Spn) : Value := .slice e.ka e.ks.length e.kc
def I64 (x : Int) : Prop := -9223372036854775808 ≤ x ∧ x ≤ 9223372036854775807
structure Spn.Ok (W : World) (e : Spn) : Prop where
  k : Row W .u8 e.ka e.ks
  nk : e.ka = none → e.ks.length = 0 ∧ e.kc = 0
  lk : e.ks.length ≤ e.kc
  k8 : B8 e.ks
  zk : e.ks.length ≤ 140737488351232
  rp : I64 e.pl
  rl : I64 e.ln
  rn : I64 e.n
theorem Spn.Ok.below {W W' : World} {e : Spn} (h : e.Ok W) (hb : Below W.heap.size W W') : e.Ok W' := ⟨h.k.below2 hb, h.nk, h.lk, h.k8, h.zk, h.rp, h.rl, h.rn⟩
/-- A row's four cells. -/
structure Sp4 (W : World) (b o : Nat) (s : Spn) : Prop where
  c0 : W.cell? ⟨b, o, none⟩ = some s.kv
  c1 : W.cell? ⟨b, o + 1, none⟩ = some (.int .i64 s.pl)
  c2 : W.cell? ⟨b, o + 2, none⟩ = some (.int .i64 s.ln)
  c3 : W.cell? ⟨b, o + 3, none⟩ = some (.int .i64 s.n)
theorem Sp4.lt {W : World} {b o : Nat} {s : Spn} (h : Sp4 W b o s) : b < W.heap.size := World.block_lt_of_cell? W ⟨b, o, none⟩ h.c0
theorem Sp4.below {W W' : World} {b o : Nat} {s : Spn} (h : Sp4 W b o s) (hb : Below W.heap.size W W') : Sp4 W' b o s :=
  ⟨(hb.cell (p := ⟨b, o, none⟩) h.lt).trans h.c0, (hb.cell (p := ⟨b, o + 1, none⟩) h.lt).trans h.c1, (hb.cell (p := ⟨b, o + 2, none⟩) h.lt).trans h.c2, (hb.cell (p := ⟨b, o + 3, none⟩) h.lt).trans h.c3⟩
/-- Rows one behind the other. -/
structure Sps (W : World) (b o : Nat) (L : List Spn) : Prop where
  c : ∀ i (h : i < L.length), Sp4 W b (o + i * 4) L[i]
  ok : ∀ i (h : i < L.length), L[i].Ok W
theorem Sps.below {W W' : World} {b o : Nat} {L : List Spn} (h : Sps W b o L) (hb : Below W.heap.size W W') : Sps W' b o L :=
  ⟨fun i hi => (h.c i hi).below hb, fun i hi => (h.ok i hi).below hb⟩

/-- A row as such. -/
structure FRow where
  k : List Int
  p : Int
  l : Int
  n : Int
  deriving DecidableEq
instance : Inhabited FRow := ⟨⟨[], 0, 0, 0⟩⟩
def Spn.row (s : Spn) : FRow := ⟨s.ks, s.pl, s.ln, s.n⟩
/-- What is wrong with a row behind one with the key pk whose frame ends at pos. -/
def flt (pk : List Int) (pos : Int) (r : FRow) : Int :=
  if keyE r.k.length ≠ 0 ∨ ¬ cmpI pk r.k < 0 then 72 else if r.p ≠ pos then 73 else if ¬ (1 ≤ r.l ∧ r.l ≤ 131072) then 74 else if ¬ (1 ≤ r.n ∧ r.n ≤ 64) then 75 else 0

theorem u64_nat (x : Int) (h : I64 x) : ∃ a : Nat, IntKind.u64.wrap x = (a : Int) ∧ a ≤ 18446744073709551615 ∧ ((0 ≤ x ∧ (a : Int) = x) ∨ (x < 0 ∧ 9223372036854775808 ≤ a)) := by
  unfold I64 at h
  refine ⟨(IntKind.u64.wrap x).toNat, ?_, ?_, ?_⟩ <;> rw [IntKind.wrap_u64] <;> omega

end Go.Proofs.YtepjblmjjegpgaaGreat
