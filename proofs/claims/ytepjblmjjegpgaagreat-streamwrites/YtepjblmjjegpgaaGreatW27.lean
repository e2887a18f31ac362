/- pair: Bytes. -/
import Derived.Test.YtepjblmjjegpgaaGreatW11
import Derived.Test.YtepjblmjjegpgaaGreatW13
import Derived.Test.YtepjblmjjegpgaaGreatW24
import Derived.Test.YtepjblmjjegpgaaGreatW14
import Derived.Deep.RegionHeld3
import Derived.BigRegion
import Derived.Handy
import Derived.Test.YtepjblmjjegpgaaGreatW17
import Derived.Test.YtepjblmjjegpgaaGreatW19
namespace Go.Proofs.YtepjblmjjegpgaaGreat
open Go.RowKit
set_option maxRecDepth 100000

/-- An entry's bytes behind a text. -/
def encE (prev key val : List Int) : List Int := enc (comN prev key) ++ enc (key.length - comN prev key) ++ enc val.length ++ key.drop (comN prev key) ++ val

theorem parts3 {w : World} {b : Nat} {a1 a2 a3 : Option Addr} {l1 c1 l2 c2 l3 c3 : Nat} {x y z : List Int} (h1 : x.length = l1) (h2 : y.length = l2) (h3 : z.length = l3) (n1 : a1 = none → l1 = 0 ∧ c1 = 0) (n2 : a2 = none → l2 = 0 ∧ c2 = 0) (n3 : a3 = none → l3 = 0 ∧ c3 = 0)
    (hb : w.heap[b]? = some (.cells #[.slice a1 l1 c1, .slice a2 l2 c2, .slice a3 l3 c3] 23 (0, 0))) (r1 : Row w .u8 a1 x) (r2 : Row w .u8 a2 y) (r3 : Row w .u8 a3 z) : Parts w b 0 [.slice a1 l1 c1, .slice a2 l2 c2, .slice a3 l3 c3] [x, y, z] :=
  ⟨rfl, fun i hi => by
    rw [cell_of_row _ _ _ _ _ _ hb]
    match i, hi with
    | 0, _ => rfl
    | 1, _ => rfl
    | 2, _ => rfl, fun i hi => by
    match i, hi with
    | 0, _ => exact ⟨a1, l1, c1, rfl, h1, n1, r1⟩
    | 1, _ => exact ⟨a2, l2, c2, rfl, h2, n2, r2⟩
    | 2, _ => exact ⟨a3, l3, c3, rfl, h3, n3, r3⟩⟩
theorem encs3 (n r l : Nat) : encs [(n : Int), (r : Int), (l : Int)] = enc n ++ enc r ++ enc l := by
  simp [encs]
theorem row3 {w : World} {b : Nat} {t : TypeId} {x y z : Int} (hb : w.heap[b]? = some (.cells #[.int .u64 x, .int .u64 y, .int .u64 z] t (0, 0))) : Row w .u64 (some ⟨b, 0, none⟩) [x, y, z] := by
  intro i hi
  refine ⟨b, 0, rfl, ?_⟩
  rw [Nat.zero_add, cell_of_row _ _ _ _ _ _ hb]
  match i, hi with
  | 0, _ => rfl
  | 1, _ => rfl
  | 2, _ => rfl
theorem fits3 {n r l : Nat} (h1 : n ≤ 2000000) (h2 : r ≤ 2000000) (h3 : l ≤ 2000000) : Fits64 [(n : Int), (r : Int), (l : Int)] := by
  intro i
  match i with
  | 0 => simp; omega
  | 1 => simp; omega
  | 2 => simp; omega
  | i + 3 => simp

set_option maxRecDepth 100000 in
set_option maxHeartbeats 1600000 in
theorem bytes_core (a k v : Option Addr) (la ca lk ck lv cv : Nat) (xs ks vs : List Int) (w : World) (h1 : xs.length = la) (h2 : ks.length = lk) (h3 : vs.length = lv) (m1 : la ≤ 1048600) (m2 : lk ≤ 1048600) (m3 : lv ≤ 1048600) (hck : lk ≤ ck) (nv : v = none → lv = 0 ∧ cv = 0)
    (r1 : Row w .u8 a xs) (r2 : Row w .u8 k ks) (r3 : Row w .u8 v vs) (kd : Option Addr) (cd : Nat) (hkd : ∀ W : World, (Instr.slice 23 (.slice k lk ck) (some (.int .i64 (comN xs ks : Nat))) none none).run Tryz.prog W = .ok (.slice kd (lk - comN xs ks) cd) W) (nkd : kd = none → lk - comN xs ks = 0 ∧ cd = 0) (rkd : Row w .u8 kd (ks.drop (comN xs ks))) :
    Calls Tryz.prog 92 #[.slice a la ca, .agg #[.slice k lk ck, .slice v lv cv]] w fun e w' => ∃ u, e = .returned u ∧ OwnB w' w.heap.size 5 u (encE xs ks vs) ∧ Below w.heap.size w w' := by
  have R1 := hide r1
  have R2 := hide r2
  have R3 := hide r3
  have RK := hide rkd
  have NV := hide nv
  have NK := hide nkd
  have hle := comN_le xs ks
  have HE : Hid (encE xs ks vs = [encs [((comN xs ks : Nat) : Int), ((lk - comN xs ks : Nat) : Int), (lv : Int)], ks.drop (comN xs ks), vs].flatten) := by show _ = _; unfold encE; rw [encs3, h2, h3]; simp
  have HC : Hid (∀ W, Row W .u8 a xs → Row W .u8 k ks → Calls Tryz.prog 122 #[.slice a la ca, .slice k lk ck] W fun e w' => e = .returned (.int .i64 (comN xs ks : Nat)) ∧ ∃ m, w' = W.drewN m) := fun W g1 g2 => common_any a k la ca lk ck xs ks W (by unfold maxLen; omega) (by unfold maxLen; omega) h1 h2 g1 g2
  have hdl : (ks.drop (comN xs ks)).length = lk - comN xs ks := by rw [List.length_drop, h2]
  clear r1 r2 r3 rkd nv nkd
  generalize ks.drop (comN xs ks) = kds at *
  generalize comN xs ks = n at *
  obtain ⟨r, hr⟩ : ∃ r, lk = n + r := ⟨lk - n, by omega⟩
  rw [show lk - n = r by omega] at HE hkd NK hdl
  subst hr
  have HD := hide hdl
  clear hdl
  have hpos : ((n + r : Nat) : Int) - (n : Int) = (r : Int) := by omega
  have hEN : (encs [(n : Int), (r : Int), (lv : Int)]).length ≤ 30 := by
    have := encs_len [(n : Int), (r : Int), (lv : Int)] (fits3 (by omega) (by omega) (by omega)) 3 (by simp)
    simpa using this
  have HJ : Hid (∀ (W : World) b, W.heap[b]? = some (.cells #[.int .u64 (n : Int), .int .u64 (r : Int), .int .u64 (lv : Int)] 175 (0, 0)) → Calls Tryz.prog 113 #[.slice (some ⟨b, 0, none⟩) 3 3] W fun e w' => e = .returned (.slice (some ⟨W.heap.size, 0, none⟩) (encs [(n : Int), (r : Int), (lv : Int)]).length (encs [(n : Int), (r : Int), (lv : Int)]).length) ∧ Row w' .u8 (some ⟨W.heap.size, 0, none⟩) (encs [(n : Int), (r : Int), (lv : Int)]) ∧ Below W.heap.size W w') := fun W b hb => by
    refine (join_any (some ⟨b, 0, none⟩) 3 3 [(n : Int), (r : Int), (lv : Int)] W rfl (by omega) (row3 hb) (fits3 (by omega) (by omega) (by omega))).mono ?_
    rintro e w' ⟨h1, h2, h3⟩
    exact ⟨h1, row_of_owns2 h2, h3⟩
  generalize hes : encs [(n : Int), (r : Int), (lv : Int)] = es at *
  clear hes
  have HCC : Hid (∀ (W : World) b (ad : Addr) (b0 : Nat), b = W.heap.size → Row W .u8 (some ad) es → Below w.heap.size w W → Calls Tryz.prog 45 #[.slice (some ⟨b, 0, none⟩) 3 3] (W.alloc (.cells #[.slice (some ad) es.length b0, .slice kd r cd, .slice v lv cv] 23)) fun e w' => ∃ u, e = .returned u ∧ OwnB w' w.heap.size 5 u (encE xs ks vs) ∧ Below w.heap.size w w' ∧ Below W.heap.size W w') := fun W b ad b0 hb hr hB => by
    subst hb
    have hs := hB.size
    have hP := parts3 (w := W.alloc (.cells #[.slice (some ad) es.length b0, .slice kd r cd, .slice v lv cv] 23)) (b := W.heap.size) (x := es) (y := kds) (z := vs) rfl HD.out h3 (fun h => by cases h) NK.out NV.out (heap_alloc_new W _) (hr.alloc _) ((RK.out.below2 hB).alloc _) ((R3.out.below2 hB).alloc _)
    refine (concat_any W.heap.size 0 3 3 _ _ _ rfl (by omega) hP (by have := HD.out; simp; omega)).mono ?_
    rintro e w' ⟨u, rfl, ho, hb⟩
    refine ⟨u, rfl, ?_, (hB.alloc hs _).trans (hb.mono (by simp; omega)), ((Below.refl _ _).alloc (Nat.le_refl _) _).trans (hb.mono (by simp))⟩
    rw [HE.out]
    exact ho.mono (by simp; omega)
  go_enter Tryz.func92, Tryz.ntmps92
  go_wp2_with fail
  refine (HC.out _ (R1.out.alloc _) (R2.out.alloc _)).mono ?_
  rintro e w1 ⟨rfl, m, rfl⟩
  go_wp2_with fail
  have e1 : ((n : Int) + (r : Int) - (n : Int)) = (r : Int) := by omega
  rw [e1]
  clear e1
  have q0 := (Below.heap_alloc ((w.alloc (.cells #[.slice k (n + r) ck, .slice v lv cv] 38)).drewN m) (.cells #[.int .u64 (n : Int), .int .u64 (r : Int), .int .u64 (lv : Int)] 175) w.heap.size (by simp [World.drewN])).trans (show ((w.alloc (.cells #[.slice k (n + r) ck, .slice v lv cv] 38)).drewN m).heap[w.heap.size]? = some (.cells #[.slice k (n + r) ck, .slice v lv cv] 38 (0, 0)) from heap_alloc_new w _)
  have q1 := heap_alloc_new ((w.alloc (.cells #[.slice k (n + r) ck, .slice v lv cv] 38)).drewN m) (.cells #[.int .u64 (n : Int), .int .u64 (r : Int), .int .u64 (lv : Int)] 175)
  have hsz : (((w.alloc (.cells #[.slice k (n + r) ck, .slice v lv cv] 38)).drewN m).alloc (.cells #[.int .u64 (n : Int), .int .u64 (r : Int), .int .u64 (lv : Int)] 175)).heap.size = w.heap.size + 2 := by simp [World.drewN]
  have HB0 : Hid (Below w.heap.size w (((w.alloc (.cells #[.slice k (n + r) ck, .slice v lv cv] 38)).drewN m).alloc (.cells #[.int .u64 (n : Int), .int .u64 (r : Int), .int .u64 (lv : Int)] 175))) := (drewB ((Below.refl _ _).alloc (Nat.le_refl _) _) m).alloc (by simp [World.drewN]) _
  rw [show ((w.alloc (.cells #[.slice k (n + r) ck, .slice v lv cv] 38)).drewN m).heap.size = w.heap.size + 1 from by simp [World.drewN]] at q1
  generalize ((w.alloc (.cells #[.slice k (n + r) ck, .slice v lv cv] 38)).drewN m).alloc (.cells #[.int .u64 (n : Int), .int .u64 (r : Int), .int .u64 (lv : Int)] 175) = wB at q0 q1 hsz HB0 ⊢
  have c0 : wB.cell? ⟨w.heap.size, 0, none⟩ = some (.slice k (n + r) ck) := by rw [cell_of_row _ _ _ _ _ _ q0]; rfl
  have c1 : wB.cell? ⟨w.heap.size, 1, none⟩ = some (.slice v lv cv) := by rw [cell_of_row _ _ _ _ _ _ q0]; rfl
  have HJB := hide (HJ.out wB.drew (w.heap.size + 1) q1)
  have HSZ := hide hsz
  have hlt : w.heap.size < wB.heap.size := by omega
  clear q0 q1 hsz
  go_region_held3 (fun W => W.cell? ⟨w.heap.size, 0, none⟩ = some (.slice k (n + r) ck) ∧ W.cell? ⟨w.heap.size, 1, none⟩ = some (.slice v lv cv)) (go_keep) (first
    | (go_at_call 113; refine HJB.out.mono ?_; rintro e w2 ⟨rfl, hr2, hb2⟩; have d0 := (hb2.cell (p := ⟨w.heap.size, 0, none⟩) hlt).trans c0; have d1 := (hb2.cell (p := ⟨w.heap.size, 1, none⟩) hlt).trans c1; have hlt2 : wB.heap.size ≤ w2.heap.size := hb2.size; have HR2 := hide hr2; have HB2 := hide (HB0.out.drew.trans (hb2.mono (Nat.le_of_lt hlt))); clear hr2 hb2)
    | (go_at_call 45; refine (HCC.out w2 _ _ _ rfl HR2.out HB2.out).mono ?_; rintro e w3 ⟨u, rfl, hou, hbu, hbv⟩; have f0 := (hbv.cell (p := ⟨w.heap.size, 0, none⟩) (Nat.lt_of_lt_of_le hlt hlt2)).trans d0; have f1 := (hbv.cell (p := ⟨w.heap.size, 1, none⟩) (Nat.lt_of_lt_of_le hlt hlt2)).trans d1; have HOU := hide hou; have HBU := hide hbu; clear hou hbu hbv)
    | fail)
  all_goals go_wp2_with fail
  all_goals go_ret
  all_goals exact ⟨u, rfl, HOU.out, HBU.out⟩

end Go.Proofs.YtepjblmjjegpgaaGreat

namespace Go.Proofs.YtepjblmjjegpgaaGreat
open Go.RowKit
set_option maxRecDepth 100000

/-- An entry's bytes, of any entry behind any text. -/
theorem bytes_any (a k v : Option Addr) (la ca lk ck lv cv : Nat) (xs ks vs : List Int) (w : World) (h1 : xs.length = la) (h2 : ks.length = lk) (h3 : vs.length = lv) (m1 : la ≤ 1048600) (m2 : lk ≤ 1048600) (m3 : lv ≤ 1048600) (hck : lk ≤ ck) (nv : v = none → lv = 0 ∧ cv = 0) (nk : k = none → lk = 0 ∧ ck = 0)
    (r1 : Row w .u8 a xs) (r2 : Row w .u8 k ks) (r3 : Row w .u8 v vs) :
    Calls Tryz.prog 92 #[.slice a la ca, .agg #[.slice k lk ck, .slice v lv cv]] w fun e w' => ∃ u, e = .returned u ∧ OwnB w' w.heap.size 5 u (encE xs ks vs) ∧ Below w.heap.size w w' :=
  have hle := comN_le xs ks
  bytes_core a k v la ca lk ck lv cv xs ks vs w h1 h2 h3 m1 m2 m3 hck nv r1 r2 r3 (cutAt k (comN xs ks) ck) (ck - comN xs ks) (run_from k lk ck _ (by omega)) (cut_none _ nk) (cut_row (by omega) r2)

end Go.Proofs.YtepjblmjjegpgaaGreat

namespace Go.Proofs.YtepjblmjjegpgaaGreat
open Go.RowKit
set_option maxRecDepth 100000

theorem encE_P (p k v : List Int) : encE p k v = encP p k v := rfl

set_option maxHeartbeats 400000 in
theorem restart_any (n : Nat) (w : World) (hn : n ≤ 4611686018427387904) :
    Calls Tryz.prog 90 #[.int .i64 (n : Int)] w fun e w' => e = .returned (.bool (decide (n % 8 = 0))) ∧ w' = w := by
  go_enter Tryz.func90, Tryz.ntmps90
  go_wp2
  go_ret
  have h : ((n : Int) % 8 == 0) = decide (n % 8 = 0) := by
    by_cases h : n % 8 = 0
    · rw [decide_eq_true h]; simp; omega
    · rw [decide_eq_false h]; simp; omega
  rw [← h]
  exact ⟨rfl, rfl⟩

theorem two_row (w : World) (x y : Int) (T : TypeId) : Row (w.alloc (.cells #[.int .u8 x, .int .u8 y] T)) .u8 (some ⟨w.heap.size, 0, none⟩) [x, y] := by
  intro i hi
  refine ⟨w.heap.size, 0, rfl, ?_⟩
  rw [Nat.zero_add, cell_of_row _ _ _ _ _ _ (heap_alloc_new w _)]
  match i, hi with
  | 0, _ => rfl
  | 1, _ => rfl
set_option maxHeartbeats 400000 in
theorem spell_any (p : Nat) (w : World) :
    Calls Tryz.prog 91 #[.int .i64 (p : Int)] w fun e w' => e = .returned (.slice (some ⟨w.heap.size, 0, none⟩) 2 2) ∧ w' = w.alloc (.cells #[.int .u8 ((p % 256 : Nat) : Int), .int .u8 ((p / 256 % 256 : Nat) : Int)] 5) := by
  go_enter Tryz.func91, Tryz.ntmps91
  go_wp2
  go_ret
  refine ⟨rfl, ?_⟩
  simp

set_option maxHeartbeats 400000 in
theorem vbytes_any (n : Nat) (w : World) (hn : n ≤ 18446744073709551615) :
    Calls Tryz.prog 84 #[.int .u64 (n : Int)] w fun e w' => e = .returned (.slice (some ⟨w.heap.size + 1, 0, none⟩) (enc n).length (enc n).length) ∧ Row w' .u8 (some ⟨w.heap.size + 1, 0, none⟩) (enc n) ∧ Below w.heap.size w w' := by
  have hrow : Row (w.alloc (.cells #[.int .u64 (n : Int)] 124)) .u64 (some ⟨w.heap.size, 0, none⟩) [(n : Int)] := by
    intro i hi
    refine ⟨w.heap.size, 0, rfl, ?_⟩
    rw [Nat.zero_add, cell_of_row _ _ _ _ _ _ (heap_alloc_new w _)]
    match i, hi with
    | 0, _ => rfl
  have h64 : Fits64 [(n : Int)] := by
    intro i
    match i with
    | 0 => simp; omega
    | i + 1 => simp
  have HJ := hide (join_any (some ⟨w.heap.size, 0, none⟩) 1 1 [(n : Int)] (w.alloc (.cells #[.int .u64 (n : Int)] 124)) rfl (by omega) hrow h64)
  rw [encs_one, Int.toNat_natCast, World.size_alloc] at HJ
  clear hrow h64
  go_enter Tryz.func84, Tryz.ntmps84
  go_wp2_with fail
  refine HJ.out.mono ?_
  rintro e w1 ⟨rfl, ho, hb⟩
  replace ho := hide (row_of_owns2 ho)
  replace hb := hide hb
  go_wp2_with fail
  go_ret
  exact ⟨rfl, ho.out, ((Below.refl _ _).alloc (Nat.le_refl _) _).trans (hb.out.mono (by omega))⟩

end Go.Proofs.YtepjblmjjegpgaaGreat

namespace Go.Proofs.YtepjblmjjegpgaaGreat
open Go.RowKit
set_option maxRecDepth 100000

theorem row_byte (w : World) (c : Int) (T : TypeId) : Row (w.alloc (.cells #[.int .u8 c] T)) .u8 (some ⟨w.heap.size, 0, none⟩) [c] := by
  intro i hi
  obtain rfl : i = 0 := by simp at hi; omega
  exact ⟨_, 0, rfl, by rw [cell_of_row _ _ _ _ _ _ (heap_alloc_new w _)]; rfl⟩

set_option maxHeartbeats 800000 in
theorem rnum_any (n : Nat) (w : World) (hn : n ≤ 18446744073709551615) :
    Calls Tryz.prog 107 #[.int .u64 (n : Int)] w fun e w' => ∃ v, e = .returned v ∧ OwnB w' w.heap.size 5 v (enc n) ∧ Below w.heap.size w w' := by
  obtain ⟨i0, hi, hz0, hz1, hz2⟩ := info_parts infoByte'
  go_enter Tryz.func107, Tryz.ntmps107
  go_wp2
  go_loopw [0, 3] (fun m s wr => ∃ (j M : Nat) (ys : List Int) (v : Value), j ≤ 9 ∧ ys.length = j ∧ M ≤ 18446744073709551615 ∧ s = v ∧ m = .int .u64 (M : Int) ∧ Hid (M = n / 128 ^ j ∧ ys ++ encF (9 - j) M = enc n) ∧
      OwnB wr w.heap.size 5 v ys ∧ Below w.heap.size w wr) (fun m _ _ => (intOf m).toNat)
  case atStart => exact ⟨0, n, [], _, by omega, rfl, hn, rfl, rfl, ⟨by simp, rfl⟩, OwnB.nil _ _ _, Below.refl _ _⟩
  case round =>
    obtain ⟨j, M, ys, v, hj, hys, hM64, rfl, rfl, HM, hownr, hbel⟩ := hrel
    have hsz := hbel.size
    by_cases hge : 128 ≤ M
    · have hst := enc_step n j M ys hn HM.out.1 hj hge HM.out.2
      have hj8 := hst.1
      have HST := hide hst
      clear hst
      have hgeI : (128 : Int) ≤ (M : Int) := by omega
      have hMI : (M : Int) ≤ 18446744073709551615 := by omega
      have HO := hide hownr
      clear hownr
      go_wp2_with (first
        | (at_builtin; refine append_b rfl (.tmp 6) (.tmp 11) 23 rfl w.heap.size 5 i0 Tryz.underlying23 hi hz0 hz1 hz2 _ ys rfl (HO.out.below ((Below.refl _ _).alloc (Nat.le_refl _) _)) (some ⟨wr.heap.size, 0, none⟩) 1 1 [(M : Int) % 128 + 128] rfl rfl (by intro h; cases h) (row_byte _ _ _) (by omega) (by simp; omega) ?_; intro v1 w1 hown1 hg1))
      go_roundw
      case rel =>
        refine ⟨j + 1, M / 128, ys ++ [((M % 128 + 128 : Nat) : Int)], _, by omega, by simp [hys], by omega, rfl, by go_num, ⟨HST.out.2.1, HST.out.2.2⟩, ?_, (hbel.alloc hsz _).grown hg1 (by simp; omega) (fun k h => (HO.out.owns.lt k h).1)⟩
        have e : ((M % 128 + 128 : Nat) : Int) = (M : Int) % 128 + 128 := by omega
        rw [e]
        exact hown1
      case measure => simp [intOf]; omega
    · have he : enc n = ys ++ [(M : Int)] := by rw [← HM.out.2, encF_lt _ _ (by omega)]
      have HE := hide he
      clear he
      have hgeI : ¬ (128 : Int) ≤ (M : Int) := by omega
      have HO := hide hownr
      clear hownr
      go_wp2_with (first
        | (at_builtin; refine append_b rfl (.tmp 15) (.tmp 18) 23 rfl w.heap.size 5 i0 Tryz.underlying23 hi hz0 hz1 hz2 _ ys rfl (HO.out.below ((Below.refl _ _).alloc (Nat.le_refl _) _)) (some ⟨wr.heap.size, 0, none⟩) 1 1 [(M : Int)] rfl rfl (by intro h; cases h) (row_byte _ _ _) (by omega) (by simp; omega) ?_; intro v1 w1 hown1 hg1))
      go_ret
      rw [HE.out]
      exact ⟨v1, rfl, hown1, (hbel.alloc hsz _).grown hg1 (by simp; omega) (fun k h => (HO.out.owns.lt k h).1)⟩

set_option maxRecDepth 100000 in
set_option maxHeartbeats 1600000 in
theorem rbytes_any (a k v : Option Addr) (la ca lk ck lv cv : Nat) (xs ks vs : List Int) (w : World) (h1 : xs.length = la) (h2 : ks.length = lk) (h3 : vs.length = lv) (m1 : la ≤ 1048600) (m2 : lk ≤ 1048600) (m3 : lv ≤ 1048600) (hck : lk ≤ ck) (nv : v = none → lv = 0 ∧ cv = 0) (nk : k = none → lk = 0 ∧ ck = 0)
    (r1 : Row w .u8 a xs) (r2 : Row w .u8 k ks) (r3 : Row w .u8 v vs) :
    Calls Tryz.prog 124 #[.slice a la ca, .agg #[.slice k lk ck, .slice v lv cv]] w fun e w' => ∃ u, e = .returned u ∧ OwnB w' w.heap.size 5 u (encE xs ks vs) ∧ Below w.heap.size w w' := by
  obtain ⟨i0, hi, hz0, hz1, hz2⟩ := info_parts infoByte'
  have R1 := hide r1
  have R2 := hide r2
  have R3 := hide r3
  have NV := hide nv
  have hle := comN_le xs ks
  have HE : Hid (encE xs ks vs = enc (comN xs ks) ++ enc (lk - comN xs ks) ++ enc lv ++ ks.drop (comN xs ks) ++ vs) := by show _ = _; unfold encE; rw [h2, h3]
  have HC : Hid (∀ W, Row W .u8 a xs → Row W .u8 k ks → Calls Tryz.prog 95 #[.slice a la ca, .slice k lk ck] W fun e w' => e = .returned (.int .i64 (comN xs ks : Nat)) ∧ ∃ m, w' = W.drewN m) := fun W g1 g2 => rcommon_any a k la ca lk ck xs ks W (by unfold maxLen; omega) (by unfold maxLen; omega) h1 h2 g1 g2
  have hkd := run_from k lk ck (comN xs ks) (by omega)
  have NK := hide (cut_none (comN xs ks) nk)
  have RK : Hid (Row w .u8 (cutAt k (comN xs ks) ck) (ks.drop (comN xs ks))) := cut_row (by omega) r2
  have hdl : (ks.drop (comN xs ks)).length = lk - comN xs ks := by rw [List.length_drop, h2]
  clear r1 r2 r3 nv nk
  generalize ks.drop (comN xs ks) = kds at *
  generalize cutAt k (comN xs ks) ck = kd at *
  generalize comN xs ks = n at *
  obtain ⟨r, hr⟩ : ∃ r, lk = n + r := ⟨lk - n, by omega⟩
  rw [show lk - n = r by omega] at HE hkd NK hdl
  subst hr
  have HD := hide hdl
  clear hdl
  have hpos : ((n + r : Nat) : Int) - (n : Int) = (r : Int) := by omega
  have l1 := (enc_len_le n (by omega)).2
  have l2 := (enc_len_le r (by omega)).2
  have l3 := (enc_len_le lv (by omega)).2
  have N1 := hide (fun W => rnum_any n W (by omega))
  have N2 := hide (fun W => rnum_any r W (by omega))
  have N3 := hide (fun W => rnum_any lv W (by omega))
  generalize enc n = e1 at *
  generalize enc r = e2 at *
  generalize enc lv = e3 at *
  go_enter Tryz.func124, Tryz.ntmps124
  go_wp2_with fail
  refine (HC.out _ (R1.out.alloc _) (R2.out.alloc _)).mono ?_
  rintro e w1 ⟨rfl, m, hw1⟩
  have q0 : w1.heap[w.heap.size]? = some (.cells #[.slice k (n + r) ck, .slice v lv cv] 38 (0, 0)) := by rw [hw1]; exact heap_alloc_new w _
  have t1 : Below w.heap.size w w1 := by rw [hw1]; exact drewB ((Below.refl _ _).alloc (Nat.le_refl _) _) m
  have s1 : w1.heap.size = w.heap.size + 1 := by rw [hw1]; simp [World.drewN]
  clear hw1
  have c0 : w1.cell? ⟨w.heap.size, 0, none⟩ = some (.slice k (n + r) ck) := by rw [cell_of_row _ _ _ _ _ _ q0]; rfl
  have c1 : w1.cell? ⟨w.heap.size, 1, none⟩ = some (.slice v lv cv) := by rw [cell_of_row _ _ _ _ _ _ q0]; rfl
  have S1 := hide s1
  clear q0 s1
  go_wp2_with fail
  refine (N1.out w1).mono ?_
  rintro e w2 ⟨v2, rfl, o2, b2⟩
  have hlt1 : w.heap.size < w1.heap.size := by have := S1.out; omega
  have d0 := (b2.cell (p := ⟨w.heap.size, 0, none⟩) hlt1).trans c0
  have d1 := (b2.cell (p := ⟨w.heap.size, 1, none⟩) hlt1).trans c1
  have t2 := t1.trans (b2.mono t1.size)
  have z2 := b2.size
  have O2 := hide o2
  clear o2 b2 t1 c0 c1
  go_wp2_with fail
  have e7 : ((n : Int) + (r : Int) - (n : Int)) = (r : Int) := by omega
  rw [e7]
  clear e7
  refine (N2.out w2).mono ?_
  rintro e w3 ⟨v3, rfl, o3, b3⟩
  obtain ⟨a3, k3, rfl, n3, _⟩ := o3.sliceN rfl
  have f0 := (b3.cell (p := ⟨w.heap.size, 0, none⟩) (Nat.lt_of_lt_of_le hlt1 z2)).trans d0
  have f1 := (b3.cell (p := ⟨w.heap.size, 1, none⟩) (Nat.lt_of_lt_of_le hlt1 z2)).trans d1
  have t3 := t2.trans (b3.mono t2.size)
  have z3 := b3.size
  have O2' := hide (O2.out.below b3)
  have RW3 : Hid (Row w3 .u8 a3 e2) := o3.row
  have N3' := hide n3
  clear o3 b3 t2 d0 d1 O2 n3
  have hne : ∀ (W : World) (u : Value) (zs : List Int), OwnB W w1.heap.size 5 u zs → some w.heap.size ≠ u.ownBlock := fun W u zs ho e => by
    have := (ho.owns.lt _ e.symm).1
    omega
  have HNE := hide hne
  clear hne
  go_wp2_with (first
    | (at_builtin; refine append_b rfl (.tmp 14) (.tmp 21) 23 rfl w1.heap.size 5 i0 Tryz.underlying23 hi hz0 hz1 hz2 v2 e1 rfl O2'.out a3 e2.length k3 e2 rfl rfl N3'.out RW3.out (by omega) (by omega) ?_; intro v4 w4 o4 g4; have d0 := g4.cell f0 (HNE.out _ _ _ O2'.out); have d1 := g4.cell f1 (HNE.out _ _ _ O2'.out); have O4 := hide o4; have G4 := hide g4; clear o4 g4)
    | fail)
  have z4 := G4.out.size
  have t4 : Below w.heap.size w w4 := t3.grown G4.out (by omega) (fun k h => by have := (O2'.out.owns.lt k h).1; omega)
  clear f0 f1 t3 O2' G4
  refine (N3.out w4).mono ?_
  rintro e w5 ⟨v5, rfl, o5, b5⟩
  obtain ⟨a5, k5, rfl, n5, _⟩ := o5.sliceN rfl
  have hlt4 : w.heap.size < w4.heap.size := by omega
  have f0 := (b5.cell (p := ⟨w.heap.size, 0, none⟩) hlt4).trans d0
  have f1 := (b5.cell (p := ⟨w.heap.size, 1, none⟩) hlt4).trans d1
  have t5 := t4.trans (b5.mono t4.size)
  have z5 := b5.size
  have O4' := hide (O4.out.below b5)
  have RW5 : Hid (Row w5 .u8 a5 e3) := o5.row
  have N5 := hide n5
  clear o5 b5 t4 d0 d1 O4 n5
  have RK5 := hide (RK.out.below2 t5)
  go_wp2_with (first
    | (at_builtin; refine append_b rfl (.tmp 23) (.tmp 28) 23 rfl w1.heap.size 5 i0 Tryz.underlying23 hi hz0 hz1 hz2 v4 (e1 ++ e2) rfl O4'.out a5 e3.length k5 e3 rfl rfl N5.out RW5.out (by rw [List.length_append]; omega) (by omega) ?_; intro v6 w6 o6 g6; have d0 := g6.cell f0 (HNE.out _ _ _ O4'.out); have d1 := g6.cell f1 (HNE.out _ _ _ O4'.out); have t6 : Below w.heap.size w w6 := t5.grown g6 (by omega) (fun k h => by have := (O4'.out.owns.lt k h).1; omega); have z6 := g6.size; have O6 := hide o6; have RK6 := hide (RK.out.below2 t6); clear o6 g6 f0 f1)
    | (at_builtin; refine append_b rfl (.tmp 30) (.tmp 34) 23 rfl w1.heap.size 5 i0 Tryz.underlying23 hi hz0 hz1 hz2 v6 (e1 ++ e2 ++ e3) rfl O6.out kd r (ck - n) kds rfl HD.out NK.out RK6.out (by rw [List.length_append, List.length_append]; omega) (by omega) ?_; intro v7 w7 o7 g7; have f1 := g7.cell d1 (HNE.out _ _ _ O6.out); have t7 : Below w.heap.size w w7 := t6.grown g7 (by omega) (fun k h => by have := (O6.out.owns.lt k h).1; omega); have z7 := g7.size; have O7 := hide o7; have R37 := hide (R3.out.below2 t7); clear o7 g7 d0 d1)
    | (at_builtin; refine append_b rfl (.tmp 36) (.tmp 38) 23 rfl w1.heap.size 5 i0 Tryz.underlying23 hi hz0 hz1 hz2 v7 (e1 ++ e2 ++ e3 ++ kds) rfl O7.out v lv cv vs rfl h3 NV.out R37.out (by have := HD.out; rw [List.length_append, List.length_append, List.length_append]; omega) (by omega) ?_; intro v8 w8 o8 g8; have t8 : Below w.heap.size w w8 := t7.grown g8 (by omega) (fun k h => by have := (O7.out.owns.lt k h).1; omega); have O8 := hide o8; clear o8 g8)
    | fail)
  go_ret
  rw [HE.out]
  exact ⟨v8, rfl, O8.out.mono (by omega), t8⟩

end Go.Proofs.YtepjblmjjegpgaaGreat
