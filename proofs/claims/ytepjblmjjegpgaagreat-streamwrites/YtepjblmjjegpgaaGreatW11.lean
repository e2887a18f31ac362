/- What add, Join and Bytes do: a number's bytes in memory of their own. -/
import Derived.Test.YtepjblmjjegpgaaGreatW10
import Derived.WalkSpells
import Derived.WalkLawsBesides
import Derived.OwnWalk
namespace Go.Proofs.YtepjblmjjegpgaaGreat
open Go.RowKit
set_option maxRecDepth 100000

theorem infoB : (Tryz.prog.info? 5).map (fun i => (i.zero, i.size, i.bytes)) = some (some (.int .u8 0), 1, 1) := by kernel_rfl

theorem one_cell (w : World) (x : Value) (T : TypeId) : ∀ j u, [x][j]? = some u → (w.alloc (.cells #[x] T)).cell? ((⟨w.heap.size, 0, none⟩ : Addr).add j) = some u := by
  intro j u hu
  rw [Addr.add_lit, Nat.zero_add, cell_of_row _ _ _ _ _ _ (heap_alloc_new w _)]
  match j, hu with
  | 0, hu => simpa using hu

theorem map_snoc (xs : List Int) (c : Int) : (xs.map (Value.int .u8)) ++ [.int .u8 c] = (xs ++ [c]).map (Value.int .u8) := by simp

theorem grown_alloc_then {a w w' : World} {o : Obj} {row : Option Nat} (h : a.grownBy w row) (k : (w.alloc o).grownBy w' row) : a.grownBy w' row :=
  grownBy_trans h (grownBy_trans (World.grownBy_alloc w o row) k)

/-- A step of 'add': one byte more. -/
theorem enc_step (n j M : Nat) (ys : List Int) (hn : n ≤ 18446744073709551615) (hM : M = n / 128 ^ j) (hj : j ≤ 9) (hge : 128 ≤ M) (h : ys ++ encF (9 - j) M = enc n) :
    j ≤ 8 ∧ M / 128 = n / 128 ^ (j + 1) ∧ (ys ++ [((M % 128 + 128 : Nat) : Int)]) ++ encF (9 - (j + 1)) (M / 128) = enc n := by
  have hj8 : j ≤ 8 := by
    by_cases e : j = 9
    · subst e
      have hp : (128 : Nat) ^ 9 = 9223372036854775808 := by decide
      rw [hp] at hM
      omega
    · omega
  refine ⟨hj8, ?_, ?_⟩
  · rw [hM, Nat.pow_succ, Nat.div_div_eq_div_mul]
  · rw [← h, show 9 - j = (9 - (j + 1)) + 1 by omega, encF_ge _ M hge, List.append_assoc]
    rfl

set_option maxHeartbeats 800000 in
theorem add_any (base g k cap n : Nat) (xs : List Int) (w : World) (hn : n ≤ 18446744073709551615) (hroom : k + (enc n).length ≤ cap)
    (hown : w.ownsRow base 5 1 (.slice (some ⟨g, 0, none⟩) k cap) k (xs.map (Value.int .u8))) :
    Calls Tryz.prog 136 #[.slice (some ⟨g, 0, none⟩) k cap, .int .u64 n] w fun e w' =>
      e = .returned (.slice (some ⟨g, 0, none⟩) (k + (enc n).length) cap) ∧ w'.ownsRow base 5 1 (.slice (some ⟨g, 0, none⟩) (k + (enc n).length) cap) (k + (enc n).length) ((xs ++ enc n).map (Value.int .u8)) ∧ w.grownBy w' (some g) := by
  obtain ⟨i0, hi, hz0, hz1, hz2⟩ := info_parts infoB
  go_enter Tryz.func136, Tryz.ntmps136
  go_wp2
  go_loopw [0, 1] (fun s m wr => ∃ (j M : Nat) (ys : List Int), j ≤ 9 ∧ ys.length = j ∧ M ≤ 18446744073709551615 ∧ s = .slice (some ⟨g, 0, none⟩) (k + j) cap ∧ m = .int .u64 (M : Int) ∧ Hid (M = n / 128 ^ j ∧ ys ++ encF (9 - j) M = enc n) ∧
      wr.ownsRow base 5 1 (.slice (some ⟨g, 0, none⟩) (k + j) cap) (k + j) ((xs ++ ys).map (Value.int .u8)) ∧ w.grownBy wr (some g)) (fun _ m _ => (intOf m).toNat)
  case atStart => exact ⟨0, n, [], by omega, rfl, hn, rfl, rfl, ⟨by simp, rfl⟩, by simpa using hown, grownBy_refl _ _⟩
  case round =>
    obtain ⟨j, M, ys, hj, hys, hM64, rfl, rfl, HM, hownr, hgr⟩ := hrel
    have hsz := hgr.size
    by_cases hge : 128 ≤ M
    · have hst := enc_step n j M ys hn HM.out.1 hj hge HM.out.2
      have hlen : (enc n).length = j + 1 + (encF (9 - (j + 1)) (M / 128)).length := by
        rw [← hst.2.2]; simp; omega
      have hl1 : 1 ≤ (encF (9 - (j + 1)) (M / 128)).length := by
        generalize 9 - (j + 1) = f
        cases f <;> simp [encF]
        split <;> simp
      have hfit : k + j + 1 ≤ cap := by omega
      have hj8 := hst.1
      have HST := hide hst
      clear hst hlen hl1
      have hgeI : (128 : Int) ≤ (M : Int) := by omega
      have hMI : (M : Int) ≤ 18446744073709551615 := by omega
      go_wp2_with (first
        | (at_builtin; refine wpList_append_fits _ rfl (.tmp 7) (.tmp 12) 23 rfl base 5 i0 1 Tryz.underlying23 hi hz1 g (k + j) cap _ rfl (hownr.alloc _) ⟨wr.heap.size, 0, none⟩ 1 1 [.int .u8 ((M : Int) % 128 + 128)] rfl rfl (one_cell _ _ _) (by intro u hu; simp at hu; subst hu; rfl) (by omega) ?_; intro w1 hown1 hg1))
      go_roundw
      case rel =>
        refine ⟨j + 1, M / 128, ys ++ [((M % 128 + 128 : Nat) : Int)], by omega, by simp [hys], by omega, rfl, by go_num, ⟨HST.out.2.1, HST.out.2.2⟩, ?_, grown_alloc_then hgr hg1⟩
        have e : ((M % 128 + 128 : Nat) : Int) = (M : Int) % 128 + 128 := by omega
        rw [e, ← List.append_assoc, ← map_snoc]
        exact hown1
      case measure => simp [intOf]; omega
    · have he : enc n = ys ++ [(M : Int)] := by rw [← HM.out.2, encF_lt _ _ (by omega)]
      have hlen : (enc n).length = j + 1 := by rw [he]; simp [hys]
      have hfit : k + j + 1 ≤ cap := by omega
      have HE := hide he
      have HL := hide hlen
      clear he hlen
      have hgeI : ¬ (128 : Int) ≤ (M : Int) := by omega
      go_wp2_with (first
        | (at_builtin; refine wpList_append_fits _ rfl (.tmp 16) (.tmp 19) 23 rfl base 5 i0 1 Tryz.underlying23 hi hz1 g (k + j) cap _ rfl (hownr.alloc _) ⟨wr.heap.size, 0, none⟩ 1 1 [.int .u8 (M : Int)] rfl rfl (one_cell _ _ _) (by intro u hu; simp at hu; subst hu; rfl) (by omega) ?_; intro w1 hown1 hg1))
      go_ret
      rw [map_snoc, List.append_assoc] at hown1
      rw [HL.out, HE.out]
      exact ⟨rfl, by rw [← List.map_append]; exact hown1, grown_alloc_then hgr hg1⟩

/-- The bytes of some numbers, one behind the other. -/
def encs : List Int → List Int
  | [] => []
  | n :: ns => enc n.toNat ++ encs ns

theorem encs_append : ∀ (a b : List Int), encs (a ++ b) = encs a ++ encs b
  | [], b => rfl
  | x :: a, b => by rw [List.cons_append, encs, encs, encs_append a b, List.append_assoc]
theorem encs_one (n : Int) : encs [n] = enc n.toNat := by simp [encs]
theorem take_snoc (ns : List Int) (k : Nat) (h : k < ns.length) : ns.take (k + 1) = ns.take k ++ [ns.getD k 0] := by
  rw [List.take_succ_eq_append_getElem h]; simp [List.getD, h]
theorem encs_take (ns : List Int) (k : Nat) (h : k < ns.length) : encs (ns.take (k + 1)) = encs (ns.take k) ++ enc (ns.getD k 0).toNat := by
  rw [take_snoc ns k h, encs_append, encs_one]

def Fits64 (ns : List Int) : Prop := ∀ i, 0 ≤ ns.getD i 0 ∧ ns.getD i 0 ≤ 18446744073709551615

theorem encs_len (ns : List Int) (h : Fits64 ns) : ∀ k, k ≤ ns.length → (encs (ns.take k)).length ≤ 10 * k := by
  intro k
  induction k with
  | zero => intro _; simp [encs]
  | succ k ih =>
    intro hk
    rw [encs_take ns k (by omega), List.length_append]
    have := (enc_len_le (ns.getD k 0).toNat (by have := h k; omega)).2
    have := ih (by omega)
    omega

theorem encs_len_mono (ns : List Int) (k : Nat) : (encs (ns.take k)).length ≤ (encs ns).length := by
  conv => rhs; rw [← List.take_append_drop k ns]
  rw [encs_append, List.length_append]
  omega

set_option maxHeartbeats 800000 in
theorem join_some (b off len cap : Nat) (ns : List Int) (w : World) (hl : ns.length = len) (hm : len ≤ 17592186043904) (hb : b < w.heap.size)
    (hc : ∀ i, i < len → w.cell? ⟨b, off + i, none⟩ = some (.int .u64 (ns.getD i 0))) (h64 : Fits64 ns) :
    Calls Tryz.prog 113 #[.slice (some ⟨b, off, none⟩) len cap] w fun e w' =>
      e = .returned (.slice (some ⟨w.heap.size, 0, none⟩) (encs ns).length (encs ns).length) ∧ w'.ownsRow w.heap.size 5 1 (.slice (some ⟨w.heap.size, 0, none⟩) (encs ns).length (encs ns).length) (encs ns).length ((encs ns).map (Value.int .u8)) ∧ Below w.heap.size w w' := by
  obtain ⟨i0, hi, hz0, hz1, hz2⟩ := info_parts infoB
  have HCL := hide hc
  have HL := encs_len ns h64
  have HLH := hide HL
  clear hc HL
  go_enter Tryz.func113, Tryz.ntmps113
  go_wp2
  go_loop [3, 11] (fun s q => ∃ k : Nat, k ≤ len ∧ q = .int .i64 (k : Int) ∧ s = .int .i64 ((encs (ns.take k)).length : Int)) (fun _ q => len - (intOf q).toNat)
  case atStart => exact ⟨0, by omega, rfl, by simp [encs]⟩
  case round =>
    obtain ⟨k, hk, rfl, rfl⟩ := hrel
    have hle := HLH.out k (by omega)
    by_cases hlt : k < len
    · have hcell := HCL.out k hlt
      have h64k := h64 k
      have hsz := fun W => size_any (ns.getD k 0) W h64k.1 h64k.2
      have hen := enc_len_le (ns.getD k 0).toNat (by omega)
      have HE := hide (congrArg List.length (encs_take ns k (by omega)))
      rw [vsize_enc _ (by omega)] at hsz
      have HSZ := hide hsz
      clear hsz
      generalize hE : (enc (ns.getD k 0).toNat).length = E at *
      have HEE := hide hE
      generalize hLk : (encs (ns.take k)).length = Lk at *
      have HLk := hide hLk
      generalize ns.getD k 0 = c at *
      clear hE hLk
      go_wp2_with (go_at_call 135; refine (HSZ.out _).mono ?_; rintro e w' ⟨rfl, rfl⟩)
      go_round
      case rel => exact ⟨k + 1, by omega, by go_num, by rw [HE.out, List.length_append, HEE.out, HLk.out]; go_num⟩
      case measure => simp [intOf]; omega
    · obtain rfl : k = len := by omega
      have hge : ¬ (k : Int) < (k : Int) := by omega
      have hall : ns.take k = ns := List.take_of_length_le (by omega)
      rw [hall] at hle
      rw [hall]
      clear hall
      have hmono := encs_len_mono ns
      have HMO := hide hmono
      clear hmono
      generalize hLL : (encs ns).length = L at *
      have HLL := hide hLL
      clear hLL
      go_wp2_with (first
        | (at_make; refine wpList_make_own _ rfl _ _ 23 rfl w.heap.size 5 i0 (.int .u8 0) 1 Tryz.underlying23 hi hz0 hz1 .i64 .i64 _ L rfl rfl rfl (by rw [hz2]; omega) (by unfold maxLen; omega) (Nat.le_refl _) ?_; intro w1 hown1 hg1))
      have s1 := hg1.size
      have b1 : Below w.heap.size w w1 := (Below.refl _ _).grown hg1 (Nat.le_refl _) (fun k h => by cases h)
      clear hg1
      go_loopw [6, 24] (fun s q wr => ∃ j : Nat, j ≤ k ∧ q = .int .i64 (j : Int) ∧ s = .slice (some ⟨w.heap.size, 0, none⟩) (encs (ns.take j)).length L ∧ wr.ownsRow w.heap.size 5 1 (.slice (some ⟨w.heap.size, 0, none⟩) (encs (ns.take j)).length L) (encs (ns.take j)).length ((encs (ns.take j)).map (Value.int .u8)) ∧ Below w.heap.size w wr) (fun _ q _ => k - (intOf q).toNat)
      case atStart => exact ⟨0, by omega, rfl, rfl, hown1, b1⟩
      case round =>
        obtain ⟨j, hj, rfl, rfl, hown, hbel⟩ := hrel
        by_cases hlt : j < k
        · have hcell : wr.cell? ⟨b, off + j, none⟩ = some (.int .u64 (ns.getD j 0)) := (hbel.cell (p := ⟨b, off + j, none⟩) hb).trans (HCL.out j hlt)
          have h64j := h64 j
          obtain ⟨c, hcN⟩ := Int.eq_ofNat_of_zero_le h64j.1
          have ht := encs_take ns j (by omega)
          have hmo := HMO.out (j + 1)
          rw [hcN] at ht hcell h64j
          rw [Int.toNat_natCast] at ht
          rw [ht, List.length_append] at hmo
          have hsr := hbel.size
          have hadd := add_any w.heap.size w.heap.size (encs (ns.take j)).length L c (encs (ns.take j)) wr (by omega) hmo hown
          rw [← List.length_append, ← ht] at hadd
          have HA := hide hadd
          clear hadd hcN ht hmo
          go_wp2_with (go_at_call 136; refine HA.out.mono ?_; rintro e w2 ⟨rfl, hown2, hg2⟩)
          go_roundw
          case rel => exact ⟨j + 1, by omega, by go_num, rfl, hown2, hbel.grown hg2 hsr (fun k h => by cases h; exact Nat.le_refl _)⟩
          case measure => simp [intOf]; omega
        · obtain rfl : j = k := by omega
          have hall : ns.take j = ns := List.take_of_length_le (by omega)
          rw [hall, HLL.out] at hown
          rw [hall, HLL.out]
          clear hall
          have hge : ¬ (j : Int) < (j : Int) := by omega
          go_wp2
          go_ret
          rw [HLL.out]
          exact ⟨rfl, hown, hbel⟩

set_option maxHeartbeats 800000 in
theorem join_nothing (a : Option Addr) (cap : Nat) (w : World) :
    Calls Tryz.prog 113 #[.slice a 0 cap] w fun e w' =>
      e = .returned (.slice (some ⟨w.heap.size, 0, none⟩) 0 0) ∧ w'.ownsRow w.heap.size 5 1 (.slice (some ⟨w.heap.size, 0, none⟩) 0 0) 0 [] ∧ Below w.heap.size w w' := by
  obtain ⟨i0, hi, hz0, hz1, hz2⟩ := info_parts infoB
  go_enter Tryz.func113, Tryz.ntmps113
  go_wp2
  refine wp_loop_rounds 1 ?_
  rw [rounds_succ]
  go_wp2_with (first
    | (at_make; refine wpList_make_own _ rfl _ _ 23 rfl w.heap.size 5 i0 (.int .u8 0) 1 Tryz.underlying23 hi hz0 hz1 .i64 .i64 _ 0 rfl rfl rfl (by omega) (by unfold maxLen; omega) (Nat.le_refl _) ?_; intro w1 hown1 hg1))
  refine wp_loop_rounds 1 ?_
  rw [rounds_succ]
  go_wp2
  go_ret
  exact ⟨rfl, hown1, (Below.refl _ _).grown hg1 (Nat.le_refl _) (fun k h => by cases h)⟩

theorem join_any (a : Option Addr) (len cap : Nat) (ns : List Int) (w : World) (hl : ns.length = len) (hm : len ≤ 17592186043904) (hr : Row w .u64 a ns) (h64 : Fits64 ns) :
    Calls Tryz.prog 113 #[.slice a len cap] w fun e w' =>
      e = .returned (.slice (some ⟨w.heap.size, 0, none⟩) (encs ns).length (encs ns).length) ∧ w'.ownsRow w.heap.size 5 1 (.slice (some ⟨w.heap.size, 0, none⟩) (encs ns).length (encs ns).length) (encs ns).length ((encs ns).map (Value.int .u8)) ∧ Below w.heap.size w w' := by
  by_cases h0 : len = 0
  · subst h0
    have hz : ns = [] := List.eq_nil_of_length_eq_zero hl
    subst hz
    exact join_nothing a cap w
  · obtain ⟨b, off, rfl, hb, hc⟩ := hr.cons (by omega)
    exact join_some b off len cap ns w hl hm hb (by rw [← hl]; exact hc) h64

end Go.Proofs.YtepjblmjjegpgaaGreat
