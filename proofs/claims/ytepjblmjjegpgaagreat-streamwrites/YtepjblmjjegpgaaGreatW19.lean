/- pair: Compare, below, Common. -/
import Derived.Test.YtepjblmjjegpgaaGreatW8
import Derived.Test.YtepjblmjjegpgaaGreatW5
import Derived.Lib.BytesEntry
import Derived.Laws.Externs
import Derived.WalkKit
import Derived.WalkSpells
import Derived.WalkLawsBesides
import Derived.Deep.QuietTactic
import Derived.BigQuiet
namespace Go.Proofs.YtepjblmjjegpgaaGreat
open Go.RowKit
set_option maxRecDepth 100000

theorem ret_nat {a b : Nat} (h : a = b) : Ending.returned (.int .i64 (a : Int)) = .returned (.int .i64 (b : Int)) := by rw [h]
theorem row_none {w : World} {k : IntKind} {xs : List Int} (h : Row w k none xs) : xs = [] := by
  cases xs with
  | nil => rfl
  | cons x xs => obtain ⟨b, off, e, _⟩ := h 0 (by simp); cases e
theorem run_bytesRow {w : World} {a : Option Addr} {n : Nat} (c : Nat) {xs : List Int} (hl : xs.length = n) (hr : Row w .u8 a xs) : (Extern.Bytes.bytesOf (.slice a n c)).run Tryz.prog w = .ok (strOfNums xs) w := by
  cases a with
  | none => rw [row_none hr]; rfl
  | some ad =>
    have h := Lib.run_loadBytesX (P := Tryz.prog) w xs ad .empty (fun j x hj => hr.cells ad rfl j (.int .u8 x) (by rw [List.getElem?_map, hj]; rfl))
    rw [hl] at h
    have he : (⟨ByteArray.empty.data ++ (Lib.bytesOf xs).toArray⟩ : ByteArray) = strOfNums xs := by
      apply ByteArray.ext
      show (#[] : Array UInt8) ++ (Lib.bytesOf xs).toArray = (Lib.bytesOf xs).toArray
      simp
    rw [he] at h
    exact h
theorem run_compareRow {w : World} {a b : Option Addr} {l1 l2 : Nat} (c1 c2 : Nat) {xs ys : List Int} (h1 : xs.length = l1) (h2 : ys.length = l2) (r1 : Row w .u8 a xs) (r2 : Row w .u8 b ys) (b1 : B8 xs) (b2 : B8 ys) :
    (Extern.BytealgCompare.compare #[.slice a l1 c1, .slice b l2 c2]).run Tryz.prog w = .ok (.int .i64 (cmpI xs ys)) w := by
  change Sem.run Tryz.prog (do pure (goInt (Extern.BytealgCompare.cmp (← Extern.Bytes.bytesOf (.slice a l1 c1)) (← Extern.Bytes.bytesOf (.slice b l2 c2))))) w = _
  simp only [Sem.run_bind, Sem.run_pure, run_bytesRow c1 h1 r1, run_bytesRow c2 h2 r2, Result.andThen]
  rw [Lib.cmp_eq]
  show Result.ok (Value.int .i64 (Lib.compareBytes (Lib.bytesOf xs) (Lib.bytesOf ys))) w = _
  rw [cmpI_bytes xs ys b1 b2]

set_option maxHeartbeats 400000 in
theorem bcompare_any (a b : Option Addr) (l1 c1 l2 c2 : Nat) (xs ys : List Int) (w : World) (h1 : xs.length = l1) (h2 : ys.length = l2) (r1 : Row w .u8 a xs) (r2 : Row w .u8 b ys) (b1 : B8 xs) (b2 : B8 ys) :
    Calls Tryz.prog 121 #[.slice a l1 c1, .slice b l2 c2] w fun e w' => e = .returned (.int .i64 (cmpI xs ys)) ∧ w' = w := by
  have hrun := run_compareRow c1 c2 h1 h2 r1 r2 b1 b2
  clear r1 r2 b1 b2
  go_enter Tryz.func121, Tryz.ntmps121
  go_wp2
  rw [run_callFunc_extern Tryz.func146 (by kernel_rfl) (by kernel_rfl) (by kernel_rfl) (e := Extern.BytealgCompare.compare) (by kernel_rfl), hrun]
  simp only [Result.andThen]
  rw [Oper.upon_value]
  go_wp2
  go_ret
  exact ⟨rfl, rfl⟩

set_option maxHeartbeats 400000 in
theorem compare_any (a b : Option Addr) (l1 c1 l2 c2 : Nat) (xs ys : List Int) (w : World) (h1 : xs.length = l1) (h2 : ys.length = l2) (r1 : Row w .u8 a xs) (r2 : Row w .u8 b ys) (b1 : B8 xs) (b2 : B8 ys) :
    Calls Tryz.prog 89 #[.slice a l1 c1, .slice b l2 c2] w fun e w' => e = .returned (.int .i64 (cmpI xs ys)) ∧ w' = w := by
  have HC := hide (bcompare_any a b l1 c1 l2 c2 xs ys w h1 h2 r1 r2 b1 b2)
  clear r1 r2 b1 b2
  go_enter Tryz.func89, Tryz.ntmps89
  go_wp2_with fail
  refine keep HC.out ?_
  go_wp2
  go_ret
  exact ⟨rfl, rfl⟩
theorem cmpI_fits (a b : List Int) : -1 ≤ cmpI a b ∧ cmpI a b ≤ 1 := by
  rcases cmpI_range a b with h | h | h <;> omega

set_option maxHeartbeats 400000 in
theorem below_any (a b : Option Addr) (l1 c1 l2 c2 : Nat) (xs ys : List Int) (w : World) (h1 : xs.length = l1) (h2 : ys.length = l2) (r1 : Row w .u8 a xs) (r2 : Row w .u8 b ys) (b1 : B8 xs) (b2 : B8 ys) :
    Calls Tryz.prog 190 #[.slice a l1 c1, .slice b l2 c2] w fun e w' => e = .returned (.bool (decide (cmpI xs ys < 0))) ∧ w' = w := by
  have HC := hide (compare_any a b l1 c1 l2 c2 xs ys w h1 h2 r1 r2 b1 b2)
  clear r1 r2 b1 b2
  go_enter Tryz.func190, Tryz.ntmps190
  go_wp2_with fail
  refine keep HC.out ?_
  go_wp2
  go_ret
  exact ⟨rfl, rfl⟩

set_option maxHeartbeats 800000 in
theorem common_core (b1 o1 c1 b2 o2 c2 l1 l2 n : Nat) (xs ys : List Int) (w : World) (hl1 : l1 ≤ maxLen) (hl2 : l2 ≤ maxLen) (h1 : xs.length = l1) (h2 : ys.length = l2) (hn : n = min l1 l2)
    (k1 : ∀ i, i < l1 → w.cell? ⟨b1, o1 + i, none⟩ = some (.int .u8 (xs.getD i 0))) (k2 : ∀ i, i < l2 → w.cell? ⟨b2, o2 + i, none⟩ = some (.int .u8 (ys.getD i 0))) :
    Calls Tryz.prog 122 #[.slice (some ⟨b1, o1, none⟩) l1 c1, .slice (some ⟨b2, o2, none⟩) l2 c2] w fun e w' => e = .returned (.int .i64 (comN xs ys : Nat)) ∧ ∃ m, w' = w.drewN m := by
  unfold maxLen at hl1 hl2
  have K1 := hide k1
  have K2 := hide k2
  clear k1 k2
  go_enter Tryz.func122, Tryz.ntmps122
  go_wp2
  all_goals
    have HN : Hid (n ≤ l1 ∧ n ≤ l2) := ⟨by omega, by omega⟩
    go_loopw [13] (fun q wr => ∃ k m : Nat, k ≤ n ∧ q = .int .i64 (k : Int) ∧ wr = w.drewN m ∧ Hid (∀ i, i < k → xs.getD i 0 = ys.getD i 0)) (fun q _ => n - (intOf q).toNat)
    case atStart => exact ⟨0, 0, by omega, rfl, rfl, fun i hi => absurd hi (Nat.not_lt_zero i)⟩
    case round =>
      obtain ⟨k, m, hk, rfl, rfl, HE⟩ := hrel
      by_cases hlt : k < n
      · have g1 : w.cell? ⟨b1, o1 + k, none⟩ = some (.int .u8 (xs.getD k 0)) := K1.out k (by have := HN.out; omega)
        have g2 : w.cell? ⟨b2, o2 + k, none⟩ = some (.int .u8 (ys.getD k 0)) := K2.out k (by have := HN.out; omega)
        have i1 : (k : Int) < (l1 : Int) := by have := HN.out; omega
        have i2 : (k : Int) < (l2 : Int) := by have := HN.out; omega
        by_cases heq : xs.getD k 0 = ys.getD k 0
        · have HQ : Hid (∀ i, i < k + 1 → xs.getD i 0 = ys.getD i 0) := fun i hi => by
            by_cases e : i = k
            · subst e; exact heq
            · exact HE.out i (by omega)
          rw [heq] at g1
          have HNN := hide hn
          clear hn
          generalize ys.getD k 0 = c at *
          generalize xs.getD k 0 = c' at *
          clear heq
          go_wp2
          go_quiet (fail)
          go_wp2
          go_roundw
          case rel => exact ⟨k + 1, _, by omega, by go_num, rfl, HQ⟩
          case measure => simp [intOf]; omega
        · have hne : (xs.getD k 0 != ys.getD k 0) = true := by rw [bne_iff_ne]; exact heq
          have HC : Hid (comN xs ys = k) := comN_of k xs ys (by have := HN.out; omega) (by have := HN.out; omega) HE.out (.inr (.inr heq))
          have HNN := hide hn
          clear hn
          generalize ys.getD k 0 = c at *
          generalize xs.getD k 0 = c' at *
          clear heq
          go_wp2
          go_quiet (fail)
          go_wp2
          go_ret
          exact ⟨ret_nat HC.out.symm, _, World.drewN_drewN _ _ _⟩
      · have HC : Hid (comN xs ys = k) := comN_of k xs ys (by have := HN.out; omega) (by have := HN.out; omega) HE.out (by omega)
        have HK : Hid (k = n) := by show _ = _; omega
        first
          | (have hge : ¬ (k : Int) < (l2 : Int) := by omega
             have HF : Hid (k = l2) := by show _ = _; omega)
          | (have hge : ¬ (k : Int) < (l1 : Int) := by omega
             have HF : Hid (k = l1) := by show _ = _; omega)
        clear hn
        go_wp2
        go_ret
        exact ⟨ret_nat (HF.out.symm.trans HC.out.symm), _, rfl⟩

theorem common_nothing1 (a b : Option Addr) (c1 l2 c2 : Nat) (w : World) (hl2 : l2 ≤ maxLen) :
    Calls Tryz.prog 122 #[.slice a 0 c1, .slice b l2 c2] w fun e w' => e = .returned (.int .i64 0) ∧ w' = w := by
  unfold maxLen at hl2
  go_enter Tryz.func122, Tryz.ntmps122
  go_wp2
  all_goals
    first
      | (exfalso; omega)
      | (refine wp_loop_rounds 1 ?_
         rw [rounds_succ]
         go_wp2
         go_ret
         exact ⟨rfl, rfl⟩)
theorem common_nothing2 (a b : Option Addr) (l1 c1 c2 : Nat) (w : World) (hp : 0 < l1) :
    Calls Tryz.prog 122 #[.slice a l1 c1, .slice b 0 c2] w fun e w' => e = .returned (.int .i64 0) ∧ w' = w := by
  go_enter Tryz.func122, Tryz.ntmps122
  go_wp2
  all_goals
    first
      | (exfalso; omega)
      | (refine wp_loop_rounds 1 ?_
         rw [rounds_succ]
         go_wp2
         go_ret
         exact ⟨rfl, rfl⟩)
/-- Common of any two texts. -/
theorem common_any (a b : Option Addr) (l1 c1 l2 c2 : Nat) (xs ys : List Int) (w : World) (hl1 : l1 ≤ maxLen) (hl2 : l2 ≤ maxLen) (h1 : xs.length = l1) (h2 : ys.length = l2) (r1 : Row w .u8 a xs) (r2 : Row w .u8 b ys) :
    Calls Tryz.prog 122 #[.slice a l1 c1, .slice b l2 c2] w fun e w' => e = .returned (.int .i64 (comN xs ys : Nat)) ∧ ∃ m, w' = w.drewN m := by
  by_cases h01 : l1 = 0
  · subst h01
    obtain rfl : xs = [] := List.eq_nil_of_length_eq_zero h1
    exact (common_nothing1 a b c1 l2 c2 w hl2).mono fun e w' ⟨h1, h2⟩ => ⟨by rw [h1, comN_nil_l]; rfl, 0, h2⟩
  · by_cases h02 : l2 = 0
    · subst h02
      obtain rfl : ys = [] := List.eq_nil_of_length_eq_zero h2
      exact (common_nothing2 a b l1 c1 c2 w (by omega)).mono fun e w' ⟨h1, h2⟩ => ⟨by rw [h1, comN_nil_r]; rfl, 0, h2⟩
    · obtain ⟨b1, o1, rfl, _, k1⟩ := r1.cons (by omega)
      obtain ⟨b2, o2, rfl, _, k2⟩ := r2.cons (by omega)
      exact common_core b1 o1 c1 b2 o2 c2 l1 l2 _ xs ys w hl1 hl2 h1 h2 rfl (by rw [← h1]; exact k1) (by rw [← h2]; exact k2)

/-! ### Key, Value, Check -/
def keyE (n : Nat) : Int := if n < 1 ∨ 64 < n then 3 else 0
def valE (n : Nat) : Int := if 256 < n then 3 else 0
def chkE (k v : Nat) : Int := if keyE k ≠ 0 then keyE k else valE v
theorem keyE_cases (n : Nat) : (keyE n = 3 ∧ (n < 1 ∨ 64 < n)) ∨ (keyE n = 0 ∧ 1 ≤ n ∧ n ≤ 64) := by
  unfold keyE
  split <;> omega
theorem valE_cases (n : Nat) : (valE n = 3 ∧ 256 < n) ∨ (valE n = 0 ∧ n ≤ 256) := by
  unfold valE
  split <;> omega

set_option maxHeartbeats 400000 in
theorem key_any (a : Option Addr) (l c : Nat) (w : World) :
    Calls Tryz.prog 119 #[.slice a l c] w fun e w' => e = .returned (.int .i64 (keyE l)) ∧ w' = w := by
  rcases keyE_cases l with ⟨h, h1 | h1⟩ | ⟨h, h1, h2⟩
  all_goals
    rw [h]
    clear h
    go_enter Tryz.func119, Tryz.ntmps119
    go_wp2
    go_ret
    exact ⟨rfl, rfl⟩
set_option maxHeartbeats 400000 in
theorem value_any (a : Option Addr) (l c : Nat) (w : World) :
    Calls Tryz.prog 120 #[.slice a l c] w fun e w' => e = .returned (.int .i64 (valE l)) ∧ w' = w := by
  rcases valE_cases l with ⟨h, h1⟩ | ⟨h, h1⟩
  all_goals
    rw [h]
    clear h
    go_enter Tryz.func120, Tryz.ntmps120
    go_wp2
    go_ret
    exact ⟨rfl, rfl⟩
set_option maxHeartbeats 400000 in
theorem check_any (a b : Option Addr) (l1 c1 l2 c2 : Nat) (w : World) :
    Calls Tryz.prog 87 #[.agg #[.slice a l1 c1, .slice b l2 c2]] w fun e w' => e = .returned (.int .i64 (chkE l1 l2)) ∧ Below w.heap.size w w' := by
  have HV : Hid (∀ w, Calls Tryz.prog 120 #[.slice b l2 c2] w fun e w' => e = .returned (.int .i64 (valE l2)) ∧ w' = w) := value_any b l2 c2
  have HK : Hid (∀ w, Calls Tryz.prog 119 #[.slice a l1 c1] w fun e w' => e = .returned (.int .i64 (keyE l1)) ∧ w' = w) := key_any a l1 c1
  rcases keyE_cases l1 with ⟨h, _⟩ | ⟨h, _⟩
  · have HE : Hid (chkE l1 l2 = 3) := by show _ = _; unfold chkE; rw [h]; rfl
    rw [HE.out]
    rw [h] at HK
    clear h
    go_enter Tryz.func87, Tryz.ntmps87
    go_wp2_with fail
    refine keep (HK.out _) ?_
    go_wp2_with fail
    go_ret
    exact ⟨rfl, (Below.refl _ _).alloc (Nat.le_refl _) _⟩
  · have HE : Hid (chkE l1 l2 = valE l2) := by show _ = _; unfold chkE; rw [h]; rfl
    rw [HE.out]
    rw [h] at HK
    clear h HE
    generalize valE l2 = x at *
    go_enter Tryz.func87, Tryz.ntmps87
    go_wp2_with fail
    refine keep (HK.out _) ?_
    go_wp2_with fail
    refine keep (HV.out _) ?_
    go_wp2_with fail
    go_ret
    exact ⟨rfl, (Below.refl _ _).alloc (Nat.le_refl _) _⟩

end Go.Proofs.YtepjblmjjegpgaaGreat

namespace Go.Proofs.YtepjblmjjegpgaaGreat
open Go.RowKit
set_option maxRecDepth 100000

set_option maxHeartbeats 800000 in
theorem rcommon_core (b1 o1 c1 b2 o2 c2 l1 l2 : Nat) (xs ys : List Int) (w : World) (hl1 : l1 ≤ maxLen) (hl2 : l2 ≤ maxLen) (h1 : xs.length = l1) (h2 : ys.length = l2)
    (k1 : ∀ i, i < l1 → w.cell? ⟨b1, o1 + i, none⟩ = some (.int .u8 (xs.getD i 0))) (k2 : ∀ i, i < l2 → w.cell? ⟨b2, o2 + i, none⟩ = some (.int .u8 (ys.getD i 0))) :
    Calls Tryz.prog 95 #[.slice (some ⟨b1, o1, none⟩) l1 c1, .slice (some ⟨b2, o2, none⟩) l2 c2] w fun e w' => e = .returned (.int .i64 (comN xs ys : Nat)) ∧ ∃ m, w' = w.drewN m := by
  unfold maxLen at hl1 hl2
  have K1 := hide k1
  have K2 := hide k2
  clear k1 k2
  go_enter Tryz.func95, Tryz.ntmps95
  go_wp2
  go_loopw [5] (fun q wr => ∃ k m : Nat, k ≤ l1 ∧ k ≤ l2 ∧ q = .int .i64 (k : Int) ∧ wr = w.drewN m ∧ Hid (∀ i, i < k → xs.getD i 0 = ys.getD i 0)) (fun q _ => l1 - (intOf q).toNat)
  case atStart => exact ⟨0, 0, by omega, by omega, rfl, rfl, fun i hi => absurd hi (Nat.not_lt_zero i)⟩
  case round =>
    obtain ⟨k, m, hk1, hk2, rfl, rfl, HE⟩ := hrel
    by_cases hlt : k < l1
    · have i1 : (k : Int) < (l1 : Int) := by omega
      by_cases hlt2 : k < l2
      · have g1 : w.cell? ⟨b1, o1 + k, none⟩ = some (.int .u8 (xs.getD k 0)) := K1.out k hlt
        have g2 : w.cell? ⟨b2, o2 + k, none⟩ = some (.int .u8 (ys.getD k 0)) := K2.out k hlt2
        have i2 : (k : Int) < (l2 : Int) := by omega
        by_cases heq : xs.getD k 0 = ys.getD k 0
        · have HQ : Hid (∀ i, i < k + 1 → xs.getD i 0 = ys.getD i 0) := fun i hi => by
            by_cases e : i = k
            · subst e; exact heq
            · exact HE.out i (by omega)
          rw [heq] at g1
          generalize ys.getD k 0 = c at *
          generalize xs.getD k 0 = c' at *
          clear heq
          go_wp2
          go_quiet (fail)
          go_wp2
          go_roundw
          case rel => exact ⟨k + 1, _, by omega, by omega, by go_num, rfl, HQ⟩
          case measure => simp [intOf]; omega
        · have hne : (xs.getD k 0 == ys.getD k 0) = false := by rw [beq_eq_false_iff_ne]; exact heq
          have HC : Hid (comN xs ys = k) := comN_of k xs ys (by omega) (by omega) HE.out (.inr (.inr heq))
          generalize ys.getD k 0 = c at *
          generalize xs.getD k 0 = c' at *
          clear heq
          go_wp2
          go_quiet (fail)
          go_wp2
          go_ret
          exact ⟨ret_nat HC.out.symm, _, World.drewN_drewN _ _ _⟩
      · have HC : Hid (comN xs ys = k) := comN_of k xs ys (by omega) (by omega) HE.out (by omega)
        have i2 : ¬ (k : Int) < (l2 : Int) := by omega
        have HF : Hid (k = l2) := by show _ = _; omega
        go_wp2
        go_quiet (fail)
        go_wp2
        go_ret
        exact ⟨ret_nat HC.out.symm, _, World.drewN_drewN _ _ _⟩
    · have HC : Hid (comN xs ys = k) := comN_of k xs ys (by omega) (by omega) HE.out (by omega)
      have i1 : ¬ (k : Int) < (l1 : Int) := by omega
      go_wp2
      go_quiet (fail)
      go_wp2
      go_ret
      exact ⟨ret_nat HC.out.symm, _, World.drewN_drewN _ _ _⟩
theorem rcommon_nothing1 (a b : Option Addr) (c1 l2 c2 : Nat) (w : World) :
    Calls Tryz.prog 95 #[.slice a 0 c1, .slice b l2 c2] w fun e w' => e = .returned (.int .i64 0) ∧ ∃ m, w' = w.drewN m := by
  go_enter Tryz.func95, Tryz.ntmps95
  go_wp2
  refine wp_loop_rounds 1 ?_
  rw [rounds_succ]
  go_wp2
  go_quiet (fail)
  go_wp2
  go_ret
  exact ⟨rfl, _, rfl⟩
theorem rcommon_nothing2 (a b : Option Addr) (l1 c1 c2 : Nat) (w : World) (hp : 0 < l1) :
    Calls Tryz.prog 95 #[.slice a l1 c1, .slice b 0 c2] w fun e w' => e = .returned (.int .i64 0) ∧ ∃ m, w' = w.drewN m := by
  have i1 : (0 : Int) < (l1 : Int) := by omega
  go_enter Tryz.func95, Tryz.ntmps95
  go_wp2
  refine wp_loop_rounds 1 ?_
  rw [rounds_succ]
  go_wp2
  go_quiet (fail)
  go_wp2
  go_ret
  exact ⟨rfl, _, rfl⟩
theorem rcommon_any (a b : Option Addr) (l1 c1 l2 c2 : Nat) (xs ys : List Int) (w : World) (hl1 : l1 ≤ maxLen) (hl2 : l2 ≤ maxLen) (h1 : xs.length = l1) (h2 : ys.length = l2) (r1 : Row w .u8 a xs) (r2 : Row w .u8 b ys) :
    Calls Tryz.prog 95 #[.slice a l1 c1, .slice b l2 c2] w fun e w' => e = .returned (.int .i64 (comN xs ys : Nat)) ∧ ∃ m, w' = w.drewN m := by
  by_cases h01 : l1 = 0
  · subst h01
    obtain rfl : xs = [] := List.eq_nil_of_length_eq_zero h1
    exact (rcommon_nothing1 a b c1 l2 c2 w).mono fun e w' ⟨h1, h2⟩ => ⟨by rw [h1, comN_nil_l]; rfl, h2⟩
  · by_cases h02 : l2 = 0
    · subst h02
      obtain rfl : ys = [] := List.eq_nil_of_length_eq_zero h2
      exact (rcommon_nothing2 a b l1 c1 c2 w (by omega)).mono fun e w' ⟨h1, h2⟩ => ⟨by rw [h1, comN_nil_r]; rfl, h2⟩
    · obtain ⟨b1, o1, rfl, _, k1⟩ := r1.cons (by omega)
      obtain ⟨b2, o2, rfl, _, k2⟩ := r2.cons (by omega)
      exact rcommon_core b1 o1 c1 b2 o2 c2 l1 l2 xs ys w hl1 hl2 h1 h2 (by rw [← h1]; exact k1) (by rw [← h2]; exact k2)

set_option maxHeartbeats 800000 in
theorem rcompare_any (a b : Option Addr) (l1 c1 l2 c2 : Nat) (xs ys : List Int) (w : World) (hl1 : l1 ≤ maxLen) (hl2 : l2 ≤ maxLen) (h1 : xs.length = l1) (h2 : ys.length = l2) (r1 : Row w .u8 a xs) (r2 : Row w .u8 b ys) :
    Calls Tryz.prog 55 #[.slice a l1 c1, .slice b l2 c2] w fun e w' => e = .returned (.int .i64 (cmpI xs ys)) ∧ ∃ m, w' = w.drewN m := by
  have HC := hide (rcommon_any a b l1 c1 l2 c2 xs ys w hl1 hl2 h1 h2 r1 r2)
  have hle := comN_le xs ys
  have HI := hide (cmpI_com xs ys)
  unfold maxLen at hl1 hl2
  by_cases e1 : comN xs ys = l1
  · by_cases e2 : comN xs ys = l2
    · have HV : Hid (cmpI xs ys = 0) := by show _ = _; rw [HI.out, h1, h2, if_pos e1, if_pos e2]
      rw [HV.out]
      have q1 : ((comN xs ys : Nat) : Int) = (l1 : Int) := by omega
      have q2 : ((comN xs ys : Nat) : Int) = (l2 : Int) := by omega
      generalize comN xs ys = n at *
      subst e1
      obtain rfl : n = l2 := by omega
      clear q1 q2 r1 r2 HI e2
      go_enter Tryz.func55, Tryz.ntmps55
      go_wp2_with fail
      refine HC.out.mono ?_
      rintro e w1 ⟨rfl, m, rfl⟩
      go_wp2
      go_ret
      exact ⟨rfl, _, rfl⟩
    · have HV : Hid (cmpI xs ys = -1) := by show _ = _; rw [HI.out, h1, h2, if_pos e1, if_neg e2]
      rw [HV.out]
      generalize comN xs ys = n at *
      subst e1
      have q2 : (((n : Nat) : Int) == (l2 : Int)) = false := by rw [beq_eq_false_iff_ne]; omega
      clear r1 r2 HI e2
      go_enter Tryz.func55, Tryz.ntmps55
      go_wp2_with fail
      refine HC.out.mono ?_
      rintro e w1 ⟨rfl, m, rfl⟩
      go_wp2
      go_ret
      exact ⟨rfl, _, rfl⟩
  · by_cases e2 : comN xs ys = l2
    · have HV : Hid (cmpI xs ys = 1) := by show _ = _; rw [HI.out, h1, h2, if_neg e1, if_pos e2]
      rw [HV.out]
      generalize comN xs ys = n at *
      subst e2
      have q1 : (((n : Nat) : Int) == (l1 : Int)) = false := by rw [beq_eq_false_iff_ne]; omega
      clear r1 r2 HI e1
      go_enter Tryz.func55, Tryz.ntmps55
      go_wp2_with fail
      refine HC.out.mono ?_
      rintro e w1 ⟨rfl, m, rfl⟩
      go_wp2
      go_ret
      exact ⟨rfl, _, rfl⟩
    · have hn1 : comN xs ys < l1 := by omega
      have hn2 : comN xs ys < l2 := by omega
      obtain ⟨p1, o1, rfl, g1⟩ := r1 (comN xs ys) (by omega)
      obtain ⟨p2, o2, rfl, g2⟩ := r2 (comN xs ys) (by omega)
      have HI2 : Hid (cmpI xs ys = if xs.getD (comN xs ys) 0 < ys.getD (comN xs ys) 0 then -1 else 1) := by show _ = _; rw [HI.out, h1, h2, if_neg e1, if_neg e2]
      generalize comN xs ys = n at *
      have q1 : (((n : Nat) : Int) == (l1 : Int)) = false := by rw [beq_eq_false_iff_ne]; omega
      have q2 : (((n : Nat) : Int) == (l2 : Int)) = false := by rw [beq_eq_false_iff_ne]; omega
      have i1 : (n : Int) < (l1 : Int) := by omega
      have i2 : (n : Int) < (l2 : Int) := by omega
      clear r1 r2 HI e1 e2
      generalize xs.getD n 0 = c at *
      generalize ys.getD n 0 = d at *
      by_cases hlt : c < d
      · have HV : Hid (cmpI xs ys = -1) := by show _ = _; rw [HI2.out, if_pos hlt]
        rw [HV.out]
        go_enter Tryz.func55, Tryz.ntmps55
        go_wp2_with fail
        refine HC.out.mono ?_
        rintro e w1 ⟨rfl, m, rfl⟩
        go_wp2
        go_quiet (fail)
        go_wp2
        go_ret
        exact ⟨rfl, _, World.drewN_drewN _ _ _⟩
      · have HV : Hid (cmpI xs ys = 1) := by show _ = _; rw [HI2.out, if_neg hlt]
        rw [HV.out]
        go_enter Tryz.func55, Tryz.ntmps55
        go_wp2_with fail
        refine HC.out.mono ?_
        rintro e w1 ⟨rfl, m, rfl⟩
        go_wp2
        go_quiet (fail)
        go_wp2
        go_ret
        exact ⟨rfl, _, World.drewN_drewN _ _ _⟩

set_option maxHeartbeats 400000 in
theorem rkey_any (a : Option Addr) (l c : Nat) (w : World) :
    Calls Tryz.prog 93 #[.slice a l c] w fun e w' => e = .returned (.int .i64 (keyE l)) ∧ w' = w := by
  rcases keyE_cases l with ⟨h, h1 | h1⟩ | ⟨h, h1, h2⟩
  all_goals
    rw [h]
    clear h
    go_enter Tryz.func93, Tryz.ntmps93
    go_wp2
    go_ret
    exact ⟨rfl, rfl⟩
set_option maxHeartbeats 400000 in
theorem rvalue_any (a : Option Addr) (l c : Nat) (w : World) :
    Calls Tryz.prog 94 #[.slice a l c] w fun e w' => e = .returned (.int .i64 (valE l)) ∧ w' = w := by
  rcases valE_cases l with ⟨h, h1⟩ | ⟨h, h1⟩
  all_goals
    rw [h]
    clear h
    go_enter Tryz.func94, Tryz.ntmps94
    go_wp2
    go_ret
    exact ⟨rfl, rfl⟩
set_option maxHeartbeats 400000 in
theorem rcheck_any (a b : Option Addr) (l1 c1 l2 c2 : Nat) (w : World) :
    Calls Tryz.prog 54 #[.agg #[.slice a l1 c1, .slice b l2 c2]] w fun e w' => e = .returned (.int .i64 (chkE l1 l2)) ∧ Below w.heap.size w w' := by
  have HV : Hid (∀ w, Calls Tryz.prog 94 #[.slice b l2 c2] w fun e w' => e = .returned (.int .i64 (valE l2)) ∧ w' = w) := rvalue_any b l2 c2
  have HK : Hid (∀ w, Calls Tryz.prog 93 #[.slice a l1 c1] w fun e w' => e = .returned (.int .i64 (keyE l1)) ∧ w' = w) := rkey_any a l1 c1
  rcases keyE_cases l1 with ⟨h, _⟩ | ⟨h, _⟩
  · have HE : Hid (chkE l1 l2 = 3) := by show _ = _; unfold chkE; rw [h]; rfl
    rw [HE.out]
    rw [h] at HK
    clear h
    go_enter Tryz.func54, Tryz.ntmps54
    go_wp2_with fail
    refine keep (HK.out _) ?_
    go_wp2_with fail
    go_ret
    exact ⟨rfl, (Below.refl _ _).alloc (Nat.le_refl _) _⟩
  · have HE : Hid (chkE l1 l2 = valE l2) := by show _ = _; unfold chkE; rw [h]; rfl
    rw [HE.out]
    rw [h] at HK
    clear h HE
    generalize valE l2 = x at *
    go_enter Tryz.func54, Tryz.ntmps54
    go_wp2_with fail
    refine keep (HK.out _) ?_
    go_wp2_with fail
    refine keep (HV.out _) ?_
    go_wp2_with fail
    go_ret
    exact ⟨rfl, (Below.refl _ _).alloc (Nat.le_refl _) _⟩

end Go.Proofs.YtepjblmjjegpgaaGreat
