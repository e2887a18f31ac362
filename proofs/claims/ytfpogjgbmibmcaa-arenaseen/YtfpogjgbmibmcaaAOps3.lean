/- arena: Lock, Unlock, open, Grow. -/
import Derived.Test.YtfpogjgbmibmcaaAOps2
namespace Go.Proofs.Ytfpogjgbmibmcaa
open Go.RowKit
section
variable {W : World} {A : Nat} {M D : Nat → Prop} {nodes root : Int} {L : List Sl}

set_option maxHeartbeats 800000 in
theorem lock_hit (h : PA W A M D nodes root L) (i : Nat) (hi : i < L.length) (he : L[i].w % 2 = 0) :
    Calls Try.prog 21 #[.pointer (some ⟨A, 0, none⟩), .int .i64 ((i : Int) + 1), .int .u64 (L[i].w : Nat)] W fun e w' => e = .returned (.tuple #[.bool true, .int .i64 0]) ∧ w' = W.setCell ⟨L[i].b, 0, none⟩ (.int .u64 ((L[i].w + 1 : Nat) : Int)) := by
  have HS := hide (slot_any h i hi)
  obtain ⟨h1, h2, h3⟩ := h.wcell i hi
  generalize L[i].b = b at *
  generalize L[i].w = x at *
  have HR := hide (take_hit b x W h1 h2 h3 he)
  clear h h1 h2 h3 hi he
  generalize (i : Int) + 1 = id at *
  go_enter Try.func21, Try.ntmps21
  go_wp2_with fail
  refine keep HS.out ?_
  go_wp2_with fail
  refine HR.out.mono ?_
  rintro e w1 ⟨rfl, rfl⟩
  go_wp2_with fail
  go_ret2
  exact ⟨rfl, rfl⟩
set_option maxHeartbeats 800000 in
theorem lock_miss (h : PA W A M D nodes root L) (i : Nat) (hi : i < L.length) (x : Nat) (hx : x < 18446744073709551616) (hne : ¬ (L[i].w = x ∧ x % 2 = 0)) :
    Calls Try.prog 21 #[.pointer (some ⟨A, 0, none⟩), .int .i64 ((i : Int) + 1), .int .u64 (x : Nat)] W fun e w' => e = .returned (.tuple #[.bool false, .int .i64 0]) ∧ w' = W := by
  have HS := hide (slot_any h i hi)
  obtain ⟨h1, h2, h3⟩ := h.wcell i hi
  generalize L[i].b = b at *
  generalize L[i].w = y at *
  have HR : Hid (Calls Try.prog 43 #[.pointer (some ⟨b, 0, none⟩), .int .u64 (x : Nat)] W fun e w' => e = .returned (.bool false) ∧ w' = W) := by
    rcases Nat.mod_two_eq_zero_or_one x with ex | ex
    · exact take_miss b x y W h1 h2 hx ex (fun e => hne ⟨e, ex⟩)
    · exact take_odd b x W hx ex
  clear h h1 h2 h3 hi hx hne
  generalize (i : Int) + 1 = id at *
  go_enter Try.func21, Try.ntmps21
  go_wp2_with fail
  refine keep HS.out ?_
  go_wp2_with fail
  refine keep HR.out ?_
  go_wp2_with fail
  go_ret2
  exact ⟨rfl, rfl⟩
set_option maxHeartbeats 800000 in
theorem lock_none (h : PA W A M D nodes root L) (id : Int) (x : Int) (hi : ¬ (1 ≤ id ∧ id ≤ (L.length : Nat))) :
    Calls Try.prog 21 #[.pointer (some ⟨A, 0, none⟩), .int .i64 id, .int .u64 x] W fun e w' => e = .returned (.tuple #[.bool false, .int .i64 101]) ∧ w' = W := by
  have HS := hide (slot_none h id hi)
  clear h hi
  go_enter Try.func21, Try.ntmps21
  go_wp2_with fail
  refine keep HS.out ?_
  go_wp2_with fail
  go_ret2
  exact ⟨rfl, rfl⟩
set_option maxHeartbeats 800000 in
theorem unlock_held (h : PA W A M D nodes root L) (i : Nat) (hi : i < L.length) (ch : Bool) (he : L[i].w % 2 = 1) :
    Calls Try.prog 22 #[.pointer (some ⟨A, 0, none⟩), .int .i64 ((i : Int) + 1), .bool ch] W fun e w' => e = .returned (.int .i64 0) ∧ w' = W.setCell ⟨L[i].b, 0, none⟩ (.int .u64 ((freeW L[i].w ch : Nat) : Int)) := by
  have HS := hide (slot_any h i hi)
  obtain ⟨h1, h2, h3⟩ := h.wcell i hi
  generalize L[i].b = b at *
  generalize L[i].w = x at *
  have HR := hide (give_held b x ch W h1 h2 h3 he)
  clear h h1 h2 h3 hi he
  generalize (i : Int) + 1 = id at *
  go_enter Try.func22, Try.ntmps22
  go_wp2_with fail
  refine keep HS.out ?_
  go_wp2_with fail
  refine HR.out.mono ?_
  rintro e w1 ⟨rfl, rfl⟩
  go_wp2_with fail
  go_ret
  exact ⟨rfl, rfl⟩
set_option maxHeartbeats 800000 in
theorem unlock_free (h : PA W A M D nodes root L) (i : Nat) (hi : i < L.length) (ch : Bool) (he : L[i].w % 2 = 0) :
    Calls Try.prog 22 #[.pointer (some ⟨A, 0, none⟩), .int .i64 ((i : Int) + 1), .bool ch] W fun e w' => e = .returned (.int .i64 102) ∧ w' = W := by
  have HS := hide (slot_any h i hi)
  obtain ⟨h1, h2, h3⟩ := h.wcell i hi
  generalize L[i].b = b at *
  generalize L[i].w = x at *
  have HR := hide (give_free b x ch W h1 h3 he)
  clear h h1 h2 h3 hi he
  generalize (i : Int) + 1 = id at *
  go_enter Try.func22, Try.ntmps22
  go_wp2_with fail
  refine keep HS.out ?_
  go_wp2_with fail
  refine keep HR.out ?_
  go_wp2_with fail
  go_ret
  exact ⟨rfl, rfl⟩
set_option maxHeartbeats 800000 in
theorem unlock_none (h : PA W A M D nodes root L) (id : Int) (ch : Bool) (hi : ¬ (1 ≤ id ∧ id ≤ (L.length : Nat))) :
    Calls Try.prog 22 #[.pointer (some ⟨A, 0, none⟩), .int .i64 id, .bool ch] W fun e w' => e = .returned (.int .i64 101) ∧ w' = W := by
  have HS := hide (slot_none h id hi)
  clear h hi
  go_enter Try.func22, Try.ntmps22
  go_wp2_with fail
  refine keep HS.out ?_
  go_wp2_with fail
  go_ret
  exact ⟨rfl, rfl⟩
set_option maxHeartbeats 800000 in
theorem open_any (h : PA W A M D nodes root L) (i : Nat) (hi : i < L.length) (he : L[i].w % 2 = 1) :
    Calls Try.prog 48 #[.pointer (some ⟨A, 0, none⟩), .int .i64 ((i : Int) + 1)] W fun e w' => e = .returned (.tuple #[.pointer (some ⟨L[i].b, 0, none⟩), .int .i64 0]) ∧ w' = W := by
  have HS := hide (slot_any h i hi)
  obtain ⟨h1, h2, h3⟩ := h.wcell i hi
  generalize L[i].b = b at *
  generalize L[i].w = x at *
  have HR := hide (lheld_any b x W h1 h3)
  rw [show decide (x % 2 = 1) = true by rw [he]; rfl] at HR
  clear h h1 h2 h3 hi he
  generalize (i : Int) + 1 = id at *
  go_enter Try.func48, Try.ntmps48
  go_wp2_with fail
  refine keep HS.out ?_
  go_wp2_with fail
  refine keep HR.out ?_
  go_wp2_with fail
  go_ret2
  exact ⟨rfl, rfl⟩
/-- What open answers where it opens nothing. -/
def opE (L : List Sl) (id : Int) : Int := if 1 ≤ id ∧ id ≤ (L.length : Nat) then 102 else 101
set_option maxHeartbeats 800000 in
theorem open_not (h : PA W A M D nodes root L) (id : Int) (hno : ∀ i (hi : i < L.length), id = (i : Int) + 1 → L[i].w % 2 = 0) :
    Calls Try.prog 48 #[.pointer (some ⟨A, 0, none⟩), .int .i64 id] W fun e w' => e = .returned (.tuple #[.pointer none, .int .i64 (opE L id)]) ∧ w' = W := by
  by_cases hin : 1 ≤ id ∧ id ≤ (L.length : Nat)
  · obtain ⟨i, hid⟩ : ∃ i : Nat, id = (i : Int) + 1 := ⟨(id - 1).toNat, by omega⟩
    have hi : i < L.length := by omega
    have he := hno i hi hid
    rw [show opE L id = 102 from if_pos hin]
    have HS := hide (slot_any h i hi)
    rw [← hid] at HS
    obtain ⟨h1, h2, h3⟩ := h.wcell i hi
    generalize L[i].b = b at *
    generalize L[i].w = x at *
    have HR := hide (lheld_any b x W h1 h3)
    rw [show decide (x % 2 = 1) = false by rw [he]; rfl] at HR
    clear h h1 h2 h3 hi he hid hno hin
    go_enter Try.func48, Try.ntmps48
    go_wp2_with fail
    refine keep HS.out ?_
    go_wp2_with fail
    refine keep HR.out ?_
    go_wp2_with fail
    go_ret2
    exact ⟨rfl, rfl⟩
  · rw [show opE L id = 101 from if_neg hin]
    have HS := hide (slot_none h id hin)
    clear h hno hin
    go_enter Try.func48, Try.ntmps48
    go_wp2_with fail
    refine keep HS.out ?_
    go_wp2_with fail
    go_ret2
    exact ⟨rfl, rfl⟩

/-- The root turns. -/
theorem PA.setR (h : PA W A M D nodes root L) (r : Int) : PA (W.setCell ⟨A, 2, none⟩ (.int .i64 r)) A M D nodes r L := by
  have hu : Upd (fun k => k = A) W (W.setCell ⟨A, 2, none⟩ (.int .i64 r)) := (Upd.refl _ _).setCell _ _ (fun _ => rfl)
  obtain ⟨g, c, h1, h2, h3⟩ := h.row
  obtain ⟨n1, _⟩ := h.row_ne h2
  refine ⟨⟨g, c, block_setCell h1 2 _, owns_upd h2 hu (fun k hk e => by cases hk; exact n1 e), h3⟩, h.mA, fun k hk => Nat.lt_of_lt_of_le (h.lt k hk) hu.size, h.dj, fun s hs => ?_, h.nd, h.one, h.le, h.nz⟩
  have ho := h.sl s hs
  exact ⟨hu.heap ho.c (h.slot_A hs), ho.m, ho.n.upd ho.d hu (fun k hk e => h.dj A h.mA (by rw [← e]; exact hk)), ho.d, ho.w⟩
set_option maxHeartbeats 800000 in
theorem grow_none (h : PA W A M D nodes root L) (old id : Int) (hi : ¬ (1 ≤ id ∧ id ≤ (L.length : Nat))) :
    Calls Try.prog 37 #[.pointer (some ⟨A, 0, none⟩), .int .i64 old, .int .i64 id] W fun e w' => e = .returned (.tuple #[.bool false, .int .i64 101]) ∧ w' = W := by
  have HS := hide (slot_none h id hi)
  clear h hi
  go_enter Try.func37, Try.ntmps37
  go_wp2_with fail
  refine keep HS.out ?_
  go_wp2_with fail
  go_ret2
  exact ⟨rfl, rfl⟩
set_option maxHeartbeats 800000 in
theorem grow_no (h : PA W A M D nodes root L) (old id : Int) (hi : 1 ≤ id ∧ id ≤ (L.length : Nat)) (hr : ¬ root = old) :
    Calls Try.prog 37 #[.pointer (some ⟨A, 0, none⟩), .int .i64 old, .int .i64 id] W fun e w' => e = .returned (.tuple #[.bool false, .int .i64 0]) ∧ w' = W := by
  obtain ⟨i, hid⟩ : ∃ i : Nat, id = (i : Int) + 1 := ⟨(id - 1).toNat, by omega⟩
  have hi' : i < L.length := by omega
  have HS := hide (slot_any h i hi')
  rw [← hid] at HS
  obtain ⟨g, c, _, _, c2, _⟩ := h.cells
  generalize L[i].b = b at *
  clear h hi hid hi'
  go_enter Try.func37, Try.ntmps37
  go_wp2_with fail
  refine keep HS.out ?_
  go_wp2_with fail
  go_ret2
  exact ⟨rfl, rfl⟩
set_option maxHeartbeats 800000 in
theorem grow_yes (h : PA W A M D nodes root L) (id : Int) (hi : 1 ≤ id ∧ id ≤ (L.length : Nat)) :
    Calls Try.prog 37 #[.pointer (some ⟨A, 0, none⟩), .int .i64 root, .int .i64 id] W fun e w' => e = .returned (.tuple #[.bool true, .int .i64 0]) ∧ w' = W.setCell ⟨A, 2, none⟩ (.int .i64 id) := by
  obtain ⟨i, hid⟩ : ∃ i : Nat, id = (i : Int) + 1 := ⟨(id - 1).toNat, by omega⟩
  have hi' : i < L.length := by omega
  have HS := hide (slot_any h i hi')
  rw [← hid] at HS
  obtain ⟨g, c, _, _, c2, _⟩ := h.cells
  obtain ⟨_, _, hA, _⟩ := h.row
  have f2 := frozen_of hA 2
  generalize L[i].b = b at *
  clear h hi hid hi' hA
  go_enter Try.func37, Try.ntmps37
  go_wp2_with fail
  refine keep HS.out ?_
  go_wp2_with fail
  go_ret2
  exact ⟨rfl, rfl⟩
end

end Go.Proofs.Ytfpogjgbmibmcaa
