/- pair: Between. -/
import Derived.Test.YtfcjbibnjibijaaKBase
import Derived.Test.YtfcjbibnjibijaaKClone
namespace Go.Proofs.Ytfcjbibnjibijaa
open Go.RowKit

theorem drewB {B : Nat} {w w' : World} (h : Below B w w') (m : Nat) : Below B w (w'.drewN m) := ⟨h.os, h.tape, h.output, h.size, h.block⟩
theorem ofDrew {B : Nat} {w w' : World} {m : Nat} (h : Below B (w.drewN m) w') : Below B w w' := ⟨h.os, h.tape, h.output, h.size, h.block⟩
theorem Row.drewR {w : World} {k : IntKind} {a : Option Addr} {zs : List Int} (h : Row w k a zs) (m : Nat) : Row (w.drewN m) k a zs := h

def btE (a b : List Int) : Int := if cmpI a b < 0 then 0 else 51
def btL (a b : List Int) : List Int := if cmpI a b < 0 then betw a b else []

set_option maxHeartbeats 800000 in
theorem between_any (a b : Option Addr) (l1 c1 l2 c2 : Nat) (xs ys : List Int) (w : World) (hl1 : l1 ≤ 140737488351232) (hl2 : l2 ≤ 140737488351232) (hc2 : l2 ≤ c2) (h1 : xs.length = l1) (h2 : ys.length = l2) (r1 : Row w .u8 a xs) (r2 : Row w .u8 b ys) (b1 : B8 xs) (b2 : B8 ys) :
    Calls Try.prog 13 #[.slice a l1 c1, .slice b l2 c2] w fun e w' => ∃ v, e = .returned (.tuple #[v, .int .i64 (btE xs ys)]) ∧ OwnB w' w.heap.size 5 v (btL xs ys) ∧ Below w.heap.size w w' := by
  have HB := hide (below_any a b l1 c1 l2 c2 xs ys w h1 h2 r1 r2 b1 b2)
  by_cases hlt : cmpI xs ys < 0
  · have e1 : btE xs ys = 0 := by unfold btE; rw [if_pos hlt]
    have e2 : btL xs ys = betw xs ys := by unfold btL; rw [if_pos hlt]
    rw [e1, e2]
    have hroom := betw_room xs ys hlt
    have hlen := betw_len xs ys hlt
    rw [decide_eq_true hlt] at HB
    have HC := hide (common_any a b l1 c1 l2 c2 xs ys w (by unfold maxLen; omega) (by unfold maxLen; omega) h1 h2 r1 r2)
    obtain ⟨p, o, rfl, _, _⟩ := r2.cons (by omega)
    have HR : Hid (∀ m, Row (w.drewN m) .u8 (some ⟨p, o, none⟩) (betw xs ys)) := fun m => (r2.take (comN xs ys + 1)).drewR m
    clear r1 r2 e1 e2 hlt
    have HL := hide hlen
    clear hlen
    generalize betw xs ys = bt at *
    generalize comN xs ys = n at *
    go_enter Try.func13, Try.ntmps13
    go_wp2_with fail
    refine keep HB.out ?_
    go_wp2_with fail
    refine HC.out.mono ?_
    rintro e w1 ⟨rfl, m, rfl⟩
    go_wp2_with fail
    refine (bclone_some _ _ _ bt _ HL.out (by omega) (HR.out m)).mono ?_
    rintro e w2 ⟨v, rfl, hown, hb⟩
    go_wp2_with fail
    go_ret2
    exact ⟨v, rfl, hown, ofDrew hb⟩
  · have e1 : btE xs ys = 51 := by unfold btE; rw [if_neg hlt]
    have e2 : btL xs ys = [] := by unfold btL; rw [if_neg hlt]
    rw [e1, e2]
    rw [decide_eq_false hlt] at HB
    clear r1 r2 hlt
    go_enter Try.func13, Try.ntmps13
    go_wp2_with fail
    refine keep HB.out ?_
    go_wp2_with fail
    go_ret2
    exact ⟨_, rfl, OwnB.nil _ _ _, Below.refl _ _⟩

end Go.Proofs.Ytfcjbibnjibijaa
