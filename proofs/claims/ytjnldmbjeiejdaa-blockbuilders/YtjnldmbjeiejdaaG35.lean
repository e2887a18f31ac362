/- block: a Builder is looked at: Len, Size, Last. -/
import Derived.Test.YtjnldmbjeiejdaaG34
namespace Go.Proofs.Ytjnldmbjeiejdaa
open Go.RowKit

set_option maxHeartbeats 400000 in
theorem blen_any {W : World} {B g : Nat} {M : Nat → Prop} {l : List KV} (h : BdAt W B M g l) :
    Calls Try.prog 31 #[.pointer (some ⟨g, 0, none⟩)] W fun e w' => e = .returned (.int .i64 (l.length : Int)) ∧ w' = W := by
  obtain ⟨hg, vb, vt, vl, hR, hM⟩ := h
  have c0 := hR.cells.1
  go_enter Try.func31, Try.ntmps31
  go_wp2_with fail
  go_ret
  exact ⟨rfl, rfl⟩

theorem blk_length {l : List KV} (h : Good l) (h0 : 0 < l.length) : (blk l).length = 1 + (bod l l.length).length + (tab l l.length).length := by
  rw [blk_some h h0]
  simp
  omega
set_option maxHeartbeats 400000 in
theorem bsize_any {W : World} {B g : Nat} {M : Nat → Prop} {l : List KV} (h : BdAt W B M g l) :
    Calls Try.prog 32 #[.pointer (some ⟨g, 0, none⟩)] W fun e w' => e = .returned (.int .i64 ((blk l).length : Int)) ∧ ∃ m, w' = W.drewN m := by
  obtain ⟨hg, vb, vt, vl, hR, hM⟩ := h
  obtain ⟨a1, c1, rfl, _⟩ := owns_openN hR.ob rfl
  obtain ⟨a2, c2, rfl, _⟩ := owns_openN hR.ot rfl
  have q0 := hR.cells.1
  have q1 := hR.cells.2.1
  have q2 := hR.cells.2.2.1
  have h1 := bod_len hg l.length (Nat.le_refl _)
  have h2 := tab_len l l.length
  have h64 := hg.n64
  by_cases h0 : l.length = 0
  · have hb0 : (blk l).length = 0 := by unfold blk; rw [if_pos h0]; rfl
    rw [h0] at q0
    rw [hb0]
    clear hR hM q1 q2 h1 h2
    rw [show ((0 : Nat) : Int) = 0 from rfl] at q0
    go_enter Try.func32, Try.ntmps32
    go_wp2_with fail
    go_ret
    exact ⟨rfl, 0, rfl⟩
  · have HBL := hide (blk_length hg (by omega))
    have hne : ((l.length : Int) == 0) = false := beq_eq_false_iff_ne.2 (by omega)
    have hbn : (bod l l.length).length ≤ 30000 := by omega
    have htn : (tab l l.length).length ≤ 30000 := by omega
    clear hR hM h1 h2
    generalize (bod l l.length).length = nb at *
    generalize (tab l l.length).length = nt at *
    generalize (blk l).length = ns at *
    generalize l.length = ll at *
    have HF : Hid (∀ m, (Ending.returned (.int .i64 (1 + (nb : Int) + (nt : Int))) = .returned (.int .i64 ((ns : Nat) : Int)) ∧ ∃ m', W.drewN m = W.drewN m')) := fun m => ⟨by rw [HBL.out]; simp, m, rfl⟩
    go_enter Try.func32, Try.ntmps32
    go_wp2_with fail
    go_quiet (fail)
    go_wp2_with fail
    go_ret
    exact HF.out _

set_option maxHeartbeats 400000 in
theorem blast_any {W : World} {B g : Nat} {M : Nat → Prop} {l : List KV} (h : BdAt W B M g l) :
    Calls Try.prog 33 #[.pointer (some ⟨g, 0, none⟩)] W fun e w' => ∃ v, e = .returned v ∧ OwnB w' W.heap.size 5 v (ahd l) ∧ Below W.heap.size W w' := by
  obtain ⟨hg, vb, vt, vl, hR, hM⟩ := h
  obtain ⟨a3, c3, rfl, hr3, hn3, _⟩ := owns_open hR.ol
  have q3 := hR.cells.2.2.2.1
  have h64 := hg.ahdl
  have HC := hide (bclone_any a3 (ahd l).length c3 (ahd l) W rfl (by omega) hn3 hr3)
  clear hR hM hr3 hn3
  go_enter Try.func33, Try.ntmps33
  go_wp2_with fail
  refine HC.out.mono ?_
  rintro e w1 ⟨v, rfl, ho, hb⟩
  go_wp2_with fail
  go_ret
  exact ⟨v, rfl, ho, hb⟩

end Go.Proofs.Ytjnldmbjeiejdaa
