/- VintReads: the walk. -/
import Derived.Test.YtlphpcacngimhaaLives
import Derived.Test.YtlphpcacngimhaaRRead
import Derived.Test.YtlphpcacngimhaaLent
namespace Go.Proofs.Ytlphpcacngimhaa
open Go.RowKit

theorem Row.below' {w w' : World} {k : IntKind} {a : Option Addr} {zs : List Int} (h : Row w k a zs) (hb : Below w.heap.size w w') : Row w' k a zs := by
  intro i hi
  obtain ⟨b, off, ha, hc⟩ := h i hi
  exact ⟨b, off, ha, (hb.cell (p := ⟨b, off + i, none⟩) (World.block_lt_of_cell? w ⟨b, off + i, none⟩ hc)).trans hc⟩

set_option maxHeartbeats 800000 in
theorem reads_some (a : Option Addr) (len cap : Nat) (zs : List Int) (b2 o2 len2 cap2 : Nat) (ps : List Int) (w : World) (hl : zs.length = len) (hm : len ≤ 140737488351232) (hnone : a = none → len = 0 ∧ cap = 0) (hr : Row w .u8 a zs) (h8 : Fits8 zs)
    (hm2 : len2 ≤ maxLen) (hb2 : b2 < w.heap.size) (hc2 : ∀ i, i < len2 → w.cell? ⟨b2, o2 + i, none⟩ = some (.int .i64 (ps.getD i 0))) :
    Calls Try.prog 5 #[.slice a len cap, .slice (some ⟨b2, o2, none⟩) len2 cap2] w fun e w' => e = .returned (.bool true) ∧ Below w.heap.size w w' := by
  unfold maxLen at hm2
  have hmx : len ≤ maxLen := by unfold maxLen; omega
  have HR := hide hr
  have HN := hide hnone
  have HC := hide hc2
  clear hr hnone hc2
  go_enter Try.func5, Try.ntmps5
  go_wp2_with (first
    | (go_at_call 9; refine (lives_any _).mono ?_; rintro e w1 ⟨rfl, hb1⟩)
    | (go_at_call 19; refine (lent_any a len cap zs _ hl hm HN.out (HR.out.below' hb1)).mono ?_; rintro e w2 ⟨rfl, hL2, hbe2⟩))
  have hz1 := hb1.size
  have hbw2 : Below w.heap.size w w2 := hb1.trans (hbe2.mono hz1)
  generalize w1.heap.size = g at *
  clear hbe2 hb1
  go_loopw [7] (fun q wr => ∃ k : Nat, k ≤ len2 ∧ q = .int .i64 (k : Int) ∧ Lent wr g zs ∧ Below w.heap.size w wr) (fun q _ => len2 - (intOf q).toNat)
  case atStart => exact ⟨0, by omega, rfl, hL2, hbw2⟩
  case round =>
    obtain ⟨k, hk, rfl, hL, hbel⟩ := hrel
    by_cases hlt : k < len2
    · have hcell : wr.cell? ⟨b2, o2 + k, none⟩ = some (.int .i64 (ps.getD k 0)) := (hbel.cell (p := ⟨b2, o2 + k, none⟩) hb2).trans (HC.out k hlt)
      generalize ps.getD k 0 = p at *
      have HRD := hide (read_any (some ⟨g, 0, none⟩) len (len + 2) p zs wr hl hmx hL.row h8)
      have HRR : Hid (∀ W, Row W .u8 a zs → Calls Try.prog 20 #[.slice a len cap, .int .i64 p] W fun e w' =>
        e = .returned (.tuple #[.int .u64 (rdNum zs p), .int .i64 (rdEnd zs p), .int .i64 (rdErr zs p)]) ∧ w' = W) := fun W hW => rread_any a len cap p zs W hl hmx hW h8
      generalize rdNum zs p = N at *
      generalize rdEnd zs p = M at *
      generalize rdErr zs p = E at *
      have hzr := hbel.size
      go_wp2_with (first
        | (go_at_call 11; refine HRD.out.mono ?_; rintro e w3 ⟨rfl, hb3⟩; have hbel3 := hbel.trans (hb3.mono hzr); have hcell3 := (hb3.cell (p := ⟨b2, o2 + k, none⟩) (by show b2 < _; omega)).trans hcell)
        | (go_at_call 20; refine (HRR.out _ (HR.out.below' hbel3)).mono ?_; rintro e w4 ⟨rfl, rfl⟩))
      go_roundw
      case rel => exact ⟨k + 1, by omega, by go_num, hL.below hb3 hL.lt, hbel3⟩
      case measure => simp [intOf]; omega
    · have hge : ¬ (k : Int) < (len2 : Int) := by omega
      go_wp2_with (first
        | (go_at_call 21; refine (kept_any g a len cap zs _ hl hm hL (HR.out.below' hbel)).mono ?_; rintro e w3 ⟨rfl, hst⟩))
      go_ret
      exact ⟨rfl, hbel.trans (hst.below _)⟩

set_option maxHeartbeats 800000 in
theorem reads_nothing (a a2 : Option Addr) (len cap : Nat) (zs : List Int) (cap2 : Nat) (w : World) (hl : zs.length = len) (hm : len ≤ 140737488351232) (hnone : a = none → len = 0 ∧ cap = 0) (hr : Row w .u8 a zs) :
    Calls Try.prog 5 #[.slice a len cap, .slice a2 0 cap2] w fun e w' => e = .returned (.bool true) ∧ Below w.heap.size w w' := by
  have HR := hide hr
  have HN := hide hnone
  clear hr hnone
  go_enter Try.func5, Try.ntmps5
  go_wp2_with (first
    | (go_at_call 9; refine (lives_any _).mono ?_; rintro e w1 ⟨rfl, hb1⟩)
    | (go_at_call 19; refine (lent_any a len cap zs _ hl hm HN.out (HR.out.below' hb1)).mono ?_; rintro e w2 ⟨rfl, hL2, hbe2⟩))
  have hz1 := hb1.size
  have hbw2 : Below w.heap.size w w2 := hb1.trans (hbe2.mono hz1)
  generalize w1.heap.size = g at *
  clear hbe2 hb1
  refine wp_loop_rounds 1 ?_
  rw [rounds_succ]
  go_wp2_with (first
    | (go_at_call 21; refine (kept_any g a len cap zs _ hl hm hL2 (HR.out.below' hbw2)).mono ?_; rintro e w3 ⟨rfl, hst⟩))
  go_ret
  exact ⟨rfl, hbw2.trans (hst.below _)⟩

theorem reads_any (a a2 : Option Addr) (len cap len2 cap2 : Nat) (zs ps : List Int) (w : World) (hl : zs.length = len) (hm : len ≤ 140737488351232) (hnone : a = none → len = 0 ∧ cap = 0) (hr : Row w .u8 a zs) (h8 : Fits8 zs)
    (hl2 : ps.length = len2) (hm2 : len2 ≤ maxLen) (hr2 : Row w .i64 a2 ps) :
    Calls Try.prog 5 #[.slice a len cap, .slice a2 len2 cap2] w fun e w' => e = .returned (.bool true) ∧ Below w.heap.size w w' := by
  by_cases h0 : len2 = 0
  · subst h0; exact reads_nothing a a2 len cap zs cap2 w hl hm hnone hr
  · obtain ⟨b2, o2, rfl, hb2, hc2⟩ := hr2.cons (by omega)
    exact reads_some a len cap zs b2 o2 len2 cap2 ps w hl hm hnone hr h8 hm2 hb2 (by rw [← hl2]; exact hc2)

end Go.Proofs.Ytlphpcacngimhaa
