/- CrcSums: the walk. -/
import Derived.Test.YtbjlpeophklmlaaCRef
import Derived.Test.YtbjlpeophklmlaaCRow
import Derived.Test.YtbjlpeophklmlaaLent
namespace Go.Proofs.Ytbjlpeophklmlaa
open Go.RowKit

set_option maxHeartbeats 800000 in
theorem crcSums_any (a a2 : Option Addr) (len cap len2 cap2 : Nat) (zs ys : List Int) (s : Nat) (w : World) (hl : zs.length = len) (hm : len ≤ 1048576) (hnone : a = none → len = 0 ∧ cap = 0) (hr : Row w .u8 a zs) (h8 : B8 zs)
    (hl2 : ys.length = len2) (hm2 : len2 ≤ 1048576) (hnone2 : a2 = none → len2 = 0 ∧ cap2 = 0) (hr2 : Row w .u8 a2 ys) (h82 : B8 ys) (hs : s < 4294967296) :
    Calls Try.prog 4 #[.slice a len cap, .slice a2 len2 cap2, .int .u32 s] w fun e w' => e = .returned (.bool true) ∧ Below w.heap.size w w' := by
  obtain ⟨i0, hi, hz0, hz1, hz2⟩ := info_parts infoU8
  have hmx : len ≤ maxLen := by unfold maxLen; omega
  have hmx2 : len2 ≤ maxLen := by unfold maxLen; omega
  have HR := hide hr
  have HR2 := hide hr2
  have HN := hide hnone
  have HN2 := hide hnone2
  have HMS := hide (moreOf_sum zs ys h8)
  clear hr hr2 hnone hnone2
  go_enter Try.func4, Try.ntmps4
  go_wp2_with (first
    | (go_at_call 9; refine (lives_any _).mono ?_; rintro e w1 ⟨rfl, hb1⟩)
    | (go_at_call 15; refine (lent_any a len cap zs _ hl (by omega) HN.out (HR.out.below2 hb1)).mono ?_; rintro e w2 ⟨rfl, hL2, hbe2⟩))
  have hz1' := hb1.size
  have hbw : Below w.heap.size w w2 := hb1.trans (hbe2.mono hz1')
  generalize w1.heap.size = g at *
  clear hbe2 hb1
  refine keep (sum_any (some ⟨g, 0, none⟩) len (len + 2) zs w2 hl hmx hL2.row h8) ?_
  go_wp2_with fail
  refine keep (more_any s (some ⟨g, 0, none⟩) len (len + 2) zs w2 hs hl hmx hL2.row h8) ?_
  go_wp2_with fail
  refine keep (more_any (sumOf zs) a2 len2 cap2 ys w2 (sumOf_lt zs) hl2 hmx2 (HR2.out.below2 hbw) h82) ?_
  rw [HMS.out]
  go_wp2_with fail
  refine (kept_any g a len cap zs _ hl (by omega) hL2 (HR.out.below2 hbw)).mono ?_
  rintro e w3 ⟨rfl, hst⟩
  have hbw3 : Below w.heap.size w w3 := hbw.trans (hst.below _)
  have HS1 := hide (rsum_any a len cap zs w3 hl hmx (HR.out.below2 hbw3) h8)
  have HS2 := hide (rmore_any s a len cap zs w3 hs hl hmx (HR.out.below2 hbw3) h8)
  clear hbw hL2 hst
  generalize sumOf zs = x1 at *
  generalize moreOf s zs = x2 at *
  go_wp2_with (first
    | (go_at_call 18; refine keep HS1.out ?_)
    | (go_at_call 19; refine keep HS2.out ?_)
    | (at_builtin; refine unguard (by rfl) ?_; refine append_own_any rfl (.tmp 46) (.tmp 47) 23 rfl w3.heap.size 5 i0 (.int .u8 0) 1 1 Try.underlying23 hi hz0 hz1 hz2 rfl (by decide) (.slice (some ⟨w3.heap.size, 0, none⟩) 0 0) 0 [] rfl (World.ownsRow_made w3 #[] 0 (Nat.le_refl _) (by unfold maxLen; omega) rfl) a len cap (zs.map (Value.int .u8)) rfl (by simp [hl]) HN.out (((HR.out.below2 hbw3).alloc _).cells) (ints_oneCell _ _) (by unfold maxLen; omega) (by omega) (by simp) ?_; intro v4 w4 hown4 hg4; simp only [Nat.zero_add, List.nil_append] at hown4; have hb4 : Below w3.heap.size w3 w4 := ((Below.refl _ _).alloc (Nat.le_refl _) _).grown hg4 (by simp) (fun k h => by cases h; exact Nat.le_refl _))
    | (at_builtin; refine unguard (by rfl) ?_; refine append_own_any rfl (.tmp 48) (.tmp 49) 23 rfl w3.heap.size 5 i0 (.int .u8 0) 1 1 Try.underlying23 hi hz0 hz1 hz2 rfl (by decide) v4 len _ rfl hown4 a2 len2 cap2 (ys.map (Value.int .u8)) rfl (by simp [hl2]) HN2.out (HR2.out.below2 (hbw3.trans (hb4.mono hbw3.size))).cells (ints_oneCell _ _) (by unfold maxLen; omega) (by omega) hb4.size ?_; intro v5 w5 hown5 hg5)
    | fail)
  rw [← List.map_append] at hown5
  obtain ⟨a5, c5, hv5, hn5, _⟩ := slice_of_owns2 hown5
  subst hv5
  have hb5 : Below w3.heap.size w3 w5 := hb4.grown hg5 hb4.size (fun k h => (hown4.lt k h).1)
  refine keep (rsum_any a5 (len + len2) c5 (zs ++ ys) w5 (by simp [hl, hl2]) (by unfold maxLen; omega) (row_of_owns2 hown5) (h8.append h82)) ?_
  go_wp2_with fail
  go_ret
  exact ⟨rfl, hbw3.trans (hb5.mono hbw3.size)⟩

end Go.Proofs.Ytbjlpeophklmlaa
