/- CrcPatches: the walk, whole. -/
import Derived.Test.YtbjlpeophklmlaaCRPat2
import Derived.Test.YtbjlpeophklmlaaCPats
namespace Go.Proofs.Ytbjlpeophklmlaa
open Go.RowKit

theorem crcPatches_any (a : Option Addr) (len cap : Nat) (at' : Int) (want : Nat) (zs : List Int) (w : World) (hl : zs.length = len) (hm : len ≤ 140737488351232) (hnone : a = none → len = 0 ∧ cap = 0) (hr : Row w .u8 a zs) (h8 : B8 zs) (hat : at' ≤ 9223372036854775807) (hw : want < 4294967296) :
    Calls Try.prog 7 #[.slice a len cap, .int .i64 at', .int .u32 want] w fun e w' => e = .returned (.bool true) ∧ Below w.heap.size w w' := by
  have hmx : len ≤ maxLen := by unfold maxLen; omega
  by_cases hbad : at' < 0 ∨ (len : Int) - at' < 4
  · refine crcPatches_walk a len cap 0 at' want 1 zs [] w hl hm rfl (by unfold maxLen; omega) hnone hr (hide fun W a c _ _ => ?_) (hide fun W _ => ?_)
    · refine (patch_bad a len c at' want W hmx hat hbad).mono ?_
      rintro e w' ⟨rfl, rfl⟩
      exact ⟨_, rfl, .inl ⟨rfl, rfl⟩, Below.refl _ _⟩
    · refine (rpatch_bad a len cap at' want W hmx hbad).mono ?_
      rintro e w' ⟨rfl, rfl⟩
      exact ⟨none, 0, rfl, (fun k o h => by cases h), row_nil _ _ _, Below.refl _ _⟩
  · obtain ⟨m, rfl⟩ : ∃ m : Nat, at' = (m : Int) := ⟨at'.toNat, by omega⟩
    have h4 : m + 4 ≤ len := by omega
    obtain ⟨b, o, rfl, _, _⟩ := hr.cons (by omega)
    refine crcPatches_walk _ len cap len m want 0 zs (ptText zs m want) w hl hm (by rw [ptText_len want (by omega)]; exact hl) hmx hnone hr (hide fun W a c hc h => ?_) (hide fun W h => ?_)
    · exact patch_good a len c m want zs W hl hc hm hw h h8 h4
    · refine (rpatch_good b o len cap m want zs W hl hm h4 hw h h8).mono ?_
      rintro e w' ⟨g, c, rfl, hg, hrow, hb⟩
      exact ⟨_, c, rfl, (fun k o h => by cases h; exact hg), hrow, hb⟩

end Go.Proofs.Ytbjlpeophklmlaa
