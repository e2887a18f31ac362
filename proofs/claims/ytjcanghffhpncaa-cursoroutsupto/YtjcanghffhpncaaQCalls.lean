/- How often a source and a sink were called. -/
import Derived.Test.YtjcanghffhpncaaQBase
namespace Go.Proofs.Ytjcanghffhpncaa
open Go.RowKit

set_option maxHeartbeats 400000 in
theorem calls_any {W : World} {M : Nat → Prop} {zs gs : List Int} {fail : Int} {eager : Bool} {g c k : Nat} (h : SrcAt W M zs gs fail eager g c k) :
    Calls Try.prog 24 #[.pointer (some ⟨g, 0, none⟩)] W fun e w' => e = .returned (.int .i64 c) ∧ w' = W := by
  obtain ⟨am, cm, al, cl, h⟩ := h
  have h2 := h.cell.2.2.1
  clear h
  go_enter Try.func24, Try.ntmps24
  go_wp2
  go_ret
  exact ⟨rfl, rfl⟩
set_option maxHeartbeats 400000 in
theorem scalls_any {W : World} {B : Nat} {M : Nat → Prop} {ts : List Int} {fail : Int} {g c : Nat} {zs : List Int} (h : SnkAt W B M ts fail g c zs) :
    Calls Try.prog 27 #[.pointer (some ⟨g, 0, none⟩)] W fun e w' => e = .returned (.int .i64 c) ∧ w' = W := by
  obtain ⟨am, cm, at', ct, h⟩ := h
  have h2 := h.cell.2.2.1
  clear h
  go_enter Try.func27, Try.ntmps27
  go_wp2
  go_ret
  exact ⟨rfl, rfl⟩

end Go.Proofs.Ytjcanghffhpncaa
