/- A script of turns in memory. -/
import Derived.Test.YtpljbgcofmlhbaaGreatG45
namespace Go.Proofs.YtpljbgcofmlhbaaGreat
open Go.RowKit
set_option maxRecDepth 100000
structure TOps (N : Nat) (W : World) (a : Option Addr) (L : List TOp) : Prop where
 c : ∀ i (h : i < L.length), ∃ b o, a = some ⟨b, o, none⟩ ∧ b < N ∧ ∀ j (v : Value), L[i].cs[j]? = some v → W.cell? ⟨b, o + i * 13 + j, none⟩ = some v
 ok : ∀ x ∈ L, x.Ok (fun k => k < N) W
theorem TOp.Ok.below {N : Nat} {W W' : World} {o : TOp} (h : o.Ok (fun k => k < N) W) (hb : Below W.heap.size W W') : o.Ok (fun k => k < N) W' := ⟨h.k1, h.a1, h.b1, h.key.below hb, h.value.below hb, h.n.below hb, h.i⟩
theorem TOps.below {W W' : World} {a : Option Addr} {L : List TOp} (h : TOps W.heap.size W a L) (hb : Below W.heap.size W W') : TOps W.heap.size W' a L := by
 refine ⟨fun i hi => ?_, fun x hx => (h.ok x hx).below hb⟩
 obtain ⟨b, o, ha, hk, hc⟩ := h.c i hi
 exact ⟨b, o, ha, hk, fun j v hv => (hb.cell (p := ⟨b, o + i * 13 + j, none⟩) hk).trans (hc j v hv)⟩
end Go.Proofs.YtpljbgcofmlhbaaGreat
