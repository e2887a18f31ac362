/- The statements' Raw: all of it. -/
import Derived.Test.YtfpogjgbmibmcaaALaw4
import Derived.Test.YtfpogjgbmibmcaaALaw5
import Derived.Test.YtfpogjgbmibmcaaALaw6
import Derived.Test.YtfpogjgbmibmcaaALaw7
namespace Go.Proofs.Ytfpogjgbmibmcaa
open Go.RowKit
theorem raw_any {K : Nat → Prop} {W : World} {P AX AY : Nat} {s : AS} (h : AW K W P AX AY s s) (o : AOp) (ho : o.Ok K W) : Calls Try.prog 10 #[.pointer (some ⟨P, 0, none⟩), o.v] W (AwPost K W P AX AY (s.raw o)) := by
  have hlt := pickN_lt o.kind 9 (by decide)
  unfold AS.raw
  by_cases h0 : pickN o.kind 9 = 0
  · rw [if_pos h0]; exact raw0 h o ho h0
  rw [if_neg h0]
  by_cases h1 : pickN o.kind 9 = 1
  · rw [if_pos h1]; exact raw1 h o ho h1
  rw [if_neg h1]
  by_cases h2 : pickN o.kind 9 = 2
  · rw [if_pos h2]; exact raw2 h o ho h2
  rw [if_neg h2]
  by_cases h3 : pickN o.kind 9 = 3
  · rw [if_pos h3]; exact raw3 h o ho h3
  rw [if_neg h3]
  by_cases h4 : pickN o.kind 9 = 4
  · rw [if_pos h4]; exact raw4 h o ho h4
  rw [if_neg h4]
  by_cases h5 : pickN o.kind 9 = 5
  · rw [if_pos h5]; exact raw5 h o ho h5
  rw [if_neg h5]
  by_cases h6 : pickN o.kind 9 = 6
  · rw [if_pos h6]; exact raw6 h o ho h6
  rw [if_neg h6]
  by_cases h7 : pickN o.kind 9 = 7
  · rw [if_pos h7]; exact raw7 h o ho h7
  rw [if_neg h7]
  exact raw8 h o ho (by omega)

/-- A script in memory. -/
structure Ops (K : Nat → Prop) (W : World) (a : Option Addr) (L : List AOp) : Prop where
  c : ∀ i (h : i < L.length), ∃ b o, a = some ⟨b, o, none⟩ ∧ K b ∧ ∀ j (v : Value), (match L[i].v with | .agg cs => cs | _ => #[])[j]? = some v → W.cell? ⟨b, o + i * 11 + j, none⟩ = some v
  ok : ∀ x ∈ L, x.Ok K W
theorem Ops.kept {K : Nat → Prop} {W W' : World} {a : Option Addr} {L : List AOp} (h : Ops K W a L) (hu : Upd (fun k => ¬ K k) W W') : Ops K W' a L := by
  refine ⟨fun i hi => ?_, fun x hx => (h.ok x hx).kept hu⟩
  obtain ⟨b, o, ha, hk, hc⟩ := h.c i hi
  exact ⟨b, o, ha, hk, fun j v hv => kept_cell hu (hc j v hv) hk⟩
theorem Ops.mono {K K' : Nat → Prop} {W : World} {a : Option Addr} {L : List AOp} (h : Ops K W a L) (hk : ∀ k, K k → K' k) : Ops K' W a L := by
  refine ⟨fun i hi => ?_, fun x hx => ?_⟩
  · obtain ⟨b, o, ha, hb, hc⟩ := h.c i hi
    exact ⟨b, o, ha, hk b hb, hc⟩
  · have := h.ok x hx
    exact ⟨this.k1, this.a1, this.b1, this.w1, this.n, this.i.mono hk⟩
/-- What a script leaves. -/
def AS.run (s : AS) (L : List AOp) : AS := L.foldl AS.raw s
theorem AS.run_take (s : AS) (L : List AOp) (i : Nat) (h : i < L.length) : s.run (L.take (i + 1)) = (s.run (L.take i)).raw L[i] := by
  unfold AS.run
  rw [take_next h, List.foldl_append]
  rfl

end Go.Proofs.Ytfpogjgbmibmcaa
