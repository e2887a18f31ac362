/- Texts of one's own. -/
import Derived.Test.YtljnapejgjffjaaGreatRows
import Derived.Test.YtljnapejgjffjaaGreatH1
import Derived.WalkSpells
import Derived.WalkLawsBesides
import Derived.Deep.QuietTactic
import Derived.BigQuiet
namespace Go.Proofs.YtljnapejgjffjaaGreat
open Go.RowKit
set_option maxRecDepth 100000
structure Still (w w' : World) : Prop where
 heap : w'.heap = w.heap
 os : w'.os = w.os
 tape : w'.tape = w.tape
 output : w'.output = w.output
theorem Still.refl (w : World) : Still w w := ⟨rfl,rfl,rfl,rfl⟩
theorem Still.trans {a b c : World} (h : Still a b) (k : Still b c) : Still a c := ⟨k.heap.trans h.heap,k.os.trans h.os,k.tape.trans h.tape,k.output.trans h.output⟩
theorem Still.drewN {a w : World} (h : Still a w) (n : Nat) : Still a (w.drewN n) := ⟨h.heap,h.os,h.tape,h.output⟩
theorem Still.below {w w' : World} (h : Still w w') (B : Nat) : Below B w w' := ⟨h.os,h.tape,h.output,by rw [h.heap]; exact Nat.le_refl _,fun k _ => by rw [h.heap]⟩
theorem Still.cell {w w' : World} (h : Still w w') (a : Addr) : w'.cell? a = w.cell? a := by simp only [World.cell?,h.heap]
theorem Still.row {w w' : World} {k : IntKind} {a : Option Addr} {zs : List Int} (h : Still w w') (hr : Row w k a zs) : Row w' k a zs := by
 intro i hi
 obtain ⟨b,off,ha,hc⟩ := hr i hi
 exact ⟨b,off,ha,(h.cell _).trans hc⟩
end Go.Proofs.YtljnapejgjffjaaGreat
