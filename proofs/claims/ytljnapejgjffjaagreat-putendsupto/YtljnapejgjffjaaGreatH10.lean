/- Texts of one's own. -/
import Derived.Test.YtljnapejgjffjaaGreatH5
import Derived.RangeFuncWrites
import Derived.RangeFuncLeaves
import Derived.RangeFuncCalls
namespace Go.Proofs.YtljnapejgjffjaaGreat
open Go.RowKit
set_option maxRecDepth 100000
structure Upd (S : Nat → Prop) (A B : World) : Prop where
 os : B.os = A.os
 tape : B.tape = A.tape
 output : B.output = A.output
 size : A.heap.size ≤ B.heap.size
 block : ∀ k,k < A.heap.size → ¬ S k → B.heap[k]? = A.heap[k]?
def Noth : Nat → Prop := fun _ => False
theorem Upd.refl (S : Nat → Prop) (A : World) : Upd S A A := ⟨rfl,rfl,rfl,Nat.le_refl _,fun _ _ _ => rfl⟩
theorem Upd.trans {S : Nat → Prop} {A B C : World} (h : Upd S A B) (k : Upd S B C) : Upd S A C :=
 ⟨k.os.trans h.os,k.tape.trans h.tape,k.output.trans h.output,Nat.le_trans h.size k.size,fun i hi hs => (k.block i (Nat.lt_of_lt_of_le hi h.size) hs).trans (h.block i hi hs)⟩
theorem Upd.then {S T : Nat → Prop} {A B C : World} (h : Upd S A B) (k : Upd T B C) (ht : ∀ i,i < A.heap.size → T i → S i) : Upd S A C :=
 ⟨k.os.trans h.os,k.tape.trans h.tape,k.output.trans h.output,Nat.le_trans h.size k.size,fun i hi hs => (k.block i (Nat.lt_of_lt_of_le hi h.size) (fun e => hs (ht i hi e))).trans (h.block i hi hs)⟩
theorem Upd.mono {S T : Nat → Prop} {A B : World} (h : Upd S A B) (ht : ∀ i,i < A.heap.size → S i → T i) : Upd T A B :=
 ⟨h.os,h.tape,h.output,h.size,fun i hi hs => h.block i hi (fun e => hs (ht i hi e))⟩
theorem Upd.of_below {A B : World} (h : Below A.heap.size A B) (S : Nat → Prop) : Upd S A B := ⟨h.os,h.tape,h.output,h.size,fun k hk _ => h.block k hk⟩
theorem Upd.of_grown {A B : World} {row : Option Nat} {S : Nat → Prop} (h : A.grownBy B row) (hr : ∀ k,row = some k → k < A.heap.size → S k) : Upd S A B :=
 ⟨h.os,h.tape,h.output,h.size,fun k hk hs => h.block k hk (fun e => hs (hr k e.symm hk))⟩
theorem Upd.alloc {S : Nat → Prop} {A B : World} (h : Upd S A B) (o : Obj) : Upd S A (B.alloc o) :=
 h.then (T := Noth) ⟨rfl,rfl,rfl,by simp,fun k hk _ => Below.heap_alloc _ _ _ hk⟩ (fun _ _ e => e.elim)
theorem Upd.setCell {S : Nat → Prop} {A B : World} (h : Upd S A B) (p : Addr) (v : Value) (hp : p.block < A.heap.size → S p.block) : Upd S A (B.setCell p v) :=
 h.then (T := fun k => k = p.block) ⟨rfl,rfl,rfl,by simp [World.setCell],fun k _ hk => Below.heap_setCell _ _ _ _ hk⟩ (fun i hi e => by subst e; exact hp hi)
theorem Upd.below {S : Nat → Prop} {A B : World} {n : Nat} (h : Upd S A B) (hn : n ≤ A.heap.size) (hs : ∀ k,k < n → ¬ S k) : Below n A B :=
 ⟨h.os,h.tape,h.output,h.size,fun k hk => h.block k (Nat.lt_of_lt_of_le hk hn) (hs k hk)⟩
theorem Upd.cell {S : Nat → Prop} {A B : World} {p : Addr} {v : Value} (h : Upd S A B) (hc : A.cell? p = some v) (hs : ¬ S p.block) : B.cell? p = some v :=
 (World.cell?_of_block (h.block p.block (World.block_lt_of_cell? A p hc) hs)).trans hc
theorem Upd.heap {S : Nat → Prop} {A B : World} {g : Nat} {o : Obj} (h : Upd S A B) (hc : A.heap[g]? = some o) (hs : ¬ S g) : B.heap[g]? = some o := (h.block g (lt_of_block hc) hs).trans hc
theorem Row.upd {S : Nat → Prop} {w w' : World} {k : IntKind} {a : Option Addr} {zs : List Int} (h : Row w k a zs) (hb : Upd S w w') (hs : ∀ x,a = some x → 0 < zs.length → ¬ S x.block) : Row w' k a zs := by
 intro i hi
 obtain ⟨b,off,ha,hc⟩ := h i hi
 exact ⟨b,off,ha,hb.cell hc (fun e => hs ⟨b,off,none⟩ ha (by omega) e)⟩
theorem OwnB.upd {S : Nat → Prop} {w w' : World} {base : Nat} {e : TypeId} {v : Value} {zs : List Int} (h : OwnB w base e v zs) (hb : Upd S w w') (hs : ∀ k,v.ownBlock = some k → ¬ S k) : OwnB w' base e v zs :=
 h.blk fun k hk => hb.block k (h.owns.lt k hk).2 (hs k hk)
theorem owns_upd {S : Nat → Prop} {w w' : World} {base : Nat} {e : TypeId} {v : Value} {n : Nat} {xs : List Value} (h : w.ownsRow base e 1 v n xs) (hb : Upd S w w') (hs : ∀ k,v.ownBlock = some k → ¬ S k) : w'.ownsRow base e 1 v n xs :=
 owns_blk h fun k hk => hb.block k (h.lt k hk).2 (hs k hk)
end Go.Proofs.YtljnapejgjffjaaGreat
