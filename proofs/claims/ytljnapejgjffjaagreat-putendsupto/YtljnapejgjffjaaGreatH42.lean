/- Texts of one's own. -/
import Derived.Test.YtljnapejgjffjaaGreatH38
import Derived.OneCell
namespace Go.Proofs.YtljnapejgjffjaaGreat
open Go.RowKit
set_option maxRecDepth 100000
theorem IM.drew {W : World} {b : Nat} {E : List (Int × Value)} (h : IM W b E) : IM W.drew b E := ⟨h.e,h.nd⟩
theorem IM.drewN {W : World} {b : Nat} {E : List (Int × Value)} (h : IM W b E) (j : Nat) : IM (W.drewN j) b E := ⟨h.e,h.nd⟩
theorem owns_setLast {w : World} {base g n cap : Nat} {e : TypeId} {xs : List Value} {u u' : Value} (h : w.ownsRow base e 1 (.slice (some ⟨g,0,none⟩) (n + 1) cap) (n + 1) (xs ++ [u])) (hl : xs.length = n) :
  (w.setCell ⟨g,n,none⟩ u').ownsRow base e 1 (.slice (some ⟨g,0,none⟩) (n + 1) cap) (n + 1) (xs ++ [u']) := by
 refine ⟨by simp [hl],?_⟩
 rcases h.2 with ⟨hv,_⟩ | ⟨g',cap',cur,hv,hb,hh,h1,h2,h3,h4⟩
 ·cases hv
 ·cases hv
  refine .inr ⟨g,cap,cur.setIfInBounds n u',rfl,hb,block_setCell hh n u',h1,h2,by simp [h3],?_⟩
  rw [Nat.mul_one] at h4 ⊢
  rw [Array.toList_setIfInBounds,List.take_set,h4]
  rw [List.set_append_right _ _ (by omega),hl,Nat.sub_self]
  rfl
section
variable {W W' : World} {X : Nat → Prop} {B m N A : Nat} {ga la : Option Addr} {gc lc : Nat} {nd lf inn fl bk : Int} {s : AS} {O : List (List Sp)} {ov : List IL} {cur : List Sp}
theorem LW.row_g (h : LW W X B m N A ga gc la lc nd lf inn fl bk s O ov cur) : ∃ g,ga = some ⟨g,0,none⟩ ∧ W.cell? ⟨B,7,none⟩ = some (.slice (some ⟨g,0,none⟩) (O.length + 1) gc) ∧ W.cell? ⟨g,O.length,none⟩ = some (.slice la cur.length lc) ∧ W.frozen? ⟨g,O.length,none⟩ = false := by
 rcases h.row.2 with ⟨hv,h0⟩ | ⟨g,cap,cu,hv,_,hh,_⟩
 ·omega
 ·simp only [Value.slice.injEq] at hv
  obtain ⟨hg,_,rfl⟩ := hv
  subst hg
  refine ⟨g,rfl,by rw [cell_of_row _ _ _ _ _ _ h.b]; rfl,?_,frozen_of hh _⟩
  have := h.row.cells (g := g) rfl O.length (.slice la cur.length lc) (by rw [List.getElem?_append_right (by rw [List.length_map,h.old.len]; exact Nat.le_refl _),List.length_map,h.old.len,Nat.sub_self]; rfl)
  rw [Addr.add_lit,Nat.zero_add] at this
  exact this
theorem LW.lc_ob (la : Option Addr) (n c : Nat) : ∀ k,(Value.slice la n c).ownBlock = some k → ∃ y,la = some y ∧ y.block = k := by
 intro k hk
 cases la with
 | none => cases hk
 | some y => exact ⟨y,rfl,Option.some.inj hk⟩
theorem LW.add {w3 w4 w5 w6 : World} (h : LW w3 X B m N A ga gc la lc nd lf inn fl bk s O ov cur) {x : Sp} (hx : x.Ok w3 (LAv X B m ga la) s) (h4 : IM w4 m (spE (O.flatten ++ cur) ++ [(x.id,x.v)])) (u4 : Upd (fun k => k = m) w3 w4) (b5 : Below w4.heap.size w4 w5)
  {g g' c' : Nat} (hg : ga = some ⟨g,0,none⟩) (o6 : w6.ownsRow N 3 1 (.slice (some ⟨g',0,none⟩) (cur.length + 1) c') (cur.length + 1) ((cur.map fun x => .int .i64 x.id) ++ [.int .i64 x.id])) (g6 : w5.grownBy w6 (Value.slice la cur.length lc).ownBlock) (k6 : (Value.slice la cur.length lc).ownBlock = some g' ∨ w5.heap.size ≤ g') :
  LW (w6.setCell ⟨g,O.length,none⟩ (.slice (some ⟨g',0,none⟩) (cur.length + 1) c')) X B m N A ga gc (some ⟨g',0,none⟩) c' nd lf inn fl bk s O ov (cur ++ [x]) := by
 have hu5 : Upd (fun k => k = m) w3 w5 := u4.then (Upd.of_below b5 (fun k => k = m)) (fun _ _ e => e)
 have hu6 : Upd (LMut B m ga la) w3 w6 := by
  refine (hu5.mono (fun k _ e => Or.inr (.inl e))).then (Upd.of_grown g6 (S := fun k => ∃ y,la = some y ∧ y.block = k) (fun k hk _ => LW.lc_ob la _ _ k hk)) (fun k _ e => .inr (.inr (.inr e)))
 have hu7 : Upd (LMut B m ga la) w3 (w6.setCell ⟨g,O.length,none⟩ (.slice (some ⟨g',0,none⟩) (cur.length + 1) c')) := hu6.setCell _ _ (fun _ => .inr (.inr (.inl ⟨_,hg,rfl⟩)))
 have hs5 := hu5.size
 have hgg : ∀ y,la = some y → y.block ≠ g := fun y e => (h.lB y e).2.2 _ hg
 have hg'lt : g' = g → False := by
  intro e
  rcases k6 with k6 | k6
  ·obtain ⟨y,e1,e2⟩ := LW.lc_ob la _ _ g' k6
   exact hgg y e1 (e2.trans e)
  ·have : g < w3.heap.size := (h.row.lt g (by rw [hg]; rfl)).2
   omega
 have hnew : ∀ k,k < w3.heap.size → (∃ y : Addr,some (⟨g',0,none⟩ : Addr) = some y ∧ y.block = k) → ∃ y,la = some y ∧ y.block = k := by
  rintro k hk ⟨y,e1,e2⟩
  cases e1
  rcases k6 with k6 | k6
  ·obtain ⟨z,e3,e4⟩ := LW.lc_ob la _ _ g' k6
   exact ⟨z,e3,e4.trans e2⟩
  ·simp only at e2; omega
 have hS : ∀ k,k < w3.heap.size → LMut B m ga (some ⟨g',0,none⟩) k → LMut B m ga la k := fun k hk e => by
  rcases e with e | e | e | e
  ·exact .inl e
  ·exact .inr (.inl e)
  ·exact .inr (.inr (.inl e))
  ·exact .inr (.inr (.inr (hnew k hk e)))
 have hS' : ∀ k,k < w3.heap.size → LAv X B m ga (some ⟨g',0,none⟩) k → LAv X B m ga la k := fun k hk e => e.imp (hS k hk) id
 have hBl : B < w3.heap.size := lt_of_block h.b
 have hml : m < w3.heap.size := h.im.lt
 have hgB := h.gB _ hg
 simp only at hgB
 have hg'B : g' ≠ B ∧ g' ≠ m := by
  rcases k6 with k6 | k6
  ·obtain ⟨y,e1,e2⟩ := LW.lc_ob la _ _ g' k6
   have := h.lB y e1
   rw [e2] at this
   exact ⟨this.1,this.2.1⟩
  ·omega
 have hoff : ∀ k,k ≠ B → k ≠ m → k ≠ g → True := fun _ _ _ _ => trivial
 have h6 : (w6.setCell ⟨g,O.length,none⟩ (.slice (some ⟨g',0,none⟩) (cur.length + 1) c')).heap.size = w6.heap.size := by simp
 have hx6 : ∀ k,X k → k < w3.heap.size ∧ ¬ LMut B m ga (some ⟨g',0,none⟩) k := fun k hk => ⟨(h.x k hk).1,fun e => (h.x k hk).2 (hS k (h.x k hk).1 e)⟩
 refine ⟨?_,?_,?_,?_,h.old.move hu7 (fun _ _ e => .inl e) hS',?_,fun k hk => ⟨Nat.lt_of_lt_of_le (hx6 k hk).1 hu7.size,(hx6 k hk).2⟩,h.nB,h.nm,h.bm,h.gB,?_⟩
 ·rw [Below.heap_setCell _ _ _ _ (by simp only; exact fun e => hgB.1 e.symm)]
  refine (Upd.of_grown g6 (S := fun k => ∃ y,la = some y ∧ y.block = k) (fun k hk _ => LW.lc_ob la _ _ k hk)).heap (hu5.heap h.b h.bm) ?_
  rintro ⟨y,e1,e2⟩
  exact (h.lB y e1).1 e2
 ·have : spE (O.flatten ++ (cur ++ [x])) = spE (O.flatten ++ cur) ++ [(x.id,x.v)] := by simp [spE]
  rw [this]
  have h5 : IM w5 m (spE (O.flatten ++ cur) ++ [(x.id,x.v)]) := h4.below b5
  have h6' : IM w6 m (spE (O.flatten ++ cur) ++ [(x.id,x.v)]) := h5.upd (Upd.of_grown g6 (S := fun k => ∃ y,la = some y ∧ y.block = k) (fun k hk _ => LW.lc_ob la _ _ k hk)) (by rintro ⟨y,e1,e2⟩; exact (h.lB y e1).2.1 e2)
  exact h6'.upd (S := fun k => k = g) ((Upd.refl _ _).setCell _ _ (fun _ => rfl)) (fun e => hgB.2 e.symm)
 ·have r5 : w5.ownsRow N 51 1 (.slice ga (O.length + 1) gc) (O.length + 1) (ov.map IL.v ++ [.slice la cur.length lc]) := owns_upd h.row hu5 (fun k hk e => by rw [hg] at hk; have := Option.some.inj hk; simp only at this; omega)
  have r6 : w6.ownsRow N 51 1 (.slice ga (O.length + 1) gc) (O.length + 1) (ov.map IL.v ++ [.slice la cur.length lc]) := owns_upd r5 (Upd.of_grown g6 (S := fun k => ∃ y,la = some y ∧ y.block = k) (fun k hk _ => LW.lc_ob la _ _ k hk)) (fun k hk => by
   rintro ⟨y,e1,e2⟩
   rw [hg] at hk
   have := Option.some.inj hk
   simp only at this
   exact hgg y e1 (by omega))
  subst hg
  have := owns_setLast (u' := .slice (some ⟨g',0,none⟩) (cur.length + 1) c') r6 (by rw [List.length_map,h.old.len])
  rw [List.length_append]
  exact this
 ·rw [List.length_append,List.map_append]
  exact ownsRow_setCell_other o6 (by simp only [Value.ownBlock]; intro e; exact hg'lt (Option.some.inj e)) _
 ·intro y hy
  rw [← List.append_assoc] at hy
  rcases List.mem_append.1 hy with hy | hy
  ·exact (h.sp y hy).move hu7 (fun _ _ e => .inl e) hS'
  ·rw [List.mem_singleton.1 hy]
   exact hx.move hu7 (fun _ _ e => .inl e) hS'
 ·intro y e
  cases e
  refine ⟨hg'B.1,hg'B.2,fun z e2 => ?_⟩
  rw [hg] at e2
  cases e2
  exact fun e => hg'lt e
theorem LQ.next (h : LQ W X B m N A ga gc nd lf inn fl bk s O ov) {w5 w6 : World} (b5 : Below W.heap.size W w5) {g' c' : Nat} (o6 : w6.ownsRow N 51 1 (.slice (some ⟨g',0,none⟩) (O.length + 1) c') (O.length + 1) (ov.map IL.v ++ [.slice none 0 0])) (g6 : w5.grownBy w6 (Value.slice ga O.length gc).ownBlock) (k6 : (Value.slice ga O.length gc).ownBlock = some g' ∨ w5.heap.size ≤ g') :
  LW (w6.setCell ⟨B,7,none⟩ (.slice (some ⟨g',0,none⟩) (O.length + 1) c')) X B m N A (some ⟨g',0,none⟩) c' none 0 nd lf inn fl bk s O ov [] := by
 have hu6 : Upd (LMut B m ga none) W w6 := (Upd.of_below b5 (LMut B m ga none)).then (Upd.of_grown g6 (S := fun k => ∃ y,ga = some y ∧ y.block = k) (fun k hk _ => LW.lc_ob ga _ _ k hk)) (fun k _ e => .inr (.inr (.inl e)))
 have hu7 : Upd (LMut B m ga none) W (w6.setCell ⟨B,7,none⟩ (.slice (some ⟨g',0,none⟩) (O.length + 1) c')) := hu6.setCell _ _ (fun _ => .inl rfl)
 have hs5 := b5.size
 have hnew : ∀ k,k < W.heap.size → (∃ y : Addr,some (⟨g',0,none⟩ : Addr) = some y ∧ y.block = k) → ∃ y,ga = some y ∧ y.block = k := by
  rintro k hk ⟨y,e1,e2⟩
  cases e1
  rcases k6 with k6 | k6
  ·obtain ⟨z,e3,e4⟩ := LW.lc_ob ga _ _ g' k6
   exact ⟨z,e3,e4.trans e2⟩
  ·simp only at e2; omega
 have hS : ∀ k,k < W.heap.size → LMut B m (some ⟨g',0,none⟩) none k → LMut B m ga none k := fun k hk e => by
  rcases e with e | e | e | ⟨y,e,_⟩
  ·exact .inl e
  ·exact .inr (.inl e)
  ·exact .inr (.inr (.inl (hnew k hk e)))
  ·cases e
 have hS' : ∀ k,k < W.heap.size → LAv X B m (some ⟨g',0,none⟩) none k → LAv X B m ga none k := fun k hk e => e.imp (hS k hk) id
 have hx6 : ∀ k,X k → k < W.heap.size ∧ ¬ LMut B m (some ⟨g',0,none⟩) none k := fun k hk => ⟨(h.x k hk).1,fun e => (h.x k hk).2 (hS k (h.x k hk).1 e)⟩
 have hBl : B < W.heap.size := lt_of_block h.b
 have hml : m < W.heap.size := h.im.lt
 have hg'B : g' ≠ B ∧ g' ≠ m := by
  rcases k6 with k6 | k6
  ·obtain ⟨y,e1,e2⟩ := LW.lc_ob ga _ _ g' k6
   have := h.gB y e1
   rw [e2] at this
   exact this
  ·omega
 refine ⟨?_,?_,?_,World.ownsRow_nil _ _ _ _,h.old.move hu7 (fun _ _ e => .inl e) hS',?_,fun k hk => ⟨Nat.lt_of_lt_of_le (hx6 k hk).1 hu7.size,(hx6 k hk).2⟩,h.nB,h.nm,h.bm,?_,(fun y e => by cases e)⟩
 ·have hb6 : w6.heap[B]? = some (.cells (lookC A nd lf inn fl bk m (.slice ga O.length gc)) 178 (0,0)) := by
   refine (Upd.of_grown g6 (S := fun k => ∃ y,ga = some y ∧ y.block = k) (fun k hk _ => LW.lc_ob ga _ _ k hk)).heap ((b5.block _ hBl).trans h.b) ?_
   rintro ⟨y,e1,e2⟩
   exact (h.gB y e1).1 e2
  exact block_setCell hb6 7 _
 ·rw [List.append_nil]
  have h6' : IM w6 m (spE O.flatten) := (h.im.below b5).upd (Upd.of_grown g6 (S := fun k => ∃ y,ga = some y ∧ y.block = k) (fun k hk _ => LW.lc_ob ga _ _ k hk)) (by rintro ⟨y,e1,e2⟩; exact (h.gB y e1).2 e2)
  exact h6'.upd (S := fun k => k = B) ((Upd.refl _ _).setCell _ _ (fun _ => rfl)) (fun e => h.bm e.symm)
 ·exact ownsRow_setCell_other o6 (by simp only [Value.ownBlock]; intro e; exact hg'B.1 (Option.some.inj e)) _
 ·intro y hy
  rw [List.append_nil] at hy
  exact (h.sp y hy).move hu7 (fun _ _ e => .inl e) hS'
 ·intro y e
  cases e
  exact hg'B
end
end Go.Proofs.YtljnapejgjffjaaGreat
