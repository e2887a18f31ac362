/- Texts of one's own. -/
import Derived.Test.YtljnapejgjffjaaGreatH12
import Derived.ArgAppend
import Derived.Deep.Upon
namespace Go.Proofs.YtljnapejgjffjaaGreat
open Go.RowKit
set_option maxRecDepth 100000
def VC (W : World) (a : Option Addr) (xs : List Value) : Prop := ∀ i (h : i < xs.length),∃ b o,a = some ⟨b,o,none⟩ ∧ W.cell? ⟨b,o + i,none⟩ = some xs[i]
structure VOk (W : World) (a : Option Addr) (c : Nat) (xs : List Value) : Prop where
 r : VC W a xs
 n : a = none → xs.length = 0 ∧ c = 0
 lc : xs.length ≤ c
theorem VC.below {W W' : World} {a : Option Addr} {xs : List Value} (h : VC W a xs) (hb : Below W.heap.size W W') : VC W' a xs := by
 intro i hi
 obtain ⟨b,o,ha,hc⟩ := h i hi
 exact ⟨b,o,ha,(hb.cell (p := ⟨b,o + i,none⟩) (World.block_lt_of_cell? W ⟨b,o + i,none⟩ hc)).trans hc⟩
theorem VOk.below {W W' : World} {a : Option Addr} {c : Nat} {xs : List Value} (h : VOk W a c xs) (hb : Below W.heap.size W W') : VOk W' a c xs := ⟨h.r.below hb,h.n,h.lc⟩
theorem VC.nil (W : World) (a : Option Addr) : VC W a [] := fun i hi => absurd hi (Nat.not_lt_zero i)
theorem VC.take {W : World} {a : Option Addr} {xs : List Value} (h : VC W a xs) (n : Nat) : VC W a (xs.take n) := by
 intro i hi
 have hi' : i < n ∧ i < xs.length := by rw [List.length_take] at hi; omega
 obtain ⟨b,o,ha,hc⟩ := h i hi'.2
 refine ⟨b,o,ha,?_⟩
 rw [List.getElem_take]; exact hc
theorem VC.drop {W : World} {a : Option Addr} {xs : List Value} (h : VC W a xs) (n m : Nat) (hm : xs.length ≤ m) : VC W (cutAt a n m) (xs.drop n) := by
 intro i hi
 have hi' : n + i < xs.length := by rw [List.length_drop] at hi; omega
 obtain ⟨b,o,rfl,hc⟩ := h (n + i) hi'
 refine ⟨b,o + n,?_,?_⟩
 ·unfold cutAt; rw [if_neg (by omega)]; simp [Addr.add_lit]
 ·rw [List.getElem_drop,Nat.add_assoc]; exact hc
theorem VC.news {W : World} {a : Option Addr} {xs : List Value} (h : VC W a xs) : ∀ ad,a = some ad → ∀ j u,xs[j]? = some u → W.cell? (ad.add j) = some u := by
 intro ad had j u hu
 obtain ⟨hj,hu⟩ := List.getElem?_eq_some_iff.1 hu
 obtain ⟨b,o,ha,hc⟩ := h j hj
 rw [had] at ha
 obtain rfl := Option.some.inj ha
 rw [Addr.add_lit,hc,hu]
theorem VC.upd {W W' : World} {S : Nat → Prop} {a : Option Addr} {xs : List Value} (h : VC W a xs) (hb : Upd S W W') (hs : ∀ x,a = some x → 0 < xs.length → ¬ S x.block) : VC W' a xs := by
 intro i hi
 obtain ⟨b,o,ha,hc⟩ := h i hi
 exact ⟨b,o,ha,hb.cell hc (hs ⟨b,o,none⟩ ha (by omega))⟩
theorem VOk.upd {W W' : World} {S : Nat → Prop} {a : Option Addr} {c : Nat} {xs : List Value} (h : VOk W a c xs) (hb : Upd S W W') (hs : ∀ x,a = some x → 0 < xs.length → ¬ S x.block) : VOk W' a c xs := ⟨h.r.upd hb hs,h.n,h.lc⟩
theorem VC.lt {W : World} {a : Option Addr} {xs : List Value} (h : VC W a xs) : ∀ x,a = some x → 0 < xs.length → x.block < W.heap.size := by
 intro x hx hp
 obtain ⟨b,o,ha,hc⟩ := h 0 hp
 rw [hx] at ha
 cases ha
 exact World.block_lt_of_cell? W ⟨b,o + 0,none⟩ hc
theorem cutAt_none {k : Option Addr} {n m : Nat} (h : cutAt k n m = none) : k = none := by
 unfold cutAt at h
 split at h
 ·exact h
 ·cases k with
  | none => rfl
  | some x => cases h
theorem VOk.cutL {W : World} {a : Option Addr} {c : Nat} {xs : List Value} (h : VOk W a c xs) (m : Nat) (hm : m ≤ xs.length) : VOk W a m (xs.take m) :=
 ⟨h.r.take m,fun e => by have := (h.n e).1; rw [List.length_take]; omega,by rw [List.length_take]; omega⟩
theorem VOk.cutR {W : World} {a : Option Addr} {c : Nat} {xs : List Value} (h : VOk W a c xs) (m : Nat) : VOk W (cutAt a m xs.length) (xs.length - m) (xs.drop m) :=
 ⟨h.r.drop m xs.length (Nat.le_refl _),fun e => by have := (h.n (cutAt_none e)).1; rw [List.length_drop]; omega,by rw [List.length_drop]; omega⟩
theorem vok_of_owns {w : World} {base : Nat} {e : TypeId} {v : Value} {n : Nat} {xs : List Value} (h : w.ownsRow base e 1 v n xs) : ∃ a c,v = .slice a n c ∧ VOk w a c xs ∧ ∀ x,a = some x → base ≤ x.block ∧ ∃ cur,w.heap[x.block]? = some (.cells cur e (0,0)) ∧ x.off = 0 ∧ cur.size = c ∧ c ≤ maxLen := by
 have hl : xs.length = n := by simpa using h.1
 rcases h.2 with ⟨hv,h0⟩ | ⟨g,cap,cur,hv,hb,hh,h1,h2,h3,h4⟩
 ·subst h0
  obtain rfl : xs = [] := List.eq_nil_of_length_eq_zero hl
  exact ⟨none,0,hv,⟨VC.nil _ _,fun _ => ⟨rfl,rfl⟩,Nat.le_refl _⟩,fun x hx => by cases hx⟩
 ·refine ⟨some ⟨g,0,none⟩,cap,hv,⟨fun i hi => ⟨g,0,rfl,?_⟩,fun e => (by cases e),by omega⟩,fun x hx => by cases hx; exact ⟨hb,cur,hh,rfl,by omega,h2⟩⟩
  rw [Nat.zero_add,cell_of_row _ _ _ _ _ _ hh,← Array.getElem?_toList]
  have : (cur.toList.take (n * 1))[i]? = some xs[i] := by rw [h4]; exact List.getElem?_eq_getElem hi
  rw [List.getElem?_take,if_pos (by omega)] at this
  exact this
theorem one_new (w : World) (x : Value) (T : TypeId) : ∀ j u,[x][j]? = some u → (w.alloc (.cells #[x] T)).cell? ((⟨w.heap.size,0,none⟩ : Addr).add j) = some u := by
 intro j u hu
 rw [Addr.add_lit,Nat.zero_add,cell_of_row _ _ _ _ _ _ (heap_alloc_new w _)]
 match j,hu with
 | 0,hu => simpa using hu
theorem infoT : (Tryz.prog.info? 29).map (fun i => (i.zero,i.size,i.bytes)) = some (some (.slice none 0 0),1,24) := by kernel_rfl
theorem elemT : Tryz.prog.elem 106 = 29 := by kernel_rfl
theorem sizeT (W : World) : (sizeOf 29).run Tryz.prog W = .ok 1 W := by
 obtain ⟨i0,hi,hz0,hz1,hz2⟩ := info_parts infoT
 simp [sizeOf,typeInfo,hi,hz1]
theorem undT : Tryz.prog.underlying 106 = some (.slice (Tryz.prog.elem 106)) := by rw [elemT]; exact Tryz.underlying106
theorem hmT (k : Option Addr) (l c m : Nat) (hm : m ≤ c) (W : World) : (Instr.slice 106 (.slice k l c) none (some (.int .i64 (m : Int))) (some (.int .i64 (m : Int)))).run Tryz.prog W = .ok (.slice k m m) W := by
 rw [run_slice_hm (P := Tryz.prog) W 106 k l c undT .i64 .i64 (m : Int) (m : Int) (by omega) (by omega) (by omega),elemT,sizeT]
 cases k <;> simp [Result.andThen,sliced,Addr.add]
theorem lhmT (k : Option Addr) (l c n m : Nat) (hn : n ≤ m) (hm : m ≤ c) (W : World) : (Instr.slice 106 (.slice k l c) (some (.int .i64 (n : Int))) (some (.int .i64 (m : Int))) (some (.int .i64 (m : Int)))).run Tryz.prog W = .ok (.slice (cutAt k n m) (m - n) (m - n)) W := by
 rw [run_slice_lhm (P := Tryz.prog) W 106 k l c undT .i64 .i64 .i64 (n : Int) (m : Int) (m : Int) (by omega) (by omega) (by omega) (by omega),elemT,sizeT]
 simp [Result.andThen,sliced,cutAt]
set_option maxHeartbeats 800000 in
theorem cutT_any (a : Option Addr) (l c at' : Nat) (w : World) (hl : l ≤ c) (hm : l ≤ 140737488355328) (ha : at' ≤ 4611686018427387904) :
  Calls Tryz.prog 177 #[.slice a l c,.int .i64 (at' : Int)] w fun e w' => e = .returned (.tuple #[.slice a (min at' l) (min at' l),.slice (cutAt a (min at' l) l) (l - min at' l) (l - min at' l)]) ∧ ∃ m,w' = w.drewN m := by
 obtain ⟨m,hmm⟩ : ∃ m,m = min at' l := ⟨_,rfl⟩
 rw [← hmm]
 have q1 := fun W => hmT a l c m (by omega) W
 have q2 := fun W => lhmT a l c m l (by omega) hl W
 by_cases h : l < at'
 ·have i1 : (l : Int) < (at' : Int) := by omega
  obtain rfl : m = l := by omega
  rw [Nat.sub_self]
  clear hmm
  go_enter Tryz.func177,Tryz.ntmps177
  go_wp2
  go_quiet (fail)
  go_wp2
  go_ret2
  exact ⟨rfl,_,rfl⟩
 ·have i1 : ¬ (l : Int) < (at' : Int) := by omega
  obtain rfl : m = at' := by omega
  clear hmm
  go_enter Tryz.func177,Tryz.ntmps177
  go_wp2
  go_quiet (fail)
  go_wp2
  go_ret2
  exact ⟨rfl,_,rfl⟩
def InsT (w : World) (xs : List Value) (at' : Nat) (x : Value) (e : Ending) (w' : World) : Prop :=
 ∃ v,e = .returned v ∧ w'.ownsRow w.heap.size 29 1 v (xs.length + 1) (xs.take at' ++ x :: xs.drop at') ∧ Below w.heap.size w w'
set_option maxHeartbeats 1600000 in
theorem insT_any (a : Option Addr) (l c at' : Nat) (xs : List Value) (x : Value) (w : World) (hl : xs.length = l) (hO : VOk w a c xs) (h1 : ∀ u ∈ xs,u.oneCell' = true) (hx : ∃ xa xn xc,x = .slice xa xn xc) (hm : l * 24 ≤ 140737488355000) (ha : at' ≤ 4611686018427387904) :
  Calls Tryz.prog 201 #[.slice a l c,.int .i64 (at' : Int),x] w (InsT w xs at' x) := by
 obtain ⟨i0,hi,hz0,hz1,hz2⟩ := info_parts infoT
 have HC := hide (cutT_any a l c at' w (by rw [← hl]; exact hO.lc) (by omega) ha)
 obtain ⟨m,hmm⟩ : ∃ m,m = min at' l := ⟨_,rfl⟩
 rw [← hmm] at HC
 have HL := hide (hO.cutL m (by omega))
 have HR := hide (hO.cutR m)
 rw [hl] at HR
 have el : xs.take m = xs.take at' := by
  rw [hmm,← hl]
  by_cases h : at' ≤ xs.length
  ·rw [Nat.min_eq_left h]
  ·rw [Nat.min_eq_right (by omega),List.take_length,List.take_of_length_le (by omega)]
 have er : xs.drop m = xs.drop at' := by
  rw [hmm,← hl]
  by_cases h : at' ≤ xs.length
  ·rw [Nat.min_eq_left h]
  ·rw [Nat.min_eq_right (by omega),List.drop_length,List.drop_eq_nil_of_le (by omega)]
 have HEQ : Hid (xs.take at' ++ x :: xs.drop at' = (xs.take m ++ [x]) ++ xs.drop m) := by show _ = _; rw [el,er,List.append_assoc]; rfl
 have hml : m ≤ l := by omega
 have z1 : (xs.take m).length = m := by rw [List.length_take]; omega
 have z2 : (xs.drop m).length = l - m := by rw [List.length_drop]; omega
 have HZ2 := hide z2
 have HZ1 := hide z1
 have HN := hide hl
 have o1 : Hid (∀ u ∈ xs.drop m,u.oneCell' = true) := fun u hu => h1 u (List.mem_of_mem_drop hu)
 clear hO h1 hmm el er z1 z2 hl
 generalize xs.take m = ys at *
 generalize xs.drop m = zs at *
 obtain ⟨xa,xn,xc,rfl⟩ := hx
 go_enter Tryz.func201,Tryz.ntmps201
 go_wp2_with fail
 refine HC.out.mono ?_
 rintro e w1 ⟨rfl,q,rfl⟩
 have HL1 : Hid (VOk (w.drewN q) a m ys) := ⟨HL.out.r,HL.out.n,HL.out.lc⟩
 have HR1 : Hid (VOk (w.drewN q) (cutAt a m l) (l - m) zs) := ⟨HR.out.r,HR.out.n,HR.out.lc⟩
 clear HC HL HR
 go_wp2_with (first
  | (at_builtin; refine wpList_append_grows _ rfl (.tmp 15) (.tmp 17) 106 rfl 29 i0 (.slice none 0 0) 1 24 Tryz.underlying106 hi hz0 hz1 hz2 rfl (by decide) a m m ys rfl (fun e => by have := (HL1.out.n e).2; omega) (by rw [HZ1.out]; omega) (((HL1.out.below ((Below.refl _ _).alloc (Nat.le_refl _) _)).r).news) ⟨(w.drewN q).heap.size,0,none⟩ 1 1 [.slice xa xn xc] rfl rfl (one_new _ _ _) (by intro u hu; simp at hu; subst hu; rfl) (by omega) (by unfold maxLen; omega) (by omega) ?_; intro v2 w2 hown2 hg2; have HO2 := hide hown2; have HG2 := hide hg2; clear hown2 hg2)
  | (at_builtin; refine append_own_any rfl (.tmp 18) (.tmp 19) 106 rfl w.heap.size 29 i0 (.slice none 0 0) 1 24 Tryz.underlying106 hi hz0 hz1 hz2 rfl (by decide) v2 (m + 1) (ys ++ [.slice xa xn xc]) rfl (owns_mono HO2.out (by simp)) (cutAt a m l) (l - m) (l - m) zs rfl (by rw [HZ2.out]; omega) (fun e => by have := (HR1.out.n e).1; rw [HZ2.out] at this; omega) (((HR1.out.below (by exact ((Below.refl _ _).alloc (Nat.le_refl _) _).grown HG2.out (by simp) (fun k h => by cases h))).r).news) o1.out (by unfold maxLen; omega) (by omega) (by have := HG2.out.size; simp at this; omega) ?_; intro v3 w3 hown3 hg3; have HO3 := hide hown3; have HG3 := hide hg3; clear hown3 hg3)
  | fail)
 go_ret
 have s2 := HG2.out.size
 simp at s2
 refine ⟨v3,rfl,?_,?_⟩
 ·rw [HEQ.out,HN.out]
  have := HO3.out
  rwa [show m + 1 + (l - m) = l + 1 by omega] at this
 ·have b1 : Below w.heap.size w w2 := (((below_drewN (Below.refl _ _) q).alloc (by simp) _)).grown HG2.out (by simp) (fun k h => by cases h)
  refine b1.grown HG3.out (by omega) (fun k h => ?_)
  have := (HO2.out.lt k h).1
  simp at this
  omega
def ClnT (w : World) (xs : List Value) (e : Ending) (w' : World) : Prop :=
 ∃ v,e = .returned v ∧ w'.ownsRow w.heap.size 29 1 v xs.length xs ∧ Below w.heap.size w w'
set_option maxHeartbeats 800000 in
theorem clnT_some (y : Addr) (l c : Nat) (xs : List Value) (w : World) (hl : xs.length = l) (hO : VOk w (some y) c xs) (h1 : ∀ u ∈ xs,u.oneCell' = true) (hm : l * 24 ≤ 140737488355328) :
  Calls Tryz.prog 182 #[.slice (some y) l c] w (ClnT w xs) := by
 obtain ⟨i0,hi,hz0,hz1,hz2⟩ := info_parts infoT
 have HO := hide hO
 have HN := hide hl
 clear hO hl
 have qn : ∀ w : World,(binOp .eql 106 (.slice (some y) l c) (.slice none 0 0)).run Tryz.prog w = .ok (.bool false) w := fun w => Lib.run_eql_slice_nil w _ _ _ _ _ _ _ Tryz.underlying106
 go_enter Tryz.func182,Tryz.ntmps182
 go_wp2_with (first
  | (at_builtin; refine append_own_any rfl (.tmp 5) (.tmp 6) 106 rfl w.heap.size 29 i0 (.slice none 0 0) 1 24 Tryz.underlying106 hi hz0 hz1 hz2 rfl (by decide) (.slice (some ⟨w.heap.size,0,none⟩) 0 0) 0 [] rfl ⟨rfl,.inr ⟨w.heap.size,0,#[],rfl,Nat.le_refl _,heap_alloc_new w _,Nat.le_refl _,by unfold maxLen; omega,rfl,rfl⟩⟩ (some y) l c xs rfl (by rw [HN.out]; omega) (by intro h; cases h) ((HO.out.below ((Below.refl _ _).alloc (Nat.le_refl _) _)).r.news) h1 (by unfold maxLen; omega) (by omega) (by simp) ?_; intro v4 w4 hown4 hg4; have HO4 := hide hown4; have HG4 := hide hg4; clear hown4 hg4)
  | fail)
 go_ret
 refine ⟨v4,rfl,?_,?_⟩
 ·have := HO4.out
  simp only [List.nil_append,Nat.zero_add] at this
  rw [HN.out]; exact this
 ·exact ((Below.refl _ _).alloc (Nat.le_refl _) _).grown HG4.out (by simp) (fun k h => by cases h; exact Nat.le_refl _)
set_option maxHeartbeats 400000 in
theorem clnT_nil (w : World) : Calls Tryz.prog 182 #[.slice none 0 0] w fun e w' => e = .returned (.slice none 0 0) ∧ w' = w := by
 have qn : ∀ w : World,(binOp .eql 106 (.slice none 0 0) (.slice none 0 0)).run Tryz.prog w = .ok (.bool true) w := fun w => Lib.run_eql_slice_nil w _ _ _ _ _ _ _ Tryz.underlying106
 go_enter Tryz.func182,Tryz.ntmps182
 go_wp2
 go_ret
 exact ⟨rfl,rfl⟩
theorem clnT_any (a : Option Addr) (l c : Nat) (xs : List Value) (w : World) (hl : xs.length = l) (hO : VOk w a c xs) (h1 : ∀ u ∈ xs,u.oneCell' = true) (hm : l * 24 ≤ 140737488355328) :
  Calls Tryz.prog 182 #[.slice a l c] w (ClnT w xs) := by
 cases a with
 | some y => exact clnT_some y l c xs w hl hO h1 hm
 | none =>
  obtain ⟨h0,rfl⟩ := hO.n rfl
  obtain rfl : xs = [] := List.eq_nil_of_length_eq_zero h0
  obtain rfl : l = 0 := by simpa using hl.symm
  refine (clnT_nil w).mono fun e w' ⟨h1,h2⟩ => ⟨_,h1,World.ownsRow_nil _ _ _ _,by rw [h2]; exact Below.refl _ _⟩
theorem infoI : (Tryz.prog.info? 3).map (fun i => (i.zero,i.size,i.bytes)) = some (some (.int .i64 0),1,8) := by kernel_rfl
theorem elemI : Tryz.prog.elem 51 = 3 := by kernel_rfl
theorem sizeI (W : World) : (sizeOf 3).run Tryz.prog W = .ok 1 W := by
 obtain ⟨i0,hi,hz0,hz1,hz2⟩ := info_parts infoI
 simp [sizeOf,typeInfo,hi,hz1]
theorem undI : Tryz.prog.underlying 51 = some (.slice (Tryz.prog.elem 51)) := by rw [elemI]; exact Tryz.underlying51
theorem hmI (k : Option Addr) (l c m : Nat) (hm : m ≤ c) (W : World) : (Instr.slice 51 (.slice k l c) none (some (.int .i64 (m : Int))) (some (.int .i64 (m : Int)))).run Tryz.prog W = .ok (.slice k m m) W := by
 rw [run_slice_hm (P := Tryz.prog) W 51 k l c undI .i64 .i64 (m : Int) (m : Int) (by omega) (by omega) (by omega),elemI,sizeI]
 cases k <;> simp [Result.andThen,sliced,Addr.add]
theorem lhmI (k : Option Addr) (l c n m : Nat) (hn : n ≤ m) (hm : m ≤ c) (W : World) : (Instr.slice 51 (.slice k l c) (some (.int .i64 (n : Int))) (some (.int .i64 (m : Int))) (some (.int .i64 (m : Int)))).run Tryz.prog W = .ok (.slice (cutAt k n m) (m - n) (m - n)) W := by
 rw [run_slice_lhm (P := Tryz.prog) W 51 k l c undI .i64 .i64 .i64 (n : Int) (m : Int) (m : Int) (by omega) (by omega) (by omega) (by omega),elemI,sizeI]
 simp [Result.andThen,sliced,cutAt]
set_option maxHeartbeats 800000 in
theorem cutI_any (a : Option Addr) (l c at' : Nat) (w : World) (hl : l ≤ c) (hm : l ≤ 140737488355328) (ha : at' ≤ 4611686018427387904) :
  Calls Tryz.prog 209 #[.slice a l c,.int .i64 (at' : Int)] w fun e w' => e = .returned (.tuple #[.slice a (min at' l) (min at' l),.slice (cutAt a (min at' l) l) (l - min at' l) (l - min at' l)]) ∧ ∃ m,w' = w.drewN m := by
 obtain ⟨m,hmm⟩ : ∃ m,m = min at' l := ⟨_,rfl⟩
 rw [← hmm]
 have q1 := fun W => hmI a l c m (by omega) W
 have q2 := fun W => lhmI a l c m l (by omega) hl W
 by_cases h : l < at'
 ·have i1 : (l : Int) < (at' : Int) := by omega
  obtain rfl : m = l := by omega
  rw [Nat.sub_self]
  clear hmm
  go_enter Tryz.func209,Tryz.ntmps209
  go_wp2
  go_quiet (fail)
  go_wp2
  go_ret2
  exact ⟨rfl,_,rfl⟩
 ·have i1 : ¬ (l : Int) < (at' : Int) := by omega
  obtain rfl : m = at' := by omega
  clear hmm
  go_enter Tryz.func209,Tryz.ntmps209
  go_wp2
  go_quiet (fail)
  go_wp2
  go_ret2
  exact ⟨rfl,_,rfl⟩
def InsI (w : World) (xs : List Value) (at' : Nat) (x : Value) (e : Ending) (w' : World) : Prop :=
 ∃ v,e = .returned v ∧ w'.ownsRow w.heap.size 3 1 v (xs.length + 1) (xs.take at' ++ x :: xs.drop at') ∧ Below w.heap.size w w'
set_option maxHeartbeats 1600000 in
theorem insI_any (a : Option Addr) (l c at' : Nat) (xs : List Value) (x : Value) (w : World) (hl : xs.length = l) (hO : VOk w a c xs) (h1 : ∀ u ∈ xs,u.oneCell' = true) (hx : ∃ n,x = .int .i64 n) (hm : l * 8 ≤ 140737488355000) (ha : at' ≤ 4611686018427387904) :
  Calls Tryz.prog 202 #[.slice a l c,.int .i64 (at' : Int),x] w (InsI w xs at' x) := by
 obtain ⟨i0,hi,hz0,hz1,hz2⟩ := info_parts infoI
 have HC := hide (cutI_any a l c at' w (by rw [← hl]; exact hO.lc) (by omega) ha)
 obtain ⟨m,hmm⟩ : ∃ m,m = min at' l := ⟨_,rfl⟩
 rw [← hmm] at HC
 have HL := hide (hO.cutL m (by omega))
 have HR := hide (hO.cutR m)
 rw [hl] at HR
 have el : xs.take m = xs.take at' := by
  rw [hmm,← hl]
  by_cases h : at' ≤ xs.length
  ·rw [Nat.min_eq_left h]
  ·rw [Nat.min_eq_right (by omega),List.take_length,List.take_of_length_le (by omega)]
 have er : xs.drop m = xs.drop at' := by
  rw [hmm,← hl]
  by_cases h : at' ≤ xs.length
  ·rw [Nat.min_eq_left h]
  ·rw [Nat.min_eq_right (by omega),List.drop_length,List.drop_eq_nil_of_le (by omega)]
 have HEQ : Hid (xs.take at' ++ x :: xs.drop at' = (xs.take m ++ [x]) ++ xs.drop m) := by show _ = _; rw [el,er,List.append_assoc]; rfl
 have hml : m ≤ l := by omega
 have z1 : (xs.take m).length = m := by rw [List.length_take]; omega
 have z2 : (xs.drop m).length = l - m := by rw [List.length_drop]; omega
 have HZ2 := hide z2
 have HZ1 := hide z1
 have HN := hide hl
 have o1 : Hid (∀ u ∈ xs.drop m,u.oneCell' = true) := fun u hu => h1 u (List.mem_of_mem_drop hu)
 clear hO h1 hmm el er z1 z2 hl
 generalize xs.take m = ys at *
 generalize xs.drop m = zs at *
 obtain ⟨xn,rfl⟩ := hx
 go_enter Tryz.func202,Tryz.ntmps202
 go_wp2_with fail
 refine HC.out.mono ?_
 rintro e w1 ⟨rfl,q,rfl⟩
 have HL1 : Hid (VOk (w.drewN q) a m ys) := ⟨HL.out.r,HL.out.n,HL.out.lc⟩
 have HR1 : Hid (VOk (w.drewN q) (cutAt a m l) (l - m) zs) := ⟨HR.out.r,HR.out.n,HR.out.lc⟩
 clear HC HL HR
 go_wp2_with (first
  | (at_builtin; refine wpList_append_grows _ rfl (.tmp 15) (.tmp 17) 51 rfl 3 i0 (.int .i64 0) 1 8 Tryz.underlying51 hi hz0 hz1 hz2 rfl (by decide) a m m ys rfl (fun e => by have := (HL1.out.n e).2; omega) (by rw [HZ1.out]; omega) (((HL1.out.below ((Below.refl _ _).alloc (Nat.le_refl _) _)).r).news) ⟨(w.drewN q).heap.size,0,none⟩ 1 1 [.int .i64 xn] rfl rfl (one_new _ _ _) (by intro u hu; simp at hu; subst hu; rfl) (by omega) (by unfold maxLen; omega) (by omega) ?_; intro v2 w2 hown2 hg2; have HO2 := hide hown2; have HG2 := hide hg2; clear hown2 hg2)
  | (at_builtin; refine append_own_any rfl (.tmp 18) (.tmp 19) 51 rfl w.heap.size 3 i0 (.int .i64 0) 1 8 Tryz.underlying51 hi hz0 hz1 hz2 rfl (by decide) v2 (m + 1) (ys ++ [.int .i64 xn]) rfl (owns_mono HO2.out (by simp)) (cutAt a m l) (l - m) (l - m) zs rfl (by rw [HZ2.out]; omega) (fun e => by have := (HR1.out.n e).1; rw [HZ2.out] at this; omega) (((HR1.out.below (by exact ((Below.refl _ _).alloc (Nat.le_refl _) _).grown HG2.out (by simp) (fun k h => by cases h))).r).news) o1.out (by unfold maxLen; omega) (by omega) (by have := HG2.out.size; simp at this; omega) ?_; intro v3 w3 hown3 hg3; have HO3 := hide hown3; have HG3 := hide hg3; clear hown3 hg3)
  | fail)
 go_ret
 have s2 := HG2.out.size
 simp at s2
 refine ⟨v3,rfl,?_,?_⟩
 ·rw [HEQ.out,HN.out]
  have := HO3.out
  rwa [show m + 1 + (l - m) = l + 1 by omega] at this
 ·have b1 : Below w.heap.size w w2 := (((below_drewN (Below.refl _ _) q).alloc (by simp) _)).grown HG2.out (by simp) (fun k h => by cases h)
  refine b1.grown HG3.out (by omega) (fun k h => ?_)
  have := (HO2.out.lt k h).1
  simp at this
  omega
def ClnI (w : World) (xs : List Value) (e : Ending) (w' : World) : Prop :=
 ∃ v,e = .returned v ∧ w'.ownsRow w.heap.size 3 1 v xs.length xs ∧ Below w.heap.size w w'
set_option maxHeartbeats 800000 in
theorem clnI_some (y : Addr) (l c : Nat) (xs : List Value) (w : World) (hl : xs.length = l) (hO : VOk w (some y) c xs) (h1 : ∀ u ∈ xs,u.oneCell' = true) (hm : l * 8 ≤ 140737488355328) :
  Calls Tryz.prog 163 #[.slice (some y) l c] w (ClnI w xs) := by
 obtain ⟨i0,hi,hz0,hz1,hz2⟩ := info_parts infoI
 have HO := hide hO
 have HN := hide hl
 clear hO hl
 have qn : ∀ w : World,(binOp .eql 51 (.slice (some y) l c) (.slice none 0 0)).run Tryz.prog w = .ok (.bool false) w := fun w => Lib.run_eql_slice_nil w _ _ _ _ _ _ _ Tryz.underlying51
 go_enter Tryz.func163,Tryz.ntmps163
 go_wp2_with (first
  | (at_builtin; refine append_own_any rfl (.tmp 5) (.tmp 6) 51 rfl w.heap.size 3 i0 (.int .i64 0) 1 8 Tryz.underlying51 hi hz0 hz1 hz2 rfl (by decide) (.slice (some ⟨w.heap.size,0,none⟩) 0 0) 0 [] rfl ⟨rfl,.inr ⟨w.heap.size,0,#[],rfl,Nat.le_refl _,heap_alloc_new w _,Nat.le_refl _,by unfold maxLen; omega,rfl,rfl⟩⟩ (some y) l c xs rfl (by rw [HN.out]; omega) (by intro h; cases h) ((HO.out.below ((Below.refl _ _).alloc (Nat.le_refl _) _)).r.news) h1 (by unfold maxLen; omega) (by omega) (by simp) ?_; intro v4 w4 hown4 hg4; have HO4 := hide hown4; have HG4 := hide hg4; clear hown4 hg4)
  | fail)
 go_ret
 refine ⟨v4,rfl,?_,?_⟩
 ·have := HO4.out
  simp only [List.nil_append,Nat.zero_add] at this
  rw [HN.out]; exact this
 ·exact ((Below.refl _ _).alloc (Nat.le_refl _) _).grown HG4.out (by simp) (fun k h => by cases h; exact Nat.le_refl _)
set_option maxHeartbeats 400000 in
theorem clnI_nil (w : World) : Calls Tryz.prog 163 #[.slice none 0 0] w fun e w' => e = .returned (.slice none 0 0) ∧ w' = w := by
 have qn : ∀ w : World,(binOp .eql 51 (.slice none 0 0) (.slice none 0 0)).run Tryz.prog w = .ok (.bool true) w := fun w => Lib.run_eql_slice_nil w _ _ _ _ _ _ _ Tryz.underlying51
 go_enter Tryz.func163,Tryz.ntmps163
 go_wp2
 go_ret
 exact ⟨rfl,rfl⟩
theorem clnI_any (a : Option Addr) (l c : Nat) (xs : List Value) (w : World) (hl : xs.length = l) (hO : VOk w a c xs) (h1 : ∀ u ∈ xs,u.oneCell' = true) (hm : l * 8 ≤ 140737488355328) :
  Calls Tryz.prog 163 #[.slice a l c] w (ClnI w xs) := by
 cases a with
 | some y => exact clnI_some y l c xs w hl hO h1 hm
 | none =>
  obtain ⟨h0,rfl⟩ := hO.n rfl
  obtain rfl : xs = [] := List.eq_nil_of_length_eq_zero h0
  obtain rfl : l = 0 := by simpa using hl.symm
  refine (clnI_nil w).mono fun e w' ⟨h1,h2⟩ => ⟨_,h1,World.ownsRow_nil _ _ _ _,by rw [h2]; exact Below.refl _ _⟩
set_option maxHeartbeats 800000 in
theorem headOff_any (a : Option Addr) (l c : Nat) (xs : List Value) (w : World) (hl : xs.length = l) (hO : VOk w a c xs) (hm : l ≤ 140737488355328) (hv : ∀ u ∈ xs,∃ xa xn xc,u = .slice xa xn xc) :
  Calls Tryz.prog 178 #[.slice a l c] w fun e w' => ∃ xa xn xc b,e = .returned (.tuple #[.slice xa xn xc,.slice b (l - 1) (l - 1)]) ∧ (0 < l → xs[0]? = some (.slice xa xn xc)) ∧ (l = 0 → Value.slice xa xn xc = .slice none 0 0 ∧ b = none) ∧ VOk w' b (l - 1) (xs.drop 1) ∧ ∃ m,w' = w.drewN m := by
 by_cases h0 : l = 0
 ·subst h0
  have hx : xs = [] := List.eq_nil_of_length_eq_zero hl
  subst hx
  go_enter Tryz.func178,Tryz.ntmps178
  go_wp2
  go_ret2
  exact ⟨none,0,0,none,rfl,fun h => absurd h (by omega),fun _ => ⟨rfl,rfl⟩,⟨VC.nil _ _,fun _ => ⟨rfl,rfl⟩,Nat.le_refl _⟩,0,rfl⟩
 ·have hp : 0 < xs.length := by omega
  obtain ⟨b,o,rfl,hc⟩ := hO.r 0 hp
  have q2 : ∀ W,(Instr.slice 106 (.slice (some ⟨b,o,none⟩) l c) (some (.int .i64 1)) (some (.int .i64 (l : Int))) (some (.int .i64 (l : Int)))).run Tryz.prog W = .ok (.slice (cutAt (some ⟨b,o,none⟩) 1 l) (l - 1) (l - 1)) W := fun W => lhmT (some ⟨b,o,none⟩) l c 1 l (by omega) (by have := hO.lc; omega) W
  have i1 : ((l : Int) == 0) = false := by rw [beq_eq_false_iff_ne]; omega
  have i2 : (0 : Int) < (l : Int) := by omega
  have HR := hide (hO.cutR 1)
  rw [hl] at HR
  have HX : Hid (xs[0]? = some xs[0]) := List.getElem?_eq_getElem hp
  rw [Nat.add_zero] at hc
  obtain ⟨xa,xn,xc,hx⟩ := hv xs[0] (List.getElem_mem hp)
  rw [hx] at HX hc
  clear hO hv hx
  go_enter Tryz.func178,Tryz.ntmps178
  go_wp2
  go_quiet (fail)
  go_wp2
  go_ret2
  exact ⟨xa,xn,xc,_,rfl,fun _ => HX.out,fun h => absurd h h0,⟨HR.out.r,HR.out.n,HR.out.lc⟩,_,rfl⟩
def Rem (w : World) (a0 : Option Addr) (xs : List Value) (at' : Nat) (e : Ending) (w' : World) : Prop :=
 ∃ a c,e = .returned (.slice a (xs.take at' ++ xs.drop (at' + 1)).length c) ∧ VOk w' a c (xs.take at' ++ xs.drop (at' + 1)) ∧ Below w.heap.size w w' ∧ ∀ x,a = some x → (∃ y,a0 = some y ∧ y.block = x.block ∧ 0 < xs.length) ∨ w.heap.size ≤ x.block ∨ (xs.take at' ++ xs.drop (at' + 1)).length = 0
set_option maxHeartbeats 1600000 in
theorem rem_any (a : Option Addr) (l c at' : Nat) (xs : List Value) (w : World) (hl : xs.length = l) (hO : VOk w a c xs) (hv : ∀ u ∈ xs,∃ xa xn xc,u = .slice xa xn xc) (hm : l * 24 ≤ 140737488355000) (ha : at' ≤ 4611686018427387904) :
  Calls Tryz.prog 156 #[.slice a l c,.int .i64 (at' : Int)] w (Rem w a xs at') := by
 obtain ⟨i0,hi,hz0,hz1,hz2⟩ := info_parts infoT
 have HC := hide (cutT_any a l c at' w (by rw [← hl]; exact hO.lc) (by omega) ha)
 obtain ⟨m,hmm⟩ : ∃ m,m = min at' l := ⟨_,rfl⟩
 rw [← hmm] at HC
 have hml : m ≤ l := by omega
 have HL := hide (hO.cutL m (by omega))
 have HR := hide (hO.cutR m)
 rw [hl] at HR
 have HEQ : Hid (xs.take at' ++ xs.drop (at' + 1) = xs.take m ++ (xs.drop m).drop 1) := by
  show _ = _
  rw [List.drop_drop,hmm,← hl]
  by_cases h : at' ≤ xs.length
  ·rw [Nat.min_eq_left h]
  ·rw [Nat.min_eq_right (by omega),List.take_length,List.take_of_length_le (by omega),List.drop_eq_nil_of_le (by omega),List.drop_eq_nil_of_le (by omega)]
 have z1 : (xs.take m).length = m := by rw [List.length_take]; omega
 have z2 : (xs.drop m).length = l - m := by rw [List.length_drop]; omega
 have o1 : Hid (∀ u ∈ (xs.drop m).drop 1,u.oneCell' = true) := fun u hu => by obtain ⟨_,_,_,rfl⟩ := hv u (List.mem_of_mem_drop (List.mem_of_mem_drop hu)); rfl
 have HVV : Hid (∀ u ∈ xs.drop m,∃ xa xn xc,u = .slice xa xn xc) := fun u hu => hv u (List.mem_of_mem_drop hu)
 have HXL := hide hl
 clear hO hv hmm hl
 generalize xs.take m = ys at *
 generalize xs.drop m = zs at *
 have z3 : (zs.drop 1).length = l - m - 1 := by rw [List.length_drop]; omega
 unfold Rem
 rw [HEQ.out]
 have HZ1 := hide z1
 have HZ2 := hide z2
 have HZ3 := hide z3
 clear z1 z2 z3
 go_enter Tryz.func156,Tryz.ntmps156
 go_wp2_with fail
 refine HC.out.mono ?_
 rintro e w1 ⟨rfl,q,rfl⟩
 have HL1 : Hid (VOk (w.drewN q) a m ys) := ⟨HL.out.r,HL.out.n,HL.out.lc⟩
 have HR1 : Hid (VOk (w.drewN q) (cutAt a m l) (l - m) zs) := ⟨HR.out.r,HR.out.n,HR.out.lc⟩
 clear HC HL HR
 go_wp2_with fail
 refine (headOff_any (cutAt a m l) (l - m) (l - m) zs _ HZ2.out HR1.out (by omega) HVV.out).mono ?_
 rintro e w2 ⟨xa,xn,xc,b,rfl,_,_,hv,q2,hw2⟩
 have HV := hide hv
 have HL2 : Hid (VOk w2 a m ys) := by show VOk _ _ _ _; rw [hw2]; exact ⟨HL1.out.r,HL1.out.n,HL1.out.lc⟩
 have HB2 : Hid (Below w.heap.size w w2) := by show Below _ _ _; rw [hw2]; exact below_drewN (below_drewN (Below.refl _ _) q) q2
 clear hv hw2 HR1 HL1
 obtain ⟨d,hd⟩ : ∃ d,d = l - m - 1 := ⟨_,rfl⟩
 rw [← hd] at HV HZ3 ⊢
 have hd2 : m + d ≤ l := by omega
 replace hd := hide hd
 by_cases h0 : d = 0
 ·subst h0
  have e0 : zs.drop 1 = [] := List.eq_nil_of_length_eq_zero HZ3.out
  have HF : Hid (∃ a' c',(Ending.returned (Value.slice a m m)) = .returned (.slice a' (ys ++ zs.drop 1).length c') ∧ VOk w2 a' c' (ys ++ zs.drop 1) ∧ Below w.heap.size w w2 ∧ ∀ x,a' = some x → (∃ y,a = some y ∧ y.block = x.block ∧ 0 < xs.length) ∨ w.heap.size ≤ x.block ∨ (ys ++ zs.drop 1).length = 0) := by
   refine ⟨a,m,?_,?_,HB2.out,fun x hx => ?_⟩
   ·rw [e0,List.append_nil,HZ1.out]
   ·rw [e0,List.append_nil]; exact HL2.out
   ·by_cases hp : 0 < m
    ·exact .inl ⟨x,hx,rfl,by rw [HXL.out]; omega⟩
    ·exact .inr (.inr (by rw [e0,List.append_nil,HZ1.out]; omega))
  have hrun : ∀ W ty,(Builtin.append_ #[106,106] ty #[.slice a m m,.slice b 0 0]).run Tryz.prog W = .ok (.slice a m m) W := fun W ty => by
   cases a <;> cases b <;> simp [Builtin.append_,run_underlying Tryz.underlying106,sizeOf,typeInfo,hi,Builtin.lenOf,Builtin.firstCells,loadCells,loadCellsFrom,storeCells]
  clear e0
  go_wp2_with (first
   | (at_builtin; refine Lib.wpList_append_run _ rfl (.tmp 20) (.tmp 21) 106 106 rfl (.slice a m m) (.slice b 0 0) rfl rfl (.slice a m m) w2 (hrun _ _) ?_)
   | fail)
  go_ret
  exact HF.out
 ·have hb : ∃ ad,b = some ad := by
   cases b with
   | none => have := (HV.out.n rfl).1; rw [HZ3.out] at this; omega
   | some ad => exact ⟨ad,rfl⟩
  obtain ⟨ad,rfl⟩ := hb
  go_wp2_with (first
   | (at_builtin; refine wpList_append_grows _ rfl (.tmp 20) (.tmp 21) 106 rfl 29 i0 (.slice none 0 0) 1 24 Tryz.underlying106 hi hz0 hz1 hz2 rfl (by decide) a m m ys rfl (fun e => by have := (HL2.out.n e).2; omega) (by rw [HZ1.out]; omega) HL2.out.r.news ad d d (zs.drop 1) rfl (by rw [HZ3.out]; omega) (HV.out.r.news ad rfl) o1.out (by omega) (by unfold maxLen; omega) (by omega) ?_; intro v2 w3 hown2 hg2; have HO2 := hide hown2; have HG2 := hide hg2; clear hown2 hg2)
   | fail)
  go_ret
  obtain ⟨a2,c2,hv2,hok,hfar⟩ := vok_of_owns HO2.out
  refine ⟨a2,c2,?_,hok,HB2.out.grown HG2.out HB2.out.size (fun k h => by cases h),fun x hx => .inr (.inl (Nat.le_trans HB2.out.size (hfar x hx).1))⟩
  rw [hv2,List.length_append,HZ1.out,HZ3.out]
  rfl
end Go.Proofs.YtljnapejgjffjaaGreat
