/- Sources: made, asked. -/
import Derived.Test.YteindoemdonagaaG15
import Derived.Laws.CopyOwn
namespace Go.Proofs.Yteindoemdonagaa
open Go.RowKit

theorem Upd.set1 {A B : World} {g : Nat} (h : Upd (fun k => k = g) A B) (j : Nat) (v : Value) : Upd (fun k => k = g) A (B.setCell ⟨g, j, none⟩ v) := h.setCell ⟨g, j, none⟩ v (fun _ => rfl)
theorem Upd.ofDrewN {S : Nat → Prop} {A B : World} {m : Nat} (h : Upd S (A.drewN m) B) : Upd S A B := ⟨h.os, h.tape, h.output, h.size, h.block⟩
theorem Upd.ofDrew {S : Nat → Prop} {A B : World} (h : Upd S A.drew B) : Upd S A B := ⟨h.os, h.tape, h.output, h.size, h.block⟩
/-- copy as a step of a region that draws; all but the one block stays. -/
theorem step_copy_upd {P : Program} {ops : Array Oper} {o : Oper} {a : Act} {w : World} {K : Act → World → Prop} {Q : Exit → Act → World → Prop} {E : Prop} (hgd : o.guard = none) (d s : Operand) (dT sT : TypeId)
    (ho : o.op = .call { callee := .builtin .copy, args := #[d, s], argTypes := #[dT, sT] }) (elem : TypeId) (hu : P.underlying dT = some (.slice elem)) (hsz : (P.info? elem).map (·.size) = some 1)
    (dp sp : Option Addr) (dLen dCap sLen sCap : Nat) (hd : a.eval d = .slice dp dLen dCap) (hs : a.eval s = .slice sp sLen sCap)
    (g : Nat) (cur : List Value) (t : TypeId) (hg : w.heap[g]? = some (.cells cur.toArray t (0, 0))) (cs : List Value) (n : Nat) (hcn : cs.length = n) (hn : n = Nat.min sLen dLen)
    (hpos : 0 < n → dp = some ⟨g, 0, none⟩ ∧ ∃ ad, sp = some ad ∧ ∀ j v, cs[j]? = some v → w.cell? (ad.add j) = some v)
    (hfit : n ≤ cur.length) (h1 : ∀ v ∈ cs, v.oneCell' = true)
    (h : ∀ w', Hid (w'.heap[g]? = some (.cells (cs ++ cur.drop n).toArray t (0, 0))) → Upd (fun k => k = g) w w' → K (a.put o.dst (goInt n)) w') :
    if Region.wanted o (yielded ops a.tmps) = true then Oper.wp P o a w K Q else E := by
  subst hcn
  rw [if_pos (by simp [Region.wanted, hgd])]
  by_cases h0 : cs.length = 0
  · obtain rfl : cs = [] := List.eq_nil_of_length_eq_zero h0
    have hrun := run_copy_none (P := P) w dT sT o.type elem dp sp dLen dCap sLen sCap hu hsz (by simpa using hn.symm)
    have := h w (show _ = _ by simpa using hg) (Upd.refl _ _)
    unfold Oper.wp
    simp [execOp, ho, resolve, invoke, builtin, hd, hs, hrun, Result.andThen]
    exact this
  · obtain ⟨rfl, ad, rfl, hsrc⟩ := hpos (by omega)
    have hrun := run_copy_row (P := P) w dT sT o.type elem g 0 dLen dCap ad sLen sCap cur.toArray t cs hu hsz hg hn hsrc (by simpa using hfit) h1
    simp only [List.take_zero, List.nil_append, Nat.zero_add] at hrun
    have hk := setRow_heap w g _ ((cs ++ cur.drop cs.length).toArray) t _ hg
    have := h _ hk ⟨rfl, rfl, rfl, by simp [World.setRow], fun k _ hkg => setRow_other w g k _ hkg⟩
    unfold Oper.wp
    simp [execOp, ho, resolve, invoke, builtin, hd, hs, hrun, Result.andThen]
    exact this

set_option maxHeartbeats 800000 in
theorem newPlan_any (a : Option Addr) (len cap : Nat) (gs : List Int) (fail : Int) (w : World) (hl : gs.length = len) (hm : len * 8 ≤ 140737488355328) (hn : a = none → len = 0 ∧ cap = 0) (hr : Row w .i64 a gs) :
    Calls Try.prog 19 #[.slice a len cap, .int .i64 fail] w fun e w' => ∃ v, e = .returned (.agg #[v, .int .i64 fail, .int .i64 0]) ∧ w'.ownsRow w.heap.size 3 1 v len (gs.map (Value.int .i64)) ∧ Below w.heap.size w w' := by
  have HC := hide (iclone_any a len cap gs (w.alloc (.cells #[.slice none 0 0, .int .i64 0, .int .i64 0] 66)) hl hm hn (hr.alloc _))
  clear hr
  go_enter Try.func19, Try.ntmps19
  go_wp2_with fail
  refine HC.out.mono ?_
  rintro e w1 ⟨v, rfl, hown, hb⟩
  obtain ⟨av, cv, rfl, hnv, hbv⟩ := slice_of_owns2 hown
  have hblk : w1.heap[w.heap.size]? = some (.cells #[.slice none 0 0, .int .i64 0, .int .i64 0] 66 (0, 0)) := (hb.block w.heap.size (by simp)).trans (heap_alloc_new w _)
  have c0 : w1.cell? ⟨w.heap.size, 0, none⟩ = some (.slice none 0 0) := by rw [cell_of_row _ _ _ _ _ _ hblk]; rfl
  have c1 : w1.cell? ⟨w.heap.size, 1, none⟩ = some (.int .i64 0) := by rw [cell_of_row _ _ _ _ _ _ hblk]; rfl
  have c2 : w1.cell? ⟨w.heap.size, 2, none⟩ = some (.int .i64 0) := by rw [cell_of_row _ _ _ _ _ _ hblk]; rfl
  have f0 : ∀ j, w1.frozen? ⟨w.heap.size, j, none⟩ = false := fun j => by simp [World.frozen?, hblk]
  have HBK := hide hblk
  have HO := hide hown
  have HBV := hide hbv
  have HNV := hide hnv
  clear hown hbv hnv hblk
  go_wp2_with fail
  have hblk2 := block_setCell (block_setCell (block_setCell HBK.out 0 (.slice av len cv)) 1 (.int .i64 fail)) 2 (.int .i64 0)
  have hst : Upd (fun k => k = w.heap.size) w1 (((w1.setCell ⟨w.heap.size, 0, none⟩ (.slice av len cv)).setCell ⟨w.heap.size, 1, none⟩ (.int .i64 fail)).setCell ⟨w.heap.size, 2, none⟩ (.int .i64 0)) := (((Upd.refl _ _).set1 0 _).set1 1 _).set1 2 _
  generalize ((w1.setCell ⟨w.heap.size, 0, none⟩ (.slice av len cv)).setCell ⟨w.heap.size, 1, none⟩ (.int .i64 fail)).setCell ⟨w.heap.size, 2, none⟩ (.int .i64 0) = w2 at hblk2 hst ⊢
  have d0 : w2.cell? ⟨w.heap.size, 0, none⟩ = some (.slice av len cv) := by rw [cell_of_row _ _ _ _ _ _ hblk2]; rfl
  have d1 : w2.cell? ⟨w.heap.size, 1, none⟩ = some (.int .i64 fail) := by rw [cell_of_row _ _ _ _ _ _ hblk2]; rfl
  have d2 : w2.cell? ⟨w.heap.size, 2, none⟩ = some (.int .i64 0) := by rw [cell_of_row _ _ _ _ _ _ hblk2]; rfl
  refine bodyPost_ret (by simp [results, Try.results19, go_sem, d0, d1, d2]; try rfl) rfl ?_
  refine ⟨_, rfl, ?_, ?_⟩
  · refine owns_upd (owns_mono HO.out (by simp)) hst (fun k hk => ?_)
    have := (HO.out.lt k hk).1
    simp at this
    omega
  · exact ((below_lit' hb).mono (Nat.le_refl _)).trans (hst.below (by have := hb.size; simp at this; omega) (fun k hk => by omega))

/-- What was made lies in blocks of its own. -/
theorem owns_blkOf {w : World} {base : Nat} {e : TypeId} {a : Option Addr} {n m cap : Nat} {xs : List Value} (h : w.ownsRow base e 1 (.slice a n cap) m xs) : ∀ x, a = some x → base ≤ x.block ∧ x.block < w.heap.size ∧ x.spot = none := by
  intro x hx
  rcases h.2 with ⟨hv, _⟩ | ⟨g, c, cur, hv, hb, hh, _⟩
  · cases hv; cases hx
  · cases hv
    cases hx
    exact ⟨hb, lt_of_block hh, rfl⟩

/-- A source in its block: of bytes zs and gives gs, called c times, k bytes given. M: the blocks that are its own. -/
structure IsSrc (W : World) (M : Nat → Prop) (zs gs : List Int) (fail : Int) (eager : Bool) (g c k : Nat) (am : Option Addr) (cm : Nat) (al : Option Addr) (cl : Nat) : Prop where
  blk : W.heap[g]? = some (.cells #[.slice am gs.length cm, .int .i64 fail, .int .i64 (c : Int), .slice al (zs.length - k) cl, .bool eager] 76 (0, 0))
  rm : Row W .i64 am gs
  rl : Row W .u8 al (zs.drop k)
  mm : ∀ x, am = some x → M x.block ∧ x.block ≠ g
  ml : ∀ x, al = some x → M x.block ∧ x.block ≠ g ∧ x.spot = none
  mg : M g
  lt : ∀ i, M i → i < W.heap.size
  kle : k ≤ zs.length
  zle : zs.length ≤ 140737488355328
  lcl : zs.length - k ≤ cl
def SrcAt (W : World) (M : Nat → Prop) (zs gs : List Int) (fail : Int) (eager : Bool) (g c k : Nat) : Prop := ∃ am cm al cl, IsSrc W M zs gs fail eager g c k am cm al cl
theorem IsSrc.cell {W : World} {M : Nat → Prop} {zs gs : List Int} {fail : Int} {eager : Bool} {g c k : Nat} {am : Option Addr} {cm : Nat} {al : Option Addr} {cl : Nat} (h : IsSrc W M zs gs fail eager g c k am cm al cl) :
    W.cell? ⟨g, 0, none⟩ = some (.slice am gs.length cm) ∧ W.cell? ⟨g, 1, none⟩ = some (.int .i64 fail) ∧ W.cell? ⟨g, 2, none⟩ = some (.int .i64 (c : Int)) ∧ W.cell? ⟨g, 3, none⟩ = some (.slice al (zs.length - k) cl) ∧ W.cell? ⟨g, 4, none⟩ = some (.bool eager) ∧ ∀ j, W.frozen? ⟨g, j, none⟩ = false := by
  have hb := h.blk
  refine ⟨?_, ?_, ?_, ?_, ?_, fun j => by simp [World.frozen?, hb]⟩ <;> (rw [cell_of_row _ _ _ _ _ _ hb]; rfl)
theorem IsSrc.upd {W W' : World} {M S : Nat → Prop} {zs gs : List Int} {fail : Int} {eager : Bool} {g c k : Nat} {am : Option Addr} {cm : Nat} {al : Option Addr} {cl : Nat} (h : IsSrc W M zs gs fail eager g c k am cm al cl) (hu : Upd S W W') (hs : ∀ i, M i → ¬ S i) : IsSrc W' M zs gs fail eager g c k am cm al cl :=
  ⟨hu.heap h.blk (hs _ h.mg), h.rm.upd hu (fun x hx _ => hs _ (h.mm x hx).1), h.rl.upd hu (fun x hx _ => hs _ (h.ml x hx).1), h.mm, h.ml, h.mg, fun i hi => Nat.lt_of_lt_of_le (h.lt i hi) hu.size, h.kle, h.zle, h.lcl⟩

set_option maxRecDepth 100000 in
set_option maxHeartbeats 1600000 in
theorem newSource_any (ab ag : Option Addr) (lb cb lg cg : Nat) (zs gs : List Int) (fail : Int) (eager : Bool) (w : World) (hlb : zs.length = lb) (hlg : gs.length = lg) (hm : lb ≤ 140737488355328) (hm8 : lg * 8 ≤ 140737488355328)
    (nb : ab = none → lb = 0 ∧ cb = 0) (ng : ag = none → lg = 0 ∧ cg = 0) (rb : Row w .u8 ab zs) (rg : Row w .i64 ag gs) :
    Calls Try.prog 14 #[.agg #[.slice ab lb cb, .slice ag lg cg, .int .i64 fail, .bool eager]] w fun e w' => ∃ g M, e = .returned (.pointer (some ⟨g, 0, none⟩)) ∧ SrcAt w' M zs gs fail eager g 0 0 ∧ (∀ i, M i → w.heap.size ≤ i) ∧ Below w.heap.size w w' := by
  have HP : Hid (∀ W, Below w.heap.size w W → Calls Try.prog 19 #[.slice ag lg cg, .int .i64 fail] W fun e w' => ∃ v, e = .returned (.agg #[v, .int .i64 fail, .int .i64 0]) ∧ w'.ownsRow W.heap.size 3 1 v lg (gs.map (Value.int .i64)) ∧ Below W.heap.size W w') := fun W hW => newPlan_any ag lg cg gs fail W hlg hm8 ng (rg.below2 hW)
  have HC : Hid (∀ W, Below w.heap.size w W → Calls Try.prog 22 #[.slice ab lb cb] W fun e w' => ∃ v, e = .returned v ∧ OwnB w' W.heap.size 5 v zs ∧ Below W.heap.size W w') := fun W hW => bclone_any ab lb cb zs W hlb hm nb (rb.below2 hW)
  have HB0 := hide (((Below.refl w.heap.size w).alloc (Nat.le_refl _) (.cells #[.slice ab lb cb, .slice ag lg cg, .int .i64 fail, .bool eager] 52)))
  clear rb rg
  have HBK := hide (heap_alloc_new w (.cells #[.slice ab lb cb, .slice ag lg cg, .int .i64 fail, .bool eager] 52))
  have hwA : w.heap.size < (w.alloc (.cells #[.slice ab lb cb, .slice ag lg cg, .int .i64 fail, .bool eager] 52)).heap.size := by simp
  go_enter Try.func14, Try.ntmps14
  go_wp2_with fail
  generalize w.alloc (.cells #[.slice ab lb cb, .slice ag lg cg, .int .i64 fail, .bool eager] 52) = wA at HB0 HBK hwA ⊢
  generalize hfb : w.heap.size = fb at *
  replace hfb := hide hfb
  have c0 : wA.cell? ⟨fb, 0, none⟩ = some (.slice ab lb cb) := by rw [cell_of_row _ _ _ _ _ _ HBK.out]; rfl
  have c1 : wA.cell? ⟨fb, 1, none⟩ = some (.slice ag lg cg) := by rw [cell_of_row _ _ _ _ _ _ HBK.out]; rfl
  have c2 : wA.cell? ⟨fb, 2, none⟩ = some (.int .i64 fail) := by rw [cell_of_row _ _ _ _ _ _ HBK.out]; rfl
  have c3 : wA.cell? ⟨fb, 3, none⟩ = some (.bool eager) := by rw [cell_of_row _ _ _ _ _ _ HBK.out]; rfl
  go_region_held3 (fun W => W.cell? ⟨fb, 0, none⟩ = some (.slice ab lb cb) ∧ W.cell? ⟨fb, 1, none⟩ = some (.slice ag lg cg) ∧ W.cell? ⟨fb, 2, none⟩ = some (.int .i64 fail) ∧ W.cell? ⟨fb, 3, none⟩ = some (.bool eager)) (go_keep) (first
    | (go_at_call 19; refine (HP.out _ HB0.out.drew).mono ?_; rintro e w1 ⟨v1, rfl, ho1, hb1⟩; obtain ⟨a1, k1, rfl, hn1, hq1⟩ := slice_of_owns2 ho1; replace ho1 := hide ho1; replace hn1 := hide hn1; replace hq1 := hide hq1; have d0 := (hb1.cell (p := ⟨fb, 0, none⟩) hwA).trans c0; have d1 := (hb1.cell (p := ⟨fb, 1, none⟩) hwA).trans c1; have d2 := (hb1.cell (p := ⟨fb, 2, none⟩) hwA).trans c2; have d3 := (hb1.cell (p := ⟨fb, 3, none⟩) hwA).trans c3; have HB1 := hide (HB0.out.drew.trans (hb1.mono (Nat.le_of_lt hwA))); replace hb1 := hide hb1)
    | (go_at_call 22; refine (HC.out _ HB1.out).mono ?_; rintro e w2 ⟨v2, rfl, ho2, hb2⟩; obtain ⟨a2, k2, rfl, hn2, hq2, hz2⟩ := ho2.sliceN hlb; replace ho2 := hide ho2; replace hn2 := hide hn2; replace hq2 := hide hq2; replace hz2 := hide hz2; have hw1 := hb1.out.size; have hlt1 : fb < w1.heap.size := Nat.lt_of_lt_of_le hwA hw1; have e0 := (hb2.cell (p := ⟨fb, 0, none⟩) hlt1).trans d0; have e1 := (hb2.cell (p := ⟨fb, 1, none⟩) hlt1).trans d1; have e2 := (hb2.cell (p := ⟨fb, 2, none⟩) hlt1).trans d2; have e3 := (hb2.cell (p := ⟨fb, 3, none⟩) hlt1).trans d3; replace hb2 := hide hb2)
    | fail)
  all_goals go_wp2_with fail
  all_goals go_ret
  all_goals (
    have hf := hfb.out
    have q1 := owns_blkOf ho1.out
    have q2 := owns_blkOf ho2.out.owns
    have z1 := hb1.out.size
    have z2 := hb2.out.size
    have hU2 : Upd Noth w1 (w2.alloc (.cells #[.slice a1 lg k1, .int .i64 fail, .int .i64 0, .slice a2 lb k2, .bool eager] 76)) := (Upd.of_below hb2.out _).alloc _
    have r1 := (row_of_owns2 ho1.out).upd hU2 (fun _ _ _ e => e)
    have r2 := ((ho2.out.row).alloc (.cells #[.slice a1 lg k1, .int .i64 fail, .int .i64 0, .slice a2 lb k2, .bool eager] 76))
    simp only [World.drew] at q1
    refine ⟨w2.heap.size, fun i => i = w2.heap.size ∨ (∃ x, a1 = some x ∧ i = x.block) ∨ (∃ x, a2 = some x ∧ i = x.block), rfl, ⟨a1, k1, a2, k2, ?_⟩, ?_, ?_⟩
    · subst hlb; subst hlg
      refine ⟨heap_alloc_new w2 _, r1, r2, fun x hx => ⟨.inr (.inl ⟨x, hx, rfl⟩), ?_⟩, fun x hx => ⟨.inr (.inr ⟨x, hx, rfl⟩), ?_, (q2 x hx).2.2⟩, .inl rfl, fun i hi => ?_, Nat.zero_le _, hm, hq2.out⟩
      · have := (q1 x hx).2.1; omega
      · have := (q2 x hx).2.1; omega
      · rw [World.size_alloc]
        rcases hi with rfl | ⟨x, hx, rfl⟩ | ⟨x, hx, rfl⟩
        · omega
        · have := (q1 x hx).2.1; omega
        · have := (q2 x hx).2.1; omega
    · rintro i (rfl | ⟨x, hx, rfl⟩ | ⟨x, hx, rfl⟩)
      · omega
      · have := (q1 x hx).1; omega
      · have := (q2 x hx).1; omega
    · rw [hf]; exact (HB1.out.trans (hb2.out.mono (by omega))).alloc (by omega) _)

/-- The number of a call goes on. -/
theorem IsSrc.called {W W' : World} {M : Nat → Prop} {zs gs : List Int} {fail : Int} {eager : Bool} {g c k : Nat} {am : Option Addr} {cm : Nat} {al : Option Addr} {cl : Nat} (h : IsSrc W M zs gs fail eager g c k am cm al cl) (hs : Still (W.setCell ⟨g, 2, none⟩ (.int .i64 ((c + 1 : Nat) : Int))) W') :
    IsSrc W' M zs gs fail eager g (c + 1) k am cm al cl ∧ Upd (fun i => i = g) W W' := by
  have hu : Upd (fun i => i = g) W W' := ((Upd.refl _ _).set1 2 _).trans (hs.upd _)
  refine ⟨⟨?_, h.rm.upd hu (fun x hx _ => (h.mm x hx).2), h.rl.upd hu (fun x hx _ => (h.ml x hx).2.1), h.mm, h.ml, h.mg, fun i hi => Nat.lt_of_lt_of_le (h.lt i hi) hu.size, h.kle, h.zle, h.lcl⟩, hu⟩
  rw [hs.heap]
  exact block_setCell h.blk 2 _

/-- Which error, and how many bytes, a call of a source tells; the number of the call is c. -/
def srcErr (zs : List Int) (fail : Int) (eager : Bool) (c k n : Nat) : Int := if failsAt fail c then 32 else if k = zs.length then 31 else if eager = true ∧ k + n = zs.length then 31 else 0
def srcN (zs gs : List Int) (fail : Int) (c k size : Nat) : Nat := if failsAt fail c then 0 else if k = zs.length then 0 else min size (mostN gs c (zs.length - k))

set_option maxHeartbeats 800000 in
theorem read_broken {W : World} {M : Nat → Prop} {zs gs : List Int} {fail : Int} {eager : Bool} {g c k : Nat} (p : Value) (h : SrcAt W M zs gs fail eager g c k) (hc : c < 4611686018427387904) (hf : failsAt fail (c + 1) = true) :
    Calls Try.prog 58 #[.pointer (some ⟨g, 0, none⟩), p] W fun e w' => e = .returned (.tuple #[.int .i64 0, .int .i64 32]) ∧ SrcAt w' M zs gs fail eager g (c + 1) k ∧ Upd (fun i => i = g) W w' := by
  obtain ⟨am, cm, al, cl, h⟩ := h
  have hcl := h.cell
  have HC := hide (call_any g fail c W (by omega) hcl.2.1 hcl.2.2.1 (hcl.2.2.2.2.2 2))
  rw [hf] at HC
  have H := hide h
  clear h hcl
  go_enter Try.func58, Try.ntmps58
  go_wp2_with fail
  refine HC.out.mono ?_
  rintro e w1 ⟨rfl, hs⟩
  replace hs := hide hs
  go_wp2_with fail
  go_ret2
  exact ⟨rfl, ⟨_, _, _, _, (H.out.called hs.out).1⟩, (H.out.called hs.out).2⟩

set_option maxHeartbeats 800000 in
theorem read_end {W : World} {M : Nat → Prop} {zs gs : List Int} {fail : Int} {eager : Bool} {g c k : Nat} (p : Value) (h : SrcAt W M zs gs fail eager g c k) (hc : c < 4611686018427387904) (hf : failsAt fail (c + 1) = false) (hk : k = zs.length) :
    Calls Try.prog 58 #[.pointer (some ⟨g, 0, none⟩), p] W fun e w' => e = .returned (.tuple #[.int .i64 0, .int .i64 31]) ∧ SrcAt w' M zs gs fail eager g (c + 1) k ∧ Upd (fun i => i = g) W w' := by
  obtain ⟨am, cm, al, cl, h⟩ := h
  have hcl := h.cell
  have HC := hide (call_any g fail c W (by omega) hcl.2.1 hcl.2.2.1 (hcl.2.2.2.2.2 2))
  rw [hf] at HC
  have H := hide h
  clear h hcl
  go_enter Try.func58, Try.ntmps58
  go_wp2_with fail
  refine HC.out.mono ?_
  rintro e w1 ⟨rfl, hs⟩
  have HQ := hide (H.out.called hs)
  have c3 := HQ.out.1.cell.2.2.2.1
  rw [show zs.length - k = 0 by omega] at c3
  clear hs
  go_wp2_with fail
  go_ret2
  exact ⟨rfl, ⟨_, _, _, _, HQ.out.1⟩, HQ.out.2⟩

theorem szU8 : (Try.prog.info? 5).map (·.size) = some 1 := by kernel_rfl

/-- A room: its block, and the cells in it. -/
def Room (W : World) (p : Option Addr) (size r : Nat) (cur : List Value) : Prop := (0 < size → p = some ⟨r, 0, none⟩) ∧ W.heap[r]? = some (.cells cur.toArray 5 (0, 0)) ∧ size ≤ cur.length
theorem Room.upd {W W' : World} {S : Nat → Prop} {p : Option Addr} {size r : Nat} {cur : List Value} (h : Room W p size r cur) (hu : Upd S W W') (hs : ¬ S r) : Room W' p size r cur := ⟨h.1, hu.heap h.2.1 hs, h.2.2⟩
theorem take_cells {W : World} {b o : Nat} {ys : List Int} (h : Row W .u8 (some ⟨b, o, none⟩) ys) (n : Nat) : ∀ j v, ((ys.take n).map (Value.int .u8))[j]? = some v → W.cell? ((⟨b, o, none⟩ : Addr).add j) = some v := (h.take n).cells _ rfl

/-- What a call of a source that has bytes leaves. -/
def ReadPost (W : World) (M : Nat → Prop) (zs gs : List Int) (fail : Int) (eager : Bool) (g c k n : Nat) (p : Option Addr) (size r : Nat) (cur : List Value) (e : Ending) (w' : World) : Prop :=
  e = .returned (.tuple #[.int .i64 (n : Int), .int .i64 (if eager = true ∧ k + n = zs.length then 31 else 0)]) ∧ SrcAt w' M zs gs fail eager g (c + 1) (k + n) ∧ Room w' p size r (((zs.drop k).take n).map (Value.int .u8) ++ cur.drop n) ∧ Upd (fun i => i = g ∨ i = r) W w'

set_option maxRecDepth 100000 in
set_option maxHeartbeats 3200000 in
theorem read_go {W : World} {M : Nat → Prop} {zs gs : List Int} {fail : Int} {eager : Bool} {g c k : Nat} (p : Option Addr) (size pc r : Nat) (cur : List Value) (h : SrcAt W M zs gs fail eager g c k) (hc : c < 4611686018427387904) (hf : failsAt fail (c + 1) = false) (hk : k ≠ zs.length)
    (hrm : Room W p size r cur) (hr : ¬ M r) (hsz : size ≤ 140737488355328) (n : Nat) (hn : n = min size (mostN gs (c + 1) (zs.length - k))) :
    Calls Try.prog 58 #[.pointer (some ⟨g, 0, none⟩), .slice p size pc] W fun e w' => ReadPost W M zs gs fail eager g c k n p size r cur e w' := by
  obtain ⟨am, cm, al, cl, h⟩ := h
  have hcl := h.cell
  have HC := hide (call_any g fail c W (by omega) hcl.2.1 hcl.2.2.1 (hcl.2.2.2.2.2 2))
  rw [hf] at HC
  have hk2 := h.kle
  have hz2 := h.zle
  have hkl : 0 < zs.length - k := by omega
  have hrl := h.rl
  obtain ⟨b, o, rfl, hlt⟩ : ∃ b o, al = some ⟨b, o, none⟩ ∧ True := by
    obtain ⟨b, o, ha, _⟩ := hrl 0 (by rw [List.length_drop]; exact hkl)
    exact ⟨b, o, ha, trivial⟩
  have H := hide h
  have HRM := hide hrm
  have hgr : g ≠ r := fun e => hr (e ▸ h.mg)
  have hbr : b ≠ r := fun e => hr (e ▸ (h.ml _ rfl).1)
  have hml := mostN_le gs (c + 1) (zs.length - k)
  have HRR := hide hr
  have hnc : n ≤ cl := by have := h.lcl; omega
  clear h hcl hrl hrm hr
  go_enter Try.func58, Try.ntmps58
  go_wp2_with fail
  refine HC.out.mono ?_
  rintro e w1 ⟨rfl, hs⟩
  have HQ := hide (H.out.called hs)
  have c0 := HQ.out.1.cell.1
  have c2 := HQ.out.1.cell.2.2.1
  have c3 := HQ.out.1.cell.2.2.2.1
  have c4 := HQ.out.1.cell.2.2.2.2.1
  have f3 := HQ.out.1.cell.2.2.2.2.2 3
  have hlcl := HQ.out.1.lcl
  have HB : Hid (∀ m, Calls Try.prog 55 #[.pointer (some ⟨g, 0, none⟩), .int .i64 ((zs.length - k : Nat) : Int)] (w1.drewN m) fun e w' => e = .returned (.int .i64 (mostN gs (c + 1) (zs.length - k) : Nat)) ∧ ∃ j, w' = (w1.drewN m).drewN j) := fun m => bound_any g am gs.length cm gs (c + 1) (zs.length - k) (w1.drewN m) rfl (by unfold maxLen; omega) (by omega) (by omega) c0 c2 HQ.out.1.rm
  have HRM1 := hide (HRM.out.upd HQ.out.2 (fun e => hgr e.symm))
  have HTC := hide (take_cells HQ.out.1.rl n)
  have hcs : (((zs.drop k).take n).map (Value.int .u8)).length = n := by rw [List.length_map, List.length_take, List.length_drop]; omega
  have HCS := hide hcs
  have hq0 : (zs.length - k == 0) = false := by simp; omega
  clear hs HC hcs
  generalize hL : zs.length - k = L at *
  generalize mostN gs (c + 1) L = B at *
  obtain ⟨cs, hcs⟩ : ∃ cs, cs = ((zs.drop k).take n).map (Value.int .u8) := ⟨_, rfl⟩
  rw [← hcs] at HTC HCS
  replace hcs := hide hcs
  replace hL := hide hL
  have i1 : (B : Int) ≤ (cl : Int) := by omega
  have i2 : (0 : Int) ≤ (B : Int) := by omega
  have hcut : Nat.min B size = n := by rw [hn]; exact Nat.min_comm _ _
  have HCUT := hide hcut
  have HONE : Hid (∀ v ∈ cs, v.oneCell' = true) := hide (by rw [hcs.out]; exact ints_oneCell _ _)
  clear hcut
  replace hn := hide hn
  go_wp2_with fail
  go_region_held3 (fun W => W.cell? ⟨g, 3, none⟩ = some (.slice (some ⟨b, o, none⟩) L cl)) (go_keep) (first
    | (go_at_call 55; refine (HB.out 1).mono ?_; rintro e w2 ⟨rfl, j, hw2⟩; have hw2' := hw2; subst hw2')
    | (refine step_copy_upd rfl (.tmp 18) (.tmp 32) 32 32 rfl 5 Try.underlying32 szU8 p (some ⟨b, o, none⟩) size pc B cl (by simp [Act.eval]) (by simp [Act.eval]) r cur 5 HRM1.out.2.1 cs n HCS.out HCUT.out.symm (fun h0 => ⟨HRM1.out.1 (by have := hn.out; omega), _, rfl, HTC.out⟩) (by have := HRM1.out.2.2; have := hn.out; omega) HONE.out ?_; intro w3 hg3 hu3; have d3 := hu3.cell (p := ⟨g, 3, none⟩) c3 hgr)
    | fail)
  all_goals (
    have hu3' : Upd (fun i => i = r) w1 w3 := hu3.ofDrewN
    have HQ3 := hide (HQ.out.1.upd hu3' (fun i hi e => HRR.out (e ▸ hi)))
    have e4 := HQ3.out.cell.2.2.2.2.1
    have f3' := HQ3.out.cell.2.2.2.2.2 3
    replace hu3' := hide hu3'
    clear hu3 HTC HB c0 c2 c3 c4 f3 HCS
    have j1 : (0 : Int) ≤ (n : Int) := by omega
    have j2 : (n : Int) ≤ (L : Int) := by have := hn.out; omega
    have j3 : (L : Int) ≤ (cl : Int) := by have := hL.out; omega
    have HFIN : Hid (∀ al' w4, Hid (w4 = w3.setCell ⟨g, 3, none⟩ (.slice al' (L - n) (cl - n))) → (∀ x, al' = some x → x.block = b ∧ x.spot = none) → (Row w1 .u8 al' (zs.drop (k + n))) → SrcAt w4 M zs gs fail eager g (c + 1) (k + n) ∧ Room w4 p size r (cs ++ cur.drop n) ∧ Upd (fun i => i = g ∨ i = r) W w4) := by
      intro al' w4 hw4 ha hrw
      obtain rfl := hw4.out
      have hu4 : Upd (fun i => i = g) w3 (w3.setCell ⟨g, 3, none⟩ (.slice al' (L - n) (cl - n))) := (Upd.refl _ _).set1 3 _
      have hmb := (H.out.ml _ rfl)
      have e1 := hL.out
      have e2 := hn.out
      have e3 : zs.length - (k + n) = L - n := by omega
      refine ⟨⟨am, cm, al', cl - n, ?_, HQ3.out.rm.upd hu4 (fun x hx _ => (H.out.mm x hx).2), ?_, H.out.mm, ?_, H.out.mg, fun i hi => Nat.lt_of_lt_of_le (HQ3.out.lt i hi) hu4.size, by omega, H.out.zle, by omega⟩, ?_, ?_⟩
      · rw [e3]
        exact block_setCell HQ3.out.blk 3 _
      · refine (hrw.upd hu3'.out (fun x hx _ => ?_)).upd hu4 (fun x hx _ => ?_)
        · rw [(ha x hx).1]; exact hbr
        · rw [(ha x hx).1]; exact hmb.2.1
      · intro x hx
        obtain ⟨h1, h2⟩ := ha x hx
        exact ⟨by rw [h1]; exact hmb.1, by rw [h1]; exact hmb.2.1, h2⟩
      · refine ⟨HRM.out.1, ?_, ?_⟩
        · exact (hu4.block r (lt_of_block hg3.out) (fun e => hgr e.symm)).trans hg3.out
        · have := HRM.out.2.2
          have := hcs.out
          rw [this]
          simp only [List.length_append, List.length_map, List.length_take, List.length_drop]
          omega
      · exact ((HQ.out.2.mono (fun _ _ e => .inl e)).trans (hu3'.out.mono (fun _ _ e => .inr e))).trans (hu4.mono (fun _ _ e => .inl e))
    have HE1 : Hid (L - n = 0 ↔ k + n = zs.length) := hide (by have := hL.out; omega)
    by_cases hcc : n = cl
    · have hLn : L = n := by omega
      have hLc : L - n = 0 := by omega
      have HA := hide (fun w4 hw => HFIN.out (some ⟨b, o, none⟩) w4 hw (fun x hx => by cases hx; exact ⟨rfl, rfl⟩) (by
        rw [List.drop_eq_nil_of_le (by have := hL.out; omega)]; exact row_nil _ _ _))
      have HEN : Hid (k + n = zs.length) := HE1.out.1 hLc
      subst hcc
      clear HFIN HE1
      cases eager
      · go_wp2_with fail
        go_ret2
        refine ⟨by rw [if_neg (by simp)]; rfl, ?_⟩
        rw [← hcs.out]
        exact HA.out _ (show _ = _ by rw [Nat.sub_self, hLc])
      · go_wp2_with fail
        go_ret2
        refine ⟨by rw [if_pos ⟨rfl, HEN.out⟩]; rfl, ?_⟩
        rw [← hcs.out]
        exact HA.out _ (show _ = _ by rw [Nat.sub_self, hLc])
    · have HA := hide (fun w4 hw => HFIN.out (some ⟨b, o + n, none⟩) w4 hw (fun x hx => by cases hx; exact ⟨rfl, rfl⟩) (by
        have := HQ.out.1.rl.drop n
        rwa [List.drop_drop] at this))
      have hcn : ¬ cl = n := fun e => hcc e.symm
      clear HFIN
      cases eager
      · go_wp2_with fail
        go_ret2
        refine ⟨by rw [if_neg (by simp)]; rfl, ?_⟩
        rw [← hcs.out]
        exact HA.out _ rfl
      · by_cases hLn : L - n = 0
        · have HEN : Hid (k + n = zs.length) := HE1.out.1 hLn
          clear HE1
          go_wp2_with fail
          go_ret2
          refine ⟨by rw [if_pos ⟨rfl, HEN.out⟩]; rfl, ?_⟩
          rw [← hcs.out]
          exact HA.out _ (show _ = _ by first | rfl | rw [hLn])
        · have HEN : Hid (¬ k + n = zs.length) := fun e => hLn (HE1.out.2 e)
          clear HE1
          go_wp2_with fail
          go_ret2
          refine ⟨by rw [if_neg (fun e => HEN.out e.2)]; rfl, ?_⟩
          rw [← hcs.out]
          exact HA.out _ rfl)

end Go.Proofs.Yteindoemdonagaa
