/- Sinks: made, handed bytes. -/
import Derived.Test.YteindoemdonagaaG16
import Derived.Deep.AppendLies
import Derived.Deep.RegionLaw
namespace Go.Proofs.Yteindoemdonagaa
open Go.RowKit

theorem _root_.Go.World.grownBy.ofDrewN {A B : World} {m : Nat} {row : Option Nat} (h : (A.drewN m).grownBy B row) : A.grownBy B row := ⟨h.os, h.tape, h.output, h.size, h.block⟩
theorem _root_.Go.World.grownBy.ofDrew {A B : World} {row : Option Nat} (h : A.drew.grownBy B row) : A.grownBy B row := ⟨h.os, h.tape, h.output, h.size, h.block⟩
theorem frozen_blk {W : World} {g : Nat} {cs : Array Value} {t : TypeId} (h : W.heap[g]? = some (.cells cs t (0, 0))) (j : Nat) : W.frozen? ⟨g, j, none⟩ = false := by simp [World.frozen?, h]
/-- append of bytes, nil or not, none or some, onto a row of one's own: a step of a region that draws. -/
theorem step_app {P : Program} {ops : Array Oper} {o : Oper} {a : Act} {w : World} {K : Act → World → Prop} {Q : Exit → Act → World → Prop} {E : Prop} (hgd : o.guard = none) (s x : Operand) (t : TypeId)
    (ho : o.op = .call { callee := .builtin .append, args := #[s, x], argTypes := #[t, t] })
    (base : Nat) (e : TypeId) (i : TypeInfo) (ht : P.underlying t = some (.slice e)) (hi : P.info? e = some i) (hz : i.zero = some (.int .u8 0)) (hsize : i.size = 1) (hby : i.bytes = 1)
    (v : Value) (zs : List Int) (hs : a.eval s = v) (hown : w.ownsRow base e 1 v zs.length (zs.map (Value.int .u8)))
    (ao : Option Addr) (m c : Nat) (ys : List Int) (hx : a.eval x = .slice ao m c) (hl : ys.length = m) (hnone : ao = none → m = 0 ∧ c = 0) (hrow : Row w .u8 ao ys)
    (hbytes : zs.length + m ≤ 140737488355328) (hbase : base ≤ w.heap.size)
    (h : ∀ v' w', w'.ownsRow base e 1 v' (zs ++ ys).length ((zs ++ ys).map (Value.int .u8)) → w.grownBy w' v.ownBlock → (∀ k, v'.ownBlock = some k → v.ownBlock = some k ∨ w.heap.size ≤ k) → K (a.put o.dst v') w') :
    if Region.wanted o (yielded ops a.tmps) = true then Oper.wp P o a w K Q else E := by
  by_cases hm : m = 0
  · subst hm
    obtain rfl : ys = [] := List.eq_nil_of_length_eq_zero hl
    rw [List.append_nil] at h
    have hK := h v w hown (grownBy_refl _ _) (fun k hk => .inl hk)
    have hw : Region.wanted o (yielded ops a.tmps) = true := by simp [Region.wanted, hgd]
    rw [if_pos hw]
    have hrun : (Builtin.append_ #[t, t] o.type #[v, .slice ao 0 c]).run P w = .ok v w := by
      cases ao with
      | none =>
        obtain rfl := (hnone rfl).2
        exact run_append_owned_none w base t o.type e i 1 ht hi v _ _ hown
      | some ad =>
        rcases hown.2 with ⟨hv, _⟩ | ⟨g, cap, cur, hv, hb, hh, h1, h2, h3, h4⟩
        · rw [hv]
          simp [Builtin.append_, run_underlying ht, sizeOf, typeInfo, hi, Builtin.lenOf, Builtin.firstCells, loadCells, loadCellsFrom]
        · rw [hv]
          simp [Builtin.append_, run_underlying ht, sizeOf, typeInfo, hi, Builtin.lenOf, Builtin.firstCells, loadCells, loadCellsFrom, h1, storeCells]
    unfold Oper.wp
    simp [execOp, ho, resolve, invoke, builtin, hs, hx, hrun, Result.andThen]
    exact hK
  · cases ao with
    | none => exact absurd (hnone rfl).1 hm
    | some ad =>
      refine step_append_lies w hgd s x t ho base e i (.int .u8 0) 1 1 ht hi hz hsize hby rfl (by decide) v zs.length _ hs hown ad m c (ys.map (Value.int .u8)) hx (by rw [List.length_map, Nat.mul_one]; exact hl) (hrow.cells ad rfl) (fun u hu => by obtain ⟨y, rfl⟩ := bytes_map ys u hu; rfl) (by omega) (by unfold maxLen; omega) (by omega) hbase w.heap.size rfl ?_
      intro g cap w' h1 h2 h3 _
      refine h _ w' ?_ h2 (fun k hk => ?_)
      · rw [List.length_append, hl, List.map_append]; exact h1
      · have : g = k := by simpa [Value.ownBlock] using hk
        subst this
        rcases h3 with h3 | h3
        · exact .inl h3
        · exact .inr (by omega)

theorem owns_slice {W : World} {B : Nat} {e : TypeId} {v : Value} {zs : List Int} (h : W.ownsRow B e 1 v zs.length (zs.map (Value.int .u8))) : ∃ a c, v = .slice a zs.length c ∧ Row W .u8 a zs := by
  rcases h.2 with ⟨hv, hn⟩ | ⟨g, cap, cur, hv, _⟩
  · obtain rfl : zs = [] := List.eq_nil_of_length_eq_zero hn
    exact ⟨none, 0, hv, row_nil _ _ _⟩
  · subst hv
    exact ⟨_, cap, rfl, row_of_owns h⟩

/-- A sink in its block: handed c times, it has zs. -/
structure IsSnk (W : World) (B : Nat) (M : Nat → Prop) (ts : List Int) (fail : Int) (g c : Nat) (zs : List Int) (am : Option Addr) (cm : Nat) (at' : Option Addr) (ct : Nat) : Prop where
  blk : W.heap[g]? = some (.cells #[.slice am ts.length cm, .int .i64 fail, .int .i64 (c : Int), .slice at' zs.length ct] 69 (0, 0))
  rm : Row W .i64 am ts
  own : W.ownsRow B 5 1 (.slice at' zs.length ct) zs.length (zs.map (Value.int .u8))
  mm : ∀ x, am = some x → M x.block ∧ x.block ≠ g ∧ (Value.slice at' zs.length ct).ownBlock ≠ some x.block
  mv : ∀ i, (Value.slice at' zs.length ct).ownBlock = some i → M i ∧ i ≠ g
  mg : M g
  lt : ∀ i, M i → B ≤ i ∧ i < W.heap.size
def SnkAt (W : World) (B : Nat) (M : Nat → Prop) (ts : List Int) (fail : Int) (g c : Nat) (zs : List Int) : Prop := ∃ am cm at' ct, IsSnk W B M ts fail g c zs am cm at' ct
theorem IsSnk.cell {W : World} {B : Nat} {M : Nat → Prop} {ts : List Int} {fail : Int} {g c : Nat} {zs : List Int} {am : Option Addr} {cm : Nat} {at' : Option Addr} {ct : Nat} (h : IsSnk W B M ts fail g c zs am cm at' ct) :
    W.cell? ⟨g, 0, none⟩ = some (.slice am ts.length cm) ∧ W.cell? ⟨g, 1, none⟩ = some (.int .i64 fail) ∧ W.cell? ⟨g, 2, none⟩ = some (.int .i64 (c : Int)) ∧ W.cell? ⟨g, 3, none⟩ = some (.slice at' zs.length ct) ∧ ∀ j, W.frozen? ⟨g, j, none⟩ = false := by
  have hb := h.blk
  refine ⟨?_, ?_, ?_, ?_, fun j => by simp [World.frozen?, hb]⟩ <;> (rw [cell_of_row _ _ _ _ _ _ hb]; rfl)
theorem SnkAt.upd {W W' : World} {B : Nat} {M S : Nat → Prop} {ts : List Int} {fail : Int} {g c : Nat} {zs : List Int} (h : SnkAt W B M ts fail g c zs) (hu : Upd S W W') (hs : ∀ i, M i → ¬ S i) : SnkAt W' B M ts fail g c zs := by
  obtain ⟨am, cm, at', ct, h⟩ := h
  exact ⟨am, cm, at', ct, hu.heap h.blk (hs _ h.mg), h.rm.upd hu (fun x hx _ => hs _ (h.mm x hx).1), owns_upd h.own hu (fun i hi => hs _ (h.mv i hi).1), h.mm, h.mv, h.mg, fun i hi => ⟨(h.lt i hi).1, Nat.lt_of_lt_of_le (h.lt i hi).2 hu.size⟩⟩
theorem SnkAt.lt {W : World} {B : Nat} {M : Nat → Prop} {ts : List Int} {fail : Int} {g c : Nat} {zs : List Int} (h : SnkAt W B M ts fail g c zs) : ∀ i, M i → B ≤ i ∧ i < W.heap.size := by
  obtain ⟨am, cm, at', ct, h⟩ := h
  exact h.lt
theorem IsSnk.called {W W' : World} {B : Nat} {M : Nat → Prop} {ts : List Int} {fail : Int} {g c : Nat} {zs : List Int} {am : Option Addr} {cm : Nat} {at' : Option Addr} {ct : Nat} (h : IsSnk W B M ts fail g c zs am cm at' ct) (hs : Still (W.setCell ⟨g, 2, none⟩ (.int .i64 ((c + 1 : Nat) : Int))) W') :
    IsSnk W' B M ts fail g (c + 1) zs am cm at' ct ∧ Upd (fun i => i = g) W W' := by
  have hu : Upd (fun i => i = g) W W' := ((Upd.refl _ _).set1 2 _).trans (hs.upd _)
  refine ⟨⟨?_, h.rm.upd hu (fun x hx _ => (h.mm x hx).2.1), owns_upd h.own hu (fun i hi => (h.mv i hi).2), h.mm, h.mv, h.mg, fun i hi => ⟨(h.lt i hi).1, Nat.lt_of_lt_of_le (h.lt i hi).2 hu.size⟩⟩, hu⟩
  rw [hs.heap]
  exact block_setCell h.blk 2 _

set_option maxHeartbeats 800000 in
theorem newSink_any (a : Option Addr) (len cap : Nat) (ts : List Int) (fail : Int) (w : World) (hl : ts.length = len) (hm : len * 8 ≤ 140737488355328) (hn : a = none → len = 0 ∧ cap = 0) (hr : Row w .i64 a ts) :
    Calls Try.prog 5 #[.slice a len cap, .int .i64 fail] w fun e w' => ∃ g M, e = .returned (.pointer (some ⟨g, 0, none⟩)) ∧ SnkAt w' w.heap.size M ts fail g 0 [] ∧ Below w.heap.size w w' := by
  have HP := hide (newPlan_any a len cap ts fail w hl hm hn hr)
  clear hr
  go_enter Try.func5, Try.ntmps5
  go_wp2_with fail
  refine HP.out.mono ?_
  rintro e w1 ⟨v1, rfl, ho1, hb1⟩
  obtain ⟨a1, k1, rfl, hn1, hq1⟩ := slice_of_owns2 ho1
  replace ho1 := hide ho1
  replace hn1 := hide hn1
  replace hq1 := hide hq1
  replace hb1 := hide hb1
  go_wp2_with fail
  go_ret
  have q1 := owns_blkOf ho1.out
  have z1 := hb1.out.size
  have r1 := (row_of_owns2 ho1.out).alloc (.cells #[.slice a1 len k1, .int .i64 fail, .int .i64 0, .slice none 0 0] 69)
  refine ⟨w1.heap.size, fun i => i = w1.heap.size ∨ (∃ x, a1 = some x ∧ i = x.block), rfl, ⟨a1, k1, none, 0, ?_⟩, hb1.out.alloc z1 _⟩
  subst hl
  refine ⟨heap_alloc_new w1 _, r1, ⟨rfl, .inl ⟨rfl, rfl⟩⟩, fun x hx => ⟨.inr ⟨x, hx, rfl⟩, ?_, (fun h => by cases h)⟩, (fun i hi => by cases hi), .inl rfl, fun i hi => ?_⟩
  · have := (q1 x hx).2.1; omega
  · rw [World.size_alloc]
    rcases hi with rfl | ⟨x, hx, rfl⟩
    · omega
    · have := q1 x hx; omega

set_option maxHeartbeats 400000 in
theorem sbytes_any {W : World} {B : Nat} {M : Nat → Prop} {ts : List Int} {fail : Int} {g c : Nat} {zs : List Int} (h : SnkAt W B M ts fail g c zs) (hz : zs.length ≤ 140737488355328) :
    Calls Try.prog 12 #[.pointer (some ⟨g, 0, none⟩)] W fun e w' => ∃ v, e = .returned v ∧ OwnB w' W.heap.size 5 v zs ∧ Below W.heap.size W w' := by
  obtain ⟨am, cm, at', ct, h⟩ := h
  have h3 := h.cell.2.2.2.1
  have hn : at' = none → zs.length = 0 ∧ ct = 0 := by
    intro e
    rcases h.own.2 with ⟨hv, h0⟩ | ⟨g', cap', cur, hv, _⟩
    · simp only [Value.slice.injEq] at hv; exact ⟨h0, hv.2.2⟩
    · rw [e] at hv; cases hv
  have HC := hide (bclone_any at' zs.length ct zs W rfl hz hn (row_of_owns2 h.own))
  clear h hn
  go_enter Try.func12, Try.ntmps12
  go_wp2_with fail
  refine HC.out.mono ?_
  rintro e w1 ⟨v1, rfl, ho1, hb1⟩
  go_wp2_with fail
  go_ret
  exact ⟨_, rfl, ho1, hb1⟩

set_option maxHeartbeats 800000 in
theorem write_broken {W : World} {B : Nat} {M : Nat → Prop} {ts : List Int} {fail : Int} {g c : Nat} {zs : List Int} (p : Value) (h : SnkAt W B M ts fail g c zs) (hc : c < 4611686018427387904) (hf : failsAt fail (c + 1) = true) :
    Calls Try.prog 53 #[.pointer (some ⟨g, 0, none⟩), p] W fun e w' => e = .returned (.tuple #[.int .i64 0, .int .i64 32]) ∧ SnkAt w' B M ts fail g (c + 1) zs ∧ Upd (fun i => i = g) W w' := by
  obtain ⟨am, cm, at', ct, h⟩ := h
  have hcl := h.cell
  have HC := hide (call_any g fail c W (by omega) hcl.2.1 hcl.2.2.1 (hcl.2.2.2.2 2))
  rw [hf] at HC
  have H := hide h
  clear h hcl
  go_enter Try.func53, Try.ntmps53
  go_wp2_with fail
  refine HC.out.mono ?_
  rintro e w1 ⟨rfl, hs⟩
  replace hs := hide hs
  go_wp2_with fail
  go_ret2
  exact ⟨rfl, ⟨_, _, _, _, (H.out.called hs.out).1⟩, (H.out.called hs.out).2⟩

def WritePost (W : World) (B : Nat) (M : Nat → Prop) (ts : List Int) (fail : Int) (g c : Nat) (zs ys : List Int) (n : Nat) (e : Ending) (w' : World) : Prop :=
  e = .returned (.tuple #[.int .i64 (n : Int), .int .i64 0]) ∧ ∃ M', SnkAt w' B M' ts fail g (c + 1) (zs ++ ys.take n) ∧ Upd M W w' ∧ ∀ i, M' i → M i ∨ W.heap.size ≤ i

set_option maxRecDepth 100000 in
set_option maxHeartbeats 1600000 in
theorem write_go {W : World} {B : Nat} {M : Nat → Prop} {ts : List Int} {fail : Int} {g c : Nat} {zs : List Int} (p : Option Addr) (len pc : Nat) (ys : List Int) (n : Nat) (h : SnkAt W B M ts fail g c zs) (hc : c < 4611686018427387904) (hf : failsAt fail (c + 1) = false)
    (hl : ys.length = len) (hpc : len ≤ pc) (hn0 : p = none → len = 0 ∧ pc = 0) (hr : Row W .u8 p ys) (hpg : ∀ x, p = some x → 0 < len → x.block ≠ g) (hz : zs.length + len ≤ 140737488355328) (hB : B ≤ W.heap.size) (hn : n = mostN ts (c + 1) len) :
    Calls Try.prog 53 #[.pointer (some ⟨g, 0, none⟩), .slice p len pc] W fun e w' => WritePost W B M ts fail g c zs ys n e w' := by
  obtain ⟨i0, hi0, hz0, hz1, hz2⟩ := info_parts' infoByte'
  obtain ⟨am, cm, at', ct, h⟩ := h
  have hcl := h.cell
  have HC := hide (call_any g fail c W (by omega) hcl.2.1 hcl.2.2.1 (hcl.2.2.2.2 2))
  rw [hf] at HC
  have H := hide h
  have hml := mostN_le ts (c + 1) len
  have HR := hide hr
  have HN0 := hide hn0
  have HPG := hide hpg
  clear h hcl hr hn0 hpg
  go_enter Try.func53, Try.ntmps53
  go_wp2_with fail
  refine HC.out.mono ?_
  rintro e w1 ⟨rfl, hs⟩
  have HQ := hide (H.out.called hs)
  have c0 := HQ.out.1.cell.1
  have c2 := HQ.out.1.cell.2.2.1
  have c3 := HQ.out.1.cell.2.2.2.1
  have f3 := HQ.out.1.cell.2.2.2.2 3
  have HB := hide (bound_any g am ts.length cm ts (c + 1) len w1 rfl (by unfold maxLen; omega) (by omega) (by omega) c0 c2 HQ.out.1.rm)
  rw [← hn] at HB
  clear hs HC
  go_wp2_with fail
  refine HB.out.mono ?_
  rintro e w2 ⟨rfl, m, hw2⟩
  have hw2' := hw2
  subst hw2'
  replace hn := hide hn
  have hlt : (ys.take n).length = n := by rw [List.length_take]; have := hn.out; omega
  have HR1 := hide ((HR.out.upd HQ.out.2 (fun x hx h0 => HPG.out x hx (by omega))).take n)
  have HLL : Hid (zs.length + n = (zs ++ ys.take n).length) := hide (by rw [List.length_append, hlt])
  have hBw : B ≤ w1.heap.size := Nat.le_trans hB HQ.out.2.size
  have hzn : zs.length + n ≤ 140737488355328 := by have := hn.out; omega
  have hnp : n ≤ pc := by have := hn.out; omega
  have hnpi : (n : Int) ≤ (pc : Int) := by omega
  have hn0i : (0 : Int) ≤ (n : Int) := by omega
  have HNN : Hid (p = none → n = 0 ∧ pc = 0) := hide (fun e => by have := HN0.out e; omega)
  have hrow : (Value.slice at' zs.length ct).ownBlock ≠ some g := fun e => (H.out.mv g e).2 rfl
  replace hrow := hide hrow
  have HFIN : Hid (∀ v3 w3 av cv, v3 = Value.slice av (zs ++ ys.take n).length cv → w3.ownsRow B 5 1 v3 (zs ++ ys.take n).length ((zs ++ ys.take n).map (Value.int .u8)) → w1.grownBy w3 (Value.slice at' zs.length ct).ownBlock → (∀ k, v3.ownBlock = some k → (Value.slice at' zs.length ct).ownBlock = some k ∨ w1.heap.size ≤ k) →
      WritePost W B M ts fail g c zs ys n (.returned (.tuple #[.int .i64 (n : Int), .int .i64 0])) (w3.setCell ⟨g, 3, none⟩ v3)) := by
    intro v3 w3 av cv hv3 ho3 hg3 hk3
    have hgl := HQ.out.1.lt g HQ.out.1.mg
    have hu3 : Upd (fun i => (Value.slice at' zs.length ct).ownBlock = some i) w1 w3 := Upd.of_grown hg3 (fun k hk _ => hk)
    have hu4 : Upd (fun i => i = g) w3 (w3.setCell ⟨g, 3, none⟩ v3) := (Upd.refl _ _).set1 3 _
    have hsz : W.heap.size ≤ w1.heap.size := HQ.out.2.size
    have newb : ∀ i, v3.ownBlock = some i → i ≠ g := fun i hi e => by
      rcases hk3 i hi with h1 | h1
      · exact (H.out.mv i h1).2 e
      · subst e; exact absurd hgl.2 (by omega)
    refine ⟨rfl, fun i => i = g ∨ (∃ x, am = some x ∧ i = x.block) ∨ v3.ownBlock = some i, ⟨am, cm, av, cv, ?_, ?_, ?_, ?_, ?_, .inl rfl, ?_⟩, ?_, ?_⟩
    · rw [← hv3]
      exact block_setCell (hu3.heap HQ.out.1.blk (fun e => (H.out.mv g e).2 rfl)) 3 _
    · exact (HQ.out.1.rm.upd hu3 (fun x hx _ => (H.out.mm x hx).2.2)).upd hu4 (fun x hx _ => (H.out.mm x hx).2.1)
    · rw [← hv3]
      exact owns_upd ho3 hu4 newb
    · intro x hx
      refine ⟨.inr (.inl ⟨x, hx, rfl⟩), (H.out.mm x hx).2.1, fun e => ?_⟩
      rw [← hv3] at e
      rcases hk3 _ e with h1 | h1
      · exact (H.out.mm x hx).2.2 h1
      · have := (HQ.out.1.lt _ (HQ.out.1.mm x hx).1).2
        omega
    · intro i hi
      rw [← hv3] at hi
      exact ⟨.inr (.inr hi), newb i hi⟩
    · intro i hi
      refine ⟨?_, Nat.lt_of_lt_of_le (?_ : i < w3.heap.size) hu4.size⟩
      · rcases hi with rfl | ⟨x, hx, rfl⟩ | hi
        · exact hgl.1
        · exact (H.out.lt _ (H.out.mm x hx).1).1
        · exact (ho3.lt i hi).1
      · rcases hi with rfl | ⟨x, hx, rfl⟩ | hi
        · exact Nat.lt_of_lt_of_le hgl.2 hu3.size
        · exact Nat.lt_of_lt_of_le (HQ.out.1.lt _ (H.out.mm x hx).1).2 hu3.size
        · exact (ho3.lt i hi).2
    · exact ((HQ.out.2.mono (fun i _ e => e ▸ H.out.mg)).trans (hu3.mono (fun i _ e => (H.out.mv i e).1))).trans (hu4.mono (fun i _ e => e ▸ H.out.mg))
    · rintro i (rfl | ⟨x, hx, rfl⟩ | hi)
      · exact .inl H.out.mg
      · exact .inl (H.out.mm x hx).1
      · rcases hk3 i hi with h1 | h1
        · exact .inl (H.out.mv i h1).1
        · exact .inr (by omega)
  have HBK := hide HQ.out.1.blk
  go_wp2_with fail
  go_region_law (refine step_app rfl (.tmp 22) (.tmp 25) 32 rfl B 5 i0 Try.underlying32 hi0 hz0 hz1 hz2 (.slice at' zs.length ct) zs (by simp [Act.eval]) HQ.out.1.own p n pc (ys.take n) (by simp [Act.eval]) hlt HNN.out HR1.out hzn hBw ?_; intro v3 w3 hv3 hg3 hn3; obtain ⟨av, cv, hvv, _⟩ := owns_slice hv3; have hb3 := hg3.block g (lt_of_block HBK.out) (fun e => hrow.out e.symm); have k3 : w3.cell? ⟨g, 3, none⟩ = some (.slice at' zs.length ct) := (cell_of_row _ _ _ _ _ _ (hb3.trans HBK.out)).trans rfl; have f3' : w3.frozen? ⟨g, 3, none⟩ = false := frozen_blk (hb3.trans HBK.out) 3; replace hb3 := hide hb3; subst hvv)
  all_goals (try go_wp2_with fail)
  all_goals go_ret2
  all_goals rw [HLL.out]
  all_goals exact HFIN.out _ w3 av cv rfl hv3 hg3.ofDrewN hn3

end Go.Proofs.Yteindoemdonagaa
