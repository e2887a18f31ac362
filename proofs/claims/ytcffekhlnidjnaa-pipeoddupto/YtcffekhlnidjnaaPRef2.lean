/- The document's sink. -/
import Derived.Test.YtcffekhlnidjnaaPRef
namespace Go.Proofs.Ytcffekhlnidjnaa
open Go.RowKit

/-- The document's sink in its block: handed c times, it has zs. -/
structure IsRS (W : World) (B : Nat) (M : Nat → Prop) (at' : Option Addr) (lt ct : Nat) (ts : List Int) (fail : Int) (g c : Nat) (zs : List Int) (ay : Option Addr) (cy : Nat) : Prop where
  blk : RSnk0 W g (.slice at' lt ct) fail c (.slice ay zs.length cy)
  rt : Row W .i64 at' ts
  tb : ∀ x, at' = some x → 0 < ts.length → x.block < B
  own : W.ownsRow B 5 1 (.slice ay zs.length cy) zs.length (zs.map (Value.int .u8))
  mv : ∀ i, (Value.slice ay zs.length cy).ownBlock = some i → M i ∧ i ≠ g
  mg : M g
  lt : ∀ i, M i → B ≤ i ∧ i < W.heap.size
def RSAt (W : World) (B : Nat) (M : Nat → Prop) (at' : Option Addr) (lt ct : Nat) (ts : List Int) (fail : Int) (g c : Nat) (zs : List Int) : Prop := ∃ ay cy, IsRS W B M at' lt ct ts fail g c zs ay cy
theorem rsnk_cells {W : World} {g : Nat} {x : Value} {fail : Int} {c : Nat} {y : Value} (h : RSnk0 W g x fail c y) : W.cell? ⟨g, 0, none⟩ = some x ∧ W.cell? ⟨g, 1, none⟩ = some (.int .i64 fail) ∧ W.cell? ⟨g, 2, none⟩ = some (.int .i64 (c : Int)) ∧ W.cell? ⟨g, 3, none⟩ = some y ∧ W.cell? ⟨g, 4, none⟩ = some (.bool false) ∧ ∀ j, W.frozen? ⟨g, j, none⟩ = false := by
  refine ⟨?_, ?_, ?_, ?_, ?_, fun j => frozen_blk h j⟩ <;> (rw [cell_of_row _ _ _ _ _ _ h]; rfl)
theorem RSAt.upd {W W' : World} {B : Nat} {M S : Nat → Prop} {at' : Option Addr} {lt ct : Nat} {ts : List Int} {fail : Int} {g c : Nat} {zs : List Int} (h : RSAt W B M at' lt ct ts fail g c zs) (hu : Upd S W W') (hs : ∀ i, S i → B ≤ i ∧ ¬ M i) : RSAt W' B M at' lt ct ts fail g c zs := by
  obtain ⟨ay, cy, h⟩ := h
  exact ⟨ay, cy, hu.heap h.blk (fun e => (hs _ e).2 h.mg), h.rt.upd hu (fun x hx h0 e => by have := h.tb x hx h0; have := (hs _ e).1; omega), h.tb, owns_upd h.own hu (fun i hi e => (hs i e).2 (h.mv i hi).1), h.mv, h.mg, fun i hi => ⟨(h.lt i hi).1, Nat.lt_of_lt_of_le (h.lt i hi).2 hu.size⟩⟩
theorem RSAt.lt {W : World} {B : Nat} {M : Nat → Prop} {at' : Option Addr} {lt ct : Nat} {ts : List Int} {fail : Int} {g c : Nat} {zs : List Int} (h : RSAt W B M at' lt ct ts fail g c zs) : (∀ i, M i → B ≤ i ∧ i < W.heap.size) ∧ M g := by
  obtain ⟨ay, cy, h⟩ := h
  exact ⟨h.lt, h.mg⟩
theorem IsRS.called {W : World} {B : Nat} {M : Nat → Prop} {at' : Option Addr} {lt ct : Nat} {ts : List Int} {fail : Int} {g c : Nat} {zs : List Int} {ay : Option Addr} {cy : Nat} (h : IsRS W B M at' lt ct ts fail g c zs ay cy) :
    IsRS (W.setCell ⟨g, 2, none⟩ (.int .i64 ((c : Int) + 1))) B M at' lt ct ts fail g (c + 1) zs ay cy ∧ Upd (fun i => i = g) W (W.setCell ⟨g, 2, none⟩ (.int .i64 ((c : Int) + 1))) := by
  have hu : Upd (fun i => i = g) W (W.setCell ⟨g, 2, none⟩ (.int .i64 ((c : Int) + 1))) := (Upd.refl _ _).set1 2 _
  have hgB := (h.lt g h.mg).1
  exact ⟨⟨block_setCell h.blk 2 _, h.rt.upd hu (fun x hx h0 e => by have := h.tb x hx h0; omega), h.tb, owns_upd h.own hu (fun i hi => (h.mv i hi).2), h.mv, h.mg, fun i hi => ⟨(h.lt i hi).1, Nat.lt_of_lt_of_le (h.lt i hi).2 hu.size⟩⟩, hu⟩

def RWPost (W : World) (B : Nat) (M : Nat → Prop) (at' : Option Addr) (lt ct : Nat) (ts : List Int) (fail : Int) (g c : Nat) (zs ys : List Int) (e : Ending) (w' : World) : Prop :=
  e = .returned (.tuple #[.int .i64 (snkWf ts fail (c, zs) ys).1, .int .i64 (snkWf ts fail (c, zs) ys).2.1]) ∧ ∃ M', RSAt w' B M' at' lt ct ts fail g (snkWf ts fail (c, zs) ys).2.2.1 (snkWf ts fail (c, zs) ys).2.2.2 ∧ Upd M W w' ∧ ∀ i, M' i → M i ∨ W.heap.size ≤ i

set_option maxRecDepth 100000 in
set_option maxHeartbeats 3200000 in
theorem rwrite_any {W : World} {B : Nat} {M : Nat → Prop} {at' : Option Addr} {lt ct : Nat} {ts : List Int} {fail : Int} {g c : Nat} {zs : List Int} (p : Option Addr) (len pc : Nat) (ys : List Int) (h : RSAt W B M at' lt ct ts fail g c zs) (hlt : ts.length = lt) (hc : c < 4611686018427387904)
    (hl : ys.length = len) (hpc : len ≤ pc) (hn0 : p = none → len = 0 ∧ pc = 0) (hr : Row W .u8 p ys) (hpg : ∀ x, p = some x → 0 < len → x.block ≠ g) (hz : zs.length + len ≤ 140737488355328) (hB : B ≤ W.heap.size) :
    Calls Try.prog 21 #[.pointer (some ⟨g, 0, none⟩), .slice p len pc] W fun e w' => RWPost W B M at' lt ct ts fail g c zs ys e w' := by
  obtain ⟨i0, hi0, hz0, hz1, hz2⟩ := info_parts' infoByte'
  obtain ⟨ay, cy, h⟩ := h
  have h2 := (rsnk_cells h.blk).2.2.1
  have f2 := (rsnk_cells h.blk).2.2.2.2.2 2
  have HQ := hide h.called
  have H := hide h
  have HR := hide (hr.upd h.called.2 (fun x hx h0 => hpg x hx (by omega)))
  have HN0 := hide hn0
  clear h hr hn0 hpg
  have e1 : ((c + 1 : Nat) : Int) = (c : Int) + 1 := by omega
  go_enter Try.func21, Try.ntmps21
  go_upto_region 2 with fail
  generalize W.setCell ⟨g, 2, none⟩ (.int .i64 ((c : Int) + 1)) = w1 at *
  have hcl := rsnk_cells HQ.out.1.blk
  have c0 := hcl.1
  have c1 := hcl.2.1
  have c2 := hcl.2.2.1
  have c3 := hcl.2.2.2.1
  have c4 := hcl.2.2.2.2.1
  have f3 := hcl.2.2.2.2.2 3
  rw [e1] at c2
  clear hcl h2 f2
  by_cases hf : failsAt fail (c + 1) = true
  · have hw : snkWf ts fail (c, zs) ys = (0, 32, (c + 1, zs)) := by simp [snkWf, hf]
    have hf1 : (1 : Int) ≤ fail ∧ fail ≤ (c : Int) + 1 := by
      have := of_decide_eq_true hf
      omega
    have i1 := hf1.1
    have i2 := hf1.2
    have HFIN : Hid (∀ m, RWPost W B M at' lt ct ts fail g c zs ys (.returned (.tuple #[.int .i64 0, .int .i64 32])) (w1.drewN m)) := hide fun m => by
      have hst : Still w1 (w1.drewN m) := (Still.refl _).drewN m
      refine ⟨by rw [hw], M, ?_, (HQ.out.2.mono (fun i _ e => e ▸ H.out.mg)).trans (hst.upd _), fun i hi => .inl hi⟩
      rw [hw]
      exact RSAt.upd ⟨ay, cy, HQ.out.1⟩ (hst.upd Noth) (fun i e => e.elim)
    clear hf hf1 hw
    go_wp2_with fail
    go_quiet (fail)
    go_wp2_with fail
    go_ret2
    exact HFIN.out _
  · have hf0 : failsAt fail (c + 1) = false := by simpa using hf
    have hf' : ¬ ((1 : Int) ≤ fail ∧ fail ≤ (c : Int) + 1) := fun e => hf (by unfold failsAt; rw [e1]; exact decide_eq_true e)
    obtain ⟨n, hn⟩ : ∃ n, n = mostN ts (c + 1) len := ⟨_, rfl⟩
    have hnle := mostN_le ts (c + 1) len
    rw [← hn] at hnle
    have hw : snkWf ts fail (c, zs) ys = ((n : Int), 0, (c + 1, zs ++ ys.take n)) := by simp [snkWf, hf0, hl, ← hn]
    have HMO : Hid (∀ q a, Calls Try.prog 33 #[.slice at' lt ct, .int .i64 ((c : Int) + 1), .int .i64 (len : Int)] (w1.drewN (q + a)) fun e w'' => e = .returned (.int .i64 (n : Int)) ∧ ∃ n, w'' = w1.drewN (q + n)) := hide fun q a => by
      have h := most_any at' lt ct ts (c + 1) len (w1.drewN (q + a)) hlt (by unfold maxLen; omega) (by omega) (by omega) (HQ.out.1.rt.upd (((Still.refl w1).drewN (q + a)).upd Noth) (fun _ _ _ e => e))
      rw [e1, ← hn] at h
      exact h.mono fun e w' ⟨h1, h2⟩ => ⟨h1, a, h2⟩
    have HW := hide hw
    have hlt2 : (ys.take n).length = n := by rw [List.length_take]; omega
    have HLT2 := hide hlt2
    have HR1 := hide (HR.out.take n)
    have HLL : Hid (zs.length + n = (zs ++ ys.take n).length) := hide (by rw [List.length_append, hlt2])
    have hBw : B ≤ w1.heap.size := Nat.le_trans hB HQ.out.2.size
    have hzn : zs.length + n ≤ 140737488355328 := by omega
    have hnpi : (n : Int) ≤ (pc : Int) := by omega
    have hn0i : (0 : Int) ≤ (n : Int) := by omega
    have HNN : Hid (p = none → n = 0 ∧ pc = 0) := hide (fun e => by have := HN0.out e; omega)
    have HFIN : Hid (∀ V v3 w3 av cv, Still w1 V → v3 = Value.slice av (zs ++ ys.take n).length cv → w3.ownsRow B 5 1 v3 (zs ++ ys.take n).length ((zs ++ ys.take n).map (Value.int .u8)) → V.grownBy w3 (Value.slice ay zs.length cy).ownBlock → (∀ k, v3.ownBlock = some k → (Value.slice ay zs.length cy).ownBlock = some k ∨ V.heap.size ≤ k) →
        RWPost W B M at' lt ct ts fail g c zs ys (.returned (.tuple #[.int .i64 (n : Int), .int .i64 0])) (w3.setCell ⟨g, 3, none⟩ v3)) := by
      intro V v3 w3 av cv hV hv3 ho3 hg3 hk3
      have hgl := HQ.out.1.lt g HQ.out.1.mg
      have hVs : V.heap.size = w1.heap.size := by rw [hV.heap]
      have hu3 : Upd (fun i => (Value.slice ay zs.length cy).ownBlock = some i) w1 w3 := (hV.upd _).trans (Upd.of_grown hg3 (fun k hk _ => hk))
      have hu4 : Upd (fun i => i = g) w3 (w3.setCell ⟨g, 3, none⟩ v3) := (Upd.refl _ _).set1 3 _
      have hsz : W.heap.size ≤ w1.heap.size := HQ.out.2.size
      have newb : ∀ i, v3.ownBlock = some i → i ≠ g := fun i hi e => by
        rcases hk3 i hi with h1 | h1
        · exact (H.out.mv i h1).2 e
        · subst e; have := hgl.2; omega
      refine ⟨by rw [HW.out], fun i => i = g ∨ v3.ownBlock = some i, ?_, ?_, ?_⟩
      · rw [HW.out]
        refine ⟨av, cv, ?_, ?_, H.out.tb, ?_, ?_, .inl rfl, ?_⟩
        · rw [← hv3]
          exact block_setCell (hu3.heap HQ.out.1.blk (fun e => (H.out.mv g e).2 rfl)) 3 _
        · exact (HQ.out.1.rt.upd hu3 (fun x hx h0 e => by have := H.out.tb x hx h0; have := (H.out.own.lt _ e).1; omega)).upd hu4 (fun x hx h0 e => by have := H.out.tb x hx h0; omega)
        · rw [← hv3]
          exact owns_upd ho3 hu4 newb
        · intro i hi
          rw [← hv3] at hi
          exact ⟨.inr hi, newb i hi⟩
        · intro i hi
          refine ⟨?_, Nat.lt_of_lt_of_le (?_ : i < w3.heap.size) hu4.size⟩
          · rcases hi with rfl | hi
            · exact hgl.1
            · exact (ho3.lt i hi).1
          · rcases hi with rfl | hi
            · exact Nat.lt_of_lt_of_le hgl.2 hu3.size
            · exact (ho3.lt i hi).2
      · exact ((HQ.out.2.mono (fun i _ e => e ▸ H.out.mg)).trans (hu3.mono (fun i _ e => (H.out.mv i e).1))).trans (hu4.mono (fun i _ e => e ▸ H.out.mg))
      · rintro i (rfl | hi)
        · exact .inl H.out.mg
        · rcases hk3 i hi with h1 | h1
          · exact .inl (H.out.mv i h1).1
          · exact .inr (by omega)
    have HBK := hide HQ.out.1.blk
    have hrow : Hid ((Value.slice ay zs.length cy).ownBlock ≠ some g) := fun e => (H.out.mv g e).2 rfl
    clear hw hlt2 hf hf0 hn
    by_cases hfail : fail < 1
    · have i2 : ((1 : Int) ≤ fail) = False := eq_false (by omega)
      clear hf' hfail
      go_wp2_with fail
      go_quiet (fail)
      go_wp2_with fail
      go_quiet ((go_at_call 33; with_reducible exact HMO.out _ _))
      go_wp2_with fail
      go_region_law (refine step_app rfl (.tmp 97) (.tmp 100) 23 rfl B 5 i0 Try.underlying23 hi0 hz0 hz1 hz2 (.slice ay zs.length cy) zs (by simp [Act.eval]) HQ.out.1.own p n pc (ys.take n) (by simp [Act.eval]) HLT2.out HNN.out HR1.out hzn hBw ?_; intro v3 w3 hv3 hg3 hn3; obtain ⟨av, cv, hvv, _⟩ := owns_slice hv3; have hb3 := hg3.block g (lt_of_block HBK.out) (fun e => hrow.out e.symm); have k3 : w3.cell? ⟨g, 3, none⟩ = some (.slice ay zs.length cy) := (cell_of_row _ _ _ _ _ _ (hb3.trans HBK.out)).trans rfl; have f3' : w3.frozen? ⟨g, 3, none⟩ = false := frozen_blk (hb3.trans HBK.out) 3; replace hb3 := hide hb3; subst hvv)
      all_goals (try go_wp2_with fail)
      all_goals go_ret2
      all_goals rw [HLL.out]
      all_goals exact HFIN.out _ _ w3 av cv (by first | exact ((Still.refl w1).drewN _).drew | exact (((Still.refl w1).drewN _).drewN _).drew | exact ((Still.refl w1).drewN _)) rfl hv3 hg3 hn3
    · have i3 : (1 : Int) ≤ fail := by omega
      have i4 : (fail ≤ (c : Int) + 1) = False := eq_false (by omega)
      clear hf' hfail
      go_wp2_with fail
      go_quiet (fail)
      go_wp2_with fail
      go_quiet ((go_at_call 33; with_reducible exact HMO.out _ _))
      go_wp2_with fail
      go_region_law (refine step_app rfl (.tmp 97) (.tmp 100) 23 rfl B 5 i0 Try.underlying23 hi0 hz0 hz1 hz2 (.slice ay zs.length cy) zs (by simp [Act.eval]) HQ.out.1.own p n pc (ys.take n) (by simp [Act.eval]) HLT2.out HNN.out HR1.out hzn hBw ?_; intro v3 w3 hv3 hg3 hn3; obtain ⟨av, cv, hvv, _⟩ := owns_slice hv3; have hb3 := hg3.block g (lt_of_block HBK.out) (fun e => hrow.out e.symm); have k3 : w3.cell? ⟨g, 3, none⟩ = some (.slice ay zs.length cy) := (cell_of_row _ _ _ _ _ _ (hb3.trans HBK.out)).trans rfl; have f3' : w3.frozen? ⟨g, 3, none⟩ = false := frozen_blk (hb3.trans HBK.out) 3; replace hb3 := hide hb3; subst hvv)
      all_goals (try go_wp2_with fail)
      all_goals go_ret2
      all_goals rw [HLL.out]
      all_goals exact HFIN.out _ _ w3 av cv (by first | exact ((Still.refl w1).drewN _).drew | exact (((Still.refl w1).drewN _).drewN _).drew | exact ((Still.refl w1).drewN _)) rfl hv3 hg3 hn3

end Go.Proofs.Ytcffekhlnidjnaa
