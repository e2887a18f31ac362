/- The document's Joined, of right inner nodes. Written by mkrj.py. -/
import Derived.Test.YteciiehnoakgdaaNRWith
import Derived.Test.YteciiehnoakgdaaNLent
import Derived.Deep.RegionLaw
import Derived.Deep.DeepCutAuto
import Derived.Deep.CutBlock
import Derived.Deep.AppendLies
namespace Go.Proofs.Yteciiehnoakgdaa
open Go.RowKit

theorem inner_len {p : NP} (h : RtP p) (h0 : 0 < p.lv) : p.cs.length = p.ks.length + 1 := by
  rcases h.2 with h | h
  · omega
  · exact h.2.2
/-- The first k, with one more behind a place. -/
def insK (l : List Int) (at' : Nat) (x : Int) (k : Nat) : List Int := if k ≤ at' then l.take k else l.take (at' + 1) ++ x :: (l.drop (at' + 1)).take (k - at' - 1)
theorem insK_end {l : List Int} {at' : Nat} {x : Int} (h : at' < l.length) : insK l at' x l.length = insL l (at' + 1) x := by
  unfold insK insL
  rw [if_neg (by omega), List.take_of_length_le (i := l.length - at' - 1) (by rw [List.length_drop]; omega)]
theorem insK_next {l : List Int} {at' k : Nat} {x y : Int} (hy : l[k]? = some y) (hk : k ≠ at') : insK l at' x (k + 1) = insK l at' x k ++ [y] := by
  unfold insK
  by_cases h : k < at'
  · rw [if_pos (by omega), if_pos (by omega), List.take_add_one, hy]; rfl
  · have h2 : (l.drop (at' + 1)).take (k - at' - 1 + 1) = (l.drop (at' + 1)).take (k - at' - 1) ++ [y] := by rw [List.take_add_one, List.getElem?_drop, show at' + 1 + (k - at' - 1) = k by omega, hy]; rfl
    rw [if_neg (by omega), if_neg (by omega), show k + 1 - at' - 1 = k - at' - 1 + 1 by omega, h2, ← List.cons_append, ← List.append_assoc]
theorem insK_at {l : List Int} {k : Nat} {x y : Int} (hy : l[k]? = some y) : insK l k x (k + 1) = insK l k x k ++ [y] ++ [x] := by
  unfold insK
  rw [if_neg (by omega), if_pos (Nat.le_refl _), show k + 1 - k - 1 = 0 by omega, List.take_zero, List.take_add_one, hy]
  rfl
theorem insK_len {l : List Int} {at' k : Nat} {x : Int} (h : at' < l.length) (hk : k ≤ l.length) : (insK l at' x k).length = if k ≤ at' then k else k + 1 := by
  unfold insK
  split
  · rw [List.length_take]; omega
  · rw [List.length_append, List.length_take, List.length_cons, List.length_take, List.length_drop]; omega

theorem ownB_ty {W : World} {N : Nat} {v : Value} {zs : List Int} (h : OwnB W N 5 v zs) : ∀ k, v.ownBlock = some k → ∃ cur, W.heap[k]? = some (.cells cur 5 (0, 0)) := by
  intro k hk
  rcases h with ⟨hv, _⟩ | ⟨g, c, cur, hv, _, hh, _⟩
  · rw [hv] at hk; cases hk
  · rw [hv] at hk; cases hk; exact ⟨cur, hh⟩
theorem own_some {W : World} {N : Nat} {e : TypeId} {v : Value} {n : Nat} {xs : List Value} (h : W.ownsRow N e 1 v (n + 1) xs) : ∃ g cap, v = .slice (some ⟨g, 0, none⟩) (n + 1) cap := by
  rcases h.2 with ⟨_, h0⟩ | ⟨g, c, _, hv, _⟩
  · omega
  · exact ⟨g, c, hv⟩

/-- While Joined lays the kids: its box, its argument's, what it hands back. -/
structure RjS (w W : World) (X : Nat) (A : Array Value) (m : Nd) : Prop where
  box : W.heap[X]? = some (.cells #[.int .i64 m.lv, m.hi.v, .int .i64 m.ri, m.ks.v, m.vs.v, m.cs.v] 30 (0, 0))
  inb : W.heap[w.heap.size]? = some (.cells A 30 (0, 0))
  res : W.heap[w.heap.size + 1]? = some (.cells #[.int .i64 0, .slice none 0 0, .int .i64 0, .slice none 0 0, .slice none 0 0, .slice none 0 0] 30 (0, 0))
  bel : Below w.heap.size w W
  hX : w.heap.size + 2 ≤ X
  own : m.Own W (w.heap.size + 2)
theorem RjS.below {w W W' : World} {X : Nat} {A : Array Value} {m : Nd} (s : RjS w W X A m) (hb : Below W.heap.size W W') : RjS w W' X A m :=
  ⟨(hb.block _ (lt_of_block s.box)).trans s.box, (hb.block _ (lt_of_block s.inb)).trans s.inb, (hb.block _ (lt_of_block s.res)).trans s.res, s.bel.trans (hb.mono s.bel.size), s.hX, s.own.below hb⟩
/-- One kid more. -/
theorem RjS.more {w W W2 : World} {X : Nat} {A : Array Value} {lv ri : Int} {hi : Tx} {ks vs : TL} {ca : Option Addr} {cc : Nat} {C : List Int} {g cap : Nat} {z : Int} (s : RjS w W X A ⟨lv, hi, ri, ks, vs, ⟨ca, cc, C⟩⟩)
    (ho : W2.ownsRow (w.heap.size + 2) 3 1 (.slice (some ⟨g, 0, none⟩) (C.length + 1) cap) (C.length + 1) (C.map (Value.int .i64) ++ [.int .i64 z])) (hg : W.grownBy W2 (Value.slice ca C.length cc).ownBlock) (hz : (C.length + 1) * 8 ≤ 140737488352000) :
    W2.heap[X]? = some (.cells #[.int .i64 lv, hi.v, .int .i64 ri, ks.v, vs.v, .slice ca C.length cc] 30 (0, 0)) ∧
    RjS w (W2.setCell ⟨X, 5, none⟩ (.slice (some ⟨g, 0, none⟩) (C.length + 1) cap)) X A ⟨lv, hi, ri, ks, vs, ⟨some ⟨g, 0, none⟩, cap, C ++ [z]⟩⟩ := by
  have U := turned (X := X) (j := 5) (u := .slice (some ⟨g, 0, none⟩) (C.length + 1) cap) hg
  have hty : ∀ b, (Value.slice ca C.length cc).ownBlock = some b → ∃ cur, W.heap[b]? = some (.cells cur 3 (0, 0)) := fun b hb => by
    obtain ⟨ad, h1, rfl⟩ := block_of hb
    exact owns_ty s.own.c ad h1
  have hXb : ∀ e (cur : Array Value) fz, e ≠ 30 → W.heap[X]? ≠ some (.cells cur e fz) := fun e cur fz he h => by rw [s.box] at h; simp only [Option.some.injEq, Obj.cells.injEq] at h; exact he h.2.1.symm
  have hlt2 : ∀ b, (Value.slice ca C.length cc).ownBlock = some b → w.heap.size + 2 ≤ b := fun b hb => (s.own.c.lt b hb).1
  have box2 : W2.heap[X]? = some (.cells #[.int .i64 lv, hi.v, .int .i64 ri, ks.v, vs.v, .slice ca C.length cc] 30 (0, 0)) := (hg.block X (lt_of_block s.box) (fun e => by obtain ⟨cur, h1⟩ := hty X e.symm; exact hXb _ cur _ (by decide) h1)).trans s.box
  have ap : ∀ e, e ≠ 30 → e ≠ 3 → ∀ b, (b = X ∨ (Value.slice ca C.length cc).ownBlock = some b) → ∀ cur, W.heap[b]? ≠ some (.cells cur e (0, 0)) := fun e h1 h2 b hb cur h => by
    rcases hb with rfl | hb
    · exact hXb e cur _ h1 h
    · obtain ⟨cur', h3⟩ := hty b hb
      rw [h3] at h
      simp only [Option.some.injEq, Obj.cells.injEq] at h
      exact h2 h.2.1.symm
  have tb : ∀ v zs, OwnB W (w.heap.size + 2) 5 v zs → OwnB (W2.setCell ⟨X, 5, none⟩ (.slice (some ⟨g, 0, none⟩) (C.length + 1) cap)) (w.heap.size + 2) 5 v zs := fun v zs h => h.upd U fun k hk e => by
    obtain ⟨cur, h1⟩ := ownB_ty h k hk
    exact ap _ (by decide) (by decide) k e cur h1
  have tl : ∀ t : TL, t.Own W (w.heap.size + 2) → t.Own (W2.setCell ⟨X, 5, none⟩ (.slice (some ⟨g, 0, none⟩) (C.length + 1) cap)) (w.heap.size + 2) := fun t h => ⟨owns_apart h.row U (ap _ (by decide) (by decide)), fun x hx => tb _ _ (h.each x hx), h.b8⟩
  have low : ∀ b, b < w.heap.size + 2 → ¬ (b = X ∨ (Value.slice ca C.length cc).ownBlock = some b) := fun b hb e => by
    have := s.hX
    rcases e with e | e
    · omega
    · have := hlt2 _ e; omega
  refine ⟨box2, ?_, U.heap s.inb (low _ (by omega)), U.heap s.res (low _ (by omega)), s.bel.trans (U.below s.bel.size (fun b hb e => low b (by omega) e)), s.hX, tb _ _ s.own.h, s.own.hb, tl _ s.own.k, tl _ s.own.v, ?_, s.own.kz, s.own.vz, ?_⟩
  · have := (blk_one box2 (.slice (some ⟨g, 0, none⟩) (C.length + 1) cap)).2.2
    simp only [IL.v, List.length_append, List.length_singleton]
    exact this
  · have hne : g ≠ X := fun e => by
      obtain ⟨cur, h1⟩ := owns_ty ho ⟨g, 0, none⟩ rfl
      simp only at h1
      rw [e, box2] at h1
      simp only [Option.some.injEq, Obj.cells.injEq] at h1
      exact absurd h1.2.1 (by decide)
    have ho2 := owns_upd ho ((Upd.refl (fun b => b = X) W2).setCell ⟨X, 5, none⟩ (.slice (some ⟨g, 0, none⟩) (C.length + 1) cap) (fun _ => rfl)) (fun k hk e => by cases hk; exact hne e)
    simp only [IL.v, List.length_append, List.length_singleton, List.map_append, List.map_singleton]
    exact ho2
  · simp only [List.length_append, List.length_singleton]
    exact hz

set_option maxRecDepth 100000 in
set_option maxHeartbeats 3200000 in
theorem rjoined_any (n : Nd) (k : Tx) (kid : Int) (w : World) (hn : n.Ok w) (hk : k.Ok w) (hR : RtP n.p) (h0 : 0 < n.lv) (hz1 : n.ks.L.length * 24 ≤ 140737488351900) (hz2 : n.cs.s.length * 8 ≤ 140737488351900) :
    Calls Try.prog 30 #[n.v, k.v, .int .i64 kid] w (NdBPost w (n.p.joined k.s kid) (!isIn n.ks.p k.s)) := by
  obtain ⟨iI, hiI, hzI0, hzI1, hzI2⟩ := info_parts infoI
  have HFI : Hid (∀ W, Below w.heap.size w W → Calls Try.prog 17 #[n.v, k.v] W fun e w' => e = .returned (.tuple #[.int .i64 (cntB n.ks.p k.s : Nat), .bool (isIn n.ks.p k.s)]) ∧ Below W.heap.size W w') := fun W h => rfind_any n k W (hn.below h) (hk.below h)
  have HCL : Hid (∀ W, Below w.heap.size w W → Calls Try.prog 36 #[n.v] W (RcPost W n)) := fun W h => rclone_any n W (hn.below h)
  have hcb := cntB_le n.ks.p k.s
  rw [TL.p_len] at hcb
  have hlt : isIn n.ks.p k.s = true → cntB n.ks.p k.s < n.ks.L.length := fun h => by have := in_lt hR h; rw [show n.p.ks = n.ks.p from rfl, TL.p_len] at this; exact this
  have hvl : n.cs.s.length = n.ks.L.length + 1 := by have := inner_len hR h0; rw [show n.p.ks = n.ks.p from rfl, TL.p_len] at this; exact this
  have HP : Hid (n.p.joined k.s kid = if isIn n.ks.p k.s then n.p else { n.p with ks := insL n.ks.p (cntB n.ks.p k.s) k.s, cs := insL n.cs.s (cntB n.ks.p k.s + 1) kid }) := rfl
  have HOKN : Hid (∀ W, Below w.heap.size w W → n.Ok W) := fun W h => hn.below h
  have HOKK : Hid (∀ W, Below w.heap.size w W → k.Ok W) := fun W h => hk.below h
  obtain ⟨cb, hcb'⟩ : ∃ cb, cb = cntB n.ks.p k.s := ⟨_, rfl⟩
  obtain ⟨ib, hib⟩ : ∃ ib, ib = isIn n.ks.p k.s := ⟨_, rfl⟩
  rw [← hcb'] at HFI HP hcb hlt
  rw [← hib] at HFI HP hlt ⊢
  obtain ⟨P, hP⟩ : ∃ P, P = n.p.joined k.s kid := ⟨_, rfl⟩
  rw [← hP] at HP ⊢
  unfold RcPost at HCL
  have HPL : Hid (n.p.hi.length = n.hi.s.length ∧ n.p.ks.length = n.ks.L.length ∧ n.p.vs.length = n.vs.L.length ∧ n.p.cs.length = n.cs.s.length) := ⟨rfl, TL.p_len _, TL.p_len _, rfl⟩
  have HCS : Hid (n.cs.s.length * 8 ≤ 140737488352000) := hn.cz
  clear hcb' hib hP hn hk hR h0
  obtain ⟨np, hnp⟩ : ∃ np, np = n.p := ⟨_, rfl⟩
  rw [← hnp] at HCL HPL
  have HNP := hide hnp
  clear hnp
  obtain ⟨lv, ⟨ha, hc, hs⟩, ri, ⟨ka, kc, K⟩, ⟨va, vc, V⟩, ⟨ca, cc, C⟩⟩ := n
  simp only [Nd.v, Tx.v, TL.v, IL.v] at HFI HCL HPL hcb hlt hvl hz1 hz2 HCS ⊢
  obtain ⟨lh, hlh⟩ : ∃ lh, hs.length = lh := ⟨_, rfl⟩
  obtain ⟨lk, hlk⟩ : ∃ lk, K.length = lk := ⟨_, rfl⟩
  obtain ⟨lw, hlw⟩ : ∃ lw, V.length = lw := ⟨_, rfl⟩
  obtain ⟨lc, hlc⟩ : ∃ lc, C.length = lc := ⟨_, rfl⟩
  obtain ⟨lx, hlx⟩ : ∃ lx, k.s.length = lx := ⟨_, rfl⟩
  rw [hlh, hlk, hlw, hlc, hlx] at HFI
  rw [hlh, hlk, hlw, hlc] at HCL HPL
  rw [hlk] at hz1 hcb hlt hvl
  rw [hlc] at hz2 hvl
  rw [hlc] at HCS
  rw [hlh, hlk, hlw, hlc, hlx]
  replace hlh := hide hlh
  replace hlk := hide hlk
  replace hlw := hide hlw
  replace hlc := hide hlc
  replace hlx := hide hlx
  replace hvl := hide hvl
  obtain ⟨w0, hw0⟩ : ∃ w0, w0 = (w.alloc (.cells #[.int .i64 lv, .slice ha lh hc, .int .i64 ri, .slice ka lk kc, .slice va lw vc, .slice ca lc cc] 30)).alloc (.cells #[.int .i64 0, .slice none 0 0, .int .i64 0, .slice none 0 0, .slice none 0 0, .slice none 0 0] 30) := ⟨_, rfl⟩
  have z0 : w0.heap.size = w.heap.size + 2 := by rw [hw0]; simp
  have B0 : Hid (Below w.heap.size w w0) := by show Below _ _ _; rw [hw0]; exact ((Below.refl _ _).alloc (Nat.le_refl _) _).alloc (by simp) _
  have A0 : Hid (w0.heap[w.heap.size]? = some (.cells #[.int .i64 lv, .slice ha lh hc, .int .i64 ri, .slice ka lk kc, .slice va lw vc, .slice ca lc cc] 30 (0, 0))) := by show _ = _; rw [hw0]; exact old_at (new_at rfl)
  have R0 : Hid (w0.heap[w.heap.size + 1]? = some (.cells #[.int .i64 0, .slice none 0 0, .int .i64 0, .slice none 0 0, .slice none 0 0, .slice none 0 0] 30 (0, 0))) := by show _ = _; rw [hw0]; exact new_at (by simp)
  have HW0 := hide hw0
  have Z0 := hide z0
  clear hw0 z0
  go_enter Try.func30, Try.ntmps30
  go_wp2_with fail
  rw [← HW0.out]
  refine (HCL.out w0 B0.out).mono ?_
  rintro e w1 ⟨m, N1, N2, rfl, hpm, hom, b1, hN1, hok1, hN2, hov2, hN12⟩
  have L1 : Hid (m.hi.s.length = lh) := by show _ = _; rw [← HPL.out.1, ← hpm]; rfl
  have L2 : Hid (m.ks.L.length = lk) := by show _ = _; rw [← HPL.out.2.1, ← hpm]; exact (TL.p_len _).symm
  have L3 : Hid (m.vs.L.length = lw) := by show _ = _; rw [← HPL.out.2.2.1, ← hpm]; exact (TL.p_len _).symm
  have L4 : Hid (m.cs.s.length = lc) := by show _ = _; rw [← HPL.out.2.2.2, ← hpm]; rfl
  have HPM := hide (hpm.trans HNP.out)
  have HOM := hide hom
  have OK1 := hide hok1
  have OV2 := hide hov2
  have HN2 := hide hN2
  have hN12' := hide hN12
  have B1 := hide (B0.out.trans (b1.mono B0.out.size))
  have A1 : Hid (w1.heap[w.heap.size]? = _) := (b1.block _ (lt_of_block A0.out)).trans A0.out
  have R1 : Hid (w1.heap[w.heap.size + 1]? = _) := (b1.block _ (lt_of_block R0.out)).trans R0.out
  have hsz1 := b1.size
  rw [Z0.out] at hsz1
  rw [Z0.out] at HOM
  clear hpm hom b1 hN1 hok1 hN2 hov2 hN12 HCL HW0 HPL HNP
  obtain ⟨lv6, ⟨ha6, hc6, hs6⟩, ri6, ⟨ka6, kc6, K6⟩, ⟨va6, vc6, V6⟩, ⟨ca6, cc6, C6⟩⟩ := m
  dsimp only
  simp only at L1 L2 L3 L4
  rw [L1.out, L2.out, L3.out, L4.out]
  obtain ⟨X, hX⟩ : ∃ X, X = w1.heap.size := ⟨_, rfl⟩
  obtain ⟨w2, hw2⟩ : ∃ w2, w2 = w1.alloc (.cells #[.int .i64 lv6, .slice ha6 lh hc6, .int .i64 ri6, .slice ka6 lk kc6, .slice va6 lw vc6, .slice ca6 lc cc6] 30) := ⟨_, rfl⟩
  have b12 : Below w1.heap.size w1 w2 := by rw [hw2]; exact (Below.refl _ _).alloc (Nat.le_refl _) _
  have X2 : Hid (w2.heap[X]? = some (.cells #[.int .i64 lv6, .slice ha6 lh hc6, .int .i64 ri6, .slice ka6 lk kc6, .slice va6 lw vc6, .slice ca6 lc cc6] 30 (0, 0))) := by show _ = _; rw [hw2, hX]; exact heap_alloc_new w1 _
  have B2 := hide (B1.out.trans (b12.mono B1.out.size))
  have A2 : Hid (w2.heap[w.heap.size]? = _) := (b12.block _ (lt_of_block A1.out)).trans A1.out
  have R2 : Hid (w2.heap[w.heap.size + 1]? = _) := (b12.block _ (lt_of_block R1.out)).trans R1.out
  have B12 := hide b12
  have HW2 := hide hw2
  have HX := hide hX
  clear b12 hw2 hX
  obtain ⟨c0, c1, c2, c3, c4, c5⟩ := Six.of A2.out
  rw [HW2.out] at c0 c1 c2 c3 c4 c5
  go_wp2_with fail
  rw [← HX.out, ← HW2.out]
  clear c0 c1 c2 c3 c4 c5
  refine (HFI.out w2 B2.out).mono ?_
  rintro e w3 ⟨rfl, b3⟩
  have B13 := hide (B12.out.trans (b3.mono B12.out.size))
  have B3 := hide (B2.out.trans (b3.mono B2.out.size))
  have A3 : Hid (w3.heap[w.heap.size]? = _) := (b3.block _ (lt_of_block A2.out)).trans A2.out
  have R3 : Hid (w3.heap[w.heap.size + 1]? = _) := (b3.block _ (lt_of_block R2.out)).trans R2.out
  have X3 : Hid (w3.heap[X]? = _) := (b3.block _ (lt_of_block X2.out)).trans X2.out
  have hX3 := lt_of_block X3.out
  have hsX : w.heap.size + 2 ≤ X := by have := HX.out; omega
  have hxa : ¬ X = w.heap.size := by omega
  have hxb : ¬ w.heap.size = X := by omega
  have hxc : ¬ X = w.heap.size + 1 := by omega
  have hxd : ¬ w.heap.size + 1 = X := by omega
  clear b3 HFI HW2
  cases ib with
  | true =>
    have HPP : (⟨lv6, ⟨ha6, hc6, hs6⟩, ri6, ⟨ka6, kc6, K6⟩, ⟨va6, vc6, V6⟩, ⟨ca6, cc6, C6⟩⟩ : Nd).p = P := by rw [HPM.out, HP.out]; simp only [if_true]
    obtain ⟨hF, q0, q1, q2, q3, q4, q5⟩ := tail_six (w := w) R3.out (HOM.out.below B13.out) HPP (by omega) (by omega) B3.out
    simp only [Nd.v, Tx.v, TL.v, IL.v, L1.out, L2.out, L3.out, L4.out] at q0 q1 q2 q3 q4 q5 hF
    have HWF : Hid (sixN w3 (w.heap.size + 1) ⟨lv6, ⟨ha6, hc6, hs6⟩, ri6, ⟨ka6, kc6, K6⟩, ⟨va6, vc6, V6⟩, ⟨ca6, cc6, C6⟩⟩ = six6 w3 (w.heap.size + 1) (.int .i64 lv6) (.slice ha6 lh hc6) (.int .i64 ri6) (.slice ka6 lk kc6) (.slice va6 lw vc6) (.slice ca6 lc cc6)) := by show _ = _; simp only [sixN, Tx.v, TL.v, IL.v, L1.out, L2.out, L3.out, L4.out]
    have HQ := hide (And.intro hF (And.intro q0 (And.intro q1 (And.intro q2 (And.intro q3 (And.intro q4 q5))))))
    clear hF q0 q1 q2 q3 q4 q5 HPP
    obtain ⟨x0, x1, x2, x3, x4, x5⟩ := Six.of X3.out
    obtain ⟨y0, y1, y2, y3, y4, y5⟩ := Six.of R3.out
    have f8 := fun j => frozen_of R3.out j
    go_wp2_with fail
    (try simp only [Exit.inBlock, Exit.then])
    obtain ⟨hF, q0, q1, q2, q3, q4, q5⟩ := HQ.out
    rw [HWF.out] at q0 q1 q2 q3 q4 q5 hF
    unfold six6 at q0 q1 q2 q3 q4 q5 hF
    exact bodyPost_ret (v := .tuple #[.agg #[.int .i64 lv6, .slice ha6 lh hc6, .int .i64 ri6, .slice ka6 lk kc6, .slice va6 lw vc6, .slice ca6 lc cc6], .bool false]) (by simp [results, Try.results30, go_sem, q0, q1, q2, q3, q4, q5]) rfl ⟨_, rfl, hF⟩
  | false =>
    clear hlt
    have HE : Hid (cb ≤ lk) := hcb
    have hcl2 : cb < lc := by have := hvl.out; omega
    have hlc8 : lc * 8 ≤ 140737488351900 := hz2
    obtain ⟨c0, c1, c2, c3, c4, c5⟩ := Six.of A3.out
    obtain ⟨x0, x1, x2, x3, x4, x5⟩ := Six.of X3.out
    have f3 := frozen_of X3.out 3
    have HR := hide (rput_any ka lk kc cb K k w3 (HOKN.out w3 B3.out).k (HOKK.out w3 B3.out) hlk.out (by omega) (by omega))
    unfold MkP at HR
    rw [hlx.out] at HR
    go_upto_region 5 with fail
    go_wp2_with fail
    refine HR.out.mono ?_
    rintro e w4 ⟨na, nc, CK, rfl, hs4, hl4, ho4, b4⟩
    have B14 := hide (B13.out.trans (b4.mono B13.out.size))
    have B4 := hide (B3.out.trans (b4.mono B3.out.size))
    have A4 : Hid (w4.heap[w.heap.size]? = _) := (b4.block _ (lt_of_block A3.out)).trans A3.out
    have R4 : Hid (w4.heap[w.heap.size + 1]? = _) := (b4.block _ (lt_of_block R3.out)).trans R3.out
    have X4 : Hid (w4.heap[X]? = _) := (b4.block _ (lt_of_block X3.out)).trans X3.out
    have O4 := hide ho4
    have S4 := hide hs4
    have LK := hide hl4
    have hs4' := b4.size
    clear hs4 hl4 ho4 b4 HR c0 c1 c2 c3 c4 c5 x0 x1 x2 x3 x4 x5 f3
    obtain ⟨x0, x1, x2, x3, x4, x5⟩ := Six.of X4.out
    have f4 := fun j => frozen_of X4.out j
    obtain ⟨w5, hw5⟩ : ∃ w5, w5 = (w4.setCell ⟨X, 3, none⟩ (.slice na (lk + 1) nc)).setCell ⟨X, 5, none⟩ (.slice none 0 0) := ⟨_, rfl⟩
    have U5 : Upd (fun b => b = X) w4 w5 := by rw [hw5]; exact (upd_set (fun b => b = X) _ _ _ _ rfl).trans (upd_set (fun b => b = X) _ _ _ _ rfl)
    have U15 : Upd (fun b => b = X) w1 w5 := (Upd.of_below B14.out _).trans U5
    have hXw : w1.heap.size ≤ X ∧ X ≤ w1.heap.size := by have := HX.out; omega
    have J5 : Hid (RjS w w5 X #[.int .i64 lv, .slice ha lh hc, .int .i64 ri, .slice ka lk kc, .slice va lw vc, .slice ca lc cc] ⟨lv6, ⟨ha6, hc6, hs6⟩, ri6, ⟨na, nc, CK⟩, ⟨va6, vc6, V6⟩, ⟨none, 0, []⟩⟩) := by
      refine ⟨?_, U5.heap A4.out (by omega), U5.heap R4.out (by omega), B4.out.trans (U5.below B4.out.size (fun k hk e => by omega)), hsX, ?_, HOM.out.hb, ?_, ?_, World.ownsRow_nil _ _ _ _, ?_, HOM.out.vz, by simp⟩
      · rw [hw5]
        simp only [Tx.v, TL.v, IL.v, L1.out, LK.out, L3.out]
        exact (blk_one (blk_one X4.out _).1 _).2.2
      · exact ownB_upd' HOM.out.h U15 (fun b _ h e => by omega)
      · exact (O4.out.upd U5 (fun b h _ e => by omega)).mono (by omega)
      · exact HOM.out.v.upd U15 (fun b _ h e => by omega)
      · simp only [LK.out]; omega
    have HW5 := hide hw5
    clear hw5 U5 U15
    go_wp2_with fail
    rw [← HW5.out]
    clear HW5 A4 R4 X4 B14 O4 x0 x1 x2 x3 x4 x5 f4 A3 R3 X3 B3 B4 B13 HOM hXw OK1 OV2 HN2 hN12' A2 R2 X2 B2 A1 R1 B1 A0 R0 B0 HX B12 Z0
    go_loopw [11] (fun q wr => ∃ (k : Nat) (ca' : Option Addr) (cc' : Nat) (D : List Int), q = .int .i64 (k : Int) ∧ k ≤ lc ∧ Hid (D = insK C cb kid k) ∧ Hid (RjS w wr X #[.int .i64 lv, .slice ha lh hc, .int .i64 ri, .slice ka lk kc, .slice va lw vc, .slice ca lc cc] ⟨lv6, ⟨ha6, hc6, hs6⟩, ri6, ⟨na, nc, CK⟩, ⟨va6, vc6, V6⟩, ⟨ca', cc', D⟩⟩)) (fun q _ => lc - (intOf q).toNat)
    case atStart => exact ⟨0, none, 0, [], rfl, Nat.zero_le _, by show _ = _; unfold insK; rw [if_pos (Nat.zero_le _), List.take_zero], J5⟩
    case round =>
      clear J5
      obtain ⟨i, ca', cc', D, rfl, hle, HD, HS⟩ := hrel
      rename World => wr
      obtain ⟨nD, hnD⟩ : ∃ nD, D.length = nD := ⟨_, rfl⟩
      have hnd : nD ≤ lc + 1 := by
        have h1 := insK_len (l := C) (x := kid) (at' := cb) (k := i) (by rw [hlc.out]; exact hcl2) (by rw [hlc.out]; exact hle)
        rw [← HD.out, hnD] at h1
        split at h1 <;> omega
      have hnd2 : i < lc → nD ≤ lc := fun h => by
        have h1 := insK_len (l := C) (x := kid) (at' := cb) (k := i) (by rw [hlc.out]; exact hcl2) (by rw [hlc.out]; exact hle)
        rw [← HD.out, hnD] at h1
        split at h1 <;> omega
      have hnd3 : i = cb → nD ≤ i := fun h => by
        have h1 := insK_len (l := C) (x := kid) (at' := cb) (k := i) (by rw [hlc.out]; exact hcl2) (by rw [hlc.out]; exact hle)
        rw [← HD.out, hnD, if_pos (by omega)] at h1
        omega
      replace hnD := hide hnD
      obtain ⟨c0, c1, c2, c3, c4, c5⟩ := Six.of HS.out.inb
      have hxl := lt_of_block HS.out.box
      by_cases hlt : i < lc
      · have j1 : (i : Int) < (lc : Int) := by omega
        have j2 : (0 : Int) ≤ (i : Int) := by omega
        replace hnd2 := hnd2 hlt
        have hiC : i < C.length := by rw [hlc.out]; omega
        obtain ⟨b, o, hae, s0⟩ := (HOKN.out wr HS.out.bel).c.r i hiC
        simp only at hae s0
        subst hae
        have HG : Hid (C[i]? = some (C.getD i 0)) := by show _ = _; rw [List.getD_eq_getElem?_getD, List.getElem?_eq_getElem hiC]; rfl
        obtain ⟨z, hzz⟩ : ∃ z, z = C.getD i 0 := ⟨_, rfl⟩
        rw [← hzz] at s0 HG
        clear hzz
        have xx := Six.of HS.out.box
        simp only [Tx.v, TL.v, IL.v, L1.out, LK.out, L3.out, hnD.out] at xx
        have x5 := xx.2.2.2.2.2
        clear xx
        go_upto_region 10 with fail
        have SA : Hid (RjS w ((wr.alloc (.cells #[.int .i64 z] 3)).drew) X #[.int .i64 lv, .slice ha lh hc, .int .i64 ri, .slice ka lk kc, .slice va lw vc, .slice (some ⟨b, o, none⟩) lc cc] ⟨lv6, ⟨ha6, hc6, hs6⟩, ri6, ⟨na, nc, CK⟩, ⟨va6, vc6, V6⟩, ⟨ca', cc', D⟩⟩) := HS.out.below (below_drew ((Below.refl _ _).alloc (Nat.le_refl _) _))
        have QQ : Hid (∀ j u, [.int .i64 z][j]? = some u → ((wr.alloc (.cells #[.int .i64 z] 3)).drew).cell? ((⟨wr.heap.size, 0, none⟩ : Addr).add j) = some u) := one_new _ _ _
        have RO : Hid (((wr.alloc (.cells #[.int .i64 z] 3)).drew).ownsRow (w.heap.size + 2) 3 1 (.slice ca' nD cc') nD (D.map (Value.int .i64))) := by have := SA.out.own.c; simp only [IL.v] at this; rw [hnD.out] at this; exact this
        have BX : Hid (((wr.alloc (.cells #[.int .i64 z] 3)).drew).heap[X]? = some (.cells #[.int .i64 lv6, .slice ha6 lh hc6, .int .i64 ri6, .slice na (lk + 1) nc, .slice va6 lw vc6, .slice ca' nD cc'] 30 (0, 0))) := by have := SA.out.box; simp only [Tx.v, TL.v, IL.v, L1.out, LK.out, L3.out, hnD.out] at this; exact this
        have NE : Hid (some X ≠ (Value.slice ca' nD cc').ownBlock) := fun e => by
          obtain ⟨ad, h1, h2⟩ := block_of e.symm
          obtain ⟨cur, h3⟩ := owns_ty RO.out ad h1
          rw [h2, BX.out] at h3
          simp only [Option.some.injEq, Obj.cells.injEq] at h3
          exact absurd h3.2.1 (by decide)
        have O1 : Hid (∀ u ∈ ([.int .i64 z] : List Value), u.oneCell' = true) := by intro u hu; simp at hu; subst hu; rfl
        have n1 : w.heap.size + 2 ≤ wr.heap.size := by have h1 := HS.out.hX; omega
        go_cut [] (fun wx => ∃ (gc capc : Nat) (wy : World), wx = wy.setCell ⟨X, 5, none⟩ (.slice (some ⟨gc, 0, none⟩) (nD + 1) capc) ∧ Hid (wy.ownsRow (w.heap.size + 2) 3 1 (.slice (some ⟨gc, 0, none⟩) (nD + 1) capc) (nD + 1) (D.map (Value.int .i64) ++ [.int .i64 z])) ∧ Hid (((wr.alloc (.cells #[.int .i64 z] 3)).drew).grownBy wy (Value.slice ca' nD cc').ownBlock))
        case first =>
          clear SA HS HD HG HOKN HOKK HP HPM S4 LK L1 L2 L3 L4 hlh hlk hlw hlc hlx hvl HE
          go_region_law (first
            | (refine step_append_lies _ (by rfl) (.tmp 42) (.tmp 49) 26 (by rfl) (w.heap.size + 2) 3 iI (.int .i64 0) 1 8 Try.underlying26 hiI hzI0 hzI1 hzI2 rfl (by decide) (.slice ca' nD cc') nD (D.map (Value.int .i64)) (by rfl) RO.out ⟨wr.heap.size, 0, none⟩ 1 1 [.int .i64 z] (by rfl) rfl QQ.out O1.out (by omega) (by unfold maxLen; omega) (by omega) (by simp; omega) _ rfl ?_; intro gc capc wy hown hg hat _; have bx := (hg.block X (lt_of_block BX.out) NE.out).trans BX.out; have c1 := (Six.of bx).2.2.2.2.2; have c2 := frozen_of bx 5; replace hown := hide hown; replace hg := hide hg; clear bx hat)
            | fail)
          all_goals (try go_wp2_with fail)
          all_goals
            go_meet
            exact ⟨gc, capc, wy, rfl, hown, hg⟩
        case rest =>
        rename World => w6
        obtain ⟨gc, capc, wy, hw, ho, hgr⟩ := hcut
        have S6 : Hid (RjS w w6 X #[.int .i64 lv, .slice ha lh hc, .int .i64 ri, .slice ka lk kc, .slice va lw vc, .slice (some ⟨b, o, none⟩) lc cc] ⟨lv6, ⟨ha6, hc6, hs6⟩, ri6, ⟨na, nc, CK⟩, ⟨va6, vc6, V6⟩, ⟨some ⟨gc, 0, none⟩, capc, D ++ [z]⟩⟩) := by
          have := (RjS.more (g := gc) (cap := capc) (z := z) SA.out (by rw [hnD.out]; exact ho.out) (by rw [hnD.out]; exact hgr.out) (by rw [hnD.out]; omega)).2
          rw [hnD.out] at this
          rw [hw]
          exact this
        clear hw ho hgr SA QQ RO BX NE O1 x5 n1 wy HS s0 c0 c1 c2 c3 c4 c5 hxl
        have HL6 : Hid ((D ++ [z]).length = nD + 1) := by show _ = _; rw [List.length_append, List.length_singleton, hnD.out]
        by_cases hic : i = cb
        · subst hic
          replace hnd3 := hnd3 rfl
          have xx := Six.of S6.out.box
          simp only [Tx.v, TL.v, IL.v, L1.out, LK.out, L3.out, HL6.out] at xx
          have x5 := xx.2.2.2.2.2
          clear xx
          have hx6 := lt_of_block S6.out.box
          have hsz6 : w.heap.size + 2 ≤ w6.heap.size := by have h1 := S6.out.hX; omega
          have SB : Hid (RjS w (w6.alloc (.cells #[.int .i64 kid] 3)) X #[.int .i64 lv, .slice ha lh hc, .int .i64 ri, .slice ka lk kc, .slice va lw vc, .slice (some ⟨b, o, none⟩) lc cc] ⟨lv6, ⟨ha6, hc6, hs6⟩, ri6, ⟨na, nc, CK⟩, ⟨va6, vc6, V6⟩, ⟨some ⟨gc, 0, none⟩, capc, D ++ [z]⟩⟩) := S6.out.below ((Below.refl _ _).alloc (Nat.le_refl _) _)
          have RO : Hid ((w6.alloc (.cells #[.int .i64 kid] 3)).ownsRow (w.heap.size + 2) 3 1 (.slice (some ⟨gc, 0, none⟩) (nD + 1) capc) (nD + 1) ((D ++ [z]).map (Value.int .i64))) := by have := SB.out.own.c; simp only [IL.v] at this; rw [HL6.out] at this; exact this
          have BX : Hid ((w6.alloc (.cells #[.int .i64 kid] 3)).heap[X]? = some (.cells #[.int .i64 lv6, .slice ha6 lh hc6, .int .i64 ri6, .slice na (lk + 1) nc, .slice va6 lw vc6, .slice (some ⟨gc, 0, none⟩) (nD + 1) capc] 30 (0, 0))) := by have := SB.out.box; simp only [Tx.v, TL.v, IL.v, L1.out, LK.out, L3.out, HL6.out] at this; exact this
          have NE : Hid (some X ≠ (Value.slice (some ⟨gc, 0, none⟩) (nD + 1) capc).ownBlock) := fun e => by
            obtain ⟨ad, h1, h2⟩ := block_of e.symm
            obtain ⟨cur, h3⟩ := owns_ty RO.out ad h1
            rw [h2, BX.out] at h3
            simp only [Option.some.injEq, Obj.cells.injEq] at h3
            exact absurd h3.2.1 (by decide)
          go_wp2_with (first
            | (at_builtin; refine append_own_any rfl (.tmp 58) (.tmp 60) 26 rfl (w.heap.size + 2) 3 iI (.int .i64 0) 1 8 Try.underlying26 hiI hzI0 hzI1 hzI2 rfl (by decide) (.slice (some ⟨gc, 0, none⟩) (nD + 1) capc) (nD + 1) ((D ++ [z]).map (Value.int .i64)) rfl RO.out (some ⟨w6.heap.size, 0, none⟩) 1 1 [.int .i64 kid] rfl rfl (by intro h; cases h) (by intro ad had; cases had; exact one_new _ _ _) (by intro u hu; simp at hu; subst hu; rfl) (by unfold maxLen; omega) (by omega) (by simp; omega) ?_; intro v7 wy hown hg; obtain ⟨g7, cap7, rfl⟩ := own_some hown; have bx := (hg.block X (lt_of_block BX.out) NE.out).trans BX.out; have c1 := (Six.of bx).2.2.2.2.2; have c2 := frozen_of bx 5; replace hown := hide hown; replace hg := hide hg; clear bx)
            | fail)
          have S8 : Hid (RjS w (wy.setCell ⟨X, 5, none⟩ (.slice (some ⟨g7, 0, none⟩) (nD + 1 + 1) cap7)) X #[.int .i64 lv, .slice ha lh hc, .int .i64 ri, .slice ka lk kc, .slice va lw vc, .slice (some ⟨b, o, none⟩) lc cc] ⟨lv6, ⟨ha6, hc6, hs6⟩, ri6, ⟨na, nc, CK⟩, ⟨va6, vc6, V6⟩, ⟨some ⟨g7, 0, none⟩, cap7, D ++ [z] ++ [kid]⟩⟩) := by
            have := (RjS.more (g := g7) (cap := cap7) (z := kid) SB.out (by rw [HL6.out]; exact hown.out) (by rw [HL6.out]; exact hg.out) (by rw [HL6.out]; omega)).2
            rw [HL6.out] at this
            exact this
          clear hown hg SB RO BX NE x5 c1 c2 S6
          go_wp2_with fail
          go_roundw
          case rel => exact ⟨i + 1, _, _, D ++ [z] ++ [kid], by go_num, by omega, by show _ = _; rw [insK_at HG.out, ← HD.out], S8⟩
          case measure => simp [intOf]; omega
        · have j3 : ¬ ((i : Int) = (cb : Int)) := by omega
          have HIC : Hid (i ≠ cb) := hic
          go_wp2_with fail
          go_roundw
          case rel => exact ⟨i + 1, _, _, D ++ [z], by go_num, by omega, by show _ = _; rw [insK_next HG.out HIC.out, ← HD.out], S6⟩
          case measure => simp [intOf]; omega
      · have j1 : ¬ (i : Int) < (lc : Int) := by omega
        obtain rfl : i = lc := by omega
        have HPP : (⟨lv6, ⟨ha6, hc6, hs6⟩, ri6, ⟨na, nc, CK⟩, ⟨va6, vc6, V6⟩, ⟨ca', cc', D⟩⟩ : Nd).p = P := by
          have e1 := congrArg NP.lv HPM.out
          have e2 := congrArg NP.hi HPM.out
          have e3 := congrArg NP.ri HPM.out
          have e4 := congrArg NP.vs HPM.out
          have e5 : D = insL C (cb + 1) kid := by rw [HD.out, ← insK_end (by rw [hlc.out]; exact hcl2), hlc.out]
          simp only [Nd.p, TL.p] at e1 e2 e3 e4
          rw [HP.out]
          simp only [Nd.p, TL.p, Bool.false_eq_true, if_false, e1, e2, e3, e4, e5]
          rw [show CK.map (·.s) = _ from S4.out]
        obtain ⟨hF, q0, q1, q2, q3, q4, q5⟩ := tail_six (w := w) HS.out.res HS.out.own HPP (by omega) (by omega) HS.out.bel
        simp only [Nd.v, Tx.v, TL.v, IL.v, L1.out, LK.out, L3.out, hnD.out] at q0 q1 q2 q3 q4 q5 hF
        have HWF : Hid (sixN wr (w.heap.size + 1) ⟨lv6, ⟨ha6, hc6, hs6⟩, ri6, ⟨na, nc, CK⟩, ⟨va6, vc6, V6⟩, ⟨ca', cc', D⟩⟩ = six6 wr (w.heap.size + 1) (.int .i64 lv6) (.slice ha6 lh hc6) (.int .i64 ri6) (.slice na (lk + 1) nc) (.slice va6 lw vc6) (.slice ca' nD cc')) := by show _ = _; simp only [sixN, Tx.v, TL.v, IL.v, L1.out, LK.out, L3.out, hnD.out]
        have HQ := hide (And.intro hF (And.intro q0 (And.intro q1 (And.intro q2 (And.intro q3 (And.intro q4 q5))))))
        clear hF q0 q1 q2 q3 q4 q5 HPP
        have xx := Six.of HS.out.box
        simp only [Tx.v, TL.v, IL.v, L1.out, LK.out, L3.out, hnD.out] at xx
        obtain ⟨x0, x1, x2, x3, x4, x5⟩ := xx
        obtain ⟨y0, y1, y2, y3, y4, y5⟩ := Six.of HS.out.res
        have f8 := fun j => frozen_of HS.out.res j
        go_wp2_with fail
        (try simp only [Exit.inBlock, Exit.then])
        obtain ⟨hF, q0, q1, q2, q3, q4, q5⟩ := HQ.out
        rw [HWF.out] at q0 q1 q2 q3 q4 q5 hF
        unfold six6 at q0 q1 q2 q3 q4 q5 hF
        exact bodyPost_ret (v := .tuple #[.agg #[.int .i64 lv6, .slice ha6 lh hc6, .int .i64 ri6, .slice na (lk + 1) nc, .slice va6 lw vc6, .slice ca' nD cc'], .bool true]) (by simp [results, Try.results30, go_sem, q0, q1, q2, q3, q4, q5]) rfl ⟨_, rfl, hF⟩

end Go.Proofs.Yteciiehnoakgdaa
