/- The law's whole: it reads as it did, and its spare room too. -/
import Derived.Test.YtclgimklfejohaaNLentE
import Derived.Test.YtclgimklfejohaaNSame
namespace Go.Proofs.Ytclgimklfejohaa
open Go.RowKit

set_option maxRecDepth 100000 in
set_option maxHeartbeats 3200000 in
theorem whole_any (x n : Nd) (w : World) (hx : x.Ok w) (hs : SpN w x) (hn : n.Ok w) (h : x.p = n.p) :
    Calls Try.prog 11 #[x.v, n.v] w fun e w' => e = .returned (.bool true) ∧ Below w.heap.size w w' := by
  have HS : Hid (∀ W, Below w.heap.size w W → Calls Try.prog 14 #[x.v, n.v] W fun e w' => e = .returned (.bool true) ∧ Below W.heap.size W w') := fun W hb => sameNode_any x n W (hx.below hb) (hn.below hb) h
  have HSP : Hid (∀ W, Below w.heap.size w W → SpN W x) := fun W hb => hs.below hb
  have l1 : n.hi.s.length = x.hi.s.length := by rw [show n.hi.s = x.hi.s from (congrArg NP.hi h).symm]
  have l2 : n.ks.L.length = x.ks.L.length := by rw [← TL.p_len, ← TL.p_len, show n.ks.p = x.ks.p from (congrArg NP.ks h).symm]
  have l3 : n.vs.L.length = x.vs.L.length := by rw [← TL.p_len, ← TL.p_len, show n.vs.p = x.vs.p from (congrArg NP.vs h).symm]
  have l4 : n.cs.s.length = x.cs.s.length := by rw [show n.cs.s = x.cs.s from (congrArg NP.cs h).symm]
  have z1 := hx.h.z
  have z2 := hx.kz
  have z3 := hx.vz
  have z4 := hx.cz
  have e1 := hs.hc
  have e2 := hs.kc
  have e3 := hs.vc
  have e4 := hs.cc
  obtain ⟨lv, ⟨ha, hc, hs'⟩, ri, ⟨ka, kc, K⟩, ⟨va, vc, V⟩, ⟨ca, cc, C⟩⟩ := x
  obtain ⟨lv2, ⟨ha2, hc2, hs2⟩, ri2, ⟨ka2, kc2, K2⟩, ⟨va2, vc2, V2⟩, ⟨ca2, cc2, C2⟩⟩ := n
  simp only at l1 l2 l3 l4 z1 z2 z3 z4 e1 e2 e3 e4
  simp only [Nd.v, Tx.v, TL.v, IL.v] at HS ⊢
  rw [l1, l2, l3, l4] at HS ⊢
  obtain ⟨gh, p1, p2, p3⟩ := hs.h
  obtain ⟨gk, tk, k1, k2, k3, k4⟩ := hs.k
  obtain ⟨gv, tv, v1, v2, v3, v4⟩ := hs.v
  obtain ⟨gc, c1, c2⟩ := hs.c
  simp only at p1 p2 p3 k1 k2 v1 v2 c1 c2
  subst p1
  subst k1
  subst v1
  subst c1
  have HCE : Hid (∀ W, Below w.heap.size w W → W.cell? ⟨gh, hs'.length, none⟩ = some (.int .u8 7) ∧ W.cell? ⟨gh, hs'.length + 1, none⟩ = some (.int .u8 7) ∧ W.cell? ⟨gk, K.length, none⟩ = some (.slice tk.a 5 tk.c) ∧ W.cell? ⟨gv, V.length, none⟩ = some (.slice tv.a 5 tv.c) ∧ W.cell? ⟨gc, C.length, none⟩ = some (.int .i64 777)) := fun W hb => by
    have cl : ∀ b j u, w.cell? ⟨b, j, none⟩ = some u → W.cell? ⟨b, j, none⟩ = some u := fun b j u hu => (hb.cell (p := ⟨b, j, none⟩) (World.block_lt_of_cell? w ⟨b, j, none⟩ hu)).trans hu
    refine ⟨cl _ _ _ p2, cl _ _ _ p3, ?_, ?_, cl _ _ _ c2⟩
    · have := cl _ _ _ k2
      unfold Tx.v at this
      rw [k4] at this
      exact this
    · have := cl _ _ _ v2
      unfold Tx.v at this
      rw [v4] at this
      exact this
  have HK : Hid (∀ W, Below w.heap.size w W → (convert 22 9 (.slice tk.a 5 tk.c)).run Try.prog W = .ok (.string (strOfNums [115, 112, 97, 114, 101])) W) := fun W hb => by
    have hr := (k3.below hb).r
    rw [k4] at hr
    exact nconv_row tk.c rfl hr
  have HV : Hid (∀ W, Below w.heap.size w W → (convert 22 9 (.slice tv.a 5 tv.c)).run Try.prog W = .ok (.string (strOfNums [115, 112, 97, 114, 101])) W) := fun W hb => by
    have hr := (v3.below hb).r
    rw [v4] at hr
    exact nconv_row tv.c rfl hr
  have hst : strOfNums [115, 112, 97, 114, 101] = ⟨#[115, 112, 97, 114, 101]⟩ := by rfl
  rw [hst] at HK HV
  clear hst
  generalize tk.a = tka at *
  generalize tk.c = tkc at *
  generalize tv.a = tva at *
  generalize tv.c = tvc at *
  clear p2 p3 k2 k3 k4 v2 v3 v4 c2 hx hs hn h l1 l2 l3 l4 HSP
  generalize hs'.length = lh at *
  generalize K.length = lk at *
  generalize V.length = lw at *
  generalize C.length = lc at *
  have q1 := fun W => uptoB (some ⟨gh, 0, none⟩) lh hc (lh + 2) e1 W
  have q2 := fun W => uptoT (some ⟨gk, 0, none⟩) lk kc (lk + 1) e2 W
  have q3 := fun W => uptoT (some ⟨gv, 0, none⟩) lw vc (lw + 1) e3 W
  have q4 := fun W => uptoI (some ⟨gc, 0, none⟩) lc cc (lc + 1) e4 W
  obtain ⟨w0, hw0⟩ : ∃ w0, w0 = (w.alloc (.cells #[.int .i64 lv, .slice (some ⟨gh, 0, none⟩) lh hc, .int .i64 ri, .slice (some ⟨gk, 0, none⟩) lk kc, .slice (some ⟨gv, 0, none⟩) lw vc, .slice (some ⟨gc, 0, none⟩) lc cc] 30)).alloc (.cells #[.int .i64 lv2, .slice ha2 lh hc2, .int .i64 ri2, .slice ka2 lk kc2, .slice va2 lw vc2, .slice ca2 lc cc2] 30) := ⟨_, rfl⟩
  have B0 : Hid (Below w.heap.size w w0) := by show Below _ _ _; rw [hw0]; exact ((Below.refl _ _).alloc (Nat.le_refl _) _).alloc (by simp) _
  have A0 : Hid (w0.heap[w.heap.size]? = some (.cells #[.int .i64 lv, .slice (some ⟨gh, 0, none⟩) lh hc, .int .i64 ri, .slice (some ⟨gk, 0, none⟩) lk kc, .slice (some ⟨gv, 0, none⟩) lw vc, .slice (some ⟨gc, 0, none⟩) lc cc] 30 (0, 0))) := by show _ = _; rw [hw0]; exact old_at (new_at rfl)
  have G0 : Hid (w0.heap[w.heap.size + 1]? = some (.cells #[.int .i64 lv2, .slice ha2 lh hc2, .int .i64 ri2, .slice ka2 lk kc2, .slice va2 lw vc2, .slice ca2 lc cc2] 30 (0, 0))) := by show _ = _; rw [hw0]; exact new_at (by simp)
  have HW0 := hide hw0
  clear hw0
  go_enter Try.func11, Try.ntmps11
  go_wp2_with fail
  rw [← HW0.out]
  refine (HS.out w0 B0.out).mono ?_
  rintro e w1 ⟨rfl, b1⟩
  have B1 := hide (B0.out.trans (b1.mono B0.out.size))
  have A1 : Hid (w1.heap[w.heap.size]? = _) := (b1.block _ (lt_of_block A0.out)).trans A0.out
  have G1 : Hid (w1.heap[w.heap.size + 1]? = _) := (b1.block _ (lt_of_block G0.out)).trans G0.out
  obtain ⟨c0, c1, c2, c3, c4, c5⟩ := Six.of A1.out
  obtain ⟨d0, d1, d2, d3, d4, d5⟩ := Six.of G1.out
  obtain ⟨m1, m2, m3, m4, m5⟩ := HCE.out w1 B1.out
  have k1 := HK.out w1 B1.out
  have k2 := HV.out w1 B1.out
  have i1 : (lh : Int) < (lh : Int) + 2 := by omega
  have i2 : (lh : Int) + 1 < (lh : Int) + 2 := by omega
  have i3 : (lk : Int) < (lk : Int) + 1 := by omega
  have i4 : (lw : Int) < (lw : Int) + 1 := by omega
  have i5 : (lc : Int) < (lc : Int) + 1 := by omega
  clear b1 HW0 HS HCE HK HV
  go_wp2_with fail
  go_ret
  exact ⟨by simp, B1.out⟩

end Go.Proofs.Ytclgimklfejohaa
