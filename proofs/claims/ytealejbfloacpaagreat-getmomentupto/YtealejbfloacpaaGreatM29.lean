/- Texts of one's own. -/
import Derived.Test.YtealejbfloacpaaGreatM13
import Derived.Test.YtealejbfloacpaaGreatM20
import Derived.Test.YtealejbfloacpaaGreatM17
import Derived.Deep.CutBlock
import Derived.Deep.DeepCutAuto
import Derived.Test.YtealejbfloacpaaGreatM16
import Derived.Test.YtealejbfloacpaaGreatM7
import Derived.Test.YtealejbfloacpaaGreatM19
import Derived.Test.YtealejbfloacpaaGreatM27
import Derived.Test.YtealejbfloacpaaGreatM26
namespace Go.Proofs.YtealejbfloacpaaGreat
open Go.RowKit
set_option maxRecDepth 100000
set_option maxRecDepth 100000 in
set_option maxHeartbeats 3200000 in
theorem rsplit_few (n : Nd) (right : Int) (w : World) (hn : n.Ok w) (hR : RtP n.p) (hw2 : n.p.wd < 2) : Calls Tryz.prog 60 #[n.v, .int .i64 right] w (RspP w n.p NP.zero []) := by
 have hwf := wd_few hR
 have HCLN : Hid (∀ W, Below w.heap.size w W → Calls Tryz.prog 109 #[n.v] W (RcPost W n)) := fun W hb => rclone_any n W (hn.below hb)
 have hpk : n.p.ks.length = n.ks.L.length := TL.p_len _
 have hpc : n.p.cs.length = n.cs.s.length := rfl
 have hpl : n.p.lv = n.lv := rfl
 rw [hwf, hpk, hpc, hpl] at hw2
 have HW2 := hide hw2
 clear hwf hpk hpc hpl hw2 hR hn
 obtain ⟨np, hnp⟩ : ∃ np, np = n.p := ⟨_, rfl⟩
 rw [← hnp]
 have HNP := hide hnp
 obtain ⟨an, han⟩ : ∃ an, an = n := ⟨_, rfl⟩
 rw [← han] at HCLN HNP ⊢
 obtain ⟨alv, ⟨aha, ahc, ahs⟩, ari, ⟨aka, akc, aK⟩, ⟨ava, avc, aV⟩, ⟨aca, acc, aC⟩⟩ := n
 have HV : Hid (an.v = .agg #[.int .i64 alv, .slice aha ahs.length ahc, .int .i64 ari, .slice aka aK.length akc, .slice ava aV.length avc, .slice aca aC.length acc]) := by show _ = _; rw [han]; rfl
 rw [HV.out] at HCLN ⊢
 simp only at HW2
 clear han HV hnp
 generalize ahs.length = alh at *
 generalize aK.length = alk at *
 generalize aV.length = alw at *
 generalize aC.length = alc at *
 obtain ⟨w0, hw0⟩ : ∃ w0, w0 = ((w.alloc (.cells #[.int .i64 alv, .slice aha alh ahc, .int .i64 ari, .slice aka alk akc, .slice ava alw avc, .slice aca alc acc] 35)).alloc (.cells #[.int .i64 0, .slice none 0 0, .int .i64 0, .slice none 0 0, .slice none 0 0, .slice none 0 0] 35)).alloc (.cells #[.int .i64 0, .slice none 0 0, .int .i64 0, .slice none 0 0, .slice none 0 0, .slice none 0 0] 35) := ⟨_, rfl⟩
 have b0 : Below w.heap.size w w0 := by rw [hw0]; exact (((Below.refl _ _).alloc (Nat.le_refl _) _).alloc (by simp) _).alloc (by simp; omega) _
 have g0 : w0.heap[w.heap.size]? = some (.cells #[.int .i64 alv, .slice aha alh ahc, .int .i64 ari, .slice aka alk akc, .slice ava alw avc, .slice aca alc acc] 35 (0, 0)) := by rw [hw0]; exact old_at (old_at (new_at rfl))
 have g1 : w0.heap[w.heap.size + 1]? = some (.cells #[.int .i64 0, .slice none 0 0, .int .i64 0, .slice none 0 0, .slice none 0 0, .slice none 0 0] 35 (0, 0)) := by rw [hw0]; exact old_at (new_at (by simp))
 have g2 : w0.heap[w.heap.size + 1 + 1]? = some (.cells #[.int .i64 0, .slice none 0 0, .int .i64 0, .slice none 0 0, .slice none 0 0, .slice none 0 0] 35 (0, 0)) := by rw [hw0]; exact new_at (by simp)
 have hz0 : w0.heap.size = w.heap.size + 3 := by rw [hw0]; simp
 have B0 := hide b0
 have G1 := hide g1
 have G2 := hide g2
 have HZ0 := hide hz0
 have HW0 := hide hw0
 obtain ⟨c0, c1, c2, c3, c4, c5⟩ := Six.of g0
 have HC0 := hide (HCLN.out w0 B0.out)
 clear hw0 b0 g0 g1 g2 hz0 HCLN
 obtain ⟨mm, hmm⟩ : ∃ mm, mm = (if 0 < alv then alc else alk) := ⟨_, rfl⟩
 have jm : (mm : Int) < 2 := by have := HW2.out; omega
 have HMM := hide hmm
 clear hmm HW2
 go_enter Tryz.func60, Tryz.ntmps60
 go_upto_region 1 with fail
 rw [← HW0.out]
 clear HW0
 go_upto_if 19 with fail
 go_cut [7] (fun s7 wx => s7 = .int .i64 (mm : Int) ∧ Hid (wx = w0))
 case first =>
  by_cases hv0 : 0 < alv
  ·obtain rfl : mm = alc := by rw [HMM.out, if_pos hv0]
   go_wp2_with fail
   go_meet
   exact ⟨rfl, rfl⟩
  ·obtain rfl : mm = alk := by rw [HMM.out, if_neg hv0]
   go_wp2_with fail
   go_meet
   exact ⟨rfl, rfl⟩
 case rest =>
  rename World => wx
  obtain ⟨rfl, hwx⟩ := hcut
  obtain rfl := hwx.out
  go_wp2_with fail
  refine HC0.out.mono ?_
  rintro e w1 ⟨⟨xlv, ⟨xha, xhc, xhs⟩, xri, ⟨xka, xkc, xK⟩, ⟨xva, xvc, xV⟩, ⟨xca, xcc, xC⟩⟩, _, _, rfl, hxp, hxo, hxb, _⟩
  obtain ⟨xlh, xh1⟩ : ∃ x, xhs.length = x := ⟨_, rfl⟩
  obtain ⟨xlk, xh2⟩ : ∃ x, xK.length = x := ⟨_, rfl⟩
  obtain ⟨xlw, xh3⟩ : ∃ x, xV.length = x := ⟨_, rfl⟩
  obtain ⟨xlc, xh4⟩ : ∃ x, xC.length = x := ⟨_, rfl⟩
  simp only [Nd.v, Tx.v, TL.v, IL.v]
  rw [xh1, xh2, xh3, xh4]
  have xL := hide (And.intro xh1 (And.intro xh2 (And.intro xh3 xh4)))
  clear xh1 xh2 xh3 xh4
  obtain ⟨wa, hwa⟩ : ∃ wa, wa = w1.alloc (.cells #[.int .i64 xlv, .slice xha xlh xhc, .int .i64 xri, .slice xka xlk xkc, .slice xva xlw xvc, .slice xca xlc xcc] 35) := ⟨_, rfl⟩
  have bA : Below w1.heap.size w1 wa := by rw [hwa]; exact (Below.refl _ _).alloc (Nat.le_refl _) _
  have gA : wa.heap[w1.heap.size]? = some (.cells #[.int .i64 xlv, .slice xha xlh xhc, .int .i64 xri, .slice xka xlk xkc, .slice xva xlw xvc, .slice xca xlc xcc] 35 (0, 0)) := by rw [hwa]; exact heap_alloc_new w1 _
  have bxa := hxb.trans (bA.mono hxb.size)
  have BA := hide (B0.out.trans (bxa.mono B0.out.size))
  have GA := hide gA
  have GA4 := hide ((bxa.block _ (lt_of_block G1.out)).trans G1.out)
  have GA5 := hide ((bxa.block _ (lt_of_block G2.out)).trans G2.out)
  have HXP : Hid ((⟨xlv, ⟨xha, xhc, xhs⟩, xri, ⟨xka, xkc, xK⟩, ⟨xva, xvc, xV⟩, ⟨xca, xcc, xC⟩⟩ : Nd).p = np) := hxp.trans HNP.out.symm
  have HXO := hide hxo
  have BWA := hide bA
  have HWA := hide hwa
  have hn1 : ¬ w.heap.size + 1 = w1.heap.size := by have := hxb.size; have := HZ0.out; omega
  have hn2 : ¬ w.heap.size + 1 + 1 = w1.heap.size := by have := hxb.size; have := HZ0.out; omega
  have hn3 : ¬ w1.heap.size = w.heap.size + 1 := by omega
  have hn4 : ¬ w1.heap.size = w.heap.size + 1 + 1 := by omega
  have HU1 : Hid (Upd (fun b => b = w.heap.size + 1) wa (six6 wa (w.heap.size + 1) (.int .i64 xlv) (.slice xha xlh xhc) (.int .i64 xri) (.slice xka xlk xkc) (.slice xva xlw xvc) (.slice xca xlc xcc))) := six_upd _ _ _ _ _ _ _ _ _ rfl
  have HU2 : Hid (Upd (fun b => b = w.heap.size + 1 + 1) (six6 wa (w.heap.size + 1) (.int .i64 xlv) (.slice xha xlh xhc) (.int .i64 xri) (.slice xka xlk xkc) (.slice xva xlw xvc) (.slice xca xlc xcc)) (six6 (six6 wa (w.heap.size + 1) (.int .i64 xlv) (.slice xha xlh xhc) (.int .i64 xri) (.slice xka xlk xkc) (.slice xva xlw xvc) (.slice xca xlc xcc)) (w.heap.size + 1 + 1) (.int .i64 0) (.slice none 0 0) (.int .i64 0) (.slice none 0 0) (.slice none 0 0) (.slice none 0 0))) := six_upd _ _ _ _ _ _ _ _ _ rfl
  have K1 : Hid ((six6 (six6 wa (w.heap.size + 1) (.int .i64 xlv) (.slice xha xlh xhc) (.int .i64 xri) (.slice xka xlk xkc) (.slice xva xlw xvc) (.slice xca xlc xcc)) (w.heap.size + 1 + 1) (.int .i64 0) (.slice none 0 0) (.int .i64 0) (.slice none 0 0) (.slice none 0 0) (.slice none 0 0)).heap[w.heap.size + 1]? = some (.cells #[.int .i64 xlv, .slice xha xlh xhc, .int .i64 xri, .slice xka xlk xkc, .slice xva xlw xvc, .slice xca xlc xcc] 35 (0, 0))) := HU2.out.heap (six_block GA4.out (.int .i64 xlv) (.slice xha xlh xhc) (.int .i64 xri) (.slice xka xlk xkc) (.slice xva xlw xvc) (.slice xca xlc xcc)) (fun e => by omega)
  have K2 : Hid ((six6 (six6 wa (w.heap.size + 1) (.int .i64 xlv) (.slice xha xlh xhc) (.int .i64 xri) (.slice xka xlk xkc) (.slice xva xlw xvc) (.slice xca xlc xcc)) (w.heap.size + 1 + 1) (.int .i64 0) (.slice none 0 0) (.int .i64 0) (.slice none 0 0) (.slice none 0 0) (.slice none 0 0)).heap[w.heap.size + 1 + 1]? = some (.cells #[.int .i64 0, .slice none 0 0, .int .i64 0, .slice none 0 0, .slice none 0 0, .slice none 0 0] 35 (0, 0))) := six_block (HU1.out.heap GA5.out (fun e => by omega)) (.int .i64 0) (.slice none 0 0) (.int .i64 0) (.slice none 0 0) (.slice none 0 0) (.slice none 0 0)
  clear hwa bA gA bxa hxp hxo hxb HC0 c0 c1 c2 c3 c4 c5
  go_upto_region 5 with fail
  rw [← HWA.out]
  clear HWA
  obtain ⟨l0, l1, l2, l3, l4, l5⟩ := Six.of GA.out
  obtain ⟨y0, y1, y2, y3, y4, y5⟩ := Six.of GA4.out
  obtain ⟨z0, z1, z2, z3, z4, z5⟩ := Six.of GA5.out
  have f4 := fun j => frozen_of GA4.out j
  have f5 := fun j => frozen_of GA5.out j
  go_wp2_with fail
  (try simp only [Exit.inBlock, Exit.then])
  show bodyPost _ _ _ _ _ (six6 (six6 wa (w.heap.size + 1) (.int .i64 xlv) (.slice xha xlh xhc) (.int .i64 xri) (.slice xka xlk xkc) (.slice xva xlw xvc) (.slice xca xlc xcc)) (w.heap.size + 1 + 1) (.int .i64 0) (.slice none 0 0) (.int .i64 0) (.slice none 0 0) (.slice none 0 0) (.slice none 0 0))
  clear l0 l1 l2 l3 l4 l5 y0 y1 y2 y3 y4 y5 z0 z1 z2 z3 z4 z5 f4 f5
  generalize six6 wa (w.heap.size + 1) (.int .i64 xlv) (.slice xha xlh xhc) (.int .i64 xri) (.slice xka xlk xkc) (.slice xva xlw xvc) (.slice xca xlc xcc) = w8 at *
  generalize six6 w8 (w.heap.size + 1 + 1) (.int .i64 0) (.slice none 0 0) (.int .i64 0) (.slice none 0 0) (.slice none 0 0) (.slice none 0 0) = w9 at *
  obtain ⟨q0, q1, q2, q3, q4, q5⟩ := Six.of K1.out
  obtain ⟨r0, r1, r2, r3, r4, r5⟩ := Six.of K2.out
  have hz := HZ0.out
  refine bodyPost_ret (v := .tuple #[.agg #[.int .i64 xlv, .slice xha xlh xhc, .int .i64 xri, .slice xka xlk xkc, .slice xva xlw xvc, .slice xca xlc xcc], .agg #[.int .i64 0, .slice none 0 0, .int .i64 0, .slice none 0 0, .slice none 0 0, .slice none 0 0], .slice none 0 0]) (by simp [results, Tryz.results60, go_sem, q0, q1, q2, q3, q4, q5, r0, r1, r2, r3, r4, r5]) rfl ⟨(⟨xlv, ⟨xha, xhc, xhs⟩, xri, ⟨xka, xkc, xK⟩, ⟨xva, xvc, xV⟩, ⟨xca, xcc, xC⟩⟩ : Nd), Nd.zero, ⟨none, 0, []⟩, ?_, HXP.out, rfl, rfl, ?_, Nd.zero_own' _ _, Tx.nil_ok _, ?_⟩
  ·simp only [Nd.v, Tx.v, TL.v, IL.v, Nd.zero, xL.out.1, xL.out.2.1, xL.out.2.2.1, xL.out.2.2.2, List.length_nil]
  ·exact (((HXO.out.below BWA.out).upd HU1.out (fun b h1 _ e => by omega)).upd HU2.out (fun b h1 _ e => by omega)).mono (by omega)
  ·exact (BA.out.trans (HU1.out.below BA.out.size (fun k hk e => by omega))).trans (HU2.out.below (Nat.le_trans BA.out.size HU1.out.size) (fun k hk e => by omega))
end Go.Proofs.YtealejbfloacpaaGreat
namespace Go.Proofs.YtealejbfloacpaaGreat
open Go.RowKit
set_option maxRecDepth 100000
structure TOp where
 kind : Int
 a : Int
 b : Int
 key : Tx
 value : Tx
 hi : Tx
 ch : Bool
 n : Nd
def TOp.cs (o : TOp) : List Value := [.int .i64 o.kind, .int .i64 o.a, .int .i64 o.b, o.key.v, o.value.v, o.hi.v, .bool o.ch, .int .i64 o.n.lv, o.n.hi.v, .int .i64 o.n.ri, o.n.ks.v, o.n.vs.v, o.n.cs.v]
def TOp.v (o : TOp) : Value := .agg #[.int .i64 o.kind, .int .i64 o.a, .int .i64 o.b, o.key.v, o.value.v, o.hi.v, .bool o.ch, .int .i64 o.n.lv, o.n.hi.v, .int .i64 o.n.ri, o.n.ks.v, o.n.vs.v, o.n.cs.v]
structure TOp.Ok (K : Nat → Prop) (W : World) (o : TOp) : Prop where
 k1 : -9223372036854775808 ≤ o.kind ∧ o.kind ≤ 9223372036854775807
 a1 : -9223372036854775808 ≤ o.a ∧ o.a ≤ 9223372036854775807
 b1 : -9223372036854775808 ≤ o.b ∧ o.b ≤ 9223372036854775807
 key : o.key.Ok W
 value : o.value.Ok W
 n : o.n.Ok W
 i : o.n.In K
theorem raw_seven (s : AS) (a b : Int) (w : Nat) (c : Bool) (n : Nd) : s.raw ⟨7, a, b, w, c, n⟩ = s.layS (1 + ((pickN a (s.sl.length + 1) : Nat) : Int)) n.p := rfl
theorem raw_two (s : AS) (a b : Int) (w : Nat) (c : Bool) (n : Nd) : s.raw ⟨2, a, b, w, c, n⟩ = s.lockS (s.id a) (wadd (s.wordW (s.id a)) (pickN b 3)) := rfl
theorem raw_three (s : AS) (a b : Int) (w : Nat) (c : Bool) (n : Nd) : s.raw ⟨3, a, b, w, c, n⟩ = s.unlS (s.id a) c := rfl
theorem raw_six (s : AS) (a b : Int) (w : Nat) (c : Bool) (n : Nd) : s.raw ⟨6, a, b, w, c, n⟩ = s.groS (s.id a) (s.id b) := rfl
section
variable {K : Nat → Prop} {W Wc : World} {P AX AY : Nat} {s : AS}
theorem raw_k (h : AW K W P AX AY s s) (hb : Below W.heap.size W Wc) (o : AOp) (ho : o.Ok (fun k => K k ∨ (W.heap.size ≤ k ∧ k < Wc.heap.size)) Wc) : Calls Tryz.prog 57 #[.pointer (some ⟨P, 0, none⟩), o.v] Wc fun e w' => e = .returned (.bool true) ∧ AW K w' P AX AY (s.raw o) (s.raw o) ∧ AW (fun k => K k ∨ (W.heap.size ≤ k ∧ k < Wc.heap.size)) w' P AX AY (s.raw o) (s.raw o) ∧ Upd (fun k => ¬ (fun k => K k ∨ (W.heap.size ≤ k ∧ k < Wc.heap.size)) k) Wc w' ∧ Upd (fun k => ¬ K k) W w' := by
 refine (raw_any (h.more hb (fun _ hk => hk) (.inl h.kp)) o ho).mono ?_
 rintro e w' ⟨rfl, h1, h2⟩
 exact ⟨rfl, h1.less (fun _ hk => .inl hk) h.kp, h1, h2, (kept_below hb).trans (kept_less h2 (fun _ hk => .inl hk))⟩
def ndC (n : Nd) : Array Value := #[.int .i64 n.lv, n.hi.v, .int .i64 n.ri, n.ks.v, n.vs.v, n.cs.v]
def SplX (w2 wf : World) (bl br : Nat) (l r : Nd) : Prop := wf.heap[bl]? = some (.cells (ndC l) 35 (0, 0)) ∧ wf.heap[br]? = some (.cells (ndC r) 35 (0, 0)) ∧ l.Ok wf ∧ l.In (fun k => w2.heap.size ≤ k ∧ k < wf.heap.size) ∧ r.Ok wf ∧ r.In (fun k => w2.heap.size ≤ k ∧ k < wf.heap.size) ∧ Below w2.heap.size w2 wf ∧ w2.heap.size ≤ bl ∧ w2.heap.size ≤ br
theorem splX_mk {w2 w5 wx : World} {bl br N : Nat} {l r : Nd} {a0 a1 a2 a3 a4 a5 c0 c1 c2 c3 c4 c5 : Value} (hb : Below w2.heap.size w2 w5) (h5 : Below w5.heap.size w5 wx) (hl : l.Own w5 N) (hr : r.Own w5 N) (hN : w2.heap.size ≤ N) (g1 : wx.heap[bl]? = some (.cells #[a0, a1, a2, a3, a4, a5] 35 (0, 0))) (g2 : wx.heap[br]? = some (.cells #[c0, c1, c2, c3, c4, c5] 35 (0, 0))) (hne : bl ≠ br) (h1 : w2.heap.size ≤ bl ∧ (bl < N ∨ w5.heap.size ≤ bl)) (h2 : w2.heap.size ≤ br ∧ (br < N ∨ w5.heap.size ≤ br)) :
  SplX w2 (six6 (six6 wx bl (.int .i64 l.lv) l.hi.v (.int .i64 l.ri) l.ks.v l.vs.v l.cs.v) br (.int .i64 r.lv) r.hi.v (.int .i64 r.ri) r.ks.v r.vs.v r.cs.v) bl br l r := by
 have u1 : Upd (fun k => k = bl) wx (six6 wx bl (.int .i64 l.lv) l.hi.v (.int .i64 l.ri) l.ks.v l.vs.v l.cs.v) := six_upd _ _ _ _ _ _ _ _ _ rfl
 have u2 : Upd (fun k => k = br) (six6 wx bl (.int .i64 l.lv) l.hi.v (.int .i64 l.ri) l.ks.v l.vs.v l.cs.v) (six6 (six6 wx bl (.int .i64 l.lv) l.hi.v (.int .i64 l.ri) l.ks.v l.vs.v l.cs.v) br (.int .i64 r.lv) r.hi.v (.int .i64 r.ri) r.ks.v r.vs.v r.cs.v) := six_upd _ _ _ _ _ _ _ _ _ rfl
 have k1 := u2.heap (six_block g1 (.int .i64 l.lv) l.hi.v (.int .i64 l.ri) l.ks.v l.vs.v l.cs.v) hne
 have k2 := six_block (u1.heap g2 (fun e => hne e.symm)) (.int .i64 r.lv) r.hi.v (.int .i64 r.ri) r.ks.v r.vs.v r.cs.v
 generalize six6 wx bl (.int .i64 l.lv) l.hi.v (.int .i64 l.ri) l.ks.v l.vs.v l.cs.v = wy at *
 generalize six6 wy br (.int .i64 r.lv) r.hi.v (.int .i64 r.ri) r.ks.v r.vs.v r.cs.v = wz at *
 have u5 : Upd (fun k => k = bl ∨ k = br) w5 wz := ((Upd.of_below h5 _).trans (u1.mono (fun k _ e => .inl e))).trans (u2.mono (fun k _ e => .inr e))
 have ub := hb.trans (u5.below hb.size (fun k hk e => by omega))
 have li := (hl.upd u5 (fun b hb1 hb2 e => by omega))
 have ri := (hr.upd u5 (fun b hb1 hb2 e => by omega))
 exact ⟨k1, k2, li.ok, li.in_.mono (fun k hk => ⟨by omega, hk.2⟩), ri.ok, ri.in_.mono (fun k hk => ⟨by omega, hk.2⟩), ub, h1.1, h2.1⟩
theorem splX_gen {w2 w5 wz : World} {bl br N : Nat} {l r : Nd} (hb : Below w2.heap.size w2 w5) (u5 : Upd (fun k => k = bl ∨ k = br) w5 wz) (k1 : wz.heap[bl]? = some (.cells (ndC l) 35 (0, 0))) (k2 : wz.heap[br]? = some (.cells (ndC r) 35 (0, 0))) (hl : l.Own w5 N) (hr : r.Own w5 N) (hN : w2.heap.size ≤ N) (h1 : w2.heap.size ≤ bl ∧ (bl < N ∨ w5.heap.size ≤ bl)) (h2 : w2.heap.size ≤ br ∧ (br < N ∨ w5.heap.size ≤ br)) : SplX w2 wz bl br l r := by
 have ub := hb.trans (u5.below hb.size (fun k hk e => by omega))
 have li := (hl.upd u5 (fun b hb1 hb2 e => by omega))
 have ri := (hr.upd u5 (fun b hb1 hb2 e => by omega))
 exact ⟨k1, k2, li.ok, li.in_.mono (fun k hk => ⟨by omega, hk.2⟩), ri.ok, ri.in_.mono (fun k hk => ⟨by omega, hk.2⟩), ub, h1.1, h2.1⟩
theorem two_allocs (w5 : World) (L R : Array Value) : ((w5.alloc (.cells L 35)).alloc (.cells R 35)).heap[w5.heap.size]? = some (.cells L 35 (0, 0)) ∧ ((w5.alloc (.cells L 35)).alloc (.cells R 35)).heap[w5.heap.size + 1]? = some (.cells R 35 (0, 0)) ∧ Below w5.heap.size w5 ((w5.alloc (.cells L 35)).alloc (.cells R 35)) := by
 have z : (w5.alloc (.cells L 35)).heap.size = w5.heap.size + 1 := by simp
 have b1 : Below w5.heap.size w5 (w5.alloc (.cells L 35)) := (Below.refl _ _).alloc (Nat.le_refl _) _
 have b2 : Below (w5.alloc (.cells L 35)).heap.size (w5.alloc (.cells L 35)) ((w5.alloc (.cells L 35)).alloc (.cells R 35)) := (Below.refl _ _).alloc (Nat.le_refl _) _
 refine ⟨(b2.block _ (by omega)).trans (heap_alloc_new w5 _), ?_, b1.trans (b2.mono (by omega))⟩
 rw [← z]; exact heap_alloc_new _ _
theorem splX_ll {w2 w5 : World} {N : Nat} {l r : Nd} (hb : Below w2.heap.size w2 w5) (hl : l.Own w5 N) (hr : r.Own w5 N) (hN : w2.heap.size ≤ N) : SplX w2 ((w5.alloc (.cells (ndC l) 35)).alloc (.cells (ndC r) 35)) w5.heap.size (w5.heap.size + 1) l r := by
 obtain ⟨k1, k2, b⟩ := two_allocs w5 (ndC l) (ndC r)
 have := hb.size
 exact splX_gen hb (Upd.of_below b _) k1 k2 hl hr hN ⟨by omega, .inr (Nat.le_refl _)⟩ ⟨by omega, .inr (by omega)⟩
theorem splX_rr {w2 w5 : World} {N : Nat} {l r : Nd} (hb : Below w2.heap.size w2 w5) (hl : l.Own w5 N) (hr : r.Own w5 N) (hN : w2.heap.size ≤ N) : SplX w2 ((w5.alloc (.cells (ndC r) 35)).alloc (.cells (ndC l) 35)) (w5.heap.size + 1) w5.heap.size l r := by
 obtain ⟨k1, k2, b⟩ := two_allocs w5 (ndC r) (ndC l)
 have := hb.size
 exact splX_gen hb (Upd.of_below b _) k2 k1 hl hr hN ⟨by omega, .inr (by omega)⟩ ⟨by omega, .inr (Nat.le_refl _)⟩
theorem six_then {w5 : World} {A : Nat} {a0 a1 a2 a3 a4 a5 : Value} (g1 : w5.heap[A]? = some (.cells #[a0, a1, a2, a3, a4, a5] 35 (0, 0))) (x : Nd) (R : Array Value) : ((six6 w5 A (.int .i64 x.lv) x.hi.v (.int .i64 x.ri) x.ks.v x.vs.v x.cs.v).alloc (.cells R 35)).heap[A]? = some (.cells (ndC x) 35 (0, 0)) ∧ ((six6 w5 A (.int .i64 x.lv) x.hi.v (.int .i64 x.ri) x.ks.v x.vs.v x.cs.v).alloc (.cells R 35)).heap[w5.heap.size]? = some (.cells R 35 (0, 0)) ∧ Upd (fun k => k = A) w5 ((six6 w5 A (.int .i64 x.lv) x.hi.v (.int .i64 x.ri) x.ks.v x.vs.v x.cs.v).alloc (.cells R 35)) := by
 have u1 : Upd (fun k => k = A) w5 (six6 w5 A (.int .i64 x.lv) x.hi.v (.int .i64 x.ri) x.ks.v x.vs.v x.cs.v) := six_upd _ _ _ _ _ _ _ _ _ rfl
 have k1 := six_block g1 (.int .i64 x.lv) x.hi.v (.int .i64 x.ri) x.ks.v x.vs.v x.cs.v
 have z : (six6 w5 A (.int .i64 x.lv) x.hi.v (.int .i64 x.ri) x.ks.v x.vs.v x.cs.v).heap.size = w5.heap.size := by simp [six6]
 generalize six6 w5 A (.int .i64 x.lv) x.hi.v (.int .i64 x.ri) x.ks.v x.vs.v x.cs.v = wy at *
 have b : Below wy.heap.size wy (wy.alloc (.cells R 35)) := (Below.refl _ _).alloc (Nat.le_refl _) _
 refine ⟨(b.block _ (lt_of_block k1)).trans k1, ?_, u1.trans (Upd.of_below b _)⟩
 rw [← z]; exact heap_alloc_new _ _
theorem splX_sl {w2 w5 : World} {A N : Nat} {l r : Nd} {a0 a1 a2 a3 a4 a5 : Value} (hb : Below w2.heap.size w2 w5) (hl : l.Own w5 N) (hr : r.Own w5 N) (hN : w2.heap.size ≤ N) (g1 : w5.heap[A]? = some (.cells #[a0, a1, a2, a3, a4, a5] 35 (0, 0))) (h1 : w2.heap.size ≤ A ∧ (A < N ∨ w5.heap.size ≤ A)) : SplX w2 ((six6 w5 A (.int .i64 l.lv) l.hi.v (.int .i64 l.ri) l.ks.v l.vs.v l.cs.v).alloc (.cells (ndC r) 35)) A w5.heap.size l r := by
 obtain ⟨k1, k2, u⟩ := six_then g1 l (ndC r)
 have := hb.size
 exact splX_gen hb (u.mono (fun k _ e => .inl e)) k1 k2 hl hr hN h1 ⟨by omega, .inr (Nat.le_refl _)⟩
theorem splX_sr {w2 w5 : World} {A N : Nat} {l r : Nd} {a0 a1 a2 a3 a4 a5 : Value} (hb : Below w2.heap.size w2 w5) (hl : l.Own w5 N) (hr : r.Own w5 N) (hN : w2.heap.size ≤ N) (g1 : w5.heap[A]? = some (.cells #[a0, a1, a2, a3, a4, a5] 35 (0, 0))) (h1 : w2.heap.size ≤ A ∧ (A < N ∨ w5.heap.size ≤ A)) : SplX w2 ((six6 w5 A (.int .i64 r.lv) r.hi.v (.int .i64 r.ri) r.ks.v r.vs.v r.cs.v).alloc (.cells (ndC l) 35)) w5.heap.size A l r := by
 obtain ⟨k1, k2, u⟩ := six_then g1 r (ndC l)
 have := hb.size
 exact splX_gen hb (u.mono (fun k _ e => .inr e)) k2 k1 hl hr hN ⟨by omega, .inr (Nat.le_refl _)⟩ h1
end
end Go.Proofs.YtealejbfloacpaaGreat
