/- The statement's Turn: a turn of the tree, in both arenas. -/
import Derived.Test.YtpljbgcofmlhbaaGreatG25
import Derived.Test.YtpljbgcofmlhbaaGreatG14
import Derived.Test.YtpljbgcofmlhbaaGreatG28
import Derived.Test.YtpljbgcofmlhbaaGreatG41
import Derived.Test.YtpljbgcofmlhbaaGreatG40
import Derived.Test.YtpljbgcofmlhbaaGreatG44
import Derived.Test.YtpljbgcofmlhbaaGreatG24
import Derived.Deep.CutBlock
namespace Go.Proofs.YtpljbgcofmlhbaaGreat
open Go.RowKit
set_option maxRecDepth 100000
structure TOp where
 kind : Int
 a : Int
 b : Int
 key : Tx
 value : Tx
 hi : Tx
 ch : Bool
 n : Nd
def TOp.cs (o : TOp) : List Value := [.int .i64 o.kind, .int .i64 o.a, .int .i64 o.b, o.key.v, o.value.v, o.hi.v, .bool o.ch, .int .i64 o.n.lv, o.n.hi.v, .int .i64 o.n.ri, o.n.ks.v, o.n.vs.v, o.n.cs.v]
def TOp.v (o : TOp) : Value := .agg #[.int .i64 o.kind, .int .i64 o.a, .int .i64 o.b, o.key.v, o.value.v, o.hi.v, .bool o.ch, .int .i64 o.n.lv, o.n.hi.v, .int .i64 o.n.ri, o.n.ks.v, o.n.vs.v, o.n.cs.v]
structure TOp.Ok (K : Nat → Prop) (W : World) (o : TOp) : Prop where
 k1 : -9223372036854775808 ≤ o.kind ∧ o.kind ≤ 9223372036854775807
 a1 : -9223372036854775808 ≤ o.a ∧ o.a ≤ 9223372036854775807
 b1 : -9223372036854775808 ≤ o.b ∧ o.b ≤ 9223372036854775807
 key : o.key.Ok W
 value : o.value.Ok W
 n : o.n.Ok W
 i : o.n.In K
theorem raw_seven (s : AS) (a b : Int) (w : Nat) (c : Bool) (n : Nd) : s.raw ⟨7, a, b, w, c, n⟩ = s.layS (1 + ((pickN a (s.sl.length + 1) : Nat) : Int)) n.p := rfl
theorem raw_two (s : AS) (a b : Int) (w : Nat) (c : Bool) (n : Nd) : s.raw ⟨2, a, b, w, c, n⟩ = s.lockS (s.id a) (wadd (s.wordW (s.id a)) (pickN b 3)) := rfl
theorem raw_three (s : AS) (a b : Int) (w : Nat) (c : Bool) (n : Nd) : s.raw ⟨3, a, b, w, c, n⟩ = s.unlS (s.id a) c := rfl
theorem raw_six (s : AS) (a b : Int) (w : Nat) (c : Bool) (n : Nd) : s.raw ⟨6, a, b, w, c, n⟩ = s.groS (s.id a) (s.id b) := rfl
section
variable {K : Nat → Prop} {W Wc : World} {P AX AY : Nat} {s : AS}
theorem raw_k (h : AW K W P AX AY s s) (hb : Below W.heap.size W Wc) (o : AOp) (ho : o.Ok (fun k => K k ∨ (W.heap.size ≤ k ∧ k < Wc.heap.size)) Wc) : Calls Tryz.prog 54 #[.pointer (some ⟨P, 0, none⟩), o.v] Wc fun e w' => e = .returned (.bool true) ∧ AW K w' P AX AY (s.raw o) (s.raw o) ∧ AW (fun k => K k ∨ (W.heap.size ≤ k ∧ k < Wc.heap.size)) w' P AX AY (s.raw o) (s.raw o) ∧ Upd (fun k => ¬ (fun k => K k ∨ (W.heap.size ≤ k ∧ k < Wc.heap.size)) k) Wc w' ∧ Upd (fun k => ¬ K k) W w' := by
 refine (raw_any (h.more hb (fun _ hk => hk) (.inl h.kp)) o ho).mono ?_
 rintro e w' ⟨rfl, h1, h2⟩
 exact ⟨rfl, h1.less (fun _ hk => .inl hk) h.kp, h1, h2, (kept_below hb).trans (kept_less h2 (fun _ hk => .inl hk))⟩
def ndC (n : Nd) : Array Value := #[.int .i64 n.lv, n.hi.v, .int .i64 n.ri, n.ks.v, n.vs.v, n.cs.v]
def SplX (w2 wf : World) (bl br : Nat) (l r : Nd) : Prop := wf.heap[bl]? = some (.cells (ndC l) 36 (0, 0)) ∧ wf.heap[br]? = some (.cells (ndC r) 36 (0, 0)) ∧ l.Ok wf ∧ l.In (fun k => w2.heap.size ≤ k ∧ k < wf.heap.size) ∧ r.Ok wf ∧ r.In (fun k => w2.heap.size ≤ k ∧ k < wf.heap.size) ∧ Below w2.heap.size w2 wf ∧ w2.heap.size ≤ bl ∧ w2.heap.size ≤ br
theorem splX_mk {w2 w5 wx : World} {bl br N : Nat} {l r : Nd} {a0 a1 a2 a3 a4 a5 c0 c1 c2 c3 c4 c5 : Value} (hb : Below w2.heap.size w2 w5) (h5 : Below w5.heap.size w5 wx) (hl : l.Own w5 N) (hr : r.Own w5 N) (hN : w2.heap.size ≤ N) (g1 : wx.heap[bl]? = some (.cells #[a0, a1, a2, a3, a4, a5] 36 (0, 0))) (g2 : wx.heap[br]? = some (.cells #[c0, c1, c2, c3, c4, c5] 36 (0, 0))) (hne : bl ≠ br) (h1 : w2.heap.size ≤ bl ∧ (bl < N ∨ w5.heap.size ≤ bl)) (h2 : w2.heap.size ≤ br ∧ (br < N ∨ w5.heap.size ≤ br)) :
  SplX w2 (six6 (six6 wx bl (.int .i64 l.lv) l.hi.v (.int .i64 l.ri) l.ks.v l.vs.v l.cs.v) br (.int .i64 r.lv) r.hi.v (.int .i64 r.ri) r.ks.v r.vs.v r.cs.v) bl br l r := by
 have u1 : Upd (fun k => k = bl) wx (six6 wx bl (.int .i64 l.lv) l.hi.v (.int .i64 l.ri) l.ks.v l.vs.v l.cs.v) := six_upd _ _ _ _ _ _ _ _ _ rfl
 have u2 : Upd (fun k => k = br) (six6 wx bl (.int .i64 l.lv) l.hi.v (.int .i64 l.ri) l.ks.v l.vs.v l.cs.v) (six6 (six6 wx bl (.int .i64 l.lv) l.hi.v (.int .i64 l.ri) l.ks.v l.vs.v l.cs.v) br (.int .i64 r.lv) r.hi.v (.int .i64 r.ri) r.ks.v r.vs.v r.cs.v) := six_upd _ _ _ _ _ _ _ _ _ rfl
 have k1 := u2.heap (six_block g1 (.int .i64 l.lv) l.hi.v (.int .i64 l.ri) l.ks.v l.vs.v l.cs.v) hne
 have k2 := six_block (u1.heap g2 (fun e => hne e.symm)) (.int .i64 r.lv) r.hi.v (.int .i64 r.ri) r.ks.v r.vs.v r.cs.v
 generalize six6 wx bl (.int .i64 l.lv) l.hi.v (.int .i64 l.ri) l.ks.v l.vs.v l.cs.v = wy at *
 generalize six6 wy br (.int .i64 r.lv) r.hi.v (.int .i64 r.ri) r.ks.v r.vs.v r.cs.v = wz at *
 have u5 : Upd (fun k => k = bl ∨ k = br) w5 wz := ((Upd.of_below h5 _).trans (u1.mono (fun k _ e => .inl e))).trans (u2.mono (fun k _ e => .inr e))
 have ub := hb.trans (u5.below hb.size (fun k hk e => by omega))
 have li := (hl.upd u5 (fun b hb1 hb2 e => by omega))
 have ri := (hr.upd u5 (fun b hb1 hb2 e => by omega))
 exact ⟨k1, k2, li.ok, li.in_.mono (fun k hk => ⟨by omega, hk.2⟩), ri.ok, ri.in_.mono (fun k hk => ⟨by omega, hk.2⟩), ub, h1.1, h2.1⟩
theorem splX_gen {w2 w5 wz : World} {bl br N : Nat} {l r : Nd} (hb : Below w2.heap.size w2 w5) (u5 : Upd (fun k => k = bl ∨ k = br) w5 wz) (k1 : wz.heap[bl]? = some (.cells (ndC l) 36 (0, 0))) (k2 : wz.heap[br]? = some (.cells (ndC r) 36 (0, 0))) (hl : l.Own w5 N) (hr : r.Own w5 N) (hN : w2.heap.size ≤ N) (h1 : w2.heap.size ≤ bl ∧ (bl < N ∨ w5.heap.size ≤ bl)) (h2 : w2.heap.size ≤ br ∧ (br < N ∨ w5.heap.size ≤ br)) : SplX w2 wz bl br l r := by
 have ub := hb.trans (u5.below hb.size (fun k hk e => by omega))
 have li := (hl.upd u5 (fun b hb1 hb2 e => by omega))
 have ri := (hr.upd u5 (fun b hb1 hb2 e => by omega))
 exact ⟨k1, k2, li.ok, li.in_.mono (fun k hk => ⟨by omega, hk.2⟩), ri.ok, ri.in_.mono (fun k hk => ⟨by omega, hk.2⟩), ub, h1.1, h2.1⟩
theorem two_allocs (w5 : World) (L R : Array Value) : ((w5.alloc (.cells L 36)).alloc (.cells R 36)).heap[w5.heap.size]? = some (.cells L 36 (0, 0)) ∧ ((w5.alloc (.cells L 36)).alloc (.cells R 36)).heap[w5.heap.size + 1]? = some (.cells R 36 (0, 0)) ∧ Below w5.heap.size w5 ((w5.alloc (.cells L 36)).alloc (.cells R 36)) := by
 have z : (w5.alloc (.cells L 36)).heap.size = w5.heap.size + 1 := by simp
 have b1 : Below w5.heap.size w5 (w5.alloc (.cells L 36)) := (Below.refl _ _).alloc (Nat.le_refl _) _
 have b2 : Below (w5.alloc (.cells L 36)).heap.size (w5.alloc (.cells L 36)) ((w5.alloc (.cells L 36)).alloc (.cells R 36)) := (Below.refl _ _).alloc (Nat.le_refl _) _
 refine ⟨(b2.block _ (by omega)).trans (heap_alloc_new w5 _), ?_, b1.trans (b2.mono (by omega))⟩
 rw [← z]; exact heap_alloc_new _ _
theorem splX_ll {w2 w5 : World} {N : Nat} {l r : Nd} (hb : Below w2.heap.size w2 w5) (hl : l.Own w5 N) (hr : r.Own w5 N) (hN : w2.heap.size ≤ N) : SplX w2 ((w5.alloc (.cells (ndC l) 36)).alloc (.cells (ndC r) 36)) w5.heap.size (w5.heap.size + 1) l r := by
 obtain ⟨k1, k2, b⟩ := two_allocs w5 (ndC l) (ndC r)
 have := hb.size
 exact splX_gen hb (Upd.of_below b _) k1 k2 hl hr hN ⟨by omega, .inr (Nat.le_refl _)⟩ ⟨by omega, .inr (by omega)⟩
theorem splX_rr {w2 w5 : World} {N : Nat} {l r : Nd} (hb : Below w2.heap.size w2 w5) (hl : l.Own w5 N) (hr : r.Own w5 N) (hN : w2.heap.size ≤ N) : SplX w2 ((w5.alloc (.cells (ndC r) 36)).alloc (.cells (ndC l) 36)) (w5.heap.size + 1) w5.heap.size l r := by
 obtain ⟨k1, k2, b⟩ := two_allocs w5 (ndC r) (ndC l)
 have := hb.size
 exact splX_gen hb (Upd.of_below b _) k2 k1 hl hr hN ⟨by omega, .inr (by omega)⟩ ⟨by omega, .inr (Nat.le_refl _)⟩
theorem six_then {w5 : World} {A : Nat} {a0 a1 a2 a3 a4 a5 : Value} (g1 : w5.heap[A]? = some (.cells #[a0, a1, a2, a3, a4, a5] 36 (0, 0))) (x : Nd) (R : Array Value) : ((six6 w5 A (.int .i64 x.lv) x.hi.v (.int .i64 x.ri) x.ks.v x.vs.v x.cs.v).alloc (.cells R 36)).heap[A]? = some (.cells (ndC x) 36 (0, 0)) ∧ ((six6 w5 A (.int .i64 x.lv) x.hi.v (.int .i64 x.ri) x.ks.v x.vs.v x.cs.v).alloc (.cells R 36)).heap[w5.heap.size]? = some (.cells R 36 (0, 0)) ∧ Upd (fun k => k = A) w5 ((six6 w5 A (.int .i64 x.lv) x.hi.v (.int .i64 x.ri) x.ks.v x.vs.v x.cs.v).alloc (.cells R 36)) := by
 have u1 : Upd (fun k => k = A) w5 (six6 w5 A (.int .i64 x.lv) x.hi.v (.int .i64 x.ri) x.ks.v x.vs.v x.cs.v) := six_upd _ _ _ _ _ _ _ _ _ rfl
 have k1 := six_block g1 (.int .i64 x.lv) x.hi.v (.int .i64 x.ri) x.ks.v x.vs.v x.cs.v
 have z : (six6 w5 A (.int .i64 x.lv) x.hi.v (.int .i64 x.ri) x.ks.v x.vs.v x.cs.v).heap.size = w5.heap.size := by simp [six6]
 generalize six6 w5 A (.int .i64 x.lv) x.hi.v (.int .i64 x.ri) x.ks.v x.vs.v x.cs.v = wy at *
 have b : Below wy.heap.size wy (wy.alloc (.cells R 36)) := (Below.refl _ _).alloc (Nat.le_refl _) _
 refine ⟨(b.block _ (lt_of_block k1)).trans k1, ?_, u1.trans (Upd.of_below b _)⟩
 rw [← z]; exact heap_alloc_new _ _
theorem splX_sl {w2 w5 : World} {A N : Nat} {l r : Nd} {a0 a1 a2 a3 a4 a5 : Value} (hb : Below w2.heap.size w2 w5) (hl : l.Own w5 N) (hr : r.Own w5 N) (hN : w2.heap.size ≤ N) (g1 : w5.heap[A]? = some (.cells #[a0, a1, a2, a3, a4, a5] 36 (0, 0))) (h1 : w2.heap.size ≤ A ∧ (A < N ∨ w5.heap.size ≤ A)) : SplX w2 ((six6 w5 A (.int .i64 l.lv) l.hi.v (.int .i64 l.ri) l.ks.v l.vs.v l.cs.v).alloc (.cells (ndC r) 36)) A w5.heap.size l r := by
 obtain ⟨k1, k2, u⟩ := six_then g1 l (ndC r)
 have := hb.size
 exact splX_gen hb (u.mono (fun k _ e => .inl e)) k1 k2 hl hr hN h1 ⟨by omega, .inr (Nat.le_refl _)⟩
theorem splX_sr {w2 w5 : World} {A N : Nat} {l r : Nd} {a0 a1 a2 a3 a4 a5 : Value} (hb : Below w2.heap.size w2 w5) (hl : l.Own w5 N) (hr : r.Own w5 N) (hN : w2.heap.size ≤ N) (g1 : w5.heap[A]? = some (.cells #[a0, a1, a2, a3, a4, a5] 36 (0, 0))) (h1 : w2.heap.size ≤ A ∧ (A < N ∨ w5.heap.size ≤ A)) : SplX w2 ((six6 w5 A (.int .i64 r.lv) r.hi.v (.int .i64 r.ri) r.ks.v r.vs.v r.cs.v).alloc (.cells (ndC l) 36)) w5.heap.size A l r := by
 obtain ⟨k1, k2, u⟩ := six_then g1 r (ndC l)
 have := hb.size
 exact splX_gen hb (u.mono (fun k _ e => .inr e)) k2 k1 hl hr hN ⟨by omega, .inr (Nat.le_refl _)⟩ h1
set_option maxRecDepth 100000 in
set_option maxHeartbeats 6400000 in
theorem turn_any {B : Nat} (h : AW K W P AX AY s s) (hR : SI s B) (o : TOp) (ho : o.Ok K W) (hz : SzP B o.n.p) (hB : B ≤ 4000000) : Calls Tryz.prog 10 #[.pointer (some ⟨P, 0, none⟩), o.v] W (fun e w' => ∃ s', AwPost K W P AX AY s' e w' ∧ SI s' (B + 1)) := by
 have hlen := h.len
 have HAW := hide h
 have HSR := hide hR
 have HSK : Hid (∀ Wc, Below W.heap.size W Wc → ∃ s', AwPost K W P AX AY s' (.returned (.bool true)) Wc ∧ SI s' (B + 1)) := fun Wc hb => ⟨s, ⟨rfl, h.below hb, kept_below hb⟩, hR.mono (Nat.le_succ _)⟩
 have hPK := h.kp
 have hPl := h.klt P h.kp
 clear h hR
 obtain ⟨Q, hQ⟩ : ∃ Q : Ending → World → Prop, Q = fun e w' => ∃ s', AwPost K W P AX AY s' e w' ∧ SI s' (B + 1) := ⟨_, rfl⟩
 rw [← hQ]
 have HQ : Hid (∀ e w', (∃ s', AwPost K W P AX AY s' e w' ∧ SI s' (B + 1)) → Q e w') := fun e w' h => by rw [hQ]; exact h
 clear hQ
 obtain ⟨kd, oa, ob, ⟨xa, xc, xs⟩, ⟨ua, uc, us⟩, ⟨za, zc, zs⟩, ch, bn⟩ := o
 obtain ⟨ok1, oa1, ob1, okey, ovalue, on, oi⟩ := ho
 simp only at ok1 oa1 ob1 okey ovalue on oi hz
 have HKEY : Hid (∀ Wc, Below W.heap.size W Wc → (⟨xa, xc, xs⟩ : Tx).Ok Wc) := fun Wc hb => okey.below hb
 have HVAL : Hid (∀ Wc, Below W.heap.size W Wc → (⟨ua, uc, us⟩ : Tx).Ok Wc) := fun Wc hb => ovalue.below hb
 have HBN : Hid (∀ Wc, Below W.heap.size W Wc → bn.Ok Wc) := fun Wc hb => on.below hb
 have HBI := hide oi
 have HBZ := hide hz
 have HKB := hide ok1
 clear okey ovalue on oi hz ok1 ob1
 obtain ⟨abn, habn⟩ : ∃ abn, abn = bn := ⟨_, rfl⟩
 rw [← habn] at HBN HBI HBZ
 have HAB := hide habn
 clear habn
 obtain ⟨blv, ⟨bha, bhc, bhs⟩, bri, ⟨bka, bkc, bK⟩, ⟨bva, bvc, bV⟩, ⟨bca, bcc, bC⟩⟩ := bn
 simp only [TOp.v, Tx.v, TL.v, IL.v]
 obtain ⟨lx, hlx⟩ : ∃ x, xs.length = x := ⟨_, rfl⟩
 obtain ⟨ul, hul⟩ : ∃ x, us.length = x := ⟨_, rfl⟩
 rw [hlx, hul]
 have HLX := hide (And.intro hlx hul)
 clear hlx hul
 generalize zs.length = zl at *
 obtain ⟨blh, bh1⟩ : ∃ x, bhs.length = x := ⟨_, rfl⟩
 obtain ⟨blk, bh2⟩ : ∃ x, bK.length = x := ⟨_, rfl⟩
 obtain ⟨blw, bh3⟩ : ∃ x, bV.length = x := ⟨_, rfl⟩
 obtain ⟨blc, bh4⟩ : ∃ x, bC.length = x := ⟨_, rfl⟩
 rw [bh1, bh2, bh3, bh4] at ⊢
 have bL := hide (And.intro bh1 (And.intro bh2 (And.intro bh3 bh4)))
 clear bh1 bh2 bh3 bh4
 have HBV : Hid (abn.v = .agg #[.int .i64 blv, .slice bha blh bhc, .int .i64 bri, .slice bka blk bkc, .slice bva blw bvc, .slice bca blc bcc]) := by show _ = _; rw [HAB.out]; simp only [Nd.v, Tx.v, TL.v, IL.v, bL.out.1, bL.out.2.1, bL.out.2.2.1, bL.out.2.2.2]
 obtain ⟨w0, hw0⟩ : ∃ w0, w0 = W.alloc (.cells #[.int .i64 kd, .int .i64 oa, .int .i64 ob, .slice xa lx xc, .slice ua ul uc, .slice za zl zc, .bool ch, .int .i64 blv, .slice bha blh bhc, .int .i64 bri, .slice bka blk bkc, .slice bva blw bvc, .slice bca blc bcc] 38) := ⟨_, rfl⟩
 have b0 : Below W.heap.size W w0 := by rw [hw0]; exact (Below.refl _ _).alloc (Nat.le_refl _) _
 have g0 : w0.heap[W.heap.size]? = some (.cells #[.int .i64 kd, .int .i64 oa, .int .i64 ob, .slice xa lx xc, .slice ua ul uc, .slice za zl zc, .bool ch, .int .i64 blv, .slice bha blh bhc, .int .i64 bri, .slice bka blk bkc, .slice bva blw bvc, .slice bca blc bcc] 38 (0, 0)) := by rw [hw0]; exact heap_alloc_new W _
 have Bw0 := hide b0
 have HBX : Hid (∀ Wc, Below w0.heap.size w0 Wc → (Wc.cell? ⟨W.heap.size, 0, none⟩ = some (.int .i64 kd) ∧ Wc.cell? ⟨W.heap.size, 1, none⟩ = some (.int .i64 oa) ∧ Wc.cell? ⟨W.heap.size, 2, none⟩ = some (.int .i64 ob) ∧ Wc.cell? ⟨W.heap.size, 3, none⟩ = some (.slice xa lx xc) ∧ Wc.cell? ⟨W.heap.size, 4, none⟩ = some (.slice ua ul uc) ∧ Wc.cell? ⟨W.heap.size, 5, none⟩ = some (.slice za zl zc) ∧ Wc.cell? ⟨W.heap.size, 6, none⟩ = some (.bool ch) ∧ Wc.cell? ⟨W.heap.size, 7, none⟩ = some (.int .i64 blv) ∧ Wc.cell? ⟨W.heap.size, 8, none⟩ = some (.slice bha blh bhc) ∧ Wc.cell? ⟨W.heap.size, 9, none⟩ = some (.int .i64 bri) ∧ Wc.cell? ⟨W.heap.size, 10, none⟩ = some (.slice bka blk bkc) ∧ Wc.cell? ⟨W.heap.size, 11, none⟩ = some (.slice bva blw bvc) ∧ Wc.cell? ⟨W.heap.size, 12, none⟩ = some (.slice bca blc bcc)) ∧ Below W.heap.size W Wc) := fun Wc hb => by
  have hc := (hb.block _ (lt_of_block g0)).trans g0
  refine ⟨⟨?_, ?_, ?_, ?_, ?_, ?_, ?_, ?_, ?_, ?_, ?_, ?_, ?_⟩, b0.trans (hb.mono b0.size)⟩ <;> (rw [cell_of_row _ _ _ _ _ _ hc]; rfl)
 have hl0 := lt_of_block g0
 have HW0 := hide hw0
 have HA0 := hide (HAW.out.below b0)
 obtain ⟨p0, p1⟩ := HA0.out.cells
 obtain ⟨q0, q1, q2, q3, q4, q5, q6, q7, q8, q9, q10, q11, q12⟩ := (HBX.out w0 (Below.refl _ _)).1
 obtain ⟨ln, hln⟩ : ∃ x, s.sl.length = x := ⟨_, rfl⟩
 rw [hln] at hlen
 have HLN := hide hln
 obtain ⟨at', hat⟩ : ∃ x, x = pickN oa ln := ⟨_, rfl⟩
 have hatl : at' < ln := by rw [hat]; exact pickN_lt _ _ (by omega)
 have HUS : Hid (∀ Wc, Below W.heap.size W Wc → Calls Tryz.prog 52 #[.pointer (some ⟨AY, 0, none⟩)] Wc fun e w' => e = .returned (.int .i64 (ln : Nat)) ∧ w' = Wc) := fun Wc hb => by have := aw_usedY (HAW.out.below hb); rw [HLN.out] at this; exact this
 have HPI : Hid (∀ Wc, Calls Tryz.prog 13 #[.int .i64 oa, .int .i64 (ln : Nat)] Wc fun e w' => e = .returned (.int .i64 (at' : Nat)) ∧ w' = Wc) := fun Wc => by rw [hat]; exact gpick_any oa ln Wc (by omega) (by omega) oa1.1 oa1.2
 have HOA := hide oa1
 have hlnz : ln ≤ 65536 := hlen.1
 have HLEN := hide hlen
 clear hw0 b0 g0 hln hat oa1 hlen
 go_enter Tryz.func10, Tryz.ntmps10
 go_upto_region 1 with fail
 rw [← HW0.out]
 clear HW0
 go_region_held3 (fun W' => W'.cell? ⟨W.heap.size, 1, none⟩ = some (.int .i64 oa) ∧ W'.cell? ⟨P, 1, none⟩ = some (.pointer (some ⟨AY, 0, none⟩))) (go_keep) (first
  | (go_at_call 13; refine keep (HPI.out _) ?_)
  | (go_at_call 52; refine keep (HUS.out _ (below_drew Bw0.out)) ?_)
  | fail)
 obtain ⟨w1, hw1⟩ : ∃ x, x = w0.drew := ⟨_, rfl⟩
 have b01 : Below w0.heap.size w0 w1 := by rw [hw1]; exact below_drew (Below.refl _ _)
 have hs01 : w1.heap.size = w0.heap.size := by rw [hw1]; rfl
 rw [← hw1]
 clear hw1 p0 p1 q0 q1 q2 q3 q4 q5 q6 q7 q8 q9 q10 q11 q12 HPI
 have Bw1 := hide (HBX.out w1 b01).2
 have HA1 := hide (HAW.out.below Bw1.out)
 obtain ⟨p0, p1⟩ := HA1.out.cells
 obtain ⟨g, gc, hsl, hnodes⟩ := HA1.out.slots
 rw [HLN.out] at hsl hnodes
 obtain ⟨m, hmo, hmp, m0, m1, m2, m3, m4, m5⟩ := hnodes at' hatl
 have hinn : s.inn ((at' : Int) + 1) := by unfold AS.inn; rw [HLN.out]; omega
 have HMR : Hid (RtP m.p ∧ SzP B m.p) := by show _ ∧ _; rw [hmp]; exact HSR.out.1 _ hinn
 have HMO : Hid (∀ Wc, Below w1.heap.size w1 Wc → m.Ok Wc) := fun Wc hb => hmo.below hb
 obtain ⟨am, ham⟩ : ∃ am, am = m := ⟨_, rfl⟩
 rw [← ham] at HMR HMO
 have HAM := hide ham
 clear hnodes hmo hmp hinn ham
 obtain ⟨mlv, ⟨mha, mhc, mhs⟩, mri, ⟨mka, mkc, mK⟩, ⟨mva, mvc, mV⟩, ⟨mca, mcc, mC⟩⟩ := m
 simp only [Tx.v, TL.v, IL.v] at m0 m1 m2 m3 m4 m5
 obtain ⟨mlh, mh1⟩ : ∃ x, mhs.length = x := ⟨_, rfl⟩
 obtain ⟨mlk, mh2⟩ : ∃ x, mK.length = x := ⟨_, rfl⟩
 obtain ⟨mlw, mh3⟩ : ∃ x, mV.length = x := ⟨_, rfl⟩
 obtain ⟨mlc, mh4⟩ : ∃ x, mC.length = x := ⟨_, rfl⟩
 rw [mh1] at m1
 rw [mh2] at m3
 rw [mh3] at m4
 rw [mh4] at m5
 have mL := hide (And.intro mh1 (And.intro mh2 (And.intro mh3 mh4)))
 clear mh1 mh2 mh3 mh4
 have n1 : w1.cell? ⟨g, at' * 7 + 2, none⟩ = some (.slice mha mlh mhc) := m1
 have n2 : w1.cell? ⟨g, at' * 7 + 3, none⟩ = some (.int .i64 mri) := m2
 have n3 : w1.cell? ⟨g, at' * 7 + 4, none⟩ = some (.slice mka mlk mkc) := m3
 have n4 : w1.cell? ⟨g, at' * 7 + 5, none⟩ = some (.slice mva mlw mvc) := m4
 have n5 : w1.cell? ⟨g, at' * 7 + 6, none⟩ = some (.slice mca mlc mcc) := m5
 have ja0 : (0 : Int) ≤ (at' : Int) := by omega
 have ja1 : (at' : Int) < (ln : Int) := by omega
 obtain ⟨w2, hw2⟩ : ∃ w2, w2 = w1.alloc (.cells #[.int .i64 mlv, .slice mha mlh mhc, .int .i64 mri, .slice mka mlk mkc, .slice mva mlw mvc, .slice mca mlc mcc] 36) := ⟨_, rfl⟩
 have b2 : Below w1.heap.size w1 w2 := by rw [hw2]; exact (Below.refl _ _).alloc (Nat.le_refl _) _
 have g2 : w2.heap[w1.heap.size]? = some (.cells #[.int .i64 mlv, .slice mha mlh mhc, .int .i64 mri, .slice mka mlk mkc, .slice mva mlw mvc, .slice mca mlc mcc] 36 (0, 0)) := by rw [hw2]; exact heap_alloc_new w1 _
 have HMB : Hid (∀ Wc, Below w2.heap.size w2 Wc → Six Wc w1.heap.size (.int .i64 mlv) (.slice mha mlh mhc) (.int .i64 mri) (.slice mka mlk mkc) (.slice mva mlw mvc) (.slice mca mlc mcc) ∧ Below w1.heap.size w1 Wc ∧ Below w0.heap.size w0 Wc) := fun Wc hb => by
  have h1 := b2.trans (hb.mono b2.size)
  exact ⟨Six.of ((hb.block _ (lt_of_block g2)).trans g2), h1, b01.trans (h1.mono b01.size)⟩
 have hl2 := lt_of_block g2
 have HW2 := hide hw2
 clear hw2 g2 b2 b01 hs01
 go_upto_region 3 with fail
 rw [← HW2.out]
 clear HW2 m0 m1 m2 m3 m4 m5 n1 n2 n3 n4 n5 hsl p0 p1
 obtain ⟨n0, n1, n2, n3, n4, n5⟩ := (HMB.out w2 (Below.refl _ _)).1
 obtain ⟨q0, q1, q2, q3, q4, q5, q6, q7, q8, q9, q10, q11, q12⟩ := (HBX.out w2 (HMB.out w2 (Below.refl _ _)).2.2).1
 have Bw2 := hide (HBX.out w2 (HMB.out w2 (Below.refl _ _)).2.2).2
 have HA2 := hide (HAW.out.below Bw2.out)
 obtain ⟨p0, p1⟩ := HA2.out.cells
 have hzi : -9223372036854775808 ≤ (at' : Int) ∧ (at' : Int) ≤ 70000 := by omega
 have hoa1 : -9223372036854775808 ≤ oa := HOA.out.1
 have hoa2 : oa ≤ 9223372036854775807 := HOA.out.2
 by_cases k0 : kd = 0
 ·subst k0
  have HRT : Hid (Calls Tryz.prog 53 #[.agg #[.int .i64 blv, .slice bha blh bhc, .int .i64 bri, .slice bka blk bkc, .slice bva blw bvc, .slice bca blc bcc]] w2 fun e w' => e = .returned (.bool (decide (RtP abn.p))) ∧ Below w2.heap.size w2 w') := by
   have := right_any abn w2 (HBN.out w2 Bw2.out)
   rw [HBV.out] at this
   exact this
  go_wp2_with fail
  refine HRT.out.mono ?_
  rintro e w3 ⟨rfl, b3⟩
  have B3 := hide b3
  have bx := HBX.out w3 (HMB.out w3 B3.out).2.2
  obtain ⟨r0, r1, r2, r3, r4, r5, r6, r7, r8, r9, r10, r11, r12⟩ := bx.1
  have Bw3 := hide bx.2
  clear b3 bx HRT
  by_cases hR : RtP abn.p
  case neg =>
   rw [decide_eq_false hR]
   have HE := hide (HQ.out _ _ (HSK.out w3 Bw3.out))
   go_wp2_with fail
   exact HE.out
  rw [decide_eq_true hR]
  have NOK : Hid ((⟨blv, ⟨bha, bhc, bhs⟩, bri, ⟨bka, bkc, bK⟩, ⟨bva, bvc, bV⟩, ⟨bca, bcc, bC⟩⟩ : Nd).Ok w3) := by have := HBN.out w3 Bw3.out; rw [HAB.out] at this; exact this
  have NIN : Hid ((⟨blv, ⟨bha, bhc, bhs⟩, bri, ⟨bka, bkc, bK⟩, ⟨bva, bvc, bV⟩, ⟨bca, bcc, bC⟩⟩ : Nd).In (fun k => K k ∨ (W.heap.size ≤ k ∧ k < w3.heap.size))) := by have := HBI.out; rw [HAB.out] at this; exact this.mono (fun k hk => .inl hk)
  have HRP : Hid (RtP (⟨blv, ⟨bha, bhc, bhs⟩, bri, ⟨bka, bkc, bK⟩, ⟨bva, bvc, bV⟩, ⟨bca, bcc, bC⟩⟩ : Nd).p ∧ SzP (B + 1) (⟨blv, ⟨bha, bhc, bhs⟩, bri, ⟨bka, bkc, bK⟩, ⟨bva, bvc, bV⟩, ⟨bca, bcc, bC⟩⟩ : Nd).p) := by have h1 := HBZ.out; rw [HAB.out] at hR h1; exact ⟨hR, h1.mono (Nat.le_succ _)⟩
  have HRW : Hid (Calls Tryz.prog 54 #[.pointer (some ⟨P, 0, none⟩), .agg #[.int .i64 7, .int .i64 oa, .int .i64 0, .int .u64 (0 : Nat), .bool false, .int .i64 blv, .slice bha blh bhc, .int .i64 bri, .slice bka blk bkc, .slice bva blw bvc, .slice bca blc bcc]] w3 (fun e w' => ∃ s', AwPost K W P AX AY s' e w' ∧ SI s' (B + 1))) := by
   have h1 := raw_k HAW.out Bw3.out ⟨7, oa, 0, 0, false, (⟨blv, ⟨bha, bhc, bhs⟩, bri, ⟨bka, bkc, bK⟩, ⟨bva, bvc, bV⟩, ⟨bca, bcc, bC⟩⟩ : Nd)⟩ ⟨by simp only; omega, by simp only; omega, by simp only; omega, by simp only; omega, NOK.out, NIN.out⟩
   simp only [AOp.v, Tx.v, TL.v, IL.v, bL.out.1, bL.out.2.1, bL.out.2.2.1, bL.out.2.2.2] at h1
   refine h1.mono ?_
   rintro e w' ⟨rfl, h2, _, _, h3⟩
   exact ⟨_, ⟨rfl, h2, h3⟩, by rw [raw_seven]; exact (HSR.out.mono (Nat.le_succ _)).lay _ HRP.out⟩
  clear hR
  go_wp2_with fail
  refine HRW.out.mono ?_
  rintro e wz hz
  obtain ⟨s', ⟨rfl, hz2⟩, hz3⟩ := hz
  have HZZ := hide (HQ.out _ wz ⟨s', ⟨rfl, hz2⟩, hz3⟩)
  clear hz2 hz3
  go_wp2_with fail
  exact HZZ.out
 by_cases k1 : kd = 1
 ·subst k1
  by_cases hlf : mlv = 0
  case neg =>
   have HE := hide (HQ.out _ _ (HSK.out w2 Bw2.out))
   have hlb : (mlv == 0) = false := beq_eq_false_iff_ne.mpr hlf
   go_wp2_with fail
   exact HE.out
  have HMV : Hid (am.v = .agg #[.int .i64 mlv, .slice mha mlh mhc, .int .i64 mri, .slice mka mlk mkc, .slice mva mlw mvc, .slice mca mlc mcc]) := by show _ = _; rw [HAM.out]; simp only [Nd.v, Tx.v, TL.v, IL.v, mL.out.1, mL.out.2.1, mL.out.2.2.1, mL.out.2.2.2]
  have HML : Hid (am.lv = 0) := by show _ = _; rw [HAM.out]; exact hlf
  have HMZ : Hid (am.ks.L.length * 24 ≤ 140737488351900 ∧ am.vs.L.length * 24 ≤ 140737488351900) := by
   have h1 := HMR.out.2.1
   have h2 := HMR.out.2.2.1
   have e1 : am.p.ks.length = am.ks.L.length := TL.p_len _
   have e2 : am.p.vs.length = am.vs.L.length := TL.p_len _
   show _ ∧ _
   omega
  have HWI : Hid (Calls Tryz.prog 55 #[.agg #[.int .i64 mlv, .slice mha mlh mhc, .int .i64 mri, .slice mka mlk mkc, .slice mva mlw mvc, .slice mca mlc mcc], .slice xa lx xc, .slice ua ul uc] w2 (NdPost w2 (am.p.with_ xs us))) := by
   have := rwith_any am ⟨xa, xc, xs⟩ ⟨ua, uc, us⟩ w2 (HMO.out w2 (HMB.out w2 (Below.refl _ _)).2.1) (HKEY.out w2 Bw2.out) (HVAL.out w2 Bw2.out) HMR.out.1 HML.out HMZ.out.1 HMZ.out.2
   rw [HMV.out] at this
   simp only [Tx.v, HLX.out.1, HLX.out.2] at this
   exact this
  have HWT : Hid (∀ Wc, Below w2.heap.size w2 Wc → Calls Tryz.prog 56 #[.agg #[.int .i64 mlv, .slice mha mlh mhc, .int .i64 mri, .slice mka mlk mkc, .slice mva mlw mvc, .slice mca mlc mcc], .slice xa lx xc] Wc (NdBPost Wc (am.p.without xs) (isIn am.ks.p xs))) := fun Wc hb => by
   have := rwithout_any am ⟨xa, xc, xs⟩ Wc (HMO.out Wc (HMB.out Wc hb).2.1) (HKEY.out Wc (HBX.out Wc (HMB.out Wc hb).2.2).2) HMR.out.1 HML.out HMZ.out.1 HMZ.out.2
   rw [HMV.out] at this
   simp only [Tx.v, HLX.out.1] at this
   exact this
  have HYR := hide (rt_with HMR.out.1 HML.out HMR.out.2 xs us)
  have HYT : Hid (RtP (am.p.without xs) ∧ SzP (B + 1) (am.p.without xs)) := by have h1 := rt_without HMR.out.1 HML.out HMR.out.2 xs; exact ⟨h1.1, h1.2.mono (Nat.le_succ _)⟩
  subst hlf
  unfold NdPost at HWI
  go_wp2_with fail
  refine HWI.out.mono ?_
  rintro e w3 ⟨⟨ylv, ⟨yha, yhc, yhs⟩, yri, ⟨yka, ykc, yK⟩, ⟨yva, yvc, yV⟩, ⟨yca, ycc, yC⟩⟩, rfl, hyp, hyo, b3⟩
  simp only [Nd.v, Tx.v, TL.v, IL.v]
  obtain ⟨ylh, yh1⟩ : ∃ x, yhs.length = x := ⟨_, rfl⟩
  obtain ⟨ylk, yh2⟩ : ∃ x, yK.length = x := ⟨_, rfl⟩
  obtain ⟨ylw, yh3⟩ : ∃ x, yV.length = x := ⟨_, rfl⟩
  obtain ⟨ylc, yh4⟩ : ∃ x, yC.length = x := ⟨_, rfl⟩
  rw [yh1, yh2, yh3, yh4] at ⊢
  have yL := hide (And.intro yh1 (And.intro yh2 (And.intro yh3 yh4)))
  clear yh1 yh2 yh3 yh4
  obtain ⟨w4, hw4⟩ : ∃ w4, w4 = w3.alloc (.cells #[.int .i64 ylv, .slice yha ylh yhc, .int .i64 yri, .slice yka ylk ykc, .slice yva ylw yvc, .slice yca ylc ycc] 36) := ⟨_, rfl⟩
  have b4 : Below w3.heap.size w3 w4 := by rw [hw4]; exact (Below.refl _ _).alloc (Nat.le_refl _) _
  have g4 : w4.heap[w3.heap.size]? = some (.cells #[.int .i64 ylv, .slice yha ylh yhc, .int .i64 yri, .slice yka ylk ykc, .slice yva ylw yvc, .slice yca ylc ycc] 36 (0, 0)) := by rw [hw4]; exact heap_alloc_new w3 _
  have B24 := hide (b3.trans (b4.mono b3.size))
  have G4 := hide g4
  have HYP := hide hyp
  have HYO : Hid ((⟨ylv, ⟨yha, yhc, yhs⟩, yri, ⟨yka, ykc, yK⟩, ⟨yva, yvc, yV⟩, ⟨yca, ycc, yC⟩⟩ : Nd).Own w4 w2.heap.size) := hyo.below b4
  have HW4 := hide hw4
  have bx := HBX.out w4 (HMB.out w4 B24.out).2.2
  have Bw4 := hide bx.2
  obtain ⟨r0, r1, r2, r3, r4, r5, r6, r7, r8, r9, r10, r11, r12⟩ := bx.1
  obtain ⟨v0, v1, v2, v3, v4, v5⟩ := Six.of g4
  obtain ⟨t0, t1, t2, t3, t4, t5⟩ := (HMB.out w4 B24.out).1
  have hs24 := b3.size
  have hs02 : W.heap.size ≤ w2.heap.size := Bw2.out.size
  clear hyp hyo b3 b4 g4 hw4 bx HWI q0 q1 q2 q3 q4 q5 q6 q7 q8 q9 q10 q11 q12 n0 n1 n2 n3 n4 n5
  go_upto_region 15 with fail
  rw [← HW4.out]
  clear HW4
  have NOK : Hid ((⟨ylv, ⟨yha, yhc, yhs⟩, yri, ⟨yka, ykc, yK⟩, ⟨yva, yvc, yV⟩, ⟨yca, ycc, yC⟩⟩ : Nd).Ok w4) := HYO.out.ok
  have NIN : Hid ((⟨ylv, ⟨yha, yhc, yhs⟩, yri, ⟨yka, ykc, yK⟩, ⟨yva, yvc, yV⟩, ⟨yca, ycc, yC⟩⟩ : Nd).In (fun k => K k ∨ (W.heap.size ≤ k ∧ k < w4.heap.size))) := HYO.out.in_.mono (fun k hk => .inr ⟨by omega, hk.2⟩)
  have HRW : Hid (Calls Tryz.prog 54 #[.pointer (some ⟨P, 0, none⟩), .agg #[.int .i64 7, .int .i64 (at' : Int), .int .i64 0, .int .u64 (0 : Nat), .bool false, .int .i64 ylv, .slice yha ylh yhc, .int .i64 yri, .slice yka ylk ykc, .slice yva ylw yvc, .slice yca ylc ycc]] w4 (fun e w' => ∃ s', AwPost K W P AX AY s' e w' ∧ SI s' (B + 1))) := by
   have h1 := raw_k HAW.out Bw4.out ⟨7, (at' : Int), 0, 0, false, (⟨ylv, ⟨yha, yhc, yhs⟩, yri, ⟨yka, ykc, yK⟩, ⟨yva, yvc, yV⟩, ⟨yca, ycc, yC⟩⟩ : Nd)⟩ ⟨by simp only; omega, by simp only; omega, by simp only; omega, by simp only; omega, NOK.out, NIN.out⟩
   simp only [AOp.v, Tx.v, TL.v, IL.v, yL.out.1, yL.out.2.1, yL.out.2.2.1, yL.out.2.2.2] at h1
   refine h1.mono ?_
   rintro e w' ⟨rfl, h2, _, _, h3⟩
   exact ⟨_, ⟨rfl, h2, h3⟩, by rw [raw_seven, HYP.out]; exact (HSR.out.mono (Nat.le_succ _)).lay _ HYR.out⟩
  go_wp2_with fail
  refine HRW.out.mono ?_
  rintro e wz hz
  obtain ⟨s', ⟨rfl, hz2⟩, hz3⟩ := hz
  have HZZ := hide (HQ.out _ wz ⟨s', ⟨rfl, hz2⟩, hz3⟩)
  clear hz2 hz3
  go_wp2_with fail
  exact HZZ.out
 by_cases k2 : kd = 2
 ·subst k2
  by_cases hlf : mlv = 0
  case neg =>
   have HE := hide (HQ.out _ _ (HSK.out w2 Bw2.out))
   have hlb : (mlv == 0) = false := beq_eq_false_iff_ne.mpr hlf
   go_wp2_with fail
   exact HE.out
  have HMV : Hid (am.v = .agg #[.int .i64 mlv, .slice mha mlh mhc, .int .i64 mri, .slice mka mlk mkc, .slice mva mlw mvc, .slice mca mlc mcc]) := by show _ = _; rw [HAM.out]; simp only [Nd.v, Tx.v, TL.v, IL.v, mL.out.1, mL.out.2.1, mL.out.2.2.1, mL.out.2.2.2]
  have HML : Hid (am.lv = 0) := by show _ = _; rw [HAM.out]; exact hlf
  have HMZ : Hid (am.ks.L.length * 24 ≤ 140737488351900 ∧ am.vs.L.length * 24 ≤ 140737488351900) := by
   have h1 := HMR.out.2.1
   have h2 := HMR.out.2.2.1
   have e1 : am.p.ks.length = am.ks.L.length := TL.p_len _
   have e2 : am.p.vs.length = am.vs.L.length := TL.p_len _
   show _ ∧ _
   omega
  have HWI : Hid (Calls Tryz.prog 55 #[.agg #[.int .i64 mlv, .slice mha mlh mhc, .int .i64 mri, .slice mka mlk mkc, .slice mva mlw mvc, .slice mca mlc mcc], .slice xa lx xc, .slice ua ul uc] w2 (NdPost w2 (am.p.with_ xs us))) := by
   have := rwith_any am ⟨xa, xc, xs⟩ ⟨ua, uc, us⟩ w2 (HMO.out w2 (HMB.out w2 (Below.refl _ _)).2.1) (HKEY.out w2 Bw2.out) (HVAL.out w2 Bw2.out) HMR.out.1 HML.out HMZ.out.1 HMZ.out.2
   rw [HMV.out] at this
   simp only [Tx.v, HLX.out.1, HLX.out.2] at this
   exact this
  have HWT : Hid (∀ Wc, Below w2.heap.size w2 Wc → Calls Tryz.prog 56 #[.agg #[.int .i64 mlv, .slice mha mlh mhc, .int .i64 mri, .slice mka mlk mkc, .slice mva mlw mvc, .slice mca mlc mcc], .slice xa lx xc] Wc (NdBPost Wc (am.p.without xs) (isIn am.ks.p xs))) := fun Wc hb => by
   have := rwithout_any am ⟨xa, xc, xs⟩ Wc (HMO.out Wc (HMB.out Wc hb).2.1) (HKEY.out Wc (HBX.out Wc (HMB.out Wc hb).2.2).2) HMR.out.1 HML.out HMZ.out.1 HMZ.out.2
   rw [HMV.out] at this
   simp only [Tx.v, HLX.out.1] at this
   exact this
  have HYR := hide (rt_with HMR.out.1 HML.out HMR.out.2 xs us)
  have HYT : Hid (RtP (am.p.without xs) ∧ SzP (B + 1) (am.p.without xs)) := by have h1 := rt_without HMR.out.1 HML.out HMR.out.2 xs; exact ⟨h1.1, h1.2.mono (Nat.le_succ _)⟩
  subst hlf
  unfold NdPost at HWI
  go_wp2_with fail
  refine HWI.out.mono ?_
  rintro e w3 ⟨⟨ylv, ⟨yha, yhc, yhs⟩, yri, ⟨yka, ykc, yK⟩, ⟨yva, yvc, yV⟩, ⟨yca, ycc, yC⟩⟩, rfl, hyp, hyo, b3⟩
  simp only [Nd.v, Tx.v, TL.v, IL.v]
  obtain ⟨ylh, yh1⟩ : ∃ x, yhs.length = x := ⟨_, rfl⟩
  obtain ⟨ylk, yh2⟩ : ∃ x, yK.length = x := ⟨_, rfl⟩
  obtain ⟨ylw, yh3⟩ : ∃ x, yV.length = x := ⟨_, rfl⟩
  obtain ⟨ylc, yh4⟩ : ∃ x, yC.length = x := ⟨_, rfl⟩
  rw [yh1, yh2, yh3, yh4] at ⊢
  have yL := hide (And.intro yh1 (And.intro yh2 (And.intro yh3 yh4)))
  clear yh1 yh2 yh3 yh4
  obtain ⟨w4, hw4⟩ : ∃ w4, w4 = w3.alloc (.cells #[.int .i64 ylv, .slice yha ylh yhc, .int .i64 yri, .slice yka ylk ykc, .slice yva ylw yvc, .slice yca ylc ycc] 36) := ⟨_, rfl⟩
  have b4 : Below w3.heap.size w3 w4 := by rw [hw4]; exact (Below.refl _ _).alloc (Nat.le_refl _) _
  have g4 : w4.heap[w3.heap.size]? = some (.cells #[.int .i64 ylv, .slice yha ylh yhc, .int .i64 yri, .slice yka ylk ykc, .slice yva ylw yvc, .slice yca ylc ycc] 36 (0, 0)) := by rw [hw4]; exact heap_alloc_new w3 _
  have B24 := hide (b3.trans (b4.mono b3.size))
  have G4 := hide g4
  have HYP := hide hyp
  have HYO : Hid ((⟨ylv, ⟨yha, yhc, yhs⟩, yri, ⟨yka, ykc, yK⟩, ⟨yva, yvc, yV⟩, ⟨yca, ycc, yC⟩⟩ : Nd).Own w4 w2.heap.size) := hyo.below b4
  have HW4 := hide hw4
  have bx := HBX.out w4 (HMB.out w4 B24.out).2.2
  have Bw4 := hide bx.2
  obtain ⟨r0, r1, r2, r3, r4, r5, r6, r7, r8, r9, r10, r11, r12⟩ := bx.1
  obtain ⟨v0, v1, v2, v3, v4, v5⟩ := Six.of g4
  obtain ⟨t0, t1, t2, t3, t4, t5⟩ := (HMB.out w4 B24.out).1
  have hs24 := b3.size
  have hs02 : W.heap.size ≤ w2.heap.size := Bw2.out.size
  clear hyp hyo b3 b4 g4 hw4 bx HWI q0 q1 q2 q3 q4 q5 q6 q7 q8 q9 q10 q11 q12 n0 n1 n2 n3 n4 n5
  go_upto_region 15 with fail
  rw [← HW4.out]
  clear HW4
  have HW5 := hide (HWT.out w4 B24.out)
  unfold NdBPost NdPost at HW5
  go_wp2_with fail
  refine HW5.out.mono ?_
  rintro e w5 ⟨xv, rfl, ⟨elv, ⟨eha, ehc, ehs⟩, eri, ⟨eka, ekc, eK⟩, ⟨eva, evc, eV⟩, ⟨eca, ecc, eC⟩⟩, hxv, hep, heo, b5⟩
  obtain rfl : xv = _ := by simpa using hxv
  simp only [Nd.v, Tx.v, TL.v, IL.v]
  obtain ⟨elh, eh1⟩ : ∃ x, ehs.length = x := ⟨_, rfl⟩
  obtain ⟨elk, eh2⟩ : ∃ x, eK.length = x := ⟨_, rfl⟩
  obtain ⟨elw, eh3⟩ : ∃ x, eV.length = x := ⟨_, rfl⟩
  obtain ⟨elc, eh4⟩ : ∃ x, eC.length = x := ⟨_, rfl⟩
  rw [eh1, eh2, eh3, eh4] at ⊢
  have eL := hide (And.intro eh1 (And.intro eh2 (And.intro eh3 eh4)))
  clear eh1 eh2 eh3 eh4
  have g5 := (b5.block _ (lt_of_block G4.out)).trans G4.out
  obtain ⟨v0, v1, v2, v3, v4, v5⟩ := Six.of g5
  have fz := fun j => frozen_of g5 j
  obtain ⟨w6, hw6⟩ : ∃ w6, w6 = six6 w5 w3.heap.size (.int .i64 elv) (.slice eha elh ehc) (.int .i64 eri) (.slice eka elk ekc) (.slice eva elw evc) (.slice eca elc ecc) := ⟨_, rfl⟩
  have G6 : Hid (w6.heap[w3.heap.size]? = some (.cells #[.int .i64 elv, .slice eha elh ehc, .int .i64 eri, .slice eka elk ekc, .slice eva elw evc, .slice eca elc ecc] 36 (0, 0))) := by show _ = _; rw [hw6]; exact six_block g5 _ _ _ _ _ _
  have U6 : Upd (fun k => k = w3.heap.size) w5 w6 := by rw [hw6]; exact six_upd _ _ _ _ _ _ _ _ _ rfl
  have hl4 := lt_of_block G4.out
  have b25 := B24.out.trans (b5.mono B24.out.size)
  have b26 : Below w2.heap.size w2 w6 := b25.trans (U6.below b25.size (fun k hk e => by omega))
  have Bw6 := hide (HBX.out w6 (HMB.out w6 b26).2.2).2
  have hs56 : w5.heap.size ≤ w6.heap.size := U6.size
  have hs45 := b5.size
  have HEO : Hid ((⟨elv, ⟨eha, ehc, ehs⟩, eri, ⟨eka, ekc, eK⟩, ⟨eva, evc, eV⟩, ⟨eca, ecc, eC⟩⟩ : Nd).Own w6 w4.heap.size) := heo.upd U6 (fun b h1 _ e => by omega)
  have HEP := hide hep
  simp only [six6] at hw6
  have HW6 := hide hw6
  clear hep heo b5 hw6 g5 U6 HWT b25 hs45
  go_upto_region 17 with fail
  rw [← HW6.out]
  clear HW6 v0 v1 v2 v3 v4 v5 fz
  obtain ⟨v0, v1, v2, v3, v4, v5⟩ := Six.of G6.out
  have NOK : Hid ((⟨elv, ⟨eha, ehc, ehs⟩, eri, ⟨eka, ekc, eK⟩, ⟨eva, evc, eV⟩, ⟨eca, ecc, eC⟩⟩ : Nd).Ok w6) := HEO.out.ok
  have NIN : Hid ((⟨elv, ⟨eha, ehc, ehs⟩, eri, ⟨eka, ekc, eK⟩, ⟨eva, evc, eV⟩, ⟨eca, ecc, eC⟩⟩ : Nd).In (fun k => K k ∨ (W.heap.size ≤ k ∧ k < w6.heap.size))) := HEO.out.in_.mono (fun k hk => .inr ⟨by have := B24.out.size; omega, hk.2⟩)
  have HRW : Hid (Calls Tryz.prog 54 #[.pointer (some ⟨P, 0, none⟩), .agg #[.int .i64 7, .int .i64 (at' : Int), .int .i64 0, .int .u64 (0 : Nat), .bool false, .int .i64 elv, .slice eha elh ehc, .int .i64 eri, .slice eka elk ekc, .slice eva elw evc, .slice eca elc ecc]] w6 (fun e w' => ∃ s', AwPost K W P AX AY s' e w' ∧ SI s' (B + 1))) := by
   have h1 := raw_k HAW.out Bw6.out ⟨7, (at' : Int), 0, 0, false, (⟨elv, ⟨eha, ehc, ehs⟩, eri, ⟨eka, ekc, eK⟩, ⟨eva, evc, eV⟩, ⟨eca, ecc, eC⟩⟩ : Nd)⟩ ⟨by simp only; omega, by simp only; omega, by simp only; omega, by simp only; omega, NOK.out, NIN.out⟩
   simp only [AOp.v, Tx.v, TL.v, IL.v, eL.out.1, eL.out.2.1, eL.out.2.2.1, eL.out.2.2.2] at h1
   refine h1.mono ?_
   rintro e w' ⟨rfl, h2, _, _, h3⟩
   exact ⟨_, ⟨rfl, h2, h3⟩, by rw [raw_seven, HEP.out]; exact (HSR.out.mono (Nat.le_succ _)).lay _ HYT.out⟩
  go_wp2_with fail
  refine HRW.out.mono ?_
  rintro e wz hz
  obtain ⟨s', ⟨rfl, hz2⟩, hz3⟩ := hz
  have HZZ := hide (HQ.out _ wz ⟨s', ⟨rfl, hz2⟩, hz3⟩)
  clear hz2 hz3
  go_wp2_with fail
  exact HZZ.out
 by_cases k3 : kd = 3
 ·subst k3
  have HMV : Hid (am.v = .agg #[.int .i64 mlv, .slice mha mlh mhc, .int .i64 mri, .slice mka mlk mkc, .slice mva mlw mvc, .slice mca mlc mcc]) := by show _ = _; rw [HAM.out]; simp only [Nd.v, Tx.v, TL.v, IL.v, mL.out.1, mL.out.2.1, mL.out.2.2.1, mL.out.2.2.2]
  have jw1 : IntKind.i64.wrap ((ln : Int) + 1) = (ln : Int) + 1 := by rw [IntKind.wrap_i64]; omega
  obtain ⟨p1', p2', bt, hsp, hgood⟩ : ∃ (p1 p2 : NP) (bt : List Int), (∀ Wc, Below w2.heap.size w2 Wc → Calls Tryz.prog 57 #[.agg #[.int .i64 mlv, .slice mha mlh mhc, .int .i64 mri, .slice mka mlk mkc, .slice mva mlw mvc, .slice mca mlc mcc], .int .i64 ((ln : Int) + 1)] Wc (RspP Wc p1 p2 bt)) ∧ (0 < bt.length → (RtP p1 ∧ SzP B p1) ∧ (RtP p2 ∧ SzP B p2)) := by
   by_cases hw : am.p.wd < 2
   ·refine ⟨am.p, NP.zero, [], fun Wc hb => ?_, fun h => absurd h (Nat.lt_irrefl _)⟩
    have := rsplit_few am ((ln : Int) + 1) Wc (HMO.out Wc (HMB.out Wc hb).2.1) HMR.out.1 hw
    rw [HMV.out] at this
    exact this
   ·refine ⟨am.p.one ((ln : Int) + 1), am.p.two, am.p.bet, fun Wc hb => ?_, fun _ => rt_halves HMR.out.1 (by omega) HMR.out.2 _⟩
    have : Calls Tryz.prog 57 #[am.v, .int .i64 ((ln : Int) + 1)] Wc (RspP Wc (am.p.one ((ln : Int) + 1)) am.p.two am.p.bet) := by
     rcases HMR.out.1.2 with h1 | h1
     ·exact rsplit_leaf am _ Wc (HMO.out Wc (HMB.out Wc hb).2.1) HMR.out.1 h1.1 (by omega)
     ·exact rsplit_inner am _ Wc (HMO.out Wc (HMB.out Wc hb).2.1) HMR.out.1 h1.1 (by omega)
    rw [HMV.out] at this
    exact this
  have HSP := hide hsp
  have HGD := hide hgood
  have hP2 : P < w2.heap.size := Nat.lt_of_lt_of_le hPl Bw2.out.size
  have HUS2 : Hid (∀ Wc, Below w2.heap.size w2 Wc → Calls Tryz.prog 52 #[.pointer (some ⟨AY, 0, none⟩)] Wc fun e w' => e = .returned (.int .i64 (ln : Nat)) ∧ w' = Wc) := fun Wc hb => HUS.out Wc (Bw2.out.trans (hb.mono Bw2.out.size))
  clear hsp hgood
  have nqw2heapsize0 : ¬ P = w2.heap.size := (by omega); have nqw2heapsize1 : ¬ w2.heap.size = P := (by omega); have nqw2heapsize2 : ¬ w1.heap.size = w2.heap.size := (by omega); have nqw2heapsize3 : ¬ w2.heap.size = w1.heap.size := (by omega)
  have nqw2heapsizep10 : ¬ P = w2.heap.size + 1 := (by omega); have nqw2heapsizep11 : ¬ w2.heap.size + 1 = P := (by omega); have nqw2heapsizep12 : ¬ w1.heap.size = w2.heap.size + 1 := (by omega); have nqw2heapsizep13 : ¬ w2.heap.size + 1 = w1.heap.size := (by omega)
  go_wp2_with fail
  go_cut [10, 11, 12] (fun s10 s11 s12 wx => ∃ (bl br : Nat) (l r : Nd) (ta : Option Addr) (tl tc : Nat), s10 = .pointer (some ⟨bl, 0, none⟩) ∧ s11 = .pointer (some ⟨br, 0, none⟩) ∧ s12 = .slice ta tl tc ∧ Hid (SplX w2 wx bl br l r ∧ l.p = p1' ∧ r.p = p2' ∧ bt.length = tl))
  case first =>
   go_region_held3 (fun W' => W'.cell? ⟨P, 1, none⟩ = some (.pointer (some ⟨AY, 0, none⟩)) ∧ W'.cell? ⟨w1.heap.size, 0, none⟩ = some (.int .i64 mlv) ∧ W'.cell? ⟨w1.heap.size, 1, none⟩ = some (.slice mha mlh mhc) ∧ W'.cell? ⟨w1.heap.size, 2, none⟩ = some (.int .i64 mri) ∧ W'.cell? ⟨w1.heap.size, 3, none⟩ = some (.slice mka mlk mkc) ∧ W'.cell? ⟨w1.heap.size, 4, none⟩ = some (.slice mva mlw mvc) ∧ W'.cell? ⟨w1.heap.size, 5, none⟩ = some (.slice mca mlc mcc)) (go_keep) (first
    | (go_at_call 57; have hbc := (show Below w2.heap.size w2 ((w2.alloc (.cells #[.int .i64 0, .slice none 0 0, .int .i64 0, .slice none 0 0, .slice none 0 0, .slice none 0 0] 36)).alloc (.cells #[.int .i64 0, .slice none 0 0, .int .i64 0, .slice none 0 0, .slice none 0 0, .slice none 0 0] 36)).drew from below_drew (((Below.refl _ _).alloc (Nat.le_refl _) _).alloc (by simp) _)); (with_reducible refine (HSP.out ((w2.alloc (.cells #[.int .i64 0, .slice none 0 0, .int .i64 0, .slice none 0 0, .slice none 0 0, .slice none 0 0] 36)).alloc (.cells #[.int .i64 0, .slice none 0 0, .int .i64 0, .slice none 0 0, .slice none 0 0, .slice none 0 0] 36)).drew hbc).mono ?_); rintro e w5 ⟨⟨llv, ⟨lha, lhc, lhs⟩, lri, ⟨lka, lkc, lK⟩, ⟨lva, lvc, lV⟩, ⟨lca, lcc, lC⟩⟩, ⟨rlv, ⟨rha, rhc, rhs⟩, rri, ⟨rka, rkc, rK⟩, ⟨rva, rvc, rV⟩, ⟨rca, rcc, rC⟩⟩, ⟨ta, tc, ts⟩, rfl, hlp, hrp, hts, hlo, hro, _, hb5⟩; have HLP := hide (And.intro hlp (And.intro hrp hts)); have HLO := hide hlo; have HRO := hide hro; have B25 := hide (hbc.trans (hb5.mono hbc.size)); have hs5 := B25.out.size; have yp := (B25.out.cell (p := ⟨P, 1, none⟩) hP2).trans p1; obtain ⟨y0, y1, y2, y3, y4, y5⟩ := (HMB.out _ B25.out).1; have gA := (show w5.heap[w2.heap.size]? = some (.cells #[.int .i64 0, .slice none 0 0, .int .i64 0, .slice none 0 0, .slice none 0 0, .slice none 0 0] 36 (0, 0)) from (hb5.block _ (by simp <;> omega)).trans (old_at (new_at rfl))); have GA := hide gA; obtain ⟨a0, a1, a2, a3, a4, a5⟩ := Six.of gA; have fa := (fun j => frozen_of gA j); have hA := lt_of_block gA; have gC := (show w5.heap[w2.heap.size + 1]? = some (.cells #[.int .i64 0, .slice none 0 0, .int .i64 0, .slice none 0 0, .slice none 0 0, .slice none 0 0] 36 (0, 0)) from (hb5.block _ (by simp <;> omega)).trans (new_at (by simp))); have GC := hide gC; obtain ⟨c0, c1, c2, c3, c4, c5⟩ := Six.of gC; have fc := (fun j => frozen_of gC j); have hC := lt_of_block gC; clear hlp hrp hts hlo hro hb5 hbc gA gC; simp only [Nd.v, Tx.v, TL.v, IL.v])
    | (go_at_call 57; have hbc := (show Below w2.heap.size w2 (w2.alloc (.cells #[.int .i64 0, .slice none 0 0, .int .i64 0, .slice none 0 0, .slice none 0 0, .slice none 0 0] 36)).drew from below_drew ((Below.refl _ _).alloc (Nat.le_refl _) _)); (with_reducible refine (HSP.out (w2.alloc (.cells #[.int .i64 0, .slice none 0 0, .int .i64 0, .slice none 0 0, .slice none 0 0, .slice none 0 0] 36)).drew hbc).mono ?_); rintro e w5 ⟨⟨llv, ⟨lha, lhc, lhs⟩, lri, ⟨lka, lkc, lK⟩, ⟨lva, lvc, lV⟩, ⟨lca, lcc, lC⟩⟩, ⟨rlv, ⟨rha, rhc, rhs⟩, rri, ⟨rka, rkc, rK⟩, ⟨rva, rvc, rV⟩, ⟨rca, rcc, rC⟩⟩, ⟨ta, tc, ts⟩, rfl, hlp, hrp, hts, hlo, hro, _, hb5⟩; have HLP := hide (And.intro hlp (And.intro hrp hts)); have HLO := hide hlo; have HRO := hide hro; have B25 := hide (hbc.trans (hb5.mono hbc.size)); have hs5 := B25.out.size; have yp := (B25.out.cell (p := ⟨P, 1, none⟩) hP2).trans p1; obtain ⟨y0, y1, y2, y3, y4, y5⟩ := (HMB.out _ B25.out).1; have gA := (show w5.heap[w2.heap.size]? = some (.cells #[.int .i64 0, .slice none 0 0, .int .i64 0, .slice none 0 0, .slice none 0 0, .slice none 0 0] 36 (0, 0)) from (hb5.block _ (by simp <;> omega)).trans (heap_alloc_new w2 (.cells #[.int .i64 0, .slice none 0 0, .int .i64 0, .slice none 0 0, .slice none 0 0, .slice none 0 0] 36))); have GA := hide gA; obtain ⟨a0, a1, a2, a3, a4, a5⟩ := Six.of gA; have fa := (fun j => frozen_of gA j); have hA := lt_of_block gA; clear hlp hrp hts hlo hro hb5 hbc gA; simp only [Nd.v, Tx.v, TL.v, IL.v])
    | (go_at_call 57; have hbc := (show Below w2.heap.size w2 w2.drew from below_drew (Below.refl _ _)); (with_reducible refine (HSP.out w2.drew hbc).mono ?_); rintro e w5 ⟨⟨llv, ⟨lha, lhc, lhs⟩, lri, ⟨lka, lkc, lK⟩, ⟨lva, lvc, lV⟩, ⟨lca, lcc, lC⟩⟩, ⟨rlv, ⟨rha, rhc, rhs⟩, rri, ⟨rka, rkc, rK⟩, ⟨rva, rvc, rV⟩, ⟨rca, rcc, rC⟩⟩, ⟨ta, tc, ts⟩, rfl, hlp, hrp, hts, hlo, hro, _, hb5⟩; have HLP := hide (And.intro hlp (And.intro hrp hts)); have HLO := hide hlo; have HRO := hide hro; have B25 := hide (hbc.trans (hb5.mono hbc.size)); have hs5 := B25.out.size; have yp := (B25.out.cell (p := ⟨P, 1, none⟩) hP2).trans p1; obtain ⟨y0, y1, y2, y3, y4, y5⟩ := (HMB.out _ B25.out).1; clear hlp hrp hts hlo hro hb5 hbc; simp only [Nd.v, Tx.v, TL.v, IL.v])
    | (go_at_call 52; with_reducible refine keep (HUS2.out _ (below_drew (Below.refl _ _))) ?_)
    | (go_at_call 52; with_reducible refine keep (HUS2.out _ (below_drew ((Below.refl _ _).alloc (Nat.le_refl _) _))) ?_)
    | (go_at_call 52; with_reducible refine keep (HUS2.out _ (below_drew (((Below.refl _ _).alloc (Nat.le_refl _) _).alloc (by simp) _))) ?_)
    | fail)
   all_goals (try go_wp2_with fail)
   all_goals
    go_meet
    first
    | (refine ⟨w2.heap.size, w2.heap.size + 1, (⟨llv, ⟨lha, lhc, lhs⟩, lri, ⟨lka, lkc, lK⟩, ⟨lva, lvc, lV⟩, ⟨lca, lcc, lC⟩⟩ : Nd), (⟨rlv, ⟨rha, rhc, rhs⟩, rri, ⟨rka, rkc, rK⟩, ⟨rva, rvc, rV⟩, ⟨rca, rcc, rC⟩⟩ : Nd), ta, ts.length, tc, rfl, rfl, rfl, ?_⟩; refine And.intro ?_ (And.intro HLP.out.1 (And.intro HLP.out.2.1 (by rw [← HLP.out.2.2]))); have hx := splX_mk (l := (⟨llv, ⟨lha, lhc, lhs⟩, lri, ⟨lka, lkc, lK⟩, ⟨lva, lvc, lV⟩, ⟨lca, lcc, lC⟩⟩ : Nd)) (r := (⟨rlv, ⟨rha, rhc, rhs⟩, rri, ⟨rka, rkc, rK⟩, ⟨rva, rvc, rV⟩, ⟨rca, rcc, rC⟩⟩ : Nd)) (bl := w2.heap.size) (br := w2.heap.size + 1) B25.out (Below.refl _ _) HLO.out HRO.out (by simp <;> omega) (GA.out) (GC.out) (by omega) (⟨Nat.le_refl _, .inl (by simp <;> omega)⟩) (⟨by omega, .inl (by simp <;> omega)⟩); simp only [six6, Tx.v, TL.v, IL.v] at hx; exact hx)
    | (refine ⟨w2.heap.size + 1, w2.heap.size, (⟨llv, ⟨lha, lhc, lhs⟩, lri, ⟨lka, lkc, lK⟩, ⟨lva, lvc, lV⟩, ⟨lca, lcc, lC⟩⟩ : Nd), (⟨rlv, ⟨rha, rhc, rhs⟩, rri, ⟨rka, rkc, rK⟩, ⟨rva, rvc, rV⟩, ⟨rca, rcc, rC⟩⟩ : Nd), ta, ts.length, tc, rfl, rfl, rfl, ?_⟩; refine And.intro ?_ (And.intro HLP.out.1 (And.intro HLP.out.2.1 (by rw [← HLP.out.2.2]))); have hx := splX_mk (l := (⟨llv, ⟨lha, lhc, lhs⟩, lri, ⟨lka, lkc, lK⟩, ⟨lva, lvc, lV⟩, ⟨lca, lcc, lC⟩⟩ : Nd)) (r := (⟨rlv, ⟨rha, rhc, rhs⟩, rri, ⟨rka, rkc, rK⟩, ⟨rva, rvc, rV⟩, ⟨rca, rcc, rC⟩⟩ : Nd)) (bl := w2.heap.size + 1) (br := w2.heap.size) B25.out (Below.refl _ _) HLO.out HRO.out (by simp <;> omega) (GC.out) (GA.out) (by omega) (⟨by omega, .inl (by simp <;> omega)⟩) (⟨Nat.le_refl _, .inl (by simp <;> omega)⟩); simp only [six6, Tx.v, TL.v, IL.v] at hx; exact hx)
    | (refine ⟨w2.heap.size, w5.heap.size, (⟨llv, ⟨lha, lhc, lhs⟩, lri, ⟨lka, lkc, lK⟩, ⟨lva, lvc, lV⟩, ⟨lca, lcc, lC⟩⟩ : Nd), (⟨rlv, ⟨rha, rhc, rhs⟩, rri, ⟨rka, rkc, rK⟩, ⟨rva, rvc, rV⟩, ⟨rca, rcc, rC⟩⟩ : Nd), ta, ts.length, tc, rfl, rfl, rfl, ?_⟩; refine And.intro ?_ (And.intro HLP.out.1 (And.intro HLP.out.2.1 (by rw [← HLP.out.2.2]))); have hx := splX_sl (l := (⟨llv, ⟨lha, lhc, lhs⟩, lri, ⟨lka, lkc, lK⟩, ⟨lva, lvc, lV⟩, ⟨lca, lcc, lC⟩⟩ : Nd)) (r := (⟨rlv, ⟨rha, rhc, rhs⟩, rri, ⟨rka, rkc, rK⟩, ⟨rva, rvc, rV⟩, ⟨rca, rcc, rC⟩⟩ : Nd)) B25.out HLO.out HRO.out (by simp <;> omega) GA.out ⟨Nat.le_refl _, .inl (by simp <;> omega)⟩; simp only [six6, ndC, Tx.v, TL.v, IL.v] at hx; exact hx)
    | (refine ⟨w5.heap.size, w2.heap.size, (⟨llv, ⟨lha, lhc, lhs⟩, lri, ⟨lka, lkc, lK⟩, ⟨lva, lvc, lV⟩, ⟨lca, lcc, lC⟩⟩ : Nd), (⟨rlv, ⟨rha, rhc, rhs⟩, rri, ⟨rka, rkc, rK⟩, ⟨rva, rvc, rV⟩, ⟨rca, rcc, rC⟩⟩ : Nd), ta, ts.length, tc, rfl, rfl, rfl, ?_⟩; refine And.intro ?_ (And.intro HLP.out.1 (And.intro HLP.out.2.1 (by rw [← HLP.out.2.2]))); have hx := splX_sr (l := (⟨llv, ⟨lha, lhc, lhs⟩, lri, ⟨lka, lkc, lK⟩, ⟨lva, lvc, lV⟩, ⟨lca, lcc, lC⟩⟩ : Nd)) (r := (⟨rlv, ⟨rha, rhc, rhs⟩, rri, ⟨rka, rkc, rK⟩, ⟨rva, rvc, rV⟩, ⟨rca, rcc, rC⟩⟩ : Nd)) B25.out HLO.out HRO.out (by simp <;> omega) GA.out ⟨Nat.le_refl _, .inl (by simp <;> omega)⟩; simp only [six6, ndC, Tx.v, TL.v, IL.v] at hx; exact hx)
    | (refine ⟨w5.heap.size, w5.heap.size + 1, (⟨llv, ⟨lha, lhc, lhs⟩, lri, ⟨lka, lkc, lK⟩, ⟨lva, lvc, lV⟩, ⟨lca, lcc, lC⟩⟩ : Nd), (⟨rlv, ⟨rha, rhc, rhs⟩, rri, ⟨rka, rkc, rK⟩, ⟨rva, rvc, rV⟩, ⟨rca, rcc, rC⟩⟩ : Nd), ta, ts.length, tc, rfl, rfl, rfl, ?_⟩; refine And.intro ?_ (And.intro HLP.out.1 (And.intro HLP.out.2.1 (by rw [← HLP.out.2.2]))); have hx := splX_ll (l := (⟨llv, ⟨lha, lhc, lhs⟩, lri, ⟨lka, lkc, lK⟩, ⟨lva, lvc, lV⟩, ⟨lca, lcc, lC⟩⟩ : Nd)) (r := (⟨rlv, ⟨rha, rhc, rhs⟩, rri, ⟨rka, rkc, rK⟩, ⟨rva, rvc, rV⟩, ⟨rca, rcc, rC⟩⟩ : Nd)) B25.out HLO.out HRO.out (by first | exact Nat.le_refl _ | simp); simp only [ndC, Tx.v, TL.v, IL.v] at hx; exact hx)
    | (refine ⟨w5.heap.size + 1, w5.heap.size, (⟨llv, ⟨lha, lhc, lhs⟩, lri, ⟨lka, lkc, lK⟩, ⟨lva, lvc, lV⟩, ⟨lca, lcc, lC⟩⟩ : Nd), (⟨rlv, ⟨rha, rhc, rhs⟩, rri, ⟨rka, rkc, rK⟩, ⟨rva, rvc, rV⟩, ⟨rca, rcc, rC⟩⟩ : Nd), ta, ts.length, tc, rfl, rfl, rfl, ?_⟩; refine And.intro ?_ (And.intro HLP.out.1 (And.intro HLP.out.2.1 (by rw [← HLP.out.2.2]))); have hx := splX_rr (l := (⟨llv, ⟨lha, lhc, lhs⟩, lri, ⟨lka, lkc, lK⟩, ⟨lva, lvc, lV⟩, ⟨lca, lcc, lC⟩⟩ : Nd)) (r := (⟨rlv, ⟨rha, rhc, rhs⟩, rri, ⟨rka, rkc, rK⟩, ⟨rva, rvc, rV⟩, ⟨rca, rcc, rC⟩⟩ : Nd)) B25.out HLO.out HRO.out (by first | exact Nat.le_refl _ | simp); simp only [ndC, Tx.v, TL.v, IL.v] at hx; exact hx)
  case rest =>
  rename World => w6
  obtain ⟨bl, br, l, r, ta, tl, tc, rfl, rfl, rfl, HX⟩ := hcut
  obtain ⟨⟨xk1, xk2, hlo, hli, hro, hri, b26, hbl, hbr⟩, hlp, hrp, htl⟩ := HX.out
  have Bw6 := hide (HBX.out w6 (HMB.out w6 b26).2.2).2
  have HLO := hide hlo
  have HLI := hide hli
  have HRO := hide hro
  have HRI := hide hri
  have HLP := hide hlp
  have HRP := hide hrp
  have HTL := hide htl
  have HK1 := hide xk1
  have HK2 := hide xk2
  have hs26 := b26.size
  have hs02 : W.heap.size ≤ w2.heap.size := Bw2.out.size
  have HA6 := hide (HAW.out.below Bw6.out)
  obtain ⟨p60, p61⟩ := HA6.out.cells
  clear HX xk1 xk2 hlo hli hro hri b26 hlp hrp htl n0 n1 n2 n3 n4 n5 q0 q1 q2 q3 q4 q5 q6 q7 q8 q9 q10 q11 q12 p0 p1 HSP HUS2
  by_cases htz : tl = 0
  case pos =>
   subst htz
   have HE := hide (HQ.out _ _ (HSK.out w6 Bw6.out))
   try simp only [show (((0 : Nat)) : Int) = 0 from rfl]
   go_wp2_with fail
   exact HE.out
  have jt : ¬ (tl : Int) = 0 := by omega
  have HG2 := hide (HGD.out (by rw [HTL.out]; omega))
  obtain ⟨lft, hlft⟩ : ∃ x, s.nodes - (ln : Int) = x := ⟨_, rfl⟩
  have HLF : Hid (Calls Tryz.prog 58 #[.pointer (some ⟨AY, 0, none⟩)] w6 fun e w' => e = .returned (.int .i64 lft) ∧ ∃ k, w' = w6.drewN k) := by
   obtain ⟨F, hp⟩ := HA6.out.rx
   have := rx_left hp
   rw [HLN.out, hlft] at this
   exact this
  clear hlft
  go_wp2_with fail
  refine HLF.out.mono ?_
  rintro e w7 ⟨rfl, hw7⟩
  have b67 : Below w6.heap.size w6 w7 := by obtain ⟨k, hk⟩ := hw7; rw [hk]; exact below_drewN (Below.refl _ _) k
  have hs67 : w7.heap.size = w6.heap.size := by obtain ⟨k, hk⟩ := hw7; rw [hk]; rfl
  have Bw7 := hide (Bw6.out.trans (b67.mono Bw6.out.size))
  have HA7 := hide (HAW.out.below Bw7.out)
  by_cases hl0 : lft = 0
  case pos =>
   subst hl0
   have HE := hide (HQ.out _ _ (HSK.out w7 Bw7.out))
   go_wp2_with fail
   exact HE.out
  have hlb : (lft == 0) = false := by simpa using hl0
  have HLO7 := hide (HLO.out.below b67)
  have HRO7 := hide (HRO.out.below b67)
  have HK17 : Hid (w7.heap[bl]? = some (.cells (ndC l) 36 (0, 0))) := (b67.block _ (lt_of_block HK1.out)).trans HK1.out
  have HK27 : Hid (w7.heap[br]? = some (.cells (ndC r) 36 (0, 0))) := (b67.block _ (lt_of_block HK2.out)).trans HK2.out
  have HIL : Hid (l.In (fun k => K k ∨ (W.heap.size ≤ k ∧ k < w7.heap.size))) := HLI.out.mono (fun k hk => .inr ⟨by omega, by omega⟩)
  have HIR : Hid (r.In (fun k => K k ∨ (W.heap.size ≤ k ∧ k < w7.heap.size))) := HRI.out.mono (fun k hk => .inr ⟨by omega, by omega⟩)
  have hbl7 : bl < w7.heap.size := lt_of_block HK17.out
  have HKBL : Hid ((fun k => K k ∨ (W.heap.size ≤ k ∧ k < w7.heap.size)) bl) := .inr ⟨by omega, hbl7⟩
  obtain ⟨p70, p71⟩ := HA7.out.cells
  have HUS7 := hide (HUS.out w7 Bw7.out)
  clear p60 p61 HLF HLO HRO HK1 HK2 hw7 b67 HLI HRI
  obtain ⟨llv, ⟨lha, lhc, lhs⟩, lri, ⟨lka, lkc, lK⟩, ⟨lva, lvc, lV⟩, ⟨lca, lcc, lC⟩⟩ := l
  obtain ⟨rlv, ⟨rha, rhc, rhs⟩, rri, ⟨rka, rkc, rK⟩, ⟨rva, rvc, rV⟩, ⟨rca, rcc, rC⟩⟩ := r
  simp only [ndC, Tx.v, TL.v, IL.v] at HK17 HK27
  obtain ⟨llh, lh1⟩ : ∃ x, lhs.length = x := ⟨_, rfl⟩
  obtain ⟨llk, lh2⟩ : ∃ x, lK.length = x := ⟨_, rfl⟩
  obtain ⟨llw, lh3⟩ : ∃ x, lV.length = x := ⟨_, rfl⟩
  obtain ⟨llc, lh4⟩ : ∃ x, lC.length = x := ⟨_, rfl⟩
  rw [lh1, lh2, lh3, lh4] at HK17
  have lL := hide (And.intro lh1 (And.intro lh2 (And.intro lh3 lh4)))
  clear lh1 lh2 lh3 lh4
  obtain ⟨rlh, rh1⟩ : ∃ x, rhs.length = x := ⟨_, rfl⟩
  obtain ⟨rlk, rh2⟩ : ∃ x, rK.length = x := ⟨_, rfl⟩
  obtain ⟨rlw, rh3⟩ : ∃ x, rV.length = x := ⟨_, rfl⟩
  obtain ⟨rlc, rh4⟩ : ∃ x, rC.length = x := ⟨_, rfl⟩
  rw [rh1, rh2, rh3, rh4] at HK27
  have rL := hide (And.intro rh1 (And.intro rh2 (And.intro rh3 rh4)))
  clear rh1 rh2 rh3 rh4
  obtain ⟨y0, y1, y2, y3, y4, y5⟩ := Six.of HK27.out
  have HRW1 : Hid (∀ Wc, Wc = w7 ∨ Wc = w7.drew → Calls Tryz.prog 54 #[.pointer (some ⟨P, 0, none⟩), .agg #[.int .i64 7, .int .i64 (ln : Int), .int .i64 0, .int .u64 (0 : Nat), .bool false, .int .i64 rlv, .slice rha rlh rhc, .int .i64 rri, .slice rka rlk rkc, .slice rva rlw rvc, .slice rca rlc rcc]] Wc fun e w' => e = .returned (.bool true) ∧ (∃ s1, AW (fun k => K k ∨ (W.heap.size ≤ k ∧ k < w7.heap.size)) w' P AX AY s1 s1 ∧ SI s1 (B + 1)) ∧ Upd (fun k => ¬ (fun k => K k ∨ (W.heap.size ≤ k ∧ k < w7.heap.size)) k) w7 w') := fun Wc hWc => by
   have bb : Below w7.heap.size w7 Wc := by rcases hWc with rfl | rfl; exact Below.refl _ _; exact below_drew (Below.refl _ _)
   have hA := HAW.out.more (K' := (fun k => K k ∨ (W.heap.size ≤ k ∧ k < w7.heap.size))) Bw7.out (fun _ hk => hk) (.inl hPK)
   have h1 := raw_any (hA.below bb) ⟨7, (ln : Int), 0, 0, false, (⟨rlv, ⟨rha, rhc, rhs⟩, rri, ⟨rka, rkc, rK⟩, ⟨rva, rvc, rV⟩, ⟨rca, rcc, rC⟩⟩ : Nd)⟩ ⟨by simp only; omega, by simp only; omega, by simp only; omega, by simp only; omega, HRO7.out.below bb, HIR.out⟩
   simp only [AOp.v, Tx.v, TL.v, IL.v, rL.out.1, rL.out.2.1, rL.out.2.2.1, rL.out.2.2.2] at h1
   refine h1.mono ?_
   rintro e w' ⟨rfl, h2, h3⟩
   exact ⟨rfl, ⟨_, h2, by rw [raw_seven, HRP.out]; exact (HSR.out.mono (Nat.le_succ _)).lay _ ⟨HG2.out.2.1, HG2.out.2.2.mono (Nat.le_succ _)⟩⟩, (kept_below bb).trans h3⟩
  have HP7 : Hid (P < w7.heap.size) := by have := Bw7.out.size; show P < _; omega
  go_upto_region 22 with fail
  have hbr7 : br < w7.heap.size := lt_of_block HK27.out
  have HKBR : Hid ((fun k => K k ∨ (W.heap.size ≤ k ∧ k < w7.heap.size)) br) := .inr ⟨by omega, hbr7⟩
  have HKPP : Hid ((fun k => K k ∨ (W.heap.size ≤ k ∧ k < w7.heap.size)) P) := .inl hPK
  clear hbl7 hbr7
  go_wp2_with fail
  go_region_held3 (fun Y => Y.cell? ⟨P, 1, none⟩ = some (.pointer (some ⟨AY, 0, none⟩)) ∧ (Y.cell? ⟨br, 0, none⟩ = some (.int .i64 rlv) ∧ Y.cell? ⟨br, 1, none⟩ = some (.slice rha rlh rhc) ∧ Y.cell? ⟨br, 2, none⟩ = some (.int .i64 rri) ∧ Y.cell? ⟨br, 3, none⟩ = some (.slice rka rlk rkc) ∧ Y.cell? ⟨br, 4, none⟩ = some (.slice rva rlw rvc) ∧ Y.cell? ⟨br, 5, none⟩ = some (.slice rca rlc rcc))) (go_keep) (first
   | (go_at_call 54; refine (HRW1.out _ (.inr rfl)).mono ?_; rintro e w8 ⟨rfl, hs1, hu8⟩; have u71 := kept_cell (p := ⟨P, 1, none⟩) hu8 p71 HKPP.out; obtain ⟨u0, u1, u2, u3, u4, u5⟩ := Six.of (kept_heap hu8 HK27.out HKBR.out); have HS1 := hide hs1; have HU8 := hide hu8; clear hs1 hu8)
   | (go_at_call 52; refine keep (HUS.out _ (below_drew Bw7.out)) ?_)
   | fail)
  clear u0 u1 u2 u3 u4 u5 u71 y0 y1 y2 y3 y4 y5 p70 p71 HRW1
  have HK18 := kept_heap HU8.out HK17.out HKBL.out
  obtain ⟨x0, x1, x2, x3, x4, x5⟩ := Six.of HK18
  clear HK18
  have HRW2 : Hid (Calls Tryz.prog 54 #[.pointer (some ⟨P, 0, none⟩), .agg #[.int .i64 7, .int .i64 (at' : Int), .int .i64 0, .int .u64 (0 : Nat), .bool false, .int .i64 llv, .slice lha llh lhc, .int .i64 lri, .slice lka llk lkc, .slice lva llw lvc, .slice lca llc lcc]] w8 (fun e w' => ∃ s', AwPost K W P AX AY s' e w' ∧ SI s' (B + 1))) := by
   obtain ⟨s1, hA1, hS1⟩ := HS1.out
   have h1 := raw_any hA1 ⟨7, (at' : Int), 0, 0, false, (⟨llv, ⟨lha, lhc, lhs⟩, lri, ⟨lka, lkc, lK⟩, ⟨lva, lvc, lV⟩, ⟨lca, lcc, lC⟩⟩ : Nd)⟩ ⟨by simp only; omega, by simp only; omega, by simp only; omega, by simp only; omega, HLO7.out.kept HIL.out HU8.out, HIL.out⟩
   simp only [AOp.v, Tx.v, TL.v, IL.v, lL.out.1, lL.out.2.1, lL.out.2.2.1, lL.out.2.2.2] at h1
   refine h1.mono ?_
   rintro e w' ⟨rfl, h2, h3⟩
   exact ⟨_, ⟨rfl, h2.less (fun _ hk => .inl hk) hPK, (kept_below Bw7.out).trans (kept_less (HU8.out.trans h3) (fun _ hk => .inl hk))⟩, by rw [raw_seven, HLP.out]; exact hS1.lay _ ⟨HG2.out.1.1, HG2.out.1.2.mono (Nat.le_succ _)⟩⟩
  go_wp2_with fail
  refine HRW2.out.mono ?_
  rintro e wz hz
  obtain ⟨s', ⟨rfl, hz2⟩, hz3⟩ := hz
  have HZZ := hide (HQ.out _ wz ⟨s', ⟨rfl, hz2⟩, hz3⟩)
  clear hz2 hz3
  go_wp2_with fail
  exact HZZ.out
 by_cases k4 : kd = 4
 ·subst k4
  have jw1 : IntKind.i64.wrap ((at' : Int) + 1) = (at' : Int) + 1 := by rw [IntKind.wrap_i64]; omega
  have HRW : Hid (Calls Tryz.prog 54 #[.pointer (some ⟨P, 0, none⟩), .agg #[.int .i64 2, .int .i64 ((at' : Int) + 1), .int .i64 0, .int .u64 (0 : Nat), .bool false, .int .i64 0, .slice none 0 0, .int .i64 0, .slice none 0 0, .slice none 0 0, .slice none 0 0]] w2 (fun e w' => ∃ s', AwPost K W P AX AY s' e w' ∧ SI s' (B + 1))) := by
   have h1 := raw_k HAW.out Bw2.out ⟨2, ((at' : Int) + 1), 0, 0, false, Nd.zero⟩ ⟨by simp only; omega, by simp only; omega, by simp only; omega, by simp only; omega, Nd.zero_ok _, Nd.zero_in _⟩
   simp only [AOp.v, Tx.v, TL.v, IL.v, Nd.zero, List.length_nil] at h1
   refine h1.mono ?_
   rintro e w' ⟨rfl, h2, _, _, h3⟩
   exact ⟨_, ⟨rfl, h2, h3⟩, by rw [raw_two]; exact (HSR.out.mono (Nat.le_succ _)).lock _ _⟩
  go_wp2_with fail
  refine HRW.out.mono ?_
  rintro e wz hz
  obtain ⟨s', ⟨rfl, hz2⟩, hz3⟩ := hz
  have HZZ := hide (HQ.out _ wz ⟨s', ⟨rfl, hz2⟩, hz3⟩)
  clear hz2 hz3
  go_wp2_with fail
  exact HZZ.out
 by_cases k5 : kd = 5
 ·subst k5
  have jw1 : IntKind.i64.wrap ((at' : Int) + 1) = (at' : Int) + 1 := by rw [IntKind.wrap_i64]; omega
  have HRW : Hid (Calls Tryz.prog 54 #[.pointer (some ⟨P, 0, none⟩), .agg #[.int .i64 3, .int .i64 ((at' : Int) + 1), .int .i64 0, .int .u64 (0 : Nat), .bool ch, .int .i64 0, .slice none 0 0, .int .i64 0, .slice none 0 0, .slice none 0 0, .slice none 0 0]] w2 (fun e w' => ∃ s', AwPost K W P AX AY s' e w' ∧ SI s' (B + 1))) := by
   have h1 := raw_k HAW.out Bw2.out ⟨3, ((at' : Int) + 1), 0, 0, ch, Nd.zero⟩ ⟨by simp only; omega, by simp only; omega, by simp only; omega, by simp only; omega, Nd.zero_ok _, Nd.zero_in _⟩
   simp only [AOp.v, Tx.v, TL.v, IL.v, Nd.zero, List.length_nil] at h1
   refine h1.mono ?_
   rintro e w' ⟨rfl, h2, _, _, h3⟩
   exact ⟨_, ⟨rfl, h2, h3⟩, by rw [raw_three]; exact (HSR.out.mono (Nat.le_succ _)).unl _ _⟩
  go_wp2_with fail
  refine HRW.out.mono ?_
  rintro e wz hz
  obtain ⟨s', ⟨rfl, hz2⟩, hz3⟩ := hz
  have HZZ := hide (HQ.out _ wz ⟨s', ⟨rfl, hz2⟩, hz3⟩)
  clear hz2 hz3
  go_wp2_with fail
  exact HZZ.out
 have jw1 : IntKind.i64.wrap ((at' : Int) + 1) = (at' : Int) + 1 := by rw [IntKind.wrap_i64]; omega
 have HRO : Hid (Calls Tryz.prog 59 #[.pointer (some ⟨AY, 0, none⟩)] w2 fun e w' => e = .returned (.int .i64 s.root) ∧ w' = w2) := by obtain ⟨F, hF⟩ := HA2.out.rx; exact rx_root hF
 obtain ⟨rt, hrt⟩ : ∃ rt, rt = s.root := ⟨_, rfl⟩
 rw [← hrt] at HRO
 have hrb : -9223372036854775808 ≤ rt ∧ rt ≤ 9223372036854775807 := by have h1 := HSR.out.2; unfold AS.inn at h1; rw [HLN.out] at h1; rw [hrt]; omega
 clear hrt
 have HRW : Hid (Calls Tryz.prog 54 #[.pointer (some ⟨P, 0, none⟩), .agg #[.int .i64 6, .int .i64 rt, .int .i64 ((at' : Int) + 1), .int .u64 (0 : Nat), .bool false, .int .i64 0, .slice none 0 0, .int .i64 0, .slice none 0 0, .slice none 0 0, .slice none 0 0]] w2 (fun e w' => ∃ s', AwPost K W P AX AY s' e w' ∧ SI s' (B + 1))) := by
  have h1 := raw_k HAW.out Bw2.out ⟨6, rt, ((at' : Int) + 1), 0, false, Nd.zero⟩ ⟨by simp only; omega, by simp only; omega, by simp only; omega, by simp only; omega, Nd.zero_ok _, Nd.zero_in _⟩
  simp only [AOp.v, Tx.v, TL.v, IL.v, Nd.zero, List.length_nil] at h1
  refine h1.mono ?_
  rintro e w' ⟨rfl, h2, _, _, h3⟩
  exact ⟨_, ⟨rfl, h2, h3⟩, by rw [raw_six]; exact (HSR.out.mono (Nat.le_succ _)).gro _ _⟩
 go_wp2_with fail
 refine keep HRO.out ?_
 go_wp2_with fail
 refine HRW.out.mono ?_
 rintro e wz hz
 obtain ⟨s', ⟨rfl, hz2⟩, hz3⟩ := hz
 have HZZ := hide (HQ.out _ wz ⟨s', ⟨rfl, hz2⟩, hz3⟩)
 clear hz2 hz3
 go_wp2_with fail
 exact HZZ.out
end
end Go.Proofs.YtpljbgcofmlhbaaGreat
