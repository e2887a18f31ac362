/- get: the document's Answer, New. -/
import Derived.Test.YtpljbgcofmlhbaaGreatG47
import Derived.Test.YtpljbgcofmlhbaaGreatG9
import Derived.Test.YtpljbgcofmlhbaaGreatG25
import Derived.Test.YtpljbgcofmlhbaaGreatG18
import Derived.Test.YtpljbgcofmlhbaaGreatG15
import Derived.Deep.CutBlock
namespace Go.Proofs.YtpljbgcofmlhbaaGreat
open Go.RowKit
set_option maxRecDepth 100000
def RGNewP (W : World) (A : Nat) (key : List Int) (e : Ending) (w' : World) : Prop := ∃ P p kt vt D, e = .returned (.pointer (some ⟨P, 0, none⟩)) ∧ RGP w' P A p kt vt D (GS.new key) ∧ W.heap.size ≤ P ∧ (∀ x, D x → W.heap.size ≤ x) ∧ Below W.heap.size W w'
section
variable {W w' : World} {P A p : Nat} {kt vt : Tx} {D F : Nat → Prop} {g : GS} {s : AS}
set_option maxRecDepth 100000 in
set_option maxHeartbeats 1600000 in
theorem rganswer_any (h : RGP W P A p kt vt D g) : Calls Tryz.prog 69 #[.pointer (some ⟨P, 0, none⟩)] W (GaP W g) := by
 obtain ⟨i0, hi0, hz0, hz1, hz2⟩ := info_parts infoByte'
 have hc := h.c
 have hvo := h.vo
 have hvs := h.vs
 unfold rgcel at hc
 clear h
 obtain ⟨va, vc, vs⟩ := vt
 simp only [Tx.v] at hc hvs
 obtain ⟨lv, hlv⟩ : ∃ x, vs.length = x := ⟨_, rfl⟩
 rw [hlv] at hc
 have HLV := hide hlv
 have HVR : Hid (Row W .u8 va vs) := hvo.r
 have HVN : Hid (va = none → lv = 0 ∧ vc = 0) := fun e => by have := hvo.n e; simp only [HLV.out] at this; exact this
 have hvz : lv ≤ 140737488351232 := by have := hvo.z; simp only [HLV.out] at this; exact this
 have H8 : Hid (B8 vs ∧ vs.length ≤ 140737488351232) := ⟨hvo.b8, hvo.z⟩
 have HVS := hide hvs
 have hP := lt_of_block hc
 obtain ⟨x0, x1, x2, x3, x4, x5⟩ := Six.of hc
 obtain ⟨Q, hQ⟩ : ∃ Q, Q = GaP W g := ⟨_, rfl⟩
 have HQ : Hid (∀ e w', GaP W g e w' → Q e w') := fun e w' h => by rw [hQ]; exact h
 rw [← hQ]
 unfold GaP at HQ
 obtain ⟨m, thr, val, the, err⟩ := g
 simp only at x2 x4 x5 HVS HQ
 have HC := hide hc
 have hnP : ¬ P = W.heap.size := by omega
 clear hvo hvs hc hlv hQ x0 x1 x2
 go_enter Tryz.func69, Tryz.ntmps69
 go_wp2_with fail
 go_region_held3 (fun W' => W'.cell? ⟨P, 3, none⟩ = some (.slice va lv vc) ∧ W'.cell? ⟨P, 4, none⟩ = some (.bool the) ∧ W'.cell? ⟨P, 5, none⟩ = some (.int .i64 err)) (go_keep) (first
  | (refine step_appB rfl (.tmp 5) (.tmp 9) 28 rfl W.heap.size 5 i0 Tryz.underlying28 hi0 hz0 hz1 hz2 (.slice (some ⟨W.heap.size, 0, none⟩) 0 0) [] (by simp [Act.eval]) (OwnB.made (w := W.drew) #[] 0 (Nat.le_refl _) (by unfold maxLen; omega) rfl (by intro u hu; cases hu)) va lv vc vs (by simp [Act.eval]) HLV.out HVN.out (HVR.out.alloc _) (by simp; omega) (by simp) ?_; intro v4 w2 ho hg; simp only [List.nil_append] at ho; obtain ⟨na, nc, rfl, _, _⟩ := ho.slice; have HO := hide ho; have HB : Hid (Below W.heap.size W w2) := (below_drew ((Below.refl W.heap.size W).alloc (Nat.le_refl _) _)).grown hg (by simp) (fun k h => by cases h; exact Nat.le_refl _); obtain ⟨_, _, _, x3, x4, x5⟩ := Six.of ((HB.out.block _ (lt_of_block HC.out)).trans HC.out); clear ho hg)
  | fail)
 go_wp2_with fail
 have ho : OwnB w2 W.heap.size 5 (⟨na, nc, vs⟩ : Tx).v vs := HO.out
 exact HQ.out _ _ ⟨⟨na, nc, vs⟩, rfl, HVS.out, ho, ownB_ok (x := ⟨na, nc, vs⟩) ho H8.out.1 H8.out.2, HB.out⟩
set_option maxRecDepth 100000 in
set_option maxHeartbeats 1600000 in
theorem rgnew_any (k : Tx) (hk : k.Ok W) : Calls Tryz.prog 12 #[.pointer (some ⟨A, 0, none⟩), k.v] W (RGNewP W A k.s) := by
 obtain ⟨i0, hi0, hz0, hz1, hz2⟩ := info_parts infoByte'
 have HD := hide (rdnew_any (A := A) k 0 hk)
 unfold RNewP at HD
 have H8 : Hid (B8 k.s ∧ k.s.length ≤ 140737488351232) := ⟨hk.b8, hk.z⟩
 have HKR : Hid (∀ W', Below W.heap.size W W' → Row W' .u8 k.a k.s) := fun W' hb => (hk.below hb).r
 have HKN := hide hk.n
 have hkz := hk.z
 clear hk
 obtain ⟨Q, hQ⟩ : ∃ Q, Q = RGNewP W A k.s := ⟨_, rfl⟩
 have HQ : Hid (∀ e w', RGNewP W A k.s e w' → Q e w') := fun e w' h => by rw [hQ]; exact h
 rw [← hQ]
 clear hQ
 unfold RGNewP at HQ
 obtain ⟨xa, xc, xs⟩ := k
 simp only [Tx.v] at HD H8 HQ HKR HKN hkz ⊢
 obtain ⟨lx, hlx⟩ : ∃ x, xs.length = x := ⟨_, rfl⟩
 rw [hlx] at HD HKN hkz ⊢
 have HLX := hide hlx
 clear hlx
 go_enter Tryz.func12, Tryz.ntmps12
 go_wp2_with fail
 refine HD.out.mono ?_
 rintro e w1 ⟨p, k, n, Dm, rfl, hpm, hp1, hD1, hb1⟩
 have HPM := hide hpm
 have HB1 := hide hb1
 have HP1 := hide (And.intro hp1 hD1)
 clear hpm hb1 hp1 hD1 HD
 go_wp2_with (first
  | (at_builtin; refine append_b rfl (.tmp 8) (.tmp 9) 28 rfl w1.heap.size 5 i0 Tryz.underlying28 hi0 hz0 hz1 hz2 (.slice (some ⟨w1.heap.size, 0, none⟩) 0 0) [] rfl (OwnB.made #[] 0 (Nat.le_refl _) (by unfold maxLen; omega) rfl (by intro u hu; cases hu)) xa lx xc xs rfl HLX.out HKN.out ((HKR.out w1 HB1.out).alloc _) (by simp; omega) (by simp) ?_; intro v4 w2 hown hg; simp only [List.nil_append] at hown; obtain ⟨na, nc, rfl, _, _⟩ := hown.slice; rw [HLX.out] at hown; try rw [HLX.out]; have HO := hide hown; have HB2 : Hid (Below w1.heap.size w1 w2) := ((Below.refl _ _).alloc (Nat.le_refl _) _).grown hg (by simp) (fun k h => by cases h; exact Nat.le_refl _); clear hown hg)
  | fail)
 have hb : Below W.heap.size W w2 := HB1.out.trans (HB2.out.mono HB1.out.size)
 have ba : Below w2.heap.size w2 (w2.alloc (.cells #[.pointer (some ⟨p, 0, none⟩), .slice na lx nc, .bool false, .slice none 0 0, .bool false, .int .i64 0] 139)) := (Below.refl _ _).alloc (Nat.le_refl _) _
 have ga := heap_alloc_new w2 (.cells #[.pointer (some ⟨p, 0, none⟩), .slice na lx nc, .bool false, .slice none 0 0, .bool false, .int .i64 0] 139)
 have ho : OwnB w2 w1.heap.size 5 (⟨na, nc, xs⟩ : Tx).v xs := by simp only [Tx.v, HLX.out]; exact HO.out
 have hin := ownB_in (x := ⟨na, nc, xs⟩) ho
 have hpl := lt_of_block HPM.out.c
 have hs1 := HB1.out.size
 have hs2 := HB2.out.size
 have hbb := HB2.out.trans (ba.mono HB2.out.size)
 refine HQ.out _ _ ⟨w2.heap.size, p, ⟨na, nc, xs⟩, ⟨none, 0, []⟩, fun x => W.heap.size ≤ x ∧ x < w2.heap.size, rfl, ⟨?_, ⟨k, n, Dm, _, HPM.out.upd (S := Noth) (Upd.of_below hbb _) (fun _ _ e => e), fun x hx => ⟨HP1.out.2 x hx, Nat.lt_of_lt_of_le (HPM.out.lt x hx) hs2⟩, Sim.new _ _⟩, ⟨HP1.out.1, by omega⟩, (ownB_ok (x := ⟨na, nc, xs⟩) ho H8.out.1 H8.out.2).below ba, rfl, fun x e _ => ⟨⟨by have := (hin x e).1; omega, (hin x e).2⟩, fun e' => by have := (hin x e).1; omega⟩, Tx.nil_ok _, rfl, (fun x e => by cases e), fun h => Nat.lt_irrefl _ h.2, fun x h => Nat.lt_of_lt_of_le h.2 ba.size⟩, by omega, fun x h => h.1, hb.trans (ba.mono hb.size)⟩
 unfold rgcel
 simp only [Tx.v, HLX.out]
 exact ga
end
end Go.Proofs.YtpljbgcofmlhbaaGreat
namespace Go.Proofs.YtpljbgcofmlhbaaGreat
open Go.RowKit
set_option maxRecDepth 100000
structure GPr where
 p : Nat
 q : Nat
 k : Tx
 x : GS
 y : GS
def GPr.t (l : GPr) : Nat × Nat × Tx := (l.p, l.q, l.k)
def pqT3 (x : Nat × Nat × Tx) : List Value := [.pointer (some ⟨x.1, 0, none⟩), .pointer (some ⟨x.2.1, 0, none⟩), x.2.2.v]
theorem own_updQ {S : Nat → Prop} {w w' : World} {base size : Nat} {e : TypeId} {v : Value} {n : Nat} {xs : List Value} (h : w.ownsRow base e size v n xs) (hu : Upd S w w') (hs : ∀ k, v.ownBlock = some k → ¬ S k) : w'.ownsRow base e size v n xs :=
 owns_blkN h (fun k hk => hu.block k (h.lt k hk).2 (hs k hk))
theorem AW.turnQ {K K' S : Nat → Prop} {W W' : World} {P AX AY : Nat} {s t : AS} (h : AW K W P AX AY s t) (hu : Upd S W W') (hs : ∀ k, S k → K k) (hp : ¬ S P) (h1 : ∀ k, K' k → K k ∨ (W.heap.size ≤ k ∧ k < W'.heap.size)) (h2 : K' P) : AW K' W' P AX AY s t := by
 obtain ⟨FX, FY, a1, a2, a3, a4, a5, a6, a7⟩ := h
 refine ⟨FX, FY, hu.heap a1 hp, a2.upd hu (fun k hk e => a5 k (.inl hk) (hs k e)), a3.upd hu (fun k hk e => a5 k (.inr hk) (hs k e)), a4, fun k hk hk' => ?_, h2, fun k hk => ?_⟩
 ·rcases h1 k hk' with h | h
  ·exact a5 k hk h
  ·rcases hk with hk | hk
   ·have := a2.lt k hk; omega
   ·have := a3.lt k hk; omega
 ·rcases h1 k hk with h | h
  ·exact Nat.lt_of_lt_of_le (a7 k h) hu.size
  ·exact h.2
def labQ (lab : Nat → Nat) (W W' : World) (t : Nat) (k : Nat) : Nat := if W.heap.size ≤ k ∧ k < W'.heap.size then t else lab k
theorem labQ_old {lab : Nat → Nat} {W W' : World} {t x : Nat} (h : x < W.heap.size) : labQ lab W W' t x = lab x := if_neg (by omega)
theorem labQ_new {lab : Nat → Nat} {W W' : World} {t x : Nat} (h : W.heap.size ≤ x) (h' : x < W'.heap.size) : labQ lab W W' t x = t := if_pos ⟨h, h'⟩
def MchA (W : World) (A : Nat) (lab : Nat → Nat) (t P : Nat) (g : GS) : Prop := ∃ p kt vt D, GP W P A p kt vt D g ∧ lab P = t ∧ ∀ x, D x → lab x = t
def MchB (W : World) (A : Nat) (lab : Nat → Nat) (t P : Nat) (g : GS) : Prop := ∃ p kt vt D, RGP W P A p kt vt D g ∧ lab P = t ∧ ∀ x, D x → lab x = t
theorem MchA.upd {S : Nat → Prop} {W W' : World} {A : Nat} {lab lab' : Nat → Nat} {t P : Nat} {g : GS} (h : MchA W A lab t P g) (hu : Upd S W W') (hs : ∀ x, x < W.heap.size → lab x = t → ¬ S x) (hl : ∀ x, x < W.heap.size → lab' x = lab x) : MchA W' A lab' t P g := by
 obtain ⟨p, kt, vt, D, h1, h2, h3⟩ := h
 have hP := lt_of_block h1.c
 refine ⟨p, kt, vt, D, h1.upd hu (fun x hx => ?_), by rw [hl P hP]; exact h2, fun x hx => by rw [hl x (h1.lt x hx)]; exact h3 x hx⟩
 rcases hx with rfl | hx
 ·exact hs _ hP h2
 ·exact hs x (h1.lt x hx) (h3 x hx)
theorem MchB.upd {S : Nat → Prop} {W W' : World} {A : Nat} {lab lab' : Nat → Nat} {t P : Nat} {g : GS} (h : MchB W A lab t P g) (hu : Upd S W W') (hs : ∀ x, x < W.heap.size → lab x = t → ¬ S x) (hl : ∀ x, x < W.heap.size → lab' x = lab x) : MchB W' A lab' t P g := by
 obtain ⟨p, kt, vt, D, h1, h2, h3⟩ := h
 have hP := lt_of_block h1.c
 refine ⟨p, kt, vt, D, h1.upd hu (fun x hx => ?_), by rw [hl P hP]; exact h2, fun x hx => by rw [hl x (h1.lt x hx)]; exact h3 x hx⟩
 rcases hx with rfl | hx
 ·exact hs _ hP h2
 ·exact hs x (h1.lt x hx) (h3 x hx)
structure GW (w0 : World) (K : Nat → Prop) (lab : Nat → Nat) (c : Nat) (W : World) (P AX AY : Nat) (s : AS) (L : List GPr) (Q : List (Nat × Nat × Tx)) (v : Value) : Prop where
 aw : AW K W P AX AY s s
 bw : Below w0.heap.size w0 W
 kb : ∀ k, k < w0.heap.size → K k
 lz : ∀ k, W.heap.size ≤ k → lab k = 0
 lk : ∀ k, lab k ≠ 0 → K k
 lb : ∀ k, lab k ≠ 0 → w0.heap.size ≤ k
 lp : lab P = 0
 row : W.ownsRow w0.heap.size 49 3 v Q.length (Q.flatMap pqT3)
 rl : ∀ k, v.ownBlock = some k → lab k = 1
 mx : ∀ i (h : i < L.length), MchA W AX lab (2 * i + 2) L[i].p L[i].x
 my : ∀ i (h : i < L.length), MchB W AY lab (2 * i + 3) L[i].q L[i].y
 cn : ∀ l ∈ L, l.x.m.an ≤ c ∧ l.x.m.mo ≤ c ∧ l.y.m.an ≤ c ∧ l.y.m.mo ≤ c
section
variable {w0 : World} {K : Nat → Prop} {lab : Nat → Nat} {c : Nat} {W W' : World} {P AX AY : Nat} {s s' : AS} {L : List GPr} {Q : List (Nat × Nat × Tx)} {v : Value}
theorem GW.plt (h : GW w0 K lab c W P AX AY s L Q v) : P < W.heap.size := h.aw.klt P h.aw.kp
theorem GW.llt (h : GW w0 K lab c W P AX AY s L Q v) {k : Nat} (hk : lab k ≠ 0) : k < W.heap.size := Decidable.byContradiction fun hc => hk (h.lz k (by omega))
theorem GW.raw (h : GW w0 K lab c W P AX AY s L Q v) (ha : AW K W' P AX AY s' s') (hu : Upd (fun k => ¬ K k) W W') : GW w0 K lab c W' P AX AY s' L Q v := by
 have hne : ∀ t, t ≠ 0 → ∀ x, x < W.heap.size → lab x = t → ¬ ¬ K x := fun t ht x _ e hn => hn (h.lk x (by omega))
 exact ⟨ha, h.bw.trans (hu.below h.bw.size (fun k hk e => e (h.kb k hk))), h.kb, fun k hk => h.lz k (Nat.le_trans hu.size hk), h.lk, h.lb, h.lp, own_updQ h.row hu (fun k hk e => e (h.lk k (by rw [h.rl k hk]; decide))), h.rl, fun i hi => (h.mx i hi).upd hu (hne _ (by omega)) (fun _ _ => rfl), fun i hi => (h.my i hi).upd hu (hne _ (by omega)) (fun _ _ => rfl), h.cn⟩
theorem GW.below (h : GW w0 K lab c W P AX AY s L Q v) (hb : Below W.heap.size W W') : GW w0 K lab c W' P AX AY s L Q v := by
 have hu : Upd Noth W W' := Upd.of_below hb _
 exact ⟨h.aw.below hb, h.bw.trans (hb.mono h.bw.size), h.kb, fun k hk => h.lz k (Nat.le_trans hb.size hk), h.lk, h.lb, h.lp, own_updQ h.row hu (fun _ _ e => e), h.rl, fun i hi => (h.mx i hi).upd hu (fun _ _ _ e => e) (fun _ _ => rfl), fun i hi => (h.my i hi).upd hu (fun _ _ _ e => e) (fun _ _ => rfl), h.cn⟩
theorem GW.more (h : GW w0 K lab c W P AX AY s L Q v) (hb : Below W.heap.size W W') : GW w0 (fun k => K k ∨ (W.heap.size ≤ k ∧ k < W'.heap.size)) lab c W' P AX AY s L Q v := by
 have h' := h.below hb
 exact ⟨h.aw.more hb (fun _ hk => hk) (.inl h.aw.kp), h'.bw, fun k hk => .inl (h.kb k hk), h'.lz, fun k hk => .inl (h.lk k hk), h.lb, h.lp, h'.row, h.rl, h'.mx, h'.my, h'.cn⟩
theorem GW.spoil {S : Nat → Prop} (h : GW w0 K lab c W P AX AY s L Q v) (hu : Upd S W W') (hs : ∀ k, S k → K k ∧ lab k = 0 ∧ w0.heap.size ≤ k ∧ k ≠ P) : GW w0 K lab c W' P AX AY s L Q v := by
 refine ⟨h.aw.turnQ hu (fun k hk => (hs k hk).1) (fun e => (hs P e).2.2.2 rfl) (fun _ hk => .inl hk) h.aw.kp, h.bw.trans (hu.below h.bw.size (fun k hk e => by have := (hs k e).2.2.1; omega)), h.kb, fun k hk => h.lz k (Nat.le_trans hu.size hk), h.lk, h.lb, h.lp, own_updQ h.row hu (fun k hk e => by have := h.rl k hk; have := (hs k e).2.1; omega), h.rl, fun i hi => (h.mx i hi).upd hu (fun x _ hx e => by have := (hs x e).2.1; omega) (fun _ _ => rfl), fun i hi => (h.my i hi).upd hu (fun x _ hx e => by have := (hs x e).2.1; omega) (fun _ _ => rfl), h.cn⟩
theorem GW.less {c' : Nat} (h : GW w0 K lab c W P AX AY s L Q v) (hc : c ≤ c') : GW w0 K lab c' W P AX AY s L Q v :=
 ⟨h.aw, h.bw, h.kb, h.lz, h.lk, h.lb, h.lp, h.row, h.rl, h.mx, h.my, fun x hx => by have := h.cn x hx; omega⟩
theorem GW.turn {t c' : Nat} {L' : List GPr} {Q' : List (Nat × Nat × Tx)} {v' : Value} (h : GW w0 K lab c W P AX AY s L Q v) (hu : Upd (fun k => lab k = t) W W') (ht : t ≠ 0)
  (row : W'.ownsRow w0.heap.size 49 3 v' Q'.length (Q'.flatMap pqT3)) (rl : ∀ k, v'.ownBlock = some k → labQ lab W W' t k = 1)
  (mx : ∀ i (h : i < L'.length), MchA W' AX (labQ lab W W' t) (2 * i + 2) L'[i].p L'[i].x) (my : ∀ i (h : i < L'.length), MchB W' AY (labQ lab W W' t) (2 * i + 3) L'[i].q L'[i].y) (hcn : ∀ l ∈ L', l.x.m.an ≤ c' ∧ l.x.m.mo ≤ c' ∧ l.y.m.an ≤ c' ∧ l.y.m.mo ≤ c') :
  GW w0 (fun k => K k ∨ (W.heap.size ≤ k ∧ k < W'.heap.size)) (labQ lab W W' t) c' W' P AX AY s L' Q' v' := by
 have hb0 := h.bw.size
 refine ⟨h.aw.turnQ hu (fun k e => h.lk k (by omega)) (fun e => ht (by rw [← e]; exact h.lp)) (fun _ hk => hk) (.inl h.aw.kp), h.bw.trans (hu.below h.bw.size (fun k hk e => by have := h.lb k (by omega); omega)), fun k hk => .inl (h.kb k hk), ?_, ?_, ?_, ?_, row, rl, mx, my, hcn⟩
 ·intro k hk
  unfold labQ
  rw [if_neg (by omega)]
  exact h.lz k (Nat.le_trans hu.size hk)
 ·intro k hk
  unfold labQ at hk
  by_cases hn : W.heap.size ≤ k ∧ k < W'.heap.size
  ·exact .inr hn
  ·rw [if_neg hn] at hk; exact .inl (h.lk k hk)
 ·intro k hk
  unfold labQ at hk
  by_cases hn : W.heap.size ≤ k ∧ k < W'.heap.size
  ·omega
  ·rw [if_neg hn] at hk; exact h.lb k hk
 ·rw [labQ_old h.plt]; exact h.lp
theorem GW.oldR (h : GW w0 K lab c W P AX AY s L Q v) {t : Nat} : ∀ k, v.ownBlock = some k → labQ lab W W' t k = 1 := fun k hk => by
 have := h.rl k hk
 rw [labQ_old (h.llt (by omega))]; exact this
theorem GW.oldX (h : GW w0 K lab c W P AX AY s L Q v) {t : Nat} (hu : Upd (fun k => lab k = t) W W') (i : Nat) (hi : i < L.length) (hne : 2 * i + 2 ≠ t) : MchA W' AX (labQ lab W W' t) (2 * i + 2) L[i].p L[i].x :=
 (h.mx i hi).upd hu (fun x _ hx e => by omega) (fun x hx => labQ_old hx)
theorem GW.oldY (h : GW w0 K lab c W P AX AY s L Q v) {t : Nat} (hu : Upd (fun k => lab k = t) W W') (i : Nat) (hi : i < L.length) (hne : 2 * i + 3 ≠ t) : MchB W' AY (labQ lab W W' t) (2 * i + 3) L[i].q L[i].y :=
 (h.my i hi).upd hu (fun x _ hx e => by omega) (fun x hx => labQ_old hx)
def StpQ (w0 : World) (K : Nat → Prop) (lab : Nat → Nat) (W : World) (c P AX AY : Nat) (s : AS) (L : List GPr) (Q : List (Nat × Nat × Tx)) (v : Value) (w' : World) : Prop := ∃ K' lab', GW w0 K' lab' c w' P AX AY s L Q v ∧ (∀ k, K k → K' k) ∧ (∀ k, k < W.heap.size → lab' k = lab k) ∧ Upd (fun k => lab k ≠ 0) W w'
theorem GW.push {g cap : Nat} (h : GW w0 K lab c W P AX AY s L Q v) (x : Nat × Nat × Tx) (ho : W'.ownsRow w0.heap.size 49 3 (.slice (some ⟨g, 0, none⟩) (Q.length + 1) cap) (Q.length + 1) (Q.flatMap pqT3 ++ pqT3 x)) (hg : W.grownBy W' v.ownBlock) (hor : v.ownBlock = some g ∨ W.heap.size ≤ g) : StpQ w0 K lab W c P AX AY s L (Q ++ [x]) (.slice (some ⟨g, 0, none⟩) (Q.length + 1) cap) W' := by
 have hu : Upd (fun k => lab k = 1) W W' := Upd.of_grown hg (fun k hk _ => h.rl k hk)
 refine ⟨_, _, h.turn hu (by decide) (by rw [List.length_append, List.flatMap_append, List.flatMap_singleton]; exact ho) (fun k hk => ?_) (fun i hi => h.oldX hu i hi (by omega)) (fun i hi => h.oldY hu i hi (by omega)) h.cn, fun _ hk => .inl hk, fun _ hk => labQ_old hk, hu.mono (fun k _ e => by omega)⟩
 have e : g = k := by simpa [Value.ownBlock] using hk
 subst e
 rcases hor with h1 | h1
 ·rw [labQ_old (h.llt (by rw [h.rl g h1]; decide))]; exact h.rl g h1
 ·exact labQ_new h1 (ho.lt g rfl).2
theorem gsq_cnt (g : GS) (s : AS) : ((g.step s).m.an ≤ g.m.an + 1 ∧ (g.step s).m.mo ≤ g.m.mo + 1) ∧ (g.stepR s).m.an ≤ g.m.an + 1 ∧ (g.stepR s).m.mo ≤ g.m.mo + 1 := by
 have h2 : (g.m.step s).an ≤ g.m.an + 1 ∧ (g.m.step s).mo ≤ g.m.mo + 1 := by
  unfold MS.step MS.goTo MS.fail MS.valid MS.choose MS.fail MS.goTo
  repeat' split
  all_goals simp
 unfold GS.step GS.stepR
 constructor
 ·repeat' split
  all_goals first | omega | (simp only; omega)
 ·repeat' split
  all_goals first | omega | (simp only; omega)
theorem gw_stepX (h : GW w0 K lab c W P AX AY s L Q v) (i : Nat) (hi : i < L.length) (hc : c < 4611686018427387904) :
  Calls Tryz.prog 14 #[.pointer (some ⟨L[i].p, 0, none⟩)] W fun e w' => e = .returned (.tuple #[.bool (L[i].x.step s).thr, .bool (L[i].x.took s)]) ∧ StpQ w0 K lab W (c + 1) P AX AY s (L.set i ⟨L[i].p, L[i].q, L[i].k, L[i].x.step s, L[i].y⟩) Q v w' := by
 obtain ⟨p, kt, vt, D, hm, hp, hD⟩ := h.mx i hi
 obtain ⟨F, hF⟩ := h.aw.px
 have hcn := h.cn L[i] (List.getElem_mem hi)
 refine (gstep_any hm hF (by omega) (by omega)).mono ?_
 rintro e w' ⟨rfl, vt', D', h1, h2, h3⟩
 have hu : Upd (fun k => lab k = 2 * i + 2) W w' := h3.mono (fun k _ e => by
  rcases e with e | e
  ·rw [e]; exact hp
  ·rw [e]; exact hD p hm.dp)
 refine ⟨rfl, _, _, h.turn (c' := c + 1) hu (by omega) (own_updQ h.row hu (fun k hk e => by have := h.rl k hk; omega)) h.oldR (fun j hj => ?_) (fun j hj => ?_) (fun x hx => ?_), fun _ hk => .inl hk, fun _ hk => labQ_old hk, hu.mono (fun k _ e => by omega)⟩
 ·rw [List.length_set] at hj
  by_cases e : i = j
  ·subst e
   rw [List.getElem_set_self]
   refine ⟨p, kt, vt', D', h1, by rw [labQ_old (lt_of_block hm.c)]; exact hp, fun x hx => ?_⟩
   by_cases hxn : W.heap.size ≤ x
   ·exact labQ_new hxn (h1.lt x hx)
   ·rw [labQ_old (by omega)]
    rcases h2 x hx with hd | hd
    ·exact hD x hd
    ·omega
  ·rw [List.getElem_set_ne e]
   exact h.oldX hu j hj (by omega)
 ·rw [List.length_set] at hj
  have h8 := h.oldY hu j hj (by omega)
  by_cases e : i = j
  ·subst e; rw [List.getElem_set_self]; exact h8
  ·rw [List.getElem_set_ne e]; exact h8
 ·rcases List.mem_or_eq_of_mem_set hx with h4 | h4
  ·have := h.cn x h4; omega
  ·subst h4
   have := gsq_cnt L[i].x s
   simp only
   omega
theorem gw_stepY (h : GW w0 K lab c W P AX AY s L Q v) (i : Nat) (hi : i < L.length) (hc : c < 4611686018427387904) :
  Calls Tryz.prog 15 #[.pointer (some ⟨L[i].q, 0, none⟩)] W fun e w' => e = .returned (.tuple #[.bool (L[i].y.stepR s).thr, .bool (L[i].y.took s)]) ∧ StpQ w0 K lab W (c + 1) P AX AY s (L.set i ⟨L[i].p, L[i].q, L[i].k, L[i].x, L[i].y.stepR s⟩) Q v w' := by
 obtain ⟨p, kt, vt, D, hm, hp, hD⟩ := h.my i hi
 obtain ⟨F, hF⟩ := h.aw.rx
 have hcn := h.cn L[i] (List.getElem_mem hi)
 refine (rgstep_any hm hF (by omega) (by omega)).mono ?_
 rintro e w' ⟨rfl, vt', D', h1, h2, h3⟩
 have hu : Upd (fun k => lab k = 2 * i + 3) W w' := h3.mono (fun k _ e => by
  rcases e with e | e
  ·rw [e]; exact hp
  ·rw [e]; exact hD p hm.dp)
 refine ⟨rfl, _, _, h.turn (c' := c + 1) hu (by omega) (own_updQ h.row hu (fun k hk e => by have := h.rl k hk; omega)) h.oldR (fun j hj => ?_) (fun j hj => ?_) (fun x hx => ?_), fun _ hk => .inl hk, fun _ hk => labQ_old hk, hu.mono (fun k _ e => by omega)⟩
 ·rw [List.length_set] at hj
  have h8 := h.oldX hu j hj (by omega)
  by_cases e : i = j
  ·subst e; rw [List.getElem_set_self]; exact h8
  ·rw [List.getElem_set_ne e]; exact h8
 ·rw [List.length_set] at hj
  by_cases e : i = j
  ·subst e
   rw [List.getElem_set_self]
   refine ⟨p, kt, vt', D', h1, by rw [labQ_old (lt_of_block hm.c)]; exact hp, fun x hx => ?_⟩
   by_cases hxn : W.heap.size ≤ x
   ·exact labQ_new hxn (h1.lt x hx)
   ·rw [labQ_old (by omega)]
    rcases h2 x hx with hd | hd
    ·exact hD x hd
    ·omega
  ·rw [List.getElem_set_ne e]
   exact h.oldY hu j hj (by omega)
 ·rcases List.mem_or_eq_of_mem_set hx with h4 | h4
  ·have := h.cn x h4; omega
  ·subst h4
   have := gsq_cnt L[i].y s
   simp only
   omega
def NewQ (W wx : World) (AX AY : Nat) (ks : List Int) (p q gb : Nat) (kv : Value) : Prop := ∃ N1 pm kt vt D pm' kt' vt' D', W.heap.size ≤ N1 ∧ GP wx p AX pm kt vt D (GS.new ks) ∧ RGP wx q AY pm' kt' vt' D' (GS.new ks) ∧ (W.heap.size ≤ p ∧ p < N1) ∧ (∀ x, D x → W.heap.size ≤ x ∧ x < N1) ∧ N1 ≤ q ∧ (∀ x, D' x → N1 ≤ x) ∧ wx.heap[gb]? = some (.cells #[.pointer (some ⟨p, 0, none⟩), .pointer (some ⟨q, 0, none⟩), kv] 49 (0, 0)) ∧ W.heap.size ≤ gb ∧ Below W.heap.size W wx
theorem GW.add {ks : List Int} {k : Tx} {p q gb : Nat} {kv : Value} (h : GW w0 K lab c W P AX AY s L Q v) (hn : NewQ W W' AX AY ks p q gb kv) : StpQ w0 K lab W c P AX AY s (L ++ [⟨p, q, k, GS.new ks, GS.new ks⟩]) Q v W' := by
 obtain ⟨N1, pm, kt, vt, D, pm', kt', vt', D', h1, h2, h3, h4, h5, h6, h7, _, _, hb⟩ := hn
 have hu : Upd Noth W W' := Upd.of_below hb _
 have hb0 := h.bw.size
 have hq := lt_of_block h3.c
 obtain ⟨lb2, hlb⟩ : ∃ lb2 : Nat → Nat, lb2 = fun x => if W.heap.size ≤ x ∧ x < N1 ∧ x < W'.heap.size then 2 * L.length + 2 else if N1 ≤ x ∧ x < W'.heap.size then 2 * L.length + 3 else lab x := ⟨_, rfl⟩
 have old : ∀ x, x < W.heap.size → lb2 x = lab x := fun x hx => by rw [hlb]; simp only; rw [if_neg (by omega), if_neg (by omega)]
 have inX : ∀ x, W.heap.size ≤ x → x < N1 → x < W'.heap.size → lb2 x = 2 * L.length + 2 := fun x a1 a2 a3 => by rw [hlb]; simp only; rw [if_pos ⟨a1, a2, a3⟩]
 have inY : ∀ x, N1 ≤ x → x < W'.heap.size → lb2 x = 2 * L.length + 3 := fun x a1 a2 => by rw [hlb]; simp only; rw [if_neg (by omega), if_pos ⟨a1, a2⟩]
 have out : ∀ x, W'.heap.size ≤ x → lb2 x = 0 := fun x hx => by rw [hlb]; simp only; rw [if_neg (by omega), if_neg (by omega)]; exact h.lz x (Nat.le_trans hb.size hx)
 clear hlb
 refine ⟨fun x => K x ∨ (W.heap.size ≤ x ∧ x < W'.heap.size), lb2, ⟨h.aw.turnQ hu (fun k e => e.elim) (fun e => e) (fun _ hk => hk) (.inl h.aw.kp), h.bw.trans (hb.mono hb0), fun k hk => .inl (h.kb k hk), out, ?_, ?_, ?_, ?_, ?_, ?_, ?_, ?_⟩, fun _ hk => .inl hk, old, hu.noth⟩
 ·intro x hx
  by_cases e : x < W.heap.size
  ·rw [old x e] at hx; exact .inl (h.lk x hx)
  ·by_cases e' : x < W'.heap.size
   ·exact .inr ⟨by omega, e'⟩
   ·exact absurd (out x (by omega)) hx
 ·intro x hx
  by_cases e : x < W.heap.size
  ·rw [old x e] at hx; exact h.lb x hx
  ·omega
 ·rw [old P h.plt]; exact h.lp
 ·exact own_updQ h.row hu (fun _ _ e => e)
 ·intro x hx
  have h8 := h.rl x hx
  rw [old x (h.llt (by omega))]; exact h8
 ·intro i hi
  rw [List.length_append, List.length_singleton] at hi
  by_cases e : i < L.length
  ·rw [List.getElem_append_left e]
   exact (h.mx i e).upd hu (fun _ _ _ e => e) old
  ·obtain rfl : i = L.length := by omega
   rw [List.getElem_append_right (Nat.le_refl _)]
   simp only [Nat.sub_self, List.getElem_cons_zero]
   exact ⟨pm, kt, vt, D, h2, inX p h4.1 h4.2 (lt_of_block h2.c), fun x hx => inX x (h5 x hx).1 (h5 x hx).2 (h2.lt x hx)⟩
 ·intro i hi
  rw [List.length_append, List.length_singleton] at hi
  by_cases e : i < L.length
  ·rw [List.getElem_append_left e]
   exact (h.my i e).upd hu (fun _ _ _ e => e) old
  ·obtain rfl : i = L.length := by omega
   rw [List.getElem_append_right (Nat.le_refl _)]
   simp only [Nat.sub_self, List.getElem_cons_zero]
   exact ⟨pm', kt', vt', D', h3, inY q h6 hq, fun x hx => inY x (h7 x hx) (h3.lt x hx)⟩
 ·intro x hx
  rcases List.mem_append.1 hx with hx | hx
  ·exact h.cn x hx
  ·rw [List.mem_singleton] at hx
   subst hx
   exact ⟨Nat.zero_le _, Nat.zero_le _, Nat.zero_le _, Nat.zero_le _⟩
theorem flat3_q (Q : List (Nat × Nat × Tx)) (i j : Nat) (hi : i < Q.length) (hj : j < 3) : (Q.flatMap pqT3)[i * 3 + j]? = (pqT3 Q[i])[j]? := by
 induction Q generalizing i with
 | nil => simp at hi
 | cons a Q ih =>
  rw [List.flatMap_cons]
  cases i with
  | zero => rw [List.getElem?_append_left (by simp [pqT3]; omega)]; simp
  | succ i =>
   rw [List.getElem?_append_right (by simp [pqT3]; omega), show (pqT3 a).length = 3 from rfl, show (i + 1) * 3 + j - 3 = i * 3 + j by omega, ih i (by simpa using hi)]
   rfl
theorem GW.at (h : GW w0 K lab c W P AX AY s L Q v) {a : Option Addr} {n cap : Nat} (hv : v = .slice a n cap) (hn : Q.length = n) (i : Nat) (hi : i < Q.length) : ∃ g, a = some ⟨g, 0, none⟩ ∧ W.cell? ⟨g, i * 3, none⟩ = some (.pointer (some ⟨Q[i].1, 0, none⟩)) ∧ W.cell? ⟨g, i * 3 + 1, none⟩ = some (.pointer (some ⟨Q[i].2.1, 0, none⟩)) ∧ W.cell? ⟨g, i * 3 + 2, none⟩ = some Q[i].2.2.v ∧ g < W.heap.size := by
 have hr := h.row
 subst hv
 obtain ⟨g, rfl⟩ : ∃ g, a = some ⟨g, 0, none⟩ := by
  rcases hr.2 with ⟨_, h0⟩ | ⟨g, c, cur, hv, _⟩
  ·omega
  ·cases hv; exact ⟨g, rfl⟩
 have q : ∀ j u, j < 3 → (pqT3 Q[i])[j]? = some u → W.cell? ⟨g, i * 3 + j, none⟩ = some u := fun j u hj hu => by
  have := hr.cells (g := g) rfl (i * 3 + j) u (by rw [flat3_q Q i j hi hj]; exact hu)
  rw [Addr.add_lit, Nat.zero_add] at this
  exact this
 exact ⟨g, rfl, q 0 _ (by decide) rfl, q 1 _ (by decide) rfl, q 2 _ (by decide) rfl, (hr.lt g rfl).2⟩
end
/-! What both looks of a pair have. -/
def GOk (l : GPr) : Prop := l.x = l.y ∧ Rs l.x.m.nd.ks ∧ (l.x.thr = false → l.x.val = [])
theorem rs_nil : Rs [] := Rs.of List.Pairwise.nil
theorem step_rs {m : MS} {s : AS} (h : Rs m.nd.ks) (hs : ∀ j, s.inn j → Rs (s.n j).ks) : Rs (m.step s).nd.ks := by
 unfold MS.step MS.goTo MS.fail MS.valid MS.choose MS.fail MS.goTo
 repeat' split
 all_goals first
  | exact h
  | exact rs_nil
  | exact hs _ (Classical.not_not.1 (by assumption))
theorem gok_step {g : GS} {s : AS} (h : Rs g.m.nd.ks) (hv : g.thr = false → g.val = []) (hs : ∀ j, s.inn j → Rs (s.n j).ks) : g.stepR s = g.step s ∧ Rs (g.step s).m.nd.ks ∧ ((g.step s).thr = false → (g.step s).val = []) := by
 have h1 := step_rs h hs
 refine ⟨stepR_eq h1 hv, ?_, ?_⟩
 ·unfold GS.step
  repeat' split
  all_goals first | exact h | exact h1
 ·unfold GS.step
  repeat' split
  ·exact hv
  ·intro e; cases e
  ·rename_i h1 _ _
   intro _
   exact hv (by simpa using h1)
  ·intro e; cases e
  ·intro e; cases e
theorem gok_new (p q : Nat) (k : Tx) (ks : List Int) : GOk ⟨p, q, k, GS.new ks, GS.new ks⟩ := ⟨rfl, rs_nil, fun _ => rfl⟩
def QlI (w : World) (c : Nat) (W : World) (P AX AY : Nat) (s : AS) (n kp pp qq : Nat) (v : Value) (B1 B2 : Nat) (o1 o2 : Obj) : Prop :=
 ∃ K lab L, GW w K lab c W P AX AY s L (L.map GPr.t) v ∧ L.length = n ∧ (∀ x ∈ L, GOk x) ∧ (∃ h : kp < L.length, L[kp].p = pp ∧ L[kp].q = qq) ∧ lab B1 = 0 ∧ lab B2 = 0 ∧ W.heap[B1]? = some o1 ∧ W.heap[B2]? = some o2
def QlJ (w : World) (c : Nat) (W : World) (P AX AY : Nat) (s : AS) (n kp pp qq : Nat) (v : Value) (B1 B2 : Nat) (o1 o2 : Obj) (b d : Bool) : Prop :=
 ∃ K lab L, GW w K lab c W P AX AY s L (L.map GPr.t) v ∧ L.length = n ∧ (∀ j (h : j < L.length), j ≠ kp → GOk L[j]) ∧ (∃ h : kp < L.length, L[kp].p = pp ∧ L[kp].q = qq ∧ L[kp].x = L[kp].y.step s ∧ L[kp].y.stepR s = L[kp].y.step s ∧ Rs L[kp].x.m.nd.ks ∧ (L[kp].x.thr = false → L[kp].x.val = []) ∧ b = L[kp].x.thr ∧ d = L[kp].y.took s) ∧ lab B1 = 0 ∧ lab B2 = 0 ∧ W.heap[B1]? = some o1 ∧ W.heap[B2]? = some o2
section
variable {w W : World} {c P AX AY n kp pp qq B1 B2 : Nat} {s : AS} {v : Value} {o1 o2 : Obj} {b d : Bool}
theorem map_set_t (L : List GPr) (i : Nat) (h : i < L.length) (x y : GS) : (L.set i ⟨L[i].p, L[i].q, L[i].k, x, y⟩).map GPr.t = L.map GPr.t := by
 apply List.ext_getElem
 ·simp
 ·intro j h1 h2
  simp only [List.getElem_map]
  by_cases e : i = j
  ·subst e; rw [List.getElem_set_self]; rfl
  ·rw [List.getElem_set_ne e]
theorem qli_step (h : QlI w c W P AX AY s n kp pp qq v B1 B2 o1 o2) (hc : c < 4611686018427387904) (hs : ∀ j, s.inn j → Rs (s.n j).ks) : Calls Tryz.prog 14 #[.pointer (some ⟨pp, 0, none⟩)] W fun e w' => ∃ b d, e = .returned (.tuple #[.bool b, .bool d]) ∧ QlJ w (c + 1) w' P AX AY s n kp pp qq v B1 B2 o1 o2 b d := by
 obtain ⟨K, lab, L, hD, hL, hS, ⟨hk, rfl, rfl⟩, h1, h2, h3, h4⟩ := h
 refine (gw_stepX hD kp hk hc).mono ?_
 rintro e w' ⟨rfl, K', lab', hD', _, hlab, hu⟩
 rw [← map_set_t L kp hk (L[kp].x.step s) L[kp].y] at hD'
 obtain ⟨e1, e2, e3⟩ := hS _ (List.getElem_mem hk)
 obtain ⟨f1, f2, f3⟩ := gok_step (s := s) e2 e3 hs
 refine ⟨_, _, rfl, K', lab', _, hD', by rw [List.length_set]; exact hL, ?_, ⟨by rw [List.length_set]; exact hk, ?_⟩, by rw [hlab _ (lt_of_block h3)]; exact h1, by rw [hlab _ (lt_of_block h4)]; exact h2, hu.heap h3 (fun e => e h1), hu.heap h4 (fun e => e h2)⟩
 ·intro j hj hne
  rw [List.getElem_set_ne (fun e => hne e.symm)]
  exact hS _ (List.getElem_mem _)
 ·rw [List.getElem_set_self]
  exact ⟨rfl, rfl, by rw [← e1], by rw [← e1]; exact f1, f2, f3, rfl, by rw [← e1]⟩
theorem qlj_step (h : QlJ w c W P AX AY s n kp pp qq v B1 B2 o1 o2 b d) (hc : c < 4611686018427387904) : Calls Tryz.prog 15 #[.pointer (some ⟨qq, 0, none⟩)] W fun e w' => e = .returned (.tuple #[.bool b, .bool d]) ∧ QlI w (c + 1) w' P AX AY s n kp pp qq v B1 B2 o1 o2 := by
 obtain ⟨K, lab, L, hD, hL, hS, ⟨hk, rfl, rfl, e1, e2, e3, e4, e5, e6⟩, h1, h2, h3, h4⟩ := h
 refine (gw_stepY hD kp hk hc).mono ?_
 rintro e w' ⟨rfl, K', lab', hD', _, hlab, hu⟩
 rw [← map_set_t L kp hk L[kp].x (L[kp].y.stepR s)] at hD'
 refine ⟨by rw [e5, e6, e1, e2], K', lab', _, hD', by rw [List.length_set]; exact hL, ?_, ⟨by rw [List.length_set]; exact hk, by rw [List.getElem_set_self]; exact ⟨rfl, rfl⟩⟩, by rw [hlab _ (lt_of_block h3)]; exact h1, by rw [hlab _ (lt_of_block h4)]; exact h2, hu.heap h3 (fun e => e h1), hu.heap h4 (fun e => e h2)⟩
 intro x hx
 obtain ⟨j, hj, rfl⟩ := List.getElem_of_mem hx
 by_cases e : kp = j
 ·subst e; rw [List.getElem_set_self]; exact ⟨by rw [e2]; exact e1, e3, e4⟩
 ·rw [List.getElem_set_ne e]
  exact hS j (by rw [List.length_set] at hj; exact hj) (fun e' => e e'.symm)
end
end Go.Proofs.YtpljbgcofmlhbaaGreat
namespace Go.Proofs.YtpljbgcofmlhbaaGreat
open Go.RowKit
set_option maxRecDepth 100000
set_option maxRecDepth 100000 in
set_option maxHeartbeats 6400000 in
theorem ganswers_any {W : World} {P Q A A' p q : Nat} {kt vt kt' vt' : Tx} {D D' : Nat → Prop} {g : GS} (h : GP W P A p kt vt D g) (r : RGP W Q A' q kt' vt' D' g) (ka : Option Addr) (kl kc : Nat) :
  Calls Tryz.prog 16 #[.agg #[.pointer (some ⟨P, 0, none⟩), .pointer (some ⟨Q, 0, none⟩), .slice ka kl kc]] W fun e w' => e = .returned (.bool true) ∧ Below W.heap.size W w' := by
 have HX : Hid (∀ W', Below W.heap.size W W' → Calls Tryz.prog 50 #[.pointer (some ⟨P, 0, none⟩)] W' (GaP W' g)) := fun W' hb => ganswer_any (h.upd (S := Noth) (Upd.of_below hb _) (fun _ _ e => e))
 have HY : Hid (∀ W', Below W.heap.size W W' → Calls Tryz.prog 69 #[.pointer (some ⟨Q, 0, none⟩)] W' (GaP W' g)) := fun W' hb => rganswer_any (r.upd (S := Noth) (Upd.of_below hb _) (fun _ _ e => e))
 clear h r
 unfold GaP at HX HY
 generalize g.val = gv at *
 generalize g.the = gt at *
 generalize g.err = ge at *
 obtain ⟨w0, hw0⟩ : ∃ w0, w0 = W.alloc (.cells #[.pointer (some ⟨P, 0, none⟩), .pointer (some ⟨Q, 0, none⟩), .slice ka kl kc] 49) := ⟨_, rfl⟩
 have b0 : Below W.heap.size W w0 := by rw [hw0]; exact (Below.refl _ _).alloc (Nat.le_refl _) _
 have G0 : Hid (w0.heap[W.heap.size]? = some (.cells #[.pointer (some ⟨P, 0, none⟩), .pointer (some ⟨Q, 0, none⟩), .slice ka kl kc] 49 (0, 0))) := by show _ = _; rw [hw0]; exact heap_alloc_new W _
 have s0 : W.heap.size < w0.heap.size := lt_of_block G0.out
 have p0 : w0.cell? ⟨W.heap.size, 0, none⟩ = some (.pointer (some ⟨P, 0, none⟩)) := by rw [cell_of_row _ _ _ _ _ _ G0.out]; rfl
 have B0 := hide b0
 have HW0 := hide hw0
 have S0 := hide s0
 clear b0 hw0 s0
 go_enter Tryz.func16, Tryz.ntmps16
 go_upto_region 1 with fail
 rw [← HW0.out]
 clear HW0
 go_wp2_with fail
 refine (HX.out w0 B0.out).mono ?_
 rintro e w1 ⟨⟨va, vc, vs⟩, rfl, hvs, hvo, hvk, hb1⟩
 obtain rfl : vs = gv := hvs
 simp only [Tx.v] at hvo ⊢
 obtain ⟨lv, hlv⟩ : ∃ lv, vs.length = lv := ⟨_, rfl⟩
 rw [hlv] at hvo ⊢
 have HLV := hide hlv
 have HVO : Hid (OwnB w1 w0.heap.size 5 (⟨va, vc, vs⟩ : Tx).v vs) := by show OwnB _ _ _ _ _; simp only [Tx.v]; rw [HLV.out]; exact hvo
 have hlv2 : lv ≤ 140737488351232 := by have := hvk.z; simp only [hlv] at this; exact this
 have HVK := hide hvk
 have B1 := hide hb1
 have BW1 := hide (B0.out.trans (hb1.mono B0.out.size))
 have p1 : w1.cell? ⟨W.heap.size, 1, none⟩ = some (.pointer (some ⟨Q, 0, none⟩)) := by rw [cell_of_row _ _ _ _ _ _ ((hb1.block _ S0.out).trans G0.out)]; rfl
 clear hlv hvo hvk hb1 HX p0
 go_wp2_with fail
 refine (HY.out w1 BW1.out).mono ?_
 rintro e w2 ⟨⟨ua, uc, us⟩, rfl, hus, _, huk, hb2⟩
 obtain rfl : us = vs := hus
 simp only [Tx.v]
 rw [HLV.out]
 have BW2 := hide (BW1.out.trans (hb2.mono BW1.out.size))
 have k1 : (convert 28 9 (.slice va lv vc)).run Tryz.prog w2 = .ok (.string (strOfNums us)) w2 := nconv_row vc HLV.out (HVK.out.below hb2).r
 have k2 : (convert 28 9 (.slice ua lv uc)).run Tryz.prog w2 = .ok (.string (strOfNums us)) w2 := nconv_row uc HLV.out huk.r
 have HB0 : Hid (Bk w2 w0.heap.size w1.heap.size va lv ∧ Upd (fun b => w0.heap.size ≤ b ∧ b < w1.heap.size) w2 w2) := by
  have := bk_own (x := ⟨va, vc, us⟩) HVO.out HVK.out.z
  simp only [HLV.out] at this
  exact ⟨this.move (fun b _ hb => hb2.block b hb), Upd.refl _ _⟩
 have HS0 : Hid (W.heap.size ≤ w0.heap.size) := B0.out.size
 generalize strOfNums us = st at *
 clear p1 HY huk hb2 HVO HVK
 go_wp2_with fail
 clear k1 k2
 go_loopw [10] (fun q wt => ∃ k : Nat, k ≤ lv ∧ q = .int .i64 (k : Int) ∧ Hid (Bk wt w0.heap.size w1.heap.size va lv ∧ Upd (fun b => w0.heap.size ≤ b ∧ b < w1.heap.size) w2 wt)) (fun q _ => lv - (intOf q).toNat)
 case atStart => exact ⟨0, Nat.zero_le _, rfl, HB0⟩
 case round =>
  clear HB0
  obtain ⟨k, hk, rfl, HJ⟩ := hrel
  rename World => wt
  by_cases hlk : k < lv
  ·have j4 : (k : Int) < (lv : Int) := by omega
   have j5 : (0 : Int) ≤ (k : Int) := by omega
   obtain ⟨g2, cs, rfl, hN2, hg2, hsz2, hb2⟩ := HJ.out.1.2.resolve_left (by omega)
   obtain ⟨x, hx⟩ := hb2 cs[k] (by simp)
   have hcell : wt.cell? ⟨g2, k, none⟩ = some (.int .u8 x) := by rw [cell_of_row _ _ _ _ _ _ hg2, Array.getElem?_eq_getElem (by omega), hx]
   have hfr : wt.frozen? ⟨g2, k, none⟩ = false := by simp [World.frozen?, hg2]
   have HNX2 : Hid (∀ y : Int, Bk (wt.setCell ⟨g2, k, none⟩ (.int .u8 y)) w0.heap.size w1.heap.size (some ⟨g2, 0, none⟩) lv ∧ Upd (fun b => w0.heap.size ≤ b ∧ b < w1.heap.size) w2 (wt.setCell ⟨g2, k, none⟩ (.int .u8 y))) := fun y => ⟨HJ.out.1.byte (k := k) hg2 hb2 y, HJ.out.2.trans ((Upd.refl _ wt).setCell _ _ (fun _ => hN2))⟩
   clear hg2 hx hb2 HJ hsz2
   go_wp2_with fail
   go_roundw
   case rel => exact ⟨k + 1, by omega, by go_num, HNX2.out _⟩
   case measure => simp [intOf]; omega
  ·have j4 : ¬ (k : Int) < (lv : Int) := by omega
   have BW : Hid (Below W.heap.size W wt) := BW2.out.trans (HJ.out.2.below BW2.out.size (fun k hk e => by have := HS0.out; omega))
   clear HJ
   go_wp2_with fail
   go_ret
   exact ⟨rfl, BW.out⟩
theorem qli_told {w W : World} {c P AX AY n kp pp qq B1 B2 : Nat} {s : AS} {v : Value} {o1 o2 : Obj} (h : QlI w c W P AX AY s n kp pp qq v B1 B2 o1 o2) (ka : Option Addr) (kl kc : Nat) : Calls Tryz.prog 16 #[.agg #[.pointer (some ⟨pp, 0, none⟩), .pointer (some ⟨qq, 0, none⟩), .slice ka kl kc]] W fun e w' => e = .returned (.bool true) ∧ QlI w c w' P AX AY s n kp pp qq v B1 B2 o1 o2 := by
 obtain ⟨K, lab, L, hD, hL, hS, ⟨hk, rfl, rfl⟩, h1, h2, h3, h4⟩ := h
 obtain ⟨_, _, _, _, hx, _⟩ := hD.mx kp hk
 obtain ⟨_, _, _, _, hy, _⟩ := hD.my kp hk
 rw [← (hS _ (List.getElem_mem hk)).1] at hy
 refine (ganswers_any hx hy ka kl kc).mono ?_
 rintro e w' ⟨rfl, hb⟩
 exact ⟨rfl, K, lab, L, hD.below hb, hL, hS, ⟨hk, rfl, rfl⟩, h1, h2, (hb.block _ (lt_of_block h3)).trans h3, (hb.block _ (lt_of_block h4)).trans h4⟩
/-! New looks: the three ways that the box may come. -/
section
variable {W w1 w2 w3 wf : World} {AX AY : Nat} {ks : List Int}
theorem newq_of {N1 p q gb pm pm' : Nat} {kt vt kt' vt' : Tx} {D D' : Nat → Prop} {kv : Value} (h1 : W.heap.size ≤ N1) (hx : GP w3 p AX pm kt vt D (GS.new ks)) (hy : RGP w3 q AY pm' kt' vt' D' (GS.new ks)) (hp : W.heap.size ≤ p ∧ p < N1) (hD : ∀ x, D x → W.heap.size ≤ x ∧ x < N1) (hq : N1 ≤ q) (hD' : ∀ x, D' x → N1 ≤ x) (hb : Below W.heap.size W w3) {S : Nat → Prop} (hu : Upd S w3 wf) (hs : ∀ x, S x → x = gb) (h5 : ∀ x, x = p ∨ D x → x ≠ gb) (h6 : ∀ x, x = q ∨ D' x → x ≠ gb) (hg : wf.heap[gb]? = some (.cells #[.pointer (some ⟨p, 0, none⟩), .pointer (some ⟨q, 0, none⟩), kv] 49 (0, 0))) (hgb : W.heap.size ≤ gb) : NewQ W wf AX AY ks p q gb kv :=
 ⟨N1, pm, kt, vt, D, pm', kt', vt', D', h1, hx.upd hu (fun x hx e => h5 x hx (hs x e)), hy.upd hu (fun x hx e => h6 x hx (hs x e)), hp, hD, hq, hD', hg, hgb, hb.trans (hu.below hb.size (fun k hk e => by have := hs k e; omega))⟩
theorem newqC {wk w2 w3 : World} {pp qq pm pm' : Nat} {kt vt kt' vt' : Tx} {D D' : Nat → Prop} {kv : Value} (b2 : Below wk.heap.size wk w2) (hm : GP w2 pp AX pm kt vt D (GS.new ks)) (hp : wk.heap.size ≤ pp ∧ ∀ x, D x → wk.heap.size ≤ x) (b3 : Below wk.heap.size wk w3) (hr : RGP w3 qq AY pm' kt' vt' D' (GS.new ks)) (hq : w2.heap.size ≤ qq ∧ ∀ x, D' x → w2.heap.size ≤ x) (b23 : Below w2.heap.size w2 w3) :
  NewQ wk (w3.alloc (.cells #[.pointer (some ⟨pp, 0, none⟩), .pointer (some ⟨qq, 0, none⟩), kv] 49)) AX AY ks pp qq w3.heap.size kv := by
 have hpl := lt_of_block hm.c
 have hql := lt_of_block hr.c
 have hs := b23.size
 refine newq_of (w3 := w3) (N1 := w2.heap.size) (S := Noth) b2.size (hm.upd (S := Noth) (Upd.of_below b23 _) (fun _ _ e => e)) hr ⟨hp.1, hpl⟩ (fun x hx => ⟨hp.2 x hx, hm.lt x hx⟩) hq.1 hq.2 b3 (Upd.of_below ((Below.refl _ _).alloc (Nat.le_refl _) _) _) (fun _ e => e.elim) ?_ ?_ (heap_alloc_new w3 _) b3.size
 ·rintro x (rfl | hx)
  ·omega
  ·have := hm.lt x hx; omega
 ·rintro x (rfl | hx)
  ·omega
  ·have := hr.lt x hx; omega
theorem newqA {wk w2 w3 : World} {pp qq pm pm' : Nat} {kt vt kt' vt' : Tx} {D D' : Nat → Prop} {o : Obj} {a0 a1 a2 kv : Value} (b2 : Below wk.heap.size wk w2) (hm : GP w2 pp AX pm kt vt D (GS.new ks)) (hp : (wk.alloc o).drew.heap.size ≤ pp ∧ ∀ x, D x → (wk.alloc o).drew.heap.size ≤ x) (b3 : Below wk.heap.size wk w3) (hr : RGP w3 qq AY pm' kt' vt' D' (GS.new ks)) (hq : w2.heap.size ≤ qq ∧ ∀ x, D' x → w2.heap.size ≤ x) (b23 : Below w2.heap.size w2 w3) (hg2 : wk.heap.size < w2.heap.size) (hg : w3.heap[wk.heap.size]? = some (.cells #[a0, a1, a2] 49 (0, 0))) :
  NewQ wk (((w3.setCell ⟨wk.heap.size, 0, none⟩ (.pointer (some ⟨pp, 0, none⟩))).setCell ⟨wk.heap.size, 1, none⟩ (.pointer (some ⟨qq, 0, none⟩))).setCell ⟨wk.heap.size, 2, none⟩ kv) AX AY ks pp qq wk.heap.size kv := by
 have hpl := lt_of_block hm.c
 have hql := lt_of_block hr.c
 have hs := b23.size
 have e1 : (wk.alloc o).drew.heap.size = wk.heap.size + 1 := by simp
 rw [e1] at hp
 refine newq_of (w3 := w3) (N1 := w2.heap.size) (S := fun k => k = wk.heap.size) b2.size (hm.upd (S := Noth) (Upd.of_below b23 _) (fun _ _ e => e)) hr ⟨by omega, hpl⟩ (fun x hx => ⟨by have := hp.2 x hx; omega, hm.lt x hx⟩) hq.1 hq.2 b3 (updP (updP (updP (Upd.refl _ _) _ _) _ _) _ _) (fun _ e => e) ?_ ?_ (block_setCell (block_setCell (block_setCell hg 0 _) 1 _) 2 _) (Nat.le_refl _)
 ·rintro x (rfl | hx)
  ·omega
  ·have := hp.2 x hx; omega
 ·rintro x (rfl | hx)
  ·omega
  ·have := hq.2 x hx; omega
theorem newqM {wk w2 w3 : World} {pp qq pm pm' : Nat} {kt vt kt' vt' : Tx} {D D' : Nat → Prop} {o : Obj} {a0 a1 a2 kv : Value} (b2 : Below wk.heap.size wk w2) (hm : GP w2 pp AX pm kt vt D (GS.new ks)) (hp : wk.heap.size ≤ pp ∧ ∀ x, D x → wk.heap.size ≤ x) (b3 : Below wk.heap.size wk w3) (hr : RGP w3 qq AY pm' kt' vt' D' (GS.new ks)) (hq : (w2.alloc o).heap.size ≤ qq ∧ ∀ x, D' x → (w2.alloc o).heap.size ≤ x) (b23 : Below (w2.alloc o).heap.size (w2.alloc o) w3) (hg : w3.heap[w2.heap.size]? = some (.cells #[a0, a1, a2] 49 (0, 0))) :
  NewQ wk (((w3.setCell ⟨w2.heap.size, 0, none⟩ (.pointer (some ⟨pp, 0, none⟩))).setCell ⟨w2.heap.size, 1, none⟩ (.pointer (some ⟨qq, 0, none⟩))).setCell ⟨w2.heap.size, 2, none⟩ kv) AX AY ks pp qq w2.heap.size kv := by
 have hpl := lt_of_block hm.c
 have e1 : (w2.alloc o).heap.size = w2.heap.size + 1 := by simp
 have bA : Below w2.heap.size w2 (w2.alloc o) := (Below.refl _ _).alloc (Nat.le_refl _) _
 have bb := bA.trans (b23.mono bA.size)
 rw [e1] at hq
 refine newq_of (w3 := w3) (N1 := w2.heap.size) (S := fun k => k = w2.heap.size) b2.size (hm.upd (S := Noth) (Upd.of_below bb _) (fun _ _ e => e)) hr ⟨hp.1, hpl⟩ (fun x hx => ⟨hp.2 x hx, hm.lt x hx⟩) (by omega) (fun x hx => by have := hq.2 x hx; omega) b3 (updP (updP (updP (Upd.refl _ _) _ _) _ _) _ _) (fun _ e => e) ?_ ?_ (block_setCell (block_setCell (block_setCell hg 0 _) 1 _) 2 _) b2.size
 ·rintro x (rfl | hx)
  ·omega
  ·have := hm.lt x hx; omega
 ·rintro x (rfl | hx)
  ·omega
  ·have := hq.2 x hx; omega
end
def GV (w : World) (i n : Nat) (W : World) (P AX AY : Nat) (v : Value) : Prop :=
 ∃ K lab s L, GW w K lab (24 * i) W P AX AY s L (L.map GPr.t) v ∧ L.length = n ∧ (∀ x ∈ L, GOk x) ∧ n ≤ i ∧ SI s (1048576 + i)
theorem SI.rs {s : AS} {B : Nat} (h : SI s B) : ∀ j, s.inn j → Rs (s.n j).ks := fun j hj => (h.1 j hj).1.1
end Go.Proofs.YtpljbgcofmlhbaaGreat
