/- block: Add, walked. -/
import Derived.Test.YtepjblmjjegpgaaGreatW34
import Derived.Deep.DeepCutAuto
import Derived.Deep.CutBlock
import Derived.Deep.RegionLaw
namespace Go.Proofs.YtepjblmjjegpgaaGreat
open Go.RowKit
set_option maxRecDepth 100000

theorem Ent.Ok.upd {S : Nat → Prop} {W W' : World} {e : Ent} (h : e.Ok W) (hu : Upd S W W') (hk : ∀ x, e.ka = some x → 0 < e.ks.length → ¬ S x.block) (hv : ∀ x, e.va = some x → 0 < e.vs.length → ¬ S x.block) : e.Ok W' :=
  ⟨h.k.upd hu hk, h.v.upd hu hv, h.nk, h.nv, h.lk, h.lv, h.k8, h.v8, h.zk, h.zv⟩
theorem fits_key {k v : Nat} (h : chkE k v = 0) : 1 ≤ k ∧ k ≤ 64 ∧ v ≤ 256 := by
  unfold chkE at h
  rcases keyE_cases k with ⟨h1, _⟩ | ⟨h1, h2, h3⟩
  · rw [h1] at h; simp at h
  · rw [h1] at h
    rcases valE_cases v with ⟨h4, _⟩ | ⟨h4, h5⟩
    · rw [h4] at h; simp at h
    · exact ⟨h2, h3, h5⟩

/-- Refused: nothing is changed. -/
def AddNo (W : World) (r : Int) (e : Ending) (W' : World) : Prop := e = .returned (.int .i64 r) ∧ Below W.heap.size W W'
/-- Taken. -/
def AddYes (W : World) (B g n : Nat) (bs ts ks : List Int) (M : Nat → Prop) (e : Ending) (W' : World) : Prop :=
  e = .returned (.int .i64 0) ∧ ∃ vb vt vl, BdR W' B g n bs ts ks vb vt vl ∧ Upd M W W' ∧ ∀ i, BdM g vb vt vl i → M i ∨ W.heap.size ≤ i

theorem below_of_drewN {B : Nat} {a w : World} (h : Below B a w) (n : Nat) : Below B a (w.drewN n) := ⟨h.os, h.tape, h.output, h.size, h.block⟩
theorem below_drewN {B n : Nat} {a w : World} (h : Below B (a.drewN n) w) : Below B a w := ⟨h.os, h.tape, h.output, h.size, h.block⟩

/-- What grows: blocks of the Builder's, and new ones. -/
theorem grow_upd {W1 W W' : World} {M F F' : Nat → Prop} (hu : Upd M W1 W) (hf : ∀ i, F i → M i ∨ W1.heap.size ≤ i) (hn : Upd F W W') (hF : ∀ i, F' i → F i ∨ W.heap.size ≤ i) : Upd M W1 W' ∧ ∀ i, F' i → M i ∨ W1.heap.size ≤ i :=
  ⟨hu.then hn (fun i hi h => (hf i h).elim id (fun h => by omega)), fun i hi => (hF i hi).elim (fun h => hf i h) (fun h => .inr (Nat.le_trans hu.size h))⟩

theorem two_new2 (w : World) (x y : Value) (T : TypeId) : (w.alloc (.cells #[x, y] T)).cell? ⟨w.heap.size, 0, none⟩ = some x ∧ (w.alloc (.cells #[x, y] T)).cell? ⟨w.heap.size, 1, none⟩ = some y := by
  refine ⟨?_, ?_⟩ <;> (rw [cell_of_row _ _ _ _ _ _ (heap_alloc_new w _)]; rfl)

set_option maxRecDepth 100000 in
set_option maxHeartbeats 3200000 in
theorem add_yes {W : World} {B g n : Nat} {bs ts ls : List Int} {vb vt vl : Value} (hR : BdR W B g n bs ts ls vb vt vl) (e : Ent) (ok : e.Ok W) (hk : ∀ x, e.ka = some x → 0 < e.ks.length → ¬ BdM g vb vt vl x.block) (hv : ∀ x, e.va = some x → 0 < e.vs.length → ¬ BdM g vb vt vl x.block)
    (hc : chkE e.ks.length e.vs.length = 0) (hn : n < 64) (hcm : cmpI ls e.ks < 0) (l8 : B8 ls) (hbs : bs.length ≤ 30000) (hts : ts.length ≤ 100) (hls : ls.length ≤ 64) :
    Calls Tryz.prog 51 #[.pointer (some ⟨g, 0, none⟩), .agg #[e.kv, e.vv]] W (AddYes W B g (n + 1) (bs ++ encP (if n % 8 = 0 then [] else ls) e.ks e.vs) (if n % 8 = 0 then ts ++ sp2 (1 + bs.length) else ts) e.ks (BdM g vb vt vl)) := by
  obtain ⟨fk1, fk2, fv⟩ := fits_key hc
  obtain ⟨px, hpx⟩ : ∃ px, px = if n % 8 = 0 then [] else ls := ⟨_, rfl⟩
  obtain ⟨tx, htx⟩ : ∃ tx, tx = if n % 8 = 0 then ts ++ sp2 (1 + bs.length) else ts := ⟨_, rfl⟩
  rw [← hpx, ← htx]
  have hpl : px.length ≤ 64 := by rw [hpx]; split
                                  · simp
                                  · omega
  replace hpx := hide hpx
  replace htx := hide htx
  obtain ⟨npx, hnpx⟩ : ∃ k, px.length = k := ⟨_, rfl⟩
  obtain ⟨ntx, hntx⟩ : ∃ k, tx.length = k := ⟨_, rfl⟩
  rw [hnpx] at hpl
  replace hnpx := hide hnpx
  replace hntx := hide hntx
  obtain ⟨i0, hi0, hz0, hz1, hz2⟩ := info_parts infoByte'
  obtain ⟨ab, cb, rfl, _⟩ := owns_open hR.ob
  obtain ⟨at', ct, rfl, _⟩ := owns_open hR.ot
  obtain ⟨al, cl, rfl, hrl, hnl, hcl⟩ := owns_open hR.ol
  have hlt := hR.lt
  have hgl := (hlt g (.inl rfl)).2
  have hBW : B ≤ W.heap.size := Nat.le_of_lt (Nat.lt_of_le_of_lt hR.gB hgl)
  obtain ⟨nb, hnb⟩ : ∃ nb, bs.length = nb := ⟨_, rfl⟩
  obtain ⟨nt, hnt⟩ : ∃ nt, ts.length = nt := ⟨_, rfl⟩
  obtain ⟨nl, hnl'⟩ : ∃ nl, ls.length = nl := ⟨_, rfl⟩
  rw [hnb, hnt, hnl'] at hR
  rw [hnb, hnt, hnl'] at hlt
  rw [hnb, hnt, hnl'] at hk hv
  rw [hnb, hnt, hnl']
  obtain ⟨M, hM⟩ : ∃ M, M = BdM g (.slice ab nb cb) (.slice at' nt ct) (.slice al nl cl) := ⟨_, rfl⟩
  rw [← hM] at hk hv ⊢
  rw [hnl'] at hnl hcl
  obtain ⟨lk, hlk⟩ : ∃ k, e.ks.length = k := ⟨_, rfl⟩
  obtain ⟨lv, hlv⟩ : ∃ k, e.vs.length = k := ⟨_, rfl⟩
  have hbox : Below W.heap.size W (W.alloc (.cells #[.slice e.ka lk e.kc, .slice e.va lv e.vc] 38)) := (Below.refl _ _).alloc (Nat.le_refl _) _
  have X0 := hide (two_new2 W (.slice e.ka lk e.kc) (.slice e.va lv e.vc) 38)
  have HSZ := hide (show (W.alloc (.cells #[.slice e.ka lk e.kc, .slice e.va lv e.vc] 38)).heap.size = W.heap.size + 1 by simp)
  have HC := hide (check_any e.ka e.va e.ks.length e.kc e.vs.length e.vc (W.alloc (.cells #[.slice e.ka lk e.kc, .slice e.va lv e.vc] 38)))
  have HR := hide hR
  have HK := hide hk
  have HV := hide hv
  have HRL := hide hrl
  have OK := hide ok
  have HBOX := hide hbox
  have HM := hide hM
  have HLT := hide hlt
  unfold Ent.kv Ent.vv
  rw [hc] at HC
  rw [hlk, hlv] at HC ⊢
  clear hR hk hv hrl ok hbox hM hlt
  generalize hwA : W.alloc (.cells #[.slice e.ka lk e.kc, .slice e.va lv e.vc] 38) = wA at *
  replace hwA := hide hwA
  go_enter Tryz.func51, Tryz.ntmps51
  go_wp2_with fail
  rw [hwA.out]
  refine HC.out.mono ?_
  rintro r w1 ⟨rfl, hb1⟩
  have B1 : Hid (Below W.heap.size W w1) := HBOX.out.trans (hb1.mono HBOX.out.size)
  have R1 := hide (HR.out.upd (Upd.of_below B1.out Noth) (fun _ _ e => e))
  have O1 := hide (OK.out.upd (Upd.of_below B1.out Noth) (fun _ _ _ e => e) (fun _ _ _ e => e))
  have hz : W.heap.size < w1.heap.size := by have := hb1.size; have := HSZ.out; omega
  have x0 : w1.cell? ⟨W.heap.size, 0, none⟩ = some (.slice e.ka lk e.kc) := (hb1.cell (p := ⟨W.heap.size, 0, none⟩) (by have := HSZ.out; show W.heap.size < _; omega)).trans X0.out.1
  have x1 : w1.cell? ⟨W.heap.size, 1, none⟩ = some (.slice e.va lv e.vc) := (hb1.cell (p := ⟨W.heap.size, 1, none⟩) (by have := HSZ.out; show W.heap.size < _; omega)).trans X0.out.2
  have c0 := R1.out.cells.1
  have c3 := R1.out.cells.2.2.2.1
  clear hb1 HC X0
  obtain ⟨cv, hcv⟩ : ∃ cv, cv = cmpI ls e.ks := ⟨_, rfl⟩
  have RC : Hid (Calls Tryz.prog 89 #[.slice al nl cl, .slice e.ka lk e.kc] w1.drew fun r w' => r = .returned (.int .i64 cv) ∧ Below w1.heap.size w1 w') := by
    rw [hcv]
    exact (compare_any al e.ka nl cl lk e.kc ls e.ks w1.drew hnl' hlk (show Row w1 .u8 _ _ from row_of_owns2 (n := nl) (by have := R1.out.ol; rw [hnl'] at this; exact this)) (show Row w1 .u8 _ _ from O1.out.k) l8 O1.out.k8).mono fun r w' ⟨h1, h2⟩ => ⟨h1, by subst h2; exact ⟨rfl, rfl, rfl, Nat.le_refl _, fun _ _ => rfl⟩⟩
  rw [← hcv] at hcm
  replace hcv := hide hcv
  have h64 : ¬ (n : Int) = 64 := by omega
  go_wp2_with fail
  go_region_held3 (fun w => w.cell? ⟨g, 3, none⟩ = some (.slice al nl cl) ∧ w.cell? ⟨W.heap.size, 0, none⟩ = some (.slice e.ka lk e.kc)) (go_keep) (first
    | (go_at_call 89; refine RC.out.mono ?_; rintro r w2 ⟨rfl, hw2⟩; have B2 : Hid (Below w1.heap.size w1 w2) := hw2; have f0 : w2.cell? ⟨g, 3, none⟩ = some (.slice al nl cl) := (B2.out.cell (p := ⟨g, 3, none⟩) (Nat.lt_trans hgl hz)).trans c3; have f1 : w2.cell? ⟨W.heap.size, 0, none⟩ = some (.slice e.ka lk e.kc) := (B2.out.cell (p := ⟨W.heap.size, 0, none⟩) hz).trans x0; clear hw2)
    | fail)
  have R2 := hide (R1.out.upd (Upd.of_below B2.out Noth) (fun _ _ e => e))
  have U2 : Hid (Upd M w1 w2) := Upd.of_below B2.out M
  have BX0 := hide x0
  have BX1 := hide x1
  have d0 := R2.out.cells.1
  have d1 := R2.out.cells.2.1
  have d2 := R2.out.cells.2.2.1
  have d3 := R2.out.cells.2.2.2.1
  have hgx : Hid (¬ M W.heap.size) := fun h => by rw [HM.out] at h; have := HLT.out _ h; omega
  have FP2 : Hid (∀ i, BdM g (.slice ab nb cb) (.slice at' nt ct) (.slice al nl cl) i → M i ∨ w1.heap.size ≤ i) := fun i hi => .inl (by rw [HM.out]; exact hi)
  have h2B : B ≤ w2.heap.size := by have := U2.out.size; omega
  clear x0 x1 c0 c3 f0 f1 R1 RC
  rw [hnb] at htx
  have HRS := hide (restart_any n w2 (by omega))
  have HSP : Hid (Calls Tryz.prog 91 #[.int .i64 (IntKind.i64.wrap (1 + (nb : Int)))] w2.drew fun r w3 => r = .returned (.slice (some ⟨w2.heap.size, 0, none⟩) 2 2) ∧ Row w3 .u8 (some ⟨w2.heap.size, 0, none⟩) (sp2 (1 + nb)) ∧ Below w2.heap.size w2 w3) := by
    have := spell_any (1 + nb) w2.drew
    rw [show ((1 + nb : Nat) : Int) = IntKind.i64.wrap (1 + (nb : Int)) by rw [IntKind.wrap_i64]; omega] at this
    refine this.mono ?_
    rintro r w3 ⟨rfl, rfl⟩
    exact ⟨rfl, two_row _ _ _ _, (Below.refl _ _).drew.alloc (Nat.le_refl _) _⟩
  have hbt : Hid (ts.length + 2 ≤ 140737488355328) := by show _ ≤ _; omega
  have ROWL : Hid (Row w2 .u8 al ls) := row_of_owns2 (n := nl) (by have := R2.out.ol; rw [hnl'] at this; exact this)
  have hw1 : IntKind.i64.wrap (1 + (nb : Int)) = 1 + (nb : Int) := by rw [IntKind.wrap_i64]; omega
  replace hw1 := hide hw1
  go_wp2_with fail
  refine keep HRS.out ?_
  obtain ⟨b8, hb8⟩ : ∃ b8, b8 = decide (n % 8 = 0) := ⟨_, rfl⟩
  rw [← hb8]
  replace hb8 := hide hb8
  go_upto_if 33 with fail
  go_cut [6] (fun s6 wx => ∃ (pa : Option Addr) (pc : Nat) (at5 : Option Addr) (ct5 : Nat), s6 = .slice pa npx pc ∧ Hid (Row wx .u8 pa px) ∧ Hid (BdR wx B g n bs tx ls (.slice ab nb cb) (.slice at5 ntx ct5) (.slice al nl cl)) ∧ Hid (Upd M w1 wx) ∧ Hid (∀ i, BdM g (.slice ab nb cb) (.slice at5 ntx ct5) (.slice al nl cl) i → M i ∨ w1.heap.size ≤ i))
  case first =>
    by_cases h8 : n % 8 = 0
    · obtain rfl : b8 = true := by rw [hb8.out, decide_eq_true h8]
      obtain rfl : px = [] := by rw [hpx.out, if_pos h8]
      obtain rfl : npx = 0 := hnpx.out.symm
      obtain rfl : tx = ts ++ sp2 (1 + nb) := by rw [htx.out, if_pos h8]
      go_wp2_with fail
      go_region_law (first
        | (refine step_app rfl (.tmp 38) (.tmp 45) 23 rfl B 5 i0 Tryz.underlying23 hi0 hz0 hz1 hz2 (.slice at' nt ct) ts (by simp [Act.eval]) R3.out.ot (some ⟨w2.heap.size, 0, none⟩) 2 2 (sp2 (1 + nb)) (by simp [Act.eval]) rfl (by intro h; cases h) HR3.out hbt.out HB3.out ?_; intro v4 w4 hv4 hg4 hk4; have R4 := hide (R3.out.table hv4 hg4 hk4); obtain ⟨a4, c4, rfl, _⟩ := owns_openN hv4 hntx.out; have hu4 : Upd (fun i => (Value.slice at' nt ct).ownBlock = some i) w3 w4 := Upd.of_grown hg4 (fun k hk _ => hk); have k1 := hu4.cell j1 (fun e => (R3.out.dt g e).1 rfl); have k2 : w4.frozen? ⟨g, 2, none⟩ = false := frozen_blk (hu4.heap R3.out.blk (fun e => (R3.out.dt g e).1 rfl)) 2; clear hv4 hg4 hk4 hu4)
        | (go_simp; go_at_call 91; refine HSP.out.mono ?_; rintro r w3 ⟨rfl, hr3, hb3⟩; have R3 := hide (R2.out.upd (Upd.of_below hb3 Noth) (fun _ _ e => e)); have HR3 := hide hr3; have j1 := R3.out.cells.2.2.1; have HB3 := hide (Nat.le_trans h2B hb3.size); have V3 := hide hb3; clear hr3 hb3))
      all_goals (try go_wp2_with fail)
      all_goals
        have GU4 := hide (grow_upd (U2.out.trans (Upd.of_below V3.out M)) FP2.out R4.out.2.1 R4.out.2.2)
        go_meet
        exact ⟨none, 0, a4, c4, rfl, row_nil _ _ _, R4.out.1, GU4.out.1, GU4.out.2⟩
    · obtain rfl : b8 = false := by rw [hb8.out, decide_eq_false h8]
      obtain rfl : px = ls := by rw [hpx.out, if_neg h8]
      obtain rfl : tx = ts := by rw [htx.out, if_neg h8]
      go_wp2_with fail
      go_meet
      obtain rfl : npx = nl := by rw [← hnpx.out, hnl']
      obtain rfl : ntx = nt := by rw [← hntx.out, hnt]
      exact ⟨al, cl, at', ct, rfl, ROWL, R2, U2, FP2⟩
  case rest =>
    rename World => wf
    obtain ⟨pa, pc, at5, ct5, rfl, HPR, R5, U5, FP5⟩ := hcut
    clear R2 U2 FP2 d0 d1 d2 d3 HSP HRS ROWL hb8
    have hz5 : W.heap.size < wf.heap.size := Nat.lt_of_lt_of_le hz U5.out.size
    have O5 := hide (O1.out.upd U5.out HK.out HV.out)
    have z0 := U5.out.cell BX0.out hgx.out
    have z1 := U5.out.cell BX1.out hgx.out
    have NBX : Hid ((Value.slice ab nb cb).ownBlock ≠ some W.heap.size) := fun e => by have := (HLT.out _ (.inr (.inl e))).2; omega
    have HEL := encP_len px e.ks e.vs fk2 fv
    obtain ⟨ep, hep⟩ : ∃ ep, ep = encP px e.ks e.vs := ⟨_, rfl⟩
    rw [← hep] at HEL
    obtain ⟨nep, hnep⟩ : ∃ k, ep.length = k := ⟨_, rfl⟩
    obtain ⟨nbe, hnbe⟩ : ∃ k, (bs ++ ep).length = k := ⟨_, rfl⟩
    rw [hnep] at HEL
    replace hnep := hide hnep
    replace hnbe := hide hnbe
    have HEP := hide hep
    clear hep
    have HBY : Hid (Calls Tryz.prog 92 #[.slice pa npx pc, .agg #[.slice e.ka lk e.kc, .slice e.va lv e.vc]] wf.drew fun r w6 => ∃ a6 c6, r = .returned (.slice a6 nep c6) ∧ Row w6 .u8 a6 ep ∧ (a6 = none → nep = 0 ∧ c6 = 0) ∧ Below wf.heap.size wf w6) := by
      refine (bytes_any pa e.ka e.va npx pc lk e.kc lv e.vc px e.ks e.vs wf.drew hnpx.out hlk hlv (by omega) (by omega) (by omega) (hlk ▸ O5.out.lk) (hlv ▸ O5.out.nv) (hlk ▸ O5.out.nk) (show Row wf .u8 _ _ from HPR.out) (show Row wf .u8 _ _ from O5.out.k) (show Row wf .u8 _ _ from O5.out.v)).mono ?_
      rintro r w6 ⟨u, rfl, ho, hb⟩
      rw [encE_P, ← HEP.out] at ho
      obtain ⟨a6, c6, rfl, hr6, hn6, _⟩ := ho.slice
      rw [hnep.out] at hn6 ⊢
      exact ⟨a6, c6, rfl, hr6, hn6, hb.os, hb.tape, hb.output, hb.size, hb.block⟩
    have h5B : B ≤ wf.heap.size := by omega
    have hb5 : Hid (bs.length + nep ≤ 140737488355328) := by show _ ≤ _; omega
    have g1 := R5.out.cells.2.1
    go_upto_region 12 with fail
    go_cut [4] (fun s4 wx => s4 = .int .i64 0 ∧ ∃ (a7 : Option Addr) (c7 : Nat), Hid (BdR wx B g n (bs ++ ep) tx ls (.slice a7 nbe c7) (.slice at5 ntx ct5) (.slice al nl cl)) ∧ Hid (Upd M w1 wx) ∧ Hid (∀ i, BdM g (.slice a7 nbe c7) (.slice at5 ntx ct5) (.slice al nl cl) i → M i ∨ w1.heap.size ≤ i))
    case first =>
      go_region_law (first
        | (refine step_app rfl (.tmp 53) (.tmp 56) 23 rfl B 5 i0 Tryz.underlying23 hi0 hz0 hz1 hz2 (.slice ab nb cb) bs (by simp [Act.eval]) R6.out.ob a6 nep c6 ep (by simp [Act.eval]) hnep.out HN6.out HR6.out hb5.out HB6.out ?_; intro v7 w7 hv7 hg7 hk7; have R7 := hide (R6.out.body hv7 hg7 hk7); obtain ⟨a7, c7, rfl, _⟩ := owns_openN hv7 hnbe.out; have hu7 : Upd (fun i => (Value.slice ab nb cb).ownBlock = some i) w6 w7 := Upd.of_grown hg7 (fun k hk _ => hk); have k1 := hu7.cell j1 (fun e => (R6.out.db g e).1 rfl); have k2 : w7.frozen? ⟨g, 1, none⟩ = false := frozen_blk (hu7.heap R6.out.blk (fun e => (R6.out.db g e).1 rfl)) 1; have k3 := hu7.cell j2 NBX.out; have k4 := hu7.cell j3 NBX.out; clear hv7 hg7 hk7 hu7)
        | (go_simp; go_at_call 92; refine HBY.out.mono ?_; rintro r w6 ⟨a6, c6, rfl, hr6, hn6, hb6⟩; have R6 := hide (R5.out.upd (Upd.of_below hb6 Noth) (fun _ _ e => e)); have HR6 := hide hr6; have HN6 := hide hn6; have j1 := R6.out.cells.2.1; have j2 := (hb6.cell (p := ⟨W.heap.size, 0, none⟩) hz5).trans z0; have j3 := (hb6.cell (p := ⟨W.heap.size, 1, none⟩) hz5).trans z1; have HB6 := hide (Nat.le_trans h5B hb6.size); have V6 := hide hb6; clear hr6 hn6 hb6))
      all_goals (try go_wp2_with fail)
      all_goals
        have GU := hide (grow_upd (U5.out.trans (Upd.of_below V6.out M)) FP5.out R7.out.2.1 R7.out.2.2)
        go_meet
        exact ⟨rfl, a7, c7, R7.out.1, GU.out.1, GU.out.2⟩
    case rest =>
    obtain ⟨rfl, a7, c7, R8, HU8, HF8⟩ := hcut
    have GU := hide (And.intro HU8.out HF8.out)
    clear HBY R5 HU8 HF8 g1
    have e0 := GU.out.1.cell BX0.out hgx.out
    have O8 := hide (O1.out.upd GU.out.1 HK.out HV.out)
    have HCL := hide (bclone_any e.ka lk e.kc e.ks wc hlk (by omega) (hlk ▸ O8.out.nk) O8.out.k)
    go_wp2_with fail
    refine HCL.out.mono ?_
    rintro r w9 ⟨v9, rfl, ho9, hb9⟩
    have R9 := hide (R8.out.lastly ho9 hb9)
    obtain ⟨a9, c9, rfl, _⟩ := ho9.sliceN hlk
    have GU9 := hide (grow_upd GU.out.1 GU.out.2 R9.out.2.1 R9.out.2.2)
    rw [show ((n + 1 : Nat) : Int) = (n : Int) + 1 by omega] at R9 GU9
    have hq := (R8.out.upd (Upd.of_below hb9 Noth) (fun _ _ e => e)).cells
    have q0 := hq.1
    have q3 := hq.2.2.2.1
    have t0 := hq.2.2.2.2 0
    have t3 := hq.2.2.2.2 3
    clear hq ho9 hb9 HCL O8 e0
    have HFIN : Hid (AddYes W B g (n + 1) (bs ++ encP px e.ks e.vs) tx e.ks M (.returned (.int .i64 0)) ((w9.setCell ⟨g, 3, none⟩ (.slice a9 lk c9)).setCell ⟨g, 0, none⟩ (.int .i64 ((n : Int) + 1)))) := by
      rw [← HEP.out]
      exact ⟨rfl, _, _, _, R9.out.1, (Upd.of_below B1.out M).trans GU9.out.1, fun i hi => (GU9.out.2 i hi).imp id (fun h => by have := B1.out.size; omega)⟩
    clear R9 GU9
    go_wp2_with fail
    go_ret
    exact HFIN.out


end Go.Proofs.YtepjblmjjegpgaaGreat
