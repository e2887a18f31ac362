/- An Out: Push, Flush, Left. -/
import Derived.Test.YteindoemdonagaaG19
namespace Go.Proofs.Yteindoemdonagaa
open Go.RowKit

set_option maxRecDepth 100000 in
set_option maxHeartbeats 1600000 in
theorem push_any {τ : Type} {wf : τ → List Int → Int × Int × τ} {cnt sz : τ → Nat} {f : FuncId} {recv : Value} {B : Nat} {Wd : World → τ → (Nat → Prop) → Prop} {ty : TypeId} {pv : Value} (L : Leads "Write" ty pv f recv) (T : Writer wf cnt sz f recv B Wd)
    (W : World) (g : Nat) (x : OutS τ) (F : Nat → Prop) (C Z : Nat) (hI : IsOut Wd B g (.iface ty pv) W x F) (hok : OutOk cnt sz C Z x) (hC : C ≤ 4611686018427387000) (hZ : Z ≤ 140737488355328) (hB : B ≤ W.heap.size) :
    Calls Try.prog 21 #[.pointer (some ⟨g, 0, none⟩)] W fun e W' => OutPost Wd B g (.iface ty pv) (.tuple #[.int .i64 ((pushP wf x).1 : Nat), .int .i64 (pushP wf x).2.1]) (pushP wf x).2.2 F W e W' := by
  have HSAME : Hid (∀ n, (x.err ≠ 0 ∨ x.b = []) → OutPost Wd B g (.iface ty pv) (.tuple #[.int .i64 ((pushP wf x).1 : Nat), .int .i64 (pushP wf x).2.1]) (pushP wf x).2.2 F W (.returned (.tuple #[.int .i64 0, .int .i64 x.err])) (W.drewN n)) := hide fun n h => by
    have hp : pushP wf x = (0, x.err, x) := by unfold pushP; rw [if_pos h]
    rw [hp]
    exact ⟨F, rfl, hI.still T n, (((Still.refl W).drewN n).upd Noth).noth, fun _ h => .inl h⟩
  obtain ⟨wv, off, M, hi, hrd, ho, hMg, hBg, hd, hF⟩ := hI
  have c0 := (OutC.c hi).1
  have c2 := (OutC.c hi).2.2.1
  have c3 := (OutC.c hi).2.2.2.1
  have c4 := (OutC.c hi).2.2.2.2.1
  have hgl : g < W.heap.size := lt_of_block hi
  obtain ⟨xl, hxl⟩ : ∃ xl, x.b.length = xl := ⟨_, rfl⟩
  obtain ⟨aw, cw, rfl, hrow, hnw, hcw, haw⟩ := ho.slice hxl
  by_cases he : x.err = 0
  · by_cases hb : x.b = []
    · have HF := hide (fun n => HSAME.out n (.inr hb))
      obtain rfl : xl = 0 := by rw [← hxl, hb]; rfl
      rw [he] at c2 HF
      clear hi hrd ho hd hF hrow hnw haw HSAME T L hok he hb hxl
      go_enter Try.func21, Try.ntmps21
      go_wp2_with fail
      go_quiet (fail)
      go_wp2_with fail
      go_ret2
      exact HF.out _
    · have hxp : 0 < xl := by rw [← hxl]; exact List.length_pos_iff.2 hb
      obtain ⟨b0, o0, haw0, _⟩ := hrow.cons (by omega)
      subst haw0
      obtain rfl : o0 = off := (haw _ rfl).1
      obtain ⟨k, hk⟩ : ∃ k, k = min xl 4096 := ⟨_, rfl⟩
      have hkl : (x.b.take 4096).length = k := by rw [List.length_take, hxl, hk]; omega
      have hk1 : 1 ≤ k := by omega
      have hrow1 : Row W .u8 (some ⟨b0, o0, none⟩) (x.b.take 4096) := hrow.take 4096
      have HCL : Hid (∀ n, Calls Try.prog 22 #[.slice (some ⟨b0, o0, none⟩) k cw] (W.drewN n) fun e w' => ∃ v, e = .returned v ∧ OwnB w' (W.drewN n).heap.size 5 v (x.b.take 4096) ∧ Below (W.drewN n).heap.size (W.drewN n) w') := hide fun n => bclone_some ⟨b0, o0, none⟩ k cw (x.b.take 4096) (W.drewN n) hkl (by omega) (hrow1.upd (((Still.refl W).drewN n).upd Noth) (fun _ _ _ e => e))
      have hi16 := hok.i16 he
      have hpot := hok.pot he
      have hsz := hok.size he
      have hall := hok.all
      rw [hxl] at hpot hsz hall
      have HPS := hide (push_step (wf := wf) he hb _ rfl)
      rw [hkl] at HPS


      have HWR : Hid (∀ (n : Nat) (w1 : World) (v : Value), OwnB w1 W.heap.size 5 v (x.b.take 4096) → Below W.heap.size W w1 → ∃ fb fc, v = .slice (some ⟨fb, 0, none⟩) k fc ∧ OutC w1 g x.at' x.i x.err (.iface ty pv) (.slice (some ⟨b0, o0, none⟩) xl cw) ∧
          Calls Try.prog f #[recv, .slice (some ⟨fb, 0, none⟩) k fc] w1 fun e w2 => ∃ M', e = .returned (.tuple #[.int .i64 (wf x.t (x.b.take 4096)).1, .int .i64 (wf x.t (x.b.take 4096)).2.1]) ∧ Wd w2 (wf x.t (x.b.take 4096)).2.2 M' ∧ Upd M W w2 ∧ (∀ j, M' j → M j ∨ W.heap.size ≤ j) ∧ OutC w2 g x.at' x.i x.err (.iface ty pv) (.slice (some ⟨b0, o0, none⟩) xl cw) ∧ OwnW w2 B 5 o0 (.slice (some ⟨b0, o0, none⟩) xl cw) x.b ∧ ¬ M' g ∧ ¬ M' b0) := hide fun n w1 v hv hb1 => by
        have hu1 : Upd Noth W w1 := Upd.of_below hb1 Noth
        obtain ⟨fa, fc, rfl, hfn, hfc, hfl⟩ := hv.sliceN hkl
        obtain ⟨fb, fo, rfl, _⟩ := hv.row.cons (by rw [hkl]; omega)
        have hf0 : fo = 0 := by
          rcases hv with ⟨h1, _⟩ | ⟨g', cap', cur', h1, _⟩
          · cases h1
          · cases h1; rfl
        subst hf0
        have hfb := hfl fb rfl
        have hlt := T.lt hrd
        refine ⟨fb, fc, rfl, hi.upd hu1 (fun e => e), ?_⟩
        refine (T.write w1 x.t M fb 0 k fc (x.b.take 4096) (T.upd hrd hu1 (fun _ e => e.elim)) (by omega) hkl (by omega) hfc hv.row (fun e => by have := (hlt _ e).2; omega) (by omega) (Nat.le_trans hB hb1.size)).mono ?_
        rintro e w2 ⟨M', rfl, hw2, hu2, hm2⟩
        have hz1 := hb1.size
        exact ⟨M', rfl, hw2, hu1.noth.trans hu2, fun j hj => (hm2 j hj).imp id (fun h => by omega), (hi.upd hu1 (fun e => e)).upd hu2 hMg, (ho.upd hu1 (fun _ _ e => e)).upd hu2 (fun j hj => (hd j hj).1), fun e => (hm2 g e).elim hMg (fun h => by omega), fun e => (hm2 b0 e).elim (hd b0 rfl).1 (fun h => by have := (ho.lt b0 rfl).2; omega)⟩
      have HD := hide hd
      have HFF := hide hF
      have hme := L.method
      have hen := L.enter
      have HT := hide T
      have hxl0 : ¬ (xl : Int) = 0 := by omega
      have hkc : (k : Int) ≤ (cw : Int) := by omega
      have hk0 : (0 : Int) ≤ (k : Int) := by omega
      have hb0l := ho.lt b0 rfl
      have hb0g : b0 ≠ g := (hd b0 rfl).2
      have hb0M : ¬ M b0 := (hd b0 rfl).1
      rw [he] at c2
      have HE := hide he
      replace hxl := hide hxl
      replace hk := hide hk
      replace hkl := hide hkl
      clear hi hrd ho hd hF hrow hrow1 hnw haw HSAME T L hok he hb
      rcases Nat.lt_or_ge 4096 xl with hcase | hcase
      · obtain rfl : k = 4096 := by have := hk.out; omega
        have hcasei : (4096 : Int) < (xl : Int) := by omega
        have hkc' : (4096 : Int) ≤ (cw : Int) := by omega
        clear hkc hk0 hk
        go_enter Try.func21, Try.ntmps21
        go_wp2_with fail
        go_region_held3 (fun w => w.cell? ⟨g, 4, none⟩ = some (.slice (some ⟨b0, o0, none⟩) xl cw)) (go_keep) (first
          | (go_at_call 22; refine (HCL.out _).mono ?_; rintro e w1 ⟨v1, rfl, ho1, hb1⟩; have hb1' : Below W.heap.size W w1 := ((((Still.refl W).drewN _).upd Noth).trans (Upd.of_below hb1 Noth)).toBelow; have ho1' : OwnB w1 W.heap.size 5 v1 (x.b.take 4096) := ho1.mono (Nat.le_of_eq (by simp)); obtain ⟨fb, fc, rfl, hi1, HW1⟩ := HWR.out 0 w1 v1 ho1' hb1'; have d4 := (OutC.c hi1).2.2.2.2.1; have d3 := (OutC.c hi1).2.2.2.1; replace hi1 := hide hi1; replace HW1 := hide HW1; clear ho1 hb1 ho1' hb1')
          | fail)
        all_goals (
          clear HWR HCL
          go_wp2_with fail
          refine HW1.out.mono ?_
          rintro e w2 ⟨M', rfl, hw2, hu2, hm2, hi2, ho2, hMg2, hMb2⟩
          have e0 := (OutC.c hi2).1
          have e2 := (OutC.c hi2).2.2.1
          have e4 := (OutC.c hi2).2.2.2.2.1
          have g0 := (OutC.c hi2).2.2.2.2.2 0
          have g2 := (OutC.c hi2).2.2.2.2.2 2
          have g4 := (OutC.c hi2).2.2.2.2.2 4
          replace hw2 := hide hw2
          replace hu2 := hide hu2
          replace hm2 := hide hm2
          replace ho2 := hide ho2
          replace hi2 := hide hi2
          clear HW1 hi1 d3 d4
          generalize wf x.t (x.b.take 4096) = q at *
          obtain ⟨n, er, t'⟩ := q
          simp only at HPS hw2
          by_cases hbad : n < 0 ∨ ((4096 : Nat) : Int) < n
          · rw [if_pos hbad] at HPS
            have HEN := hide (end_any g 34 (.int .i64 x.err) w2 e2 g2)
            have HF : Hid (OutPost Wd B g (.iface ty pv) (.tuple #[.int .i64 ((pushP wf x).1 : Nat), .int .i64 (pushP wf x).2.1]) (pushP wf x).2.2 F W (.returned (.tuple #[.int .i64 0, .int .i64 34])) (w2.setCell ⟨g, 2, none⟩ (.int .i64 34))) := by
              rw [HPS.out]
              have hu : Upd (fun j => j = g) w2 (w2.setCell ⟨g, 2, none⟩ (.int .i64 34)) := (Upd.refl _ _).set1 2 _
              refine ⟨fun j => M' j ∨ j = g ∨ j = b0, rfl, ⟨_, o0, M', block_setCell hi2.out 2 _, HT.out.upd hw2.out hu (fun j e => by subst e; exact ⟨hBg, hMg2⟩), ho2.out.upd hu (fun j hj e => by cases hj; exact hb0g e), hMg2, hBg, (fun j hj => by cases hj; exact ⟨hMb2, hb0g⟩), fun j => ⟨fun h => h.imp id (fun h => h.imp id (fun h => by rw [h]; rfl)), fun h => h.imp id (fun h => h.imp id (fun h => by cases h; rfl))⟩⟩, (hu2.out.mono (fun j _ h => (HFF.out j).2 (.inl h))).then hu (fun j _ e => (HFF.out j).2 (.inr (.inl e))), ?_⟩
              rintro j (h | h | h)
              · exact (hm2.out j h).imp (fun h => (HFF.out j).2 (.inl h)) id
              · exact .inl ((HFF.out j).2 (.inr (.inl h)))
              · exact .inl ((HFF.out j).2 (.inr (.inr (by rw [h]; rfl))))
            rcases hbad with hneg | hbig
            · go_wp2_with (first
                | (go_at_call 24; refine HEN.out.mono ?_; rintro e w3 ⟨rfl, rfl⟩)
                | fail)
              go_ret2
              exact HF.out
            · have hneg : ¬ n < 0 := by omega
              go_wp2_with (first
                | (go_at_call 24; refine HEN.out.mono ?_; rintro e w3 ⟨rfl, rfl⟩)
                | fail)
              go_ret2
              exact HF.out
          · rw [if_neg hbad] at HPS
            obtain ⟨y, rfl⟩ : ∃ y : Nat, n = y := ⟨n.toNat, by omega⟩
            rw [Int.toNat_natCast] at HPS
            have hyk : y ≤ 4096 := by omega
            have m1 : ¬ (y : Int) < 0 := by omega
            have m2 : ¬ ((4096 : Nat) : Int) < (y : Int) := by omega
            have m3 : (0 : Int) ≤ (y : Int) := by omega
            have m4 : (y : Int) ≤ (xl : Int) := by omega
            have m5 : (xl : Int) ≤ (cw : Int) := by omega
            have m6 : (y : Int) ≤ (cw : Int) := by omega
            have hatb : x.at' + y ≤ 9223372036854775807 := by omega
            have HFIN : Hid (∀ (av : Addr) (cv oo : Nat) (w3 w4 : World), OwnW w2 B 5 oo (.slice (some av) (xl - y) cv) (x.b.drop y) → av.block = b0 → w3 = (w2.setCell ⟨g, 4, none⟩ (.slice (some av) (xl - y) cv)).setCell ⟨g, 0, none⟩ (.int .i64 ((x.at' : Int) + (y : Int))) → (∀ m, Calls Try.prog 33 #[.pointer (some ⟨g, 0, none⟩), .int .i64 (y : Int), .int .i64 er] (w3.drewN m) fun e w' => CalledPost g #[.int .i64 ((x.at' + y : Nat) : Int), .int .i64 (x.i : Int), .int .i64 x.err, .iface ty pv, .slice (some av) (xl - y) cv] 45 x.i y er (w3.drewN m) e w') ∧ (∀ m, CalledPost g #[.int .i64 ((x.at' + y : Nat) : Int), .int .i64 (x.i : Int), .int .i64 x.err, .iface ty pv, .slice (some av) (xl - y) cv] 45 x.i y er (w3.drewN m) (.returned (.int .i64 (toldOf (idleOf x.i y er) er))) w4 → w4.cell? ⟨g, 2, none⟩ = some (.int .i64 x.err) ∧ w4.frozen? ⟨g, 2, none⟩ = false ∧ OutPost Wd B g (.iface ty pv) (.tuple #[.int .i64 ((pushP wf x).1 : Nat), .int .i64 (pushP wf x).2.1]) (pushP wf x).2.2 F W (.returned (.tuple #[.int .i64 (y : Int), .int .i64 (toldOf (idleOf x.i y er) er)])) (w4.setCell ⟨g, 2, none⟩ (.int .i64 (toldOf (idleOf x.i y er) er))))) := hide fun av cv oo w3 w4 how hav hw3 => by
              have hu3 : Upd (fun j => j = g) w2 w3 := by rw [hw3]; exact ((Upd.refl _ _).set1 4 _).trans ((Upd.refl _ _).set1 0 _)
              have hi3 : W = W ∧ w3.heap[g]? = some (.cells #[.int .i64 ((x.at' + y : Nat) : Int), .int .i64 (x.i : Int), .int .i64 x.err, .iface ty pv, .slice (some av) (xl - y) cv] 45 (0, 0)) := ⟨rfl, by
                rw [hw3, show ((x.at' + y : Nat) : Int) = (x.at' : Int) + (y : Int) from by omega]
                exact block_setCell (block_setCell hi2.out 4 _) 0 _⟩
              refine ⟨fun m => called_any g _ 45 x.i y er (w3.drewN m) hi3.2 rfl (by omega), fun m hcp => ?_⟩
              obtain ⟨_, hb4, hu4⟩ := hcp
              have hu4' : Upd (fun j => j = g) w3 w4 := hu4.ofDrewN
              have hu5 : Upd (fun j => j = g) w4 (w4.setCell ⟨g, 2, none⟩ (.int .i64 (toldOf (idleOf x.i y er) er))) := (Upd.refl _ _).set1 2 _
              have huu : Upd (fun j => j = g) w2 (w4.setCell ⟨g, 2, none⟩ (.int .i64 (toldOf (idleOf x.i y er) er))) := (hu3.trans hu4').trans hu5
              refine ⟨blk_cell hb4 rfl, frozen_blk hb4 2, ?_⟩
              rw [HPS.out]
              refine ⟨fun j => M' j ∨ j = g ∨ j = b0, rfl, ⟨.slice (some av) (xl - y) cv, oo, M', block_setCell hb4 2 _, HT.out.upd hw2.out huu (fun j e => by subst e; exact ⟨hBg, hMg2⟩), how.upd huu (fun j hj e => by cases hj; exact hb0g (hav.symm.trans e)), hMg2, hBg, (fun j hj => by cases hj; rw [hav]; exact ⟨hMb2, hb0g⟩), fun j => ⟨fun h => h.imp id (fun h => h.imp id (fun h => by rw [h, ← hav]; rfl)), fun h => h.imp id (fun h => h.imp id (fun h => by cases h; exact hav))⟩⟩, (hu2.out.mono (fun j _ h => (HFF.out j).2 (.inl h))).then huu (fun j _ e => (HFF.out j).2 (.inr (.inl e))), ?_⟩
              rintro j (h | h | h)
              · exact (hm2.out j h).imp (fun h => (HFF.out j).2 (.inl h)) id
              · exact .inl ((HFF.out j).2 (.inr (.inl h)))
              · exact .inl ((HFF.out j).2 (.inr (.inr (by rw [h]; rfl))))
            have hyb : y ≤ x.b.length := by rw [hxl.out]; omega
            by_cases hyc : y = cw
            · exact absurd hyc (by omega)
            · have HD0 : Hid (OwnW w2 B 5 (o0 + y) (.slice (some ⟨b0, o0 + y, none⟩) (xl - y) (cw - y)) (x.b.drop y)) := hide (ho2.out.drop y hyb)
              have HF2 := hide (fun w3 w4 => HFIN.out ⟨b0, o0 + y, none⟩ (cw - y) (o0 + y) w3 w4 HD0.out rfl)
              have hyc' : ¬ cw = y := fun e => hyc e.symm
              clear HFIN hbad HD0 hw2 hu2 hm2 ho2
              go_wp2_with fail
              go_region_held3 (fun _ => True) (trivial) (first
                | (go_at_call 33; refine ((HF2.out _ w2 (by first | rfl | simp)).1 _).mono ?_; rintro e w4 hcp; obtain ⟨rfl, hcp2⟩ := (show _ ∧ _ from hcp); have hx4 := (HF2.out _ w4 (by first | rfl | simp)).2 _ ⟨rfl, hcp2⟩; have k2 := hx4.1; have k2f := hx4.2.1; have HO4 := hide hx4.2.2; have HEN := hide (end_any g (toldOf (idleOf x.i y er) er) (.int .i64 x.err) w4 k2 k2f); clear hcp hcp2 hx4)
                | (go_at_call 24; refine HEN.out.mono ?_; rintro e w5 ⟨rfl, rfl⟩)
                | fail)
              all_goals go_wp2_with fail
              all_goals go_ret2
              all_goals exact HO4.out)
      · obtain rfl : k = xl := by have := hk.out; omega
        have hcasei : ¬ (4096 : Int) < (k : Int) := by omega
        have hif : (if (4096 : Int) < (k : Int) then (4096 : Int) else (k : Int)) = (k : Int) := if_neg hcasei
        have HXX := hxl
        clear hk
        go_enter Try.func21, Try.ntmps21
        go_wp2_with fail
        go_region_held3 (fun w => w.cell? ⟨g, 4, none⟩ = some (.slice (some ⟨b0, o0, none⟩) k cw)) (go_keep) (first
          | (go_at_call 22; refine (HCL.out _).mono ?_; rintro e w1 ⟨v1, rfl, ho1, hb1⟩; have hb1' : Below W.heap.size W w1 := ((((Still.refl W).drewN _).upd Noth).trans (Upd.of_below hb1 Noth)).toBelow; have ho1' : OwnB w1 W.heap.size 5 v1 (x.b.take 4096) := ho1.mono (Nat.le_of_eq (by simp)); obtain ⟨fb, fc, rfl, hi1, HW1⟩ := HWR.out 0 w1 v1 ho1' hb1'; have d4 := (OutC.c hi1).2.2.2.2.1; have d3 := (OutC.c hi1).2.2.2.1; replace hi1 := hide hi1; replace HW1 := hide HW1; clear ho1 hb1 ho1' hb1')
          | fail)
        all_goals (
          clear HWR HCL
          go_wp2_with fail
          refine HW1.out.mono ?_
          rintro e w2 ⟨M', rfl, hw2, hu2, hm2, hi2, ho2, hMg2, hMb2⟩
          have e0 := (OutC.c hi2).1
          have e2 := (OutC.c hi2).2.2.1
          have e4 := (OutC.c hi2).2.2.2.2.1
          have g0 := (OutC.c hi2).2.2.2.2.2 0
          have g2 := (OutC.c hi2).2.2.2.2.2 2
          have g4 := (OutC.c hi2).2.2.2.2.2 4
          replace hw2 := hide hw2
          replace hu2 := hide hu2
          replace hm2 := hide hm2
          replace ho2 := hide ho2
          replace hi2 := hide hi2
          clear HW1 hi1 d3 d4
          generalize wf x.t (x.b.take 4096) = q at *
          obtain ⟨n, er, t'⟩ := q
          simp only at HPS hw2
          by_cases hbad : n < 0 ∨ ((k : Nat) : Int) < n
          · rw [if_pos hbad] at HPS
            have HEN := hide (end_any g 34 (.int .i64 x.err) w2 e2 g2)
            have HF : Hid (OutPost Wd B g (.iface ty pv) (.tuple #[.int .i64 ((pushP wf x).1 : Nat), .int .i64 (pushP wf x).2.1]) (pushP wf x).2.2 F W (.returned (.tuple #[.int .i64 0, .int .i64 34])) (w2.setCell ⟨g, 2, none⟩ (.int .i64 34))) := by
              rw [HPS.out]
              have hu : Upd (fun j => j = g) w2 (w2.setCell ⟨g, 2, none⟩ (.int .i64 34)) := (Upd.refl _ _).set1 2 _
              refine ⟨fun j => M' j ∨ j = g ∨ j = b0, rfl, ⟨_, o0, M', block_setCell hi2.out 2 _, HT.out.upd hw2.out hu (fun j e => by subst e; exact ⟨hBg, hMg2⟩), ho2.out.upd hu (fun j hj e => by cases hj; exact hb0g e), hMg2, hBg, (fun j hj => by cases hj; exact ⟨hMb2, hb0g⟩), fun j => ⟨fun h => h.imp id (fun h => h.imp id (fun h => by rw [h]; rfl)), fun h => h.imp id (fun h => h.imp id (fun h => by cases h; rfl))⟩⟩, (hu2.out.mono (fun j _ h => (HFF.out j).2 (.inl h))).then hu (fun j _ e => (HFF.out j).2 (.inr (.inl e))), ?_⟩
              rintro j (h | h | h)
              · exact (hm2.out j h).imp (fun h => (HFF.out j).2 (.inl h)) id
              · exact .inl ((HFF.out j).2 (.inr (.inl h)))
              · exact .inl ((HFF.out j).2 (.inr (.inr (by rw [h]; rfl))))
            rcases hbad with hneg | hbig
            · go_wp2_with (first
                | (go_at_call 24; refine HEN.out.mono ?_; rintro e w3 ⟨rfl, rfl⟩)
                | fail)
              go_ret2
              exact HF.out
            · have hneg : ¬ n < 0 := by omega
              go_wp2_with (first
                | (go_at_call 24; refine HEN.out.mono ?_; rintro e w3 ⟨rfl, rfl⟩)
                | fail)
              go_ret2
              exact HF.out
          · rw [if_neg hbad] at HPS
            obtain ⟨y, rfl⟩ : ∃ y : Nat, n = y := ⟨n.toNat, by omega⟩
            rw [Int.toNat_natCast] at HPS
            have hyk : y ≤ k := by omega
            have m1 : ¬ (y : Int) < 0 := by omega
            have m2 : ¬ ((k : Nat) : Int) < (y : Int) := by omega
            have m3 : (0 : Int) ≤ (y : Int) := by omega
            have m4 : (y : Int) ≤ (k : Int) := by omega
            have m5 : (k : Int) ≤ (cw : Int) := by omega
            have m6 : (y : Int) ≤ (cw : Int) := by omega
            have hatb : x.at' + y ≤ 9223372036854775807 := by omega
            have HFIN : Hid (∀ (av : Addr) (cv oo : Nat) (w3 w4 : World), OwnW w2 B 5 oo (.slice (some av) (k - y) cv) (x.b.drop y) → av.block = b0 → w3 = (w2.setCell ⟨g, 4, none⟩ (.slice (some av) (k - y) cv)).setCell ⟨g, 0, none⟩ (.int .i64 ((x.at' : Int) + (y : Int))) → (∀ m, Calls Try.prog 33 #[.pointer (some ⟨g, 0, none⟩), .int .i64 (y : Int), .int .i64 er] (w3.drewN m) fun e w' => CalledPost g #[.int .i64 ((x.at' + y : Nat) : Int), .int .i64 (x.i : Int), .int .i64 x.err, .iface ty pv, .slice (some av) (k - y) cv] 45 x.i y er (w3.drewN m) e w') ∧ (∀ m, CalledPost g #[.int .i64 ((x.at' + y : Nat) : Int), .int .i64 (x.i : Int), .int .i64 x.err, .iface ty pv, .slice (some av) (k - y) cv] 45 x.i y er (w3.drewN m) (.returned (.int .i64 (toldOf (idleOf x.i y er) er))) w4 → w4.cell? ⟨g, 2, none⟩ = some (.int .i64 x.err) ∧ w4.frozen? ⟨g, 2, none⟩ = false ∧ OutPost Wd B g (.iface ty pv) (.tuple #[.int .i64 ((pushP wf x).1 : Nat), .int .i64 (pushP wf x).2.1]) (pushP wf x).2.2 F W (.returned (.tuple #[.int .i64 (y : Int), .int .i64 (toldOf (idleOf x.i y er) er)])) (w4.setCell ⟨g, 2, none⟩ (.int .i64 (toldOf (idleOf x.i y er) er))))) := hide fun av cv oo w3 w4 how hav hw3 => by
              have hu3 : Upd (fun j => j = g) w2 w3 := by rw [hw3]; exact ((Upd.refl _ _).set1 4 _).trans ((Upd.refl _ _).set1 0 _)
              have hi3 : W = W ∧ w3.heap[g]? = some (.cells #[.int .i64 ((x.at' + y : Nat) : Int), .int .i64 (x.i : Int), .int .i64 x.err, .iface ty pv, .slice (some av) (k - y) cv] 45 (0, 0)) := ⟨rfl, by
                rw [hw3, show ((x.at' + y : Nat) : Int) = (x.at' : Int) + (y : Int) from by omega]
                exact block_setCell (block_setCell hi2.out 4 _) 0 _⟩
              refine ⟨fun m => called_any g _ 45 x.i y er (w3.drewN m) hi3.2 rfl (by omega), fun m hcp => ?_⟩
              obtain ⟨_, hb4, hu4⟩ := hcp
              have hu4' : Upd (fun j => j = g) w3 w4 := hu4.ofDrewN
              have hu5 : Upd (fun j => j = g) w4 (w4.setCell ⟨g, 2, none⟩ (.int .i64 (toldOf (idleOf x.i y er) er))) := (Upd.refl _ _).set1 2 _
              have huu : Upd (fun j => j = g) w2 (w4.setCell ⟨g, 2, none⟩ (.int .i64 (toldOf (idleOf x.i y er) er))) := (hu3.trans hu4').trans hu5
              refine ⟨blk_cell hb4 rfl, frozen_blk hb4 2, ?_⟩
              rw [HPS.out]
              refine ⟨fun j => M' j ∨ j = g ∨ j = b0, rfl, ⟨.slice (some av) (k - y) cv, oo, M', block_setCell hb4 2 _, HT.out.upd hw2.out huu (fun j e => by subst e; exact ⟨hBg, hMg2⟩), how.upd huu (fun j hj e => by cases hj; exact hb0g (hav.symm.trans e)), hMg2, hBg, (fun j hj => by cases hj; rw [hav]; exact ⟨hMb2, hb0g⟩), fun j => ⟨fun h => h.imp id (fun h => h.imp id (fun h => by rw [h, ← hav]; rfl)), fun h => h.imp id (fun h => h.imp id (fun h => by cases h; exact hav))⟩⟩, (hu2.out.mono (fun j _ h => (HFF.out j).2 (.inl h))).then huu (fun j _ e => (HFF.out j).2 (.inr (.inl e))), ?_⟩
              rintro j (h | h | h)
              · exact (hm2.out j h).imp (fun h => (HFF.out j).2 (.inl h)) id
              · exact .inl ((HFF.out j).2 (.inr (.inl h)))
              · exact .inl ((HFF.out j).2 (.inr (.inr (by rw [h]; rfl))))
            have hyb : y ≤ x.b.length := by rw [HXX.out]; omega
            by_cases hyc : y = cw
            · have hxy : k = y := by omega
              have h0 : k - y = 0 := by omega
              have HD0 : Hid (OwnW w2 B 5 o0 (.slice (some ⟨b0, o0, none⟩) (k - y) 0) (x.b.drop y)) := hide (by
                rw [h0, List.drop_eq_nil_of_le (by rw [HXX.out]; omega)]
                exact ho2.out.all)
              have HF2 := hide (fun w3 w4 => HFIN.out ⟨b0, o0, none⟩ 0 o0 w3 w4 HD0.out rfl)
              have hyc' : cw = y := hyc.symm
              rw [h0] at HF2
              subst hyc
              clear HFIN hbad HD0 hw2 hu2 hm2 ho2 h0
              go_wp2_with fail
              go_region_held3 (fun _ => True) (trivial) (first
                | (go_at_call 33; refine ((HF2.out _ w2 (by first | rfl | simp)).1 _).mono ?_; rintro e w4 hcp; obtain ⟨rfl, hcp2⟩ := (show _ ∧ _ from hcp); have hx4 := (HF2.out _ w4 (by first | rfl | simp)).2 _ ⟨rfl, hcp2⟩; have k2 := hx4.1; have k2f := hx4.2.1; have HO4 := hide hx4.2.2; have HEN := hide (end_any g (toldOf (idleOf x.i y er) er) (.int .i64 x.err) w4 k2 k2f); clear hcp hcp2 hx4)
                | (go_at_call 24; refine HEN.out.mono ?_; rintro e w5 ⟨rfl, rfl⟩)
                | fail)
              all_goals go_wp2_with fail
              all_goals go_ret2
              all_goals exact HO4.out
            · have HD0 : Hid (OwnW w2 B 5 (o0 + y) (.slice (some ⟨b0, o0 + y, none⟩) (k - y) (cw - y)) (x.b.drop y)) := hide (ho2.out.drop y hyb)
              have HF2 := hide (fun w3 w4 => HFIN.out ⟨b0, o0 + y, none⟩ (cw - y) (o0 + y) w3 w4 HD0.out rfl)
              have hyc' : ¬ cw = y := fun e => hyc e.symm
              clear HFIN hbad HD0 hw2 hu2 hm2 ho2
              go_wp2_with fail
              go_region_held3 (fun _ => True) (trivial) (first
                | (go_at_call 33; refine ((HF2.out _ w2 (by first | rfl | simp)).1 _).mono ?_; rintro e w4 hcp; obtain ⟨rfl, hcp2⟩ := (show _ ∧ _ from hcp); have hx4 := (HF2.out _ w4 (by first | rfl | simp)).2 _ ⟨rfl, hcp2⟩; have k2 := hx4.1; have k2f := hx4.2.1; have HO4 := hide hx4.2.2; have HEN := hide (end_any g (toldOf (idleOf x.i y er) er) (.int .i64 x.err) w4 k2 k2f); clear hcp hcp2 hx4)
                | (go_at_call 24; refine HEN.out.mono ?_; rintro e w5 ⟨rfl, rfl⟩)
                | fail)
              all_goals go_wp2_with fail
              all_goals go_ret2
              all_goals exact HO4.out)
  · have he' : (x.err != 0) = true := by simp [he]
    have HF := hide (fun n => HSAME.out n (.inl he))
    clear hi hrd ho hd hF hrow hnw haw HSAME T L hok
    go_enter Try.func21, Try.ntmps21
    go_wp2_with fail
    go_quiet (fail)
    go_wp2_with fail
    go_ret2
    exact HF.out _

end Go.Proofs.Yteindoemdonagaa
